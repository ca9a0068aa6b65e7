import Derived.Test.YtpmkjeihbddfpaaDrainedB8
import Derived.ProofKit
import Derived.SizedLaws
import Derived.Deep.Slices
import Derived.OpenShut
import Derived.ChangeOld
/- OUR OWN. The arguments of reclaimkeep's statements. -/
namespace Go.Proofs.Ytpmkjeihbddfpaa
open Go.ChangeShapes Go.WideShapes Go.ChangeAt Go.RowKit Go.Deep
set_option linter.unusedVariables false
set_option linter.unusedSimpArgs false

theorem own : ownKnob Try.prog.godebug = none := by kernel_rfl
theorem laidOut : laidOutB Try.prog = true := by kernel_rfl
theorem cellsConfig : Try.prog.cellsOf 23 = 6 := by kernel_rfl
theorem cellsInt : Try.prog.cellsOf 3 = 1 := by kernel_rfl
theorem fits_of {n : Int} (h : (Lit.int .i64 n).wf = true) : fits n := by
  have h1 : IntKind.i64.min = -9223372036854775808 := rfl
  have h2 : IntKind.i64.max = 9223372036854775807 := rfl
  simp only [Lit.wf, Bool.and_eq_true, decide_eq_true_eq] at h
  unfold fits
  omega

theorem list6 {α : Type} (l : List α) (h : l.length = 6) : ∃ a b c d e f, l = [a, b, c, d, e, f] := by
  rcases l with _ | ⟨a, l⟩; · simp at h
  rcases l with _ | ⟨b, l⟩; · simp at h
  rcases l with _ | ⟨c, l⟩; · simp at h
  rcases l with _ | ⟨d, l⟩; · simp at h
  rcases l with _ | ⟨e, l⟩; · simp at h
  rcases l with _ | ⟨f, l⟩; · simp at h
  rcases l with _ | ⟨m, l⟩
  · exact ⟨a, b, c, d, e, f, rfl⟩
  · simp at h
theorem list2 {α : Type} (l : List α) (h : l.length = 2) : ∃ a b, l = [a, b] := by
  rcases l with _ | ⟨a, l⟩; · simp at h
  rcases l with _ | ⟨b, l⟩; · simp at h
  rcases l with _ | ⟨m, l⟩
  · exact ⟨a, b, rfl⟩
  · simp at h
theorem cellsAct : Try.prog.cellsOf 42 = 2 := by kernel_rfl
theorem bytesAct : Try.prog.bytesOf 42 = 16 := by kernel_rfl
theorem bytesInt : Try.prog.bytesOf 3 = 8 := by kernel_rfl

section
variable {H : Type} {enc : TypeId × Value → H} {w : World} {base : Nat} {spare : Nat → Bool} {held : Bool}

/-- a configuration out of its six cells -/
theorem cfg_of {n : Nat} {cs : List Value} {x : DataW H × List MemPlace} (h : DataW.trod enc Try.prog w base spare held n 23 cs = some x) :
    ∃ b s g u z o : Int, fits b ∧ fits s ∧ fits g ∧ fits u ∧ fits z ∧ fits o ∧ cs = [.int .i64 b, .int .i64 s, .int .i64 g, .int .i64 u, .int .i64 z, .int .i64 o] := by
  obtain ⟨zs, j, _, _, hlen, hzl, hz⟩ := DataW.trod_struct Try.underlying23 h
  rw [cellsConfig] at hlen
  obtain ⟨v0, v1, v2, v3, v4, v5, rfl⟩ := list6 cs hlen
  have getz : ∀ i, i < 6 → ∃ y, zs[i]? = some y := fun i hi => ⟨_, List.getElem?_eq_getElem (by rw [hzl]; exact hi)⟩
  obtain ⟨z0, f0⟩ := getz 0 (by decide)
  obtain ⟨z1, f1⟩ := getz 1 (by decide)
  obtain ⟨z2, f2⟩ := getz 2 (by decide)
  obtain ⟨z3, f3⟩ := getz 3 (by decide)
  obtain ⟨z4, f4⟩ := getz 4 (by decide)
  obtain ⟨z5, f5⟩ := getz 5 (by decide)
  have k0 : DataW.trod enc Try.prog w base spare held j 3 (([v0, v1, v2, v3, v4, v5].drop 0).take (Try.prog.cellsOf 3)) = some z0 := (hz 0 _ rfl).trans f0
  rw [cellsInt] at k0
  have k1 : DataW.trod enc Try.prog w base spare held j 3 (([v0, v1, v2, v3, v4, v5].drop 1).take (Try.prog.cellsOf 3)) = some z1 := (hz 1 _ rfl).trans f1
  rw [cellsInt] at k1
  have k2 : DataW.trod enc Try.prog w base spare held j 3 (([v0, v1, v2, v3, v4, v5].drop 2).take (Try.prog.cellsOf 3)) = some z2 := (hz 2 _ rfl).trans f2
  rw [cellsInt] at k2
  have k3 : DataW.trod enc Try.prog w base spare held j 3 (([v0, v1, v2, v3, v4, v5].drop 3).take (Try.prog.cellsOf 3)) = some z3 := (hz 3 _ rfl).trans f3
  rw [cellsInt] at k3
  have k4 : DataW.trod enc Try.prog w base spare held j 3 (([v0, v1, v2, v3, v4, v5].drop 4).take (Try.prog.cellsOf 3)) = some z4 := (hz 4 _ rfl).trans f4
  rw [cellsInt] at k4
  have k5 : DataW.trod enc Try.prog w base spare held j 3 (([v0, v1, v2, v3, v4, v5].drop 5).take (Try.prog.cellsOf 3)) = some z5 := (hz 5 _ rfl).trans f5
  rw [cellsInt] at k5
  obtain ⟨n4, q4, _, w4⟩ := DataW.trod_int Try.underlying3 k0
  obtain ⟨n5, q5, _, w5⟩ := DataW.trod_int Try.underlying3 k1
  obtain ⟨n6, q6, _, w6⟩ := DataW.trod_int Try.underlying3 k2
  obtain ⟨n7, q7, _, w7⟩ := DataW.trod_int Try.underlying3 k3
  obtain ⟨n8, q8, _, w8⟩ := DataW.trod_int Try.underlying3 k4
  obtain ⟨n9, q9, _, w9⟩ := DataW.trod_int Try.underlying3 k5
  simp at q4 q5 q6 q7 q8 q9
  exact ⟨n4, n5, n6, n7, n8, n9, fits_of w4, fits_of w5, fits_of w6, fits_of w7, fits_of w8, fits_of w9, by simp [*]⟩
theorem act_of {n : Nat} {cs : List Value} {x : DataW H × List MemPlace} (h : DataW.trod enc Try.prog w base spare held n 42 cs = some x) : ∃ p : Int × Int, fits p.1 ∧ fits p.2 ∧ cs = [.int .i64 p.1, .int .i64 p.2] := by
  obtain ⟨zs, j, _, _, hlen, hzl, hz⟩ := DataW.trod_struct Try.underlying42 h
  rw [cellsAct] at hlen
  obtain ⟨v0, v1, rfl⟩ := list2 cs hlen
  have getz : ∀ i, i < 2 → ∃ y, zs[i]? = some y := fun i hi => ⟨_, List.getElem?_eq_getElem (by rw [hzl]; exact hi)⟩
  obtain ⟨z0, f0⟩ := getz 0 (by decide)
  obtain ⟨z1, f1⟩ := getz 1 (by decide)
  have k0 : DataW.trod enc Try.prog w base spare held j 3 (([v0, v1].drop 0).take (Try.prog.cellsOf 3)) = some z0 := (hz 0 _ rfl).trans f0
  rw [cellsInt] at k0
  have k1 : DataW.trod enc Try.prog w base spare held j 3 (([v0, v1].drop 1).take (Try.prog.cellsOf 3)) = some z1 := (hz 1 _ rfl).trans f1
  rw [cellsInt] at k1
  obtain ⟨n4, q4, _, w4⟩ := DataW.trod_int Try.underlying3 k0
  obtain ⟨n5, q5, _, w5⟩ := DataW.trod_int Try.underlying3 k1
  simp at q4 q5
  exact ⟨(n4, n5), fits_of w4, fits_of w5, by simp [*]⟩

theorem acts_of {fuel : Nat} {a0 : Option Addr} {len cap : Nat} {x : DataW H × List MemPlace} (h : DataW.trod enc Try.prog w base spare held fuel 40 [.slice a0 len cap] = some x) : ∃ st, ActsIn w a0 len st := by
  rcases open_slice Try.underlying40 h with ⟨hc, _⟩ | ⟨a, l, c, m, n, D, Pl, hc, _, hl, _, hm, _, hx⟩
  · simp at hc; exact ⟨fun _ => (0, 0), fun k hk => by omega⟩
  · simp at hc
    obtain ⟨rfl, rfl, rfl⟩ := hc
    rcases Nat.eq_zero_or_pos len with h0 | h0
    · exact ⟨fun _ => (0, 0), fun k hk => by omega⟩
    have hlm : len ≤ m := by rw [hm]; split <;> omega
    rw [cellsAct] at hx
    have each : ∀ i, i < len → ∃ p : Int × Int, fits p.1 ∧ fits p.2 ∧ ∀ j u, [Value.int .i64 p.1, .int .i64 p.2][j]? = some u → w.cell? ((a.add (i * 2)).add j) = some u := by
      intro i hi
      obtain ⟨cs', h1, h2⟩ := hx i (by omega)
      obtain ⟨p, e1, e2, rfl⟩ := act_of h2
      obtain ⟨_, _, h3⟩ := World.cells?_some h1
      refine ⟨p, e1, e2, fun j u hj => ?_⟩
      have hj' : j < 2 := by
        rcases Nat.lt_or_ge j 2 with h | h
        · exact h
        · rw [List.getElem?_eq_none (by simpa using h)] at hj; cases hj
      rw [h3 j hj', hj]
    have inh : Inhabited (Int × Int) := ⟨(0, 0)⟩
    obtain ⟨st, hst⟩ := choose_lt each
    obtain ⟨sb, off, spot⟩ := a
    have hspot : spot = none := by
      have := World.cell?_spot ((hst 0 h0).2.2 0 _ rfl)
      simpa [Addr.add] using this
    subst hspot
    have hadd : ∀ i j, (((⟨sb, off, none⟩ : Addr).add (i * 2)).add j) = ⟨sb, off + i * 2 + j, none⟩ := fun i j => by
      rw [add_add, Addr.add_lit]; simp
    refine ⟨st, fun k hk => ⟨sb, off, rfl, ?_, (hst k hk).1, (hst k hk).2.1, ?_, ?_⟩⟩
    · exact World.block_lt_of_cell? w _ ((hst 0 h0).2.2 0 _ rfl)
    · have := (hst k hk).2.2 0 _ rfl
      rw [hadd] at this; exact this
    · have := (hst k hk).2.2 1 _ rfl
      rw [hadd] at this; exact this
theorem ints_of {fuel : Nat} {a0 : Option Addr} {len cap : Nat} {x : DataW H × List MemPlace} (h : DataW.trod enc Try.prog w base spare held fuel 24 [.slice a0 len cap] = some x) : ∃ st, IntsIn w a0 len st := by
  rcases open_ints Try.underlying24 Try.underlying3 cellsInt h with ⟨hc, _⟩ | ⟨a, l, c, zs, hc, _, hl, _, hz, _, hx, hw⟩
  · simp at hc; exact ⟨fun _ => 0, fun k hk => by omega⟩
  · simp at hc
    obtain ⟨rfl, rfl, rfl⟩ := hc
    rcases Nat.eq_zero_or_pos len with h0 | h0
    · exact ⟨fun _ => 0, fun k hk => by omega⟩
    have hlm : len ≤ zs.length := by rw [hz]; split <;> omega
    obtain ⟨sb, off, spot⟩ := a
    have hspot : spot = none := by
      have := World.cell?_spot (hx 0 (by omega))
      simpa [Addr.add] using this
    subst hspot
    refine ⟨fun k => zs.getD k 0, fun k hk => ⟨sb, off, rfl, ?_, ?_, ?_⟩⟩
    · exact World.block_lt_of_cell? w _ (hx 0 (by omega))
    · refine fits_of (hw _ ?_)
      show zs.getD k 0 ∈ zs
      rw [List.getD_eq_getElem?_getD, List.getElem?_eq_getElem (by omega : k < zs.length)]
      exact List.getElem_mem _
    · have := hx k (by omega)
      rw [Addr.add_lit] at this; exact this
end

end Go.Proofs.Ytpmkjeihbddfpaa

/- OUR OWN. Drained: the statement, out of the program's contracts. -/
namespace Go.Proofs.Ytpmkjeihbddfpaa
open Go.ChangeShapes Go.WideShapes Go.ChangeAt Go.RowKit Go.Deep
set_option linter.unusedVariables false
set_option linter.unusedSimpArgs false

variable {HS : HeapM → St → Cf → Nat → Prop} {Room : St → Prop}

set_option maxRecDepth 100000 in
theorem drained_lifted (P : Pact3 HS Room) (os : Os) (started : os.Started) (H : Type) (enc : TypeId × Value → H) :
    ReturnsInHanded {} Try.checked os 3 .any (Rows.drainedSpec.pre6 enc Try.prog Try.f3 Rows.drainedRow.domain false) (Rows.drainedSpec.post enc Try.prog Try.f3 false true false false) := by
  refine returnsInHanded_of_change_sized (C := Try.checked) own started (by kernel_rfl) Try.func3
    (ChangeSpec.witness6 (enc := enc) (C := Try.checked) false ⟨#[], #[.agg #[.int .i64 0, .int .i64 0, .int .i64 0, .int .i64 0, .int .i64 0, .int .i64 0], .slice none 0 0], []⟩ 8 (by kernel_rfl) (by kernel_rfl) (by kernel_rfl) (by kernel_rfl)) ?_
  intro W base args ds gs before hval0 hW _ hsz0 _
  have hsz : (DataW.weightsEach Try.prog (Try.f3.params.toList ++ Rows.drainedSpec.plain.varTypes Try.prog) (ds ++ gs)).all (· ≤ reachBytes) = true := hsz0
  clear hsz0
  have hval : ∀ (j : Nat) t v, Try.f3.params[j]? = some t → args[j]? = some v → Value.okWide Try.prog W .any base t v := hval0
  have hW' := hW
  obtain ⟨p, q, hA0, hV, rfl, hfz, hnd⟩ := hW
  have hA : DataW.TrodAll enc Try.prog W 0 (fun _ => true) true Try.f3.params.toList args.toList ds p := hA0
  rw [Try.params3] at hA hval hsz
  obtain ⟨v0, vs0, d0, ds0, p0, q0, hargs, rfl, rfl, h0, r0⟩ := trodAll_cons hA
  obtain ⟨v1, vs1, d1, ds1, p1, q1, rfl, rfl, rfl, h1, r1⟩ := trodAll_cons r0
  obtain ⟨rfl, rfl, rfl⟩ := trodAll_nil r1
  obtain rfl : args = #[v0, v1] := by cases args; simp_all
  obtain ⟨rfl, rfl⟩ := trodVars_none hV
  obtain ⟨c0, rfl, hc0⟩ := okWide_struct Try.underlying23 (hval 0 23 v0 rfl rfl)
  obtain ⟨b0, len1, cap1, rfl⟩ := okWide_slice Try.underlying24 (hval 1 24 v1 rfl rfl)
  have k0 := h0
  have k1 := h1
  have lt0 : ∀ x ∈ p0, x.block < W.heap.size := by obtain ⟨m, hm⟩ := k0; exact DataW.trod_lt m _ _ _ hm
  have lt1 : ∀ x ∈ p1, x.block < W.heap.size := by obtain ⟨m, hm⟩ := k1; exact DataW.trod_lt m _ _ _ hm
  obtain ⟨u0, g0⟩ := h0
  obtain ⟨u1, g1⟩ := h1
  have g0' : DataW.trod enc Try.prog W 0 (fun _ => true) true u0 23 c0.toList = some (d0, p0) := by simpa [Value.cells] using g0
  have g1' : DataW.trod enc Try.prog W 0 (fun _ => true) true u1 24 [.slice b0 len1 cap1] = some (d1, p1) := by simpa [Value.cells] using g1
  obtain ⟨b, s, g, u, z, o, fb, fs, fg, fu, fz, fo, e0⟩ := cfg_of g0'
  have e0' : c0 = #[.int .i64 b, .int .i64 s, .int .i64 g, .int .i64 u, .int .i64 z, .int .i64 o] := by rw [← Array.toArray_toList (xs := c0), e0]
  subst e0'
  obtain ⟨ints, HP⟩ := ints_of g1'
  have hL1 : len1 ≤ 20000000000000 := by
    rcases open_slice Try.underlying24 g1' with ⟨hc, _⟩ | ⟨a, l, c, m, n, D, Pl, hc, _, _, _, _, hx, _⟩
    · simp at hc; rw [hc.2.1]; omega
    · simp at hc
      obtain ⟨rfl, rfl, rfl⟩ := hc
      simp only [Prod.mk.injEq] at hx
      have hd := hx.1
      subst hd
      have := sized_slice hsz (j := 1) (t := 24) (e := 3) rfl rfl Try.underlying24
      rw [bytesInt] at this
      simp only [List.length_map, List.length_range, reachBytes] at this
      omega
  clear hA0 hval0
  refine (drained_walk P b s g u z o fb fs fg fu fz fo b0 len1 cap1 hL1 W ints HP).mono fun e W' ⟨he, bel⟩ => ?_
  subst he
  exact ⟨_, rfl, _, _, _, [], _, [], hW', trodAll_mk1 (shut_bool Try.underlying4 _), (trodAll_cons_mk (Below.trod laidOut (by kernel_rfl) (of_decide_eq_true (by kernel_rfl)) k0 bel lt0) (trodAll_cons_mk (Below.trod laidOut (by kernel_rfl) (of_decide_eq_true (by kernel_rfl)) k1 bel lt1) trodAll_mk0)), rfl, bel.frame _, fun h => by cases h⟩

theorem drained_of (P : Pact3 HS Room) : Rows.DrainedSaid :=
  OpenClaim.holds_of_wide 3 Try.f3 rfl rfl rfl rfl rfl rfl rfl ⟨rfl, rfl, rfl, rfl, rfl⟩ rfl rfl rfl rfl rfl (by kernel_rfl) Try.func3 (by kernel_rfl)
    (of_decide_eq_true (by kernel_rfl)) (by unfold Func.isWrapper; rw [if_neg (of_decide_eq_false (by kernel_rfl))]; exact ⟨rfl, rfl⟩)
    (fun os started H enc _ => drained_lifted P os started H enc)

end Go.Proofs.Ytpmkjeihbddfpaa

/- OUR OWN. Drained: the statement. -/
namespace Go.Proofs.Ytpmkjeihbddfpaa
set_option linter.unusedVariables false
set_option linter.unusedSimpArgs false

/-- P9, P12: objects whose fields are references to older ones alone, none held by more than MaxCount fields: once no root has any, each safepoint frees as many as the budget says, or all the rest. -/
theorem drained_holds : Rows.DrainedSaid := drained_of (HS := HS) (Room := room3) ⟨fresh_hs, do_pact, gauge_pact, safe_pact, fun _ h => .inl h⟩

#print axioms drained_holds

end Go.Proofs.Ytpmkjeihbddfpaa

