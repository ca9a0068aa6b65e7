import Derived.Test.YtpmkjeihbddfpabDoorCoRFB8
import Derived.ProofKit
import Derived.SizedLaws
import Derived.Deep.Slices
import Derived.OpenShut
import Derived.ChangeOld
/- OUR OWN. The arguments of reclaimkeep's statements. -/
namespace Go.Proofs.YtpmkjeihbddfpabDoor
open Go.ChangeShapes Go.WideShapes Go.ChangeAt Go.RowKit Go.Deep
set_option linter.unusedVariables false
set_option linter.unusedSimpArgs false

theorem own : ownKnob Tryd.prog.godebug = none := by kernel_rfl
theorem laidOut : laidOutB Tryd.prog = true := by kernel_rfl
theorem cellsConfig : Tryd.prog.cellsOf 23 = 6 := by kernel_rfl
theorem cellsInt : Tryd.prog.cellsOf 3 = 1 := by kernel_rfl
theorem fits_of {n : Int} (h : (Lit.int .i64 n).wf = true) : fits n := by
  have h1 : IntKind.i64.min = -9223372036854775808 := rfl
  have h2 : IntKind.i64.max = 9223372036854775807 := rfl
  simp only [Lit.wf, Bool.and_eq_true, decide_eq_true_eq] at h
  unfold fits
  omega

theorem list6 {α : Type} (l : List α) (h : l.length = 6) : ∃ a b c d e f, l = [a, b, c, d, e, f] := by
  rcases l with _ | ⟨a, l⟩; · simp at h
  rcases l with _ | ⟨b, l⟩; · simp at h
  rcases l with _ | ⟨c, l⟩; · simp at h
  rcases l with _ | ⟨d, l⟩; · simp at h
  rcases l with _ | ⟨e, l⟩; · simp at h
  rcases l with _ | ⟨f, l⟩; · simp at h
  rcases l with _ | ⟨m, l⟩
  · exact ⟨a, b, c, d, e, f, rfl⟩
  · simp at h
theorem list2 {α : Type} (l : List α) (h : l.length = 2) : ∃ a b, l = [a, b] := by
  rcases l with _ | ⟨a, l⟩; · simp at h
  rcases l with _ | ⟨b, l⟩; · simp at h
  rcases l with _ | ⟨m, l⟩
  · exact ⟨a, b, rfl⟩
  · simp at h
theorem cellsAct : Tryd.prog.cellsOf 33 = 2 := by kernel_rfl
theorem bytesAct : Tryd.prog.bytesOf 33 = 16 := by kernel_rfl
theorem bytesInt : Tryd.prog.bytesOf 3 = 8 := by kernel_rfl

section
variable {H : Type} {enc : TypeId × Value → H} {w : World} {base : Nat} {spare : Nat → Bool} {held : Bool}

/-- a configuration out of its six cells -/
theorem cfg_of {n : Nat} {cs : List Value} {x : DataW H × List MemPlace} (h : DataW.trod enc Tryd.prog w base spare held n 23 cs = some x) :
    ∃ b s g u z o : Int, fits b ∧ fits s ∧ fits g ∧ fits u ∧ fits z ∧ fits o ∧ cs = [.int .i64 b, .int .i64 s, .int .i64 g, .int .i64 u, .int .i64 z, .int .i64 o] := by
  obtain ⟨zs, j, _, _, hlen, hzl, hz⟩ := DataW.trod_struct Tryd.underlying23 h
  rw [cellsConfig] at hlen
  obtain ⟨v0, v1, v2, v3, v4, v5, rfl⟩ := list6 cs hlen
  have getz : ∀ i, i < 6 → ∃ y, zs[i]? = some y := fun i hi => ⟨_, List.getElem?_eq_getElem (by rw [hzl]; exact hi)⟩
  obtain ⟨z0, f0⟩ := getz 0 (by decide)
  obtain ⟨z1, f1⟩ := getz 1 (by decide)
  obtain ⟨z2, f2⟩ := getz 2 (by decide)
  obtain ⟨z3, f3⟩ := getz 3 (by decide)
  obtain ⟨z4, f4⟩ := getz 4 (by decide)
  obtain ⟨z5, f5⟩ := getz 5 (by decide)
  have k0 : DataW.trod enc Tryd.prog w base spare held j 3 (([v0, v1, v2, v3, v4, v5].drop 0).take (Tryd.prog.cellsOf 3)) = some z0 := (hz 0 _ rfl).trans f0
  rw [cellsInt] at k0
  have k1 : DataW.trod enc Tryd.prog w base spare held j 3 (([v0, v1, v2, v3, v4, v5].drop 1).take (Tryd.prog.cellsOf 3)) = some z1 := (hz 1 _ rfl).trans f1
  rw [cellsInt] at k1
  have k2 : DataW.trod enc Tryd.prog w base spare held j 3 (([v0, v1, v2, v3, v4, v5].drop 2).take (Tryd.prog.cellsOf 3)) = some z2 := (hz 2 _ rfl).trans f2
  rw [cellsInt] at k2
  have k3 : DataW.trod enc Tryd.prog w base spare held j 3 (([v0, v1, v2, v3, v4, v5].drop 3).take (Tryd.prog.cellsOf 3)) = some z3 := (hz 3 _ rfl).trans f3
  rw [cellsInt] at k3
  have k4 : DataW.trod enc Tryd.prog w base spare held j 3 (([v0, v1, v2, v3, v4, v5].drop 4).take (Tryd.prog.cellsOf 3)) = some z4 := (hz 4 _ rfl).trans f4
  rw [cellsInt] at k4
  have k5 : DataW.trod enc Tryd.prog w base spare held j 3 (([v0, v1, v2, v3, v4, v5].drop 5).take (Tryd.prog.cellsOf 3)) = some z5 := (hz 5 _ rfl).trans f5
  rw [cellsInt] at k5
  obtain ⟨n4, q4, _, w4⟩ := DataW.trod_int Tryd.underlying3 k0
  obtain ⟨n5, q5, _, w5⟩ := DataW.trod_int Tryd.underlying3 k1
  obtain ⟨n6, q6, _, w6⟩ := DataW.trod_int Tryd.underlying3 k2
  obtain ⟨n7, q7, _, w7⟩ := DataW.trod_int Tryd.underlying3 k3
  obtain ⟨n8, q8, _, w8⟩ := DataW.trod_int Tryd.underlying3 k4
  obtain ⟨n9, q9, _, w9⟩ := DataW.trod_int Tryd.underlying3 k5
  simp at q4 q5 q6 q7 q8 q9
  exact ⟨n4, n5, n6, n7, n8, n9, fits_of w4, fits_of w5, fits_of w6, fits_of w7, fits_of w8, fits_of w9, by simp [*]⟩
theorem act_of {n : Nat} {cs : List Value} {x : DataW H × List MemPlace} (h : DataW.trod enc Tryd.prog w base spare held n 33 cs = some x) : ∃ p : Int × Int, fits p.1 ∧ fits p.2 ∧ cs = [.int .i64 p.1, .int .i64 p.2] := by
  obtain ⟨zs, j, _, _, hlen, hzl, hz⟩ := DataW.trod_struct Tryd.underlying33 h
  rw [cellsAct] at hlen
  obtain ⟨v0, v1, rfl⟩ := list2 cs hlen
  have getz : ∀ i, i < 2 → ∃ y, zs[i]? = some y := fun i hi => ⟨_, List.getElem?_eq_getElem (by rw [hzl]; exact hi)⟩
  obtain ⟨z0, f0⟩ := getz 0 (by decide)
  obtain ⟨z1, f1⟩ := getz 1 (by decide)
  have k0 : DataW.trod enc Tryd.prog w base spare held j 3 (([v0, v1].drop 0).take (Tryd.prog.cellsOf 3)) = some z0 := (hz 0 _ rfl).trans f0
  rw [cellsInt] at k0
  have k1 : DataW.trod enc Tryd.prog w base spare held j 3 (([v0, v1].drop 1).take (Tryd.prog.cellsOf 3)) = some z1 := (hz 1 _ rfl).trans f1
  rw [cellsInt] at k1
  obtain ⟨n4, q4, _, w4⟩ := DataW.trod_int Tryd.underlying3 k0
  obtain ⟨n5, q5, _, w5⟩ := DataW.trod_int Tryd.underlying3 k1
  simp at q4 q5
  exact ⟨(n4, n5), fits_of w4, fits_of w5, by simp [*]⟩

theorem acts_of {fuel : Nat} {a0 : Option Addr} {len cap : Nat} {x : DataW H × List MemPlace} (h : DataW.trod enc Tryd.prog w base spare held fuel 24 [.slice a0 len cap] = some x) : ∃ st, ActsIn w a0 len st := by
  rcases open_slice Tryd.underlying24 h with ⟨hc, _⟩ | ⟨a, l, c, m, n, D, Pl, hc, _, hl, _, hm, _, hx⟩
  · simp at hc; exact ⟨fun _ => (0, 0), fun k hk => by omega⟩
  · simp at hc
    obtain ⟨rfl, rfl, rfl⟩ := hc
    rcases Nat.eq_zero_or_pos len with h0 | h0
    · exact ⟨fun _ => (0, 0), fun k hk => by omega⟩
    have hlm : len ≤ m := by rw [hm]; split <;> omega
    rw [cellsAct] at hx
    have each : ∀ i, i < len → ∃ p : Int × Int, fits p.1 ∧ fits p.2 ∧ ∀ j u, [Value.int .i64 p.1, .int .i64 p.2][j]? = some u → w.cell? ((a.add (i * 2)).add j) = some u := by
      intro i hi
      obtain ⟨cs', h1, h2⟩ := hx i (by omega)
      obtain ⟨p, e1, e2, rfl⟩ := act_of h2
      obtain ⟨_, _, h3⟩ := World.cells?_some h1
      refine ⟨p, e1, e2, fun j u hj => ?_⟩
      have hj' : j < 2 := by
        rcases Nat.lt_or_ge j 2 with h | h
        · exact h
        · rw [List.getElem?_eq_none (by simpa using h)] at hj; cases hj
      rw [h3 j hj', hj]
    have inh : Inhabited (Int × Int) := ⟨(0, 0)⟩
    obtain ⟨st, hst⟩ := choose_lt each
    obtain ⟨sb, off, spot⟩ := a
    have hspot : spot = none := by
      have := World.cell?_spot ((hst 0 h0).2.2 0 _ rfl)
      simpa [Addr.add] using this
    subst hspot
    have hadd : ∀ i j, (((⟨sb, off, none⟩ : Addr).add (i * 2)).add j) = ⟨sb, off + i * 2 + j, none⟩ := fun i j => by
      rw [add_add, Addr.add_lit]; simp
    refine ⟨st, fun k hk => ⟨sb, off, rfl, ?_, (hst k hk).1, (hst k hk).2.1, ?_, ?_⟩⟩
    · exact World.block_lt_of_cell? w _ ((hst 0 h0).2.2 0 _ rfl)
    · have := (hst k hk).2.2 0 _ rfl
      rw [hadd] at this; exact this
    · have := (hst k hk).2.2 1 _ rfl
      rw [hadd] at this; exact this
theorem ints_of {fuel : Nat} {a0 : Option Addr} {len cap : Nat} {x : DataW H × List MemPlace} (h : DataW.trod enc Tryd.prog w base spare held fuel 51 [.slice a0 len cap] = some x) : ∃ st, IntsIn w a0 len st := by
  rcases open_ints Tryd.underlying51 Tryd.underlying3 cellsInt h with ⟨hc, _⟩ | ⟨a, l, c, zs, hc, _, hl, _, hz, _, hx, hw⟩
  · simp at hc; exact ⟨fun _ => 0, fun k hk => by omega⟩
  · simp at hc
    obtain ⟨rfl, rfl, rfl⟩ := hc
    rcases Nat.eq_zero_or_pos len with h0 | h0
    · exact ⟨fun _ => 0, fun k hk => by omega⟩
    have hlm : len ≤ zs.length := by rw [hz]; split <;> omega
    obtain ⟨sb, off, spot⟩ := a
    have hspot : spot = none := by
      have := World.cell?_spot (hx 0 (by omega))
      simpa [Addr.add] using this
    subst hspot
    refine ⟨fun k => zs.getD k 0, fun k hk => ⟨sb, off, rfl, ?_, ?_, ?_⟩⟩
    · exact World.block_lt_of_cell? w _ (hx 0 (by omega))
    · refine fits_of (hw _ ?_)
      show zs.getD k 0 ∈ zs
      rw [List.getD_eq_getElem?_getD, List.getElem?_eq_getElem (by omega : k < zs.length)]
      exact List.getElem_mem _
    · have := hx k (by omega)
      rw [Addr.add_lit] at this; exact this
end

end Go.Proofs.YtpmkjeihbddfpabDoor

/- OUR OWN. act. -/
namespace Go.Proofs.YtpmkjeihbddfpabDoor
open Go.RowKit
set_option linter.unusedVariables false
set_option linter.unusedSimpArgs false
variable {HS : HeapM → St → Cf → Nat → Prop}

/-- an act: the state behind it, its number, its error -/
def actS (c : Cf) (s : St) (op n : Int) : St × Int × Int := if op = -1 then ((s.safe c).1, (s.safe c).2, 0) else if op = -2 then (s.collect c.over, s.gone, 0) else doS c s op n

theorem KStep.pre {B : Nat} {w w1 w' : World} {x : Nat} {hm : HeapM} {s' : St} {c : Cf} {N : Nat} (r : HeapAt w x hm) (hb : Below w.heap.size w w1) (k : KStep HS B w1 x hm w' s' c N) (h : ∀ t, HTurn x w hm w' t → True) : ∃ hm', HTurn x w hm w' hm' ∧ KAt HS B w' x hm' s' c N := by
  obtain ⟨hm', ht, hk⟩ := k.at_
  exact ⟨hm', (HTurn.of_below r hb).trans ht, hk⟩

set_option maxRecDepth 100000 in
theorem act_any (P : Pacts HS) {B : Nat} {w : World} {x : Nat} {hm : HeapM} {s : St} {c : Cf} {N : Nat} (k : KAt HS B w x hm s c N) (op n : Int) (hop : fits op) (hn : fits n) :
    Calls Tryd.prog 8 #[.pointer (some ⟨x, 0, none⟩), .agg #[.int .i64 op, .int .i64 n]] w fun e w' => e = .returned (.tuple #[.int .i64 (actS c s op n).2.1, .int .i64 (actS c s op n).2.2]) ∧ ∃ hm', HTurn x w hm w' hm' ∧ KAt HS B w' x hm' (actS c s op n).1 c N := by
  have DO : Hid (∀ W, Below w.heap.size w W → Calls Tryd.prog 10 #[.pointer (some ⟨x, 0, none⟩), .int .i64 op, .int .i64 n] W fun e w' => e = .returned (.tuple #[.int .i64 (doS c s op n).2.1, .int .i64 (doS c s op n).2.2]) ∧ ∃ hm', HTurn x w hm w' hm' ∧ KAt HS B w' x hm' (doS c s op n).1 c N) := fun W hb =>
    (k_do P (k.below hb) op n hop hn).mono fun e w' ⟨h1, h2⟩ => ⟨h1, h2.pre k.here hb fun _ _ => trivial⟩
  have SA : Hid (∀ W, Below w.heap.size w W → Calls Tryd.prog 14 #[.pointer (some ⟨x, 0, none⟩)] W fun e w' => e = .returned (.int .i64 (s.safe c).2) ∧ ∃ hm', HTurn x w hm w' hm' ∧ KAt HS B w' x hm' (s.safe c).1 c N) := fun W hb =>
    (k_safe P (k.below hb)).mono fun e w' ⟨h1, h2⟩ => ⟨h1, h2.pre k.here hb fun _ _ => trivial⟩
  have CO : Hid (∀ W, Below w.heap.size w W → Calls Tryd.prog 9 #[.pointer (some ⟨x, 0, none⟩)] W fun e w' => e = .returned (.int .i64 s.gone) ∧ ∃ hm', HTurn x w hm w' hm' ∧ KAt HS B w' x hm' (s.collect c.over) c N) := fun W hb =>
    (k_coll P (k.below hb)).mono fun e w' ⟨h1, h2⟩ => ⟨h1, h2.pre k.here hb fun _ _ => trivial⟩
  by_cases h1 : op = -1
  · have e : actS c s op n = ((s.safe c).1, ((s.safe c).2 : Int), 0) := by unfold actS; rw [if_pos h1]
    rw [e]
    subst h1
    clear e k DO CO
    go_enter Tryd.func8, Tryd.ntmps8
    go_wp2_with fail
    refine Calls.mono (SA.out _ ((Below.refl _ w).alloc (Nat.le_refl _) _)) ?_
    rintro e w' ⟨rfl, hk⟩
    have K : Hid _ := hk
    clear hk SA
    go_wp2
    exact bodyPost_ret (v := .tuple #[.int .i64 (s.safe c).2, .int .i64 0]) (by simp [results, Tryd.results8, go_sem]) rfl ⟨rfl, K.out⟩
  · by_cases h2 : op = -2
    · have e : actS c s op n = (s.collect c.over, (s.gone : Int), 0) := by unfold actS; rw [if_neg h1, if_pos h2]
      rw [e]
      subst h2
      clear e k DO SA
      go_enter Tryd.func8, Tryd.ntmps8
      go_wp2_with fail
      refine Calls.mono (CO.out _ ((Below.refl _ w).alloc (Nat.le_refl _) _)) ?_
      rintro e w' ⟨rfl, hk⟩
      have K : Hid _ := hk
      clear hk CO
      go_wp2
      exact bodyPost_ret (v := .tuple #[.int .i64 s.gone, .int .i64 0]) (by simp [results, Tryd.results8, go_sem]) rfl ⟨rfl, K.out⟩
    · have e : actS c s op n = doS c s op n := by unfold actS; rw [if_neg h1, if_neg h2]
      rw [e]
      have h1' : (op == -1) = false := by simpa using h1
      have h2' : (op == -2) = false := by simpa using h2
      clear e k SA CO h1 h2
      go_enter Tryd.func8, Tryd.ntmps8
      go_wp2_with fail
      refine Calls.mono (DO.out _ ((Below.refl _ w).alloc (Nat.le_refl _) _)) ?_
      rintro e w' ⟨rfl, hk⟩
      have K : Hid _ := hk
      clear hk DO
      go_wp2
      exact bodyPost_ret (v := .tuple #[.int .i64 (doS c s op n).2.1, .int .i64 (doS c s op n).2.2]) (by simp [results, Tryd.results8, go_sem]) rfl ⟨rfl, K.out⟩

end Go.Proofs.YtpmkjeihbddfpabDoor

