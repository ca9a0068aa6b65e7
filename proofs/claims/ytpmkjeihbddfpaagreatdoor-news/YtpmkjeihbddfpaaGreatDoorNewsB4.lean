import Derived.Test.YtpmkjeihbddfpaaGreatDoorNewsB3
import Derived.ProofKit
import Derived.SizedLaws
import Derived.Deep.Slices
import Derived.OpenShut
import Derived.ChangeOld
/- OUR OWN. A script as it was handed in, read from memory. -/
namespace Go.Proofs.YtpmkjeihbddfpaaGreatDoor
open Go.ChangeShapes Go.WideShapes Go.ChangeAt Go.RowKit Go.Deep
set_option linter.unusedVariables false
set_option linter.unusedSimpArgs false

variable {Sim : HeapM → RefM → Int → Prop}

theorem own : ownKnob Tryz.prog.godebug = none := by kernel_rfl
theorem laidOut : laidOutB Tryz.prog = true := by kernel_rfl
theorem cellsStep : Tryz.prog.cellsOf 32 = 10 := by kernel_rfl
theorem cellsConfig : Tryz.prog.cellsOf 30 = 6 := by kernel_rfl
theorem cellsInt : Tryz.prog.cellsOf 3 = 1 := by kernel_rfl
theorem bytesStep : Tryz.prog.bytesOf 32 = 80 := by kernel_rfl

theorem list10 {α : Type} (l : List α) (h : l.length = 10) : ∃ a b c d e f g i j k, l = [a, b, c, d, e, f, g, i, j, k] := by
  rcases l with _ | ⟨a, l⟩; · simp at h
  rcases l with _ | ⟨b, l⟩; · simp at h
  rcases l with _ | ⟨c, l⟩; · simp at h
  rcases l with _ | ⟨d, l⟩; · simp at h
  rcases l with _ | ⟨e, l⟩; · simp at h
  rcases l with _ | ⟨f, l⟩; · simp at h
  rcases l with _ | ⟨g, l⟩; · simp at h
  rcases l with _ | ⟨i, l⟩; · simp at h
  rcases l with _ | ⟨j, l⟩; · simp at h
  rcases l with _ | ⟨k, l⟩; · simp at h
  rcases l with _ | ⟨m, l⟩
  · exact ⟨a, b, c, d, e, f, g, i, j, k, rfl⟩
  · simp at h

theorem fits_of {n : Int} (h : (Lit.int .i64 n).wf = true) : fits n := by
  have h1 : IntKind.i64.min = -9223372036854775808 := rfl
  have h2 : IntKind.i64.max = 9223372036854775807 := rfl
  simp only [Lit.wf, Bool.and_eq_true, decide_eq_true_eq] at h
  unfold fits
  omega

section
variable {H : Type} {enc : TypeId × Value → H} {w : World} {base : Nat} {spare : Nat → Bool} {held : Bool}

/-- one step out of its ten cells -/
theorem step_of {n : Nat} {cs : List Value} {x : DataW H × List MemPlace} (h : DataW.trod enc Tryz.prog w base spare held n 32 cs = some x) : ∃ t : StepM, t.ok ∧ cs = t.cells := by
  obtain ⟨xs, k, _, _, hlen, hxl, hf⟩ := DataW.trod_struct Tryz.underlying32 h
  rw [cellsStep] at hlen
  have get : ∀ i, i < 5 → ∃ y, xs[i]? = some y := fun i hi => ⟨_, List.getElem?_eq_getElem (by rw [hxl]; exact hi)⟩
  obtain ⟨v0, v1, v2, v3, v4, v5, v6, v7, v8, v9, rfl⟩ := list10 cs hlen
  obtain ⟨y0, e0⟩ := get 0 (by decide)
  obtain ⟨y1, e1⟩ := get 1 (by decide)
  obtain ⟨y2, e2⟩ := get 2 (by decide)
  obtain ⟨y3, e3⟩ := get 3 (by decide)
  obtain ⟨y4, e4⟩ := get 4 (by decide)
  have g0 : DataW.trod enc Tryz.prog w base spare held k 3 (([v0, v1, v2, v3, v4, v5, v6, v7, v8, v9].drop 0).take (Tryz.prog.cellsOf 3)) = some y0 := (hf 0 _ rfl).trans e0
  rw [cellsInt] at g0
  have g1 : DataW.trod enc Tryz.prog w base spare held k 3 (([v0, v1, v2, v3, v4, v5, v6, v7, v8, v9].drop 1).take (Tryz.prog.cellsOf 3)) = some y1 := (hf 1 _ rfl).trans e1
  rw [cellsInt] at g1
  have g2 : DataW.trod enc Tryz.prog w base spare held k 3 (([v0, v1, v2, v3, v4, v5, v6, v7, v8, v9].drop 2).take (Tryz.prog.cellsOf 3)) = some y2 := (hf 2 _ rfl).trans e2
  rw [cellsInt] at g2
  have g3 : DataW.trod enc Tryz.prog w base spare held k 3 (([v0, v1, v2, v3, v4, v5, v6, v7, v8, v9].drop 3).take (Tryz.prog.cellsOf 3)) = some y3 := (hf 3 _ rfl).trans e3
  rw [cellsInt] at g3
  have g4 : DataW.trod enc Tryz.prog w base spare held k 30 (([v0, v1, v2, v3, v4, v5, v6, v7, v8, v9].drop 4).take (Tryz.prog.cellsOf 30)) = some y4 := (hf 4 _ rfl).trans e4
  rw [cellsConfig] at g4
  obtain ⟨n0, q0, _, w0⟩ := DataW.trod_int Tryz.underlying3 g0
  obtain ⟨n1, q1, _, w1⟩ := DataW.trod_int Tryz.underlying3 g1
  obtain ⟨n2, q2, _, w2⟩ := DataW.trod_int Tryz.underlying3 g2
  obtain ⟨n3, q3, _, w3⟩ := DataW.trod_int Tryz.underlying3 g3
  obtain ⟨zs, j, _, _, _, hzl, hz⟩ := DataW.trod_struct Tryz.underlying30 g4
  have getz : ∀ i, i < 6 → ∃ y, zs[i]? = some y := fun i hi => ⟨_, List.getElem?_eq_getElem (by rw [hzl]; exact hi)⟩
  obtain ⟨z0, f0⟩ := getz 0 (by decide)
  obtain ⟨z1, f1⟩ := getz 1 (by decide)
  obtain ⟨z2, f2⟩ := getz 2 (by decide)
  obtain ⟨z3, f3⟩ := getz 3 (by decide)
  obtain ⟨z4, f4⟩ := getz 4 (by decide)
  obtain ⟨z5, f5⟩ := getz 5 (by decide)
  have k0 : DataW.trod enc Tryz.prog w base spare held j 3 (((([v0, v1, v2, v3, v4, v5, v6, v7, v8, v9].drop 4).take 6).drop 0).take (Tryz.prog.cellsOf 3)) = some z0 := (hz 0 _ rfl).trans f0
  rw [cellsInt] at k0
  have k1 : DataW.trod enc Tryz.prog w base spare held j 3 (((([v0, v1, v2, v3, v4, v5, v6, v7, v8, v9].drop 4).take 6).drop 1).take (Tryz.prog.cellsOf 3)) = some z1 := (hz 1 _ rfl).trans f1
  rw [cellsInt] at k1
  have k2 : DataW.trod enc Tryz.prog w base spare held j 3 (((([v0, v1, v2, v3, v4, v5, v6, v7, v8, v9].drop 4).take 6).drop 2).take (Tryz.prog.cellsOf 3)) = some z2 := (hz 2 _ rfl).trans f2
  rw [cellsInt] at k2
  have k3 : DataW.trod enc Tryz.prog w base spare held j 3 (((([v0, v1, v2, v3, v4, v5, v6, v7, v8, v9].drop 4).take 6).drop 3).take (Tryz.prog.cellsOf 3)) = some z3 := (hz 3 _ rfl).trans f3
  rw [cellsInt] at k3
  have k4 : DataW.trod enc Tryz.prog w base spare held j 3 (((([v0, v1, v2, v3, v4, v5, v6, v7, v8, v9].drop 4).take 6).drop 4).take (Tryz.prog.cellsOf 3)) = some z4 := (hz 4 _ rfl).trans f4
  rw [cellsInt] at k4
  have k5 : DataW.trod enc Tryz.prog w base spare held j 3 (((([v0, v1, v2, v3, v4, v5, v6, v7, v8, v9].drop 4).take 6).drop 5).take (Tryz.prog.cellsOf 3)) = some z5 := (hz 5 _ rfl).trans f5
  rw [cellsInt] at k5
  obtain ⟨n4, q4, _, w4⟩ := DataW.trod_int Tryz.underlying3 k0
  obtain ⟨n5, q5, _, w5⟩ := DataW.trod_int Tryz.underlying3 k1
  obtain ⟨n6, q6, _, w6⟩ := DataW.trod_int Tryz.underlying3 k2
  obtain ⟨n7, q7, _, w7⟩ := DataW.trod_int Tryz.underlying3 k3
  obtain ⟨n8, q8, _, w8⟩ := DataW.trod_int Tryz.underlying3 k4
  obtain ⟨n9, q9, _, w9⟩ := DataW.trod_int Tryz.underlying3 k5
  simp at q0 q1 q2 q3 q4 q5 q6 q7 q8 q9
  refine ⟨⟨n0, n1, n2, n3, n4, n5, n6, n7, n8, n9⟩, ⟨fits_of w0, fits_of w1, fits_of w2, fits_of w3, fits_of w4, fits_of w5, fits_of w6, fits_of w7, fits_of w8, fits_of w9⟩, ?_⟩
  simp [StepM.cells, *]

/-- the script, out of the argument's reading -/
theorem script_of {fuel : Nat} {a0 : Option Addr} {len cap : Nat} {x : DataW H × List MemPlace} (h : DataW.trod enc Tryz.prog w base spare held fuel 22 [.slice a0 len cap] = some x) :
    len = 0 ∨ ∃ sb off st, a0 = some ⟨sb, off, none⟩ ∧ sb < w.heap.size ∧ ScriptAt w sb off len st := by
  rcases open_slice Tryz.underlying22 h with ⟨hc, _⟩ | ⟨a, l, c, m, n, D, Pl, hc, _, hl, _, hm, _, hx⟩
  · simp at hc; exact .inl hc.2.1
  · simp at hc
    obtain ⟨rfl, rfl, rfl⟩ := hc
    rcases Nat.eq_zero_or_pos len with h0 | h0
    · exact .inl h0
    right
    have hlm : len ≤ m := by rw [hm]; split <;> omega
    rw [cellsStep] at hx
    have each : ∀ i, i < len → ∃ t : StepM, t.ok ∧ ∀ j u, t.cells[j]? = some u → w.cell? ((a.add (i * 10)).add j) = some u := by
      intro i hi
      obtain ⟨cs', h1, h2⟩ := hx i (by omega)
      obtain ⟨t, hok, rfl⟩ := step_of h2
      obtain ⟨_, _, h3⟩ := World.cells?_some h1
      refine ⟨t, hok, fun j u hj => ?_⟩
      have hj' : j < 10 := by
        rcases Nat.lt_or_ge j 10 with h | h
        · exact h
        · rw [List.getElem?_eq_none (by simpa [StepM.cells] using h)] at hj; cases hj
      rw [h3 j hj', hj]
    have inh : Inhabited StepM := ⟨⟨0, 0, 0, 0, 0, 0, 0, 0, 0, 0⟩⟩
    obtain ⟨st, hst⟩ := choose_lt each
    obtain ⟨sb, off, spot⟩ := a
    have hspot : spot = none := by
      have := World.cell?_spot ((hst 0 h0).2 0 _ rfl)
      simpa [Addr.add] using this
    subst hspot
    have hadd : ∀ i j, (((⟨sb, off, none⟩ : Addr).add (i * 10)).add j) = ⟨sb, off + i * 10 + j, none⟩ := fun i j => by
      rw [add_add, Addr.add_lit]; simp
    refine ⟨sb, off, st, rfl, ?_, fun k hk => ⟨(hst k hk).1, fun j u hj => ?_⟩⟩
    · exact World.block_lt_of_cell? w _ ((hst 0 h0).2 0 _ rfl)
    · rw [← hadd]; exact (hst k hk).2 j u hj
end

end Go.Proofs.YtpmkjeihbddfpaaGreatDoor

/- OUR OWN. UpTo over an empty script; late, of the early laws. -/
namespace Go.Proofs.YtpmkjeihbddfpaaGreatDoor
open Go.ChangeShapes Go.WideShapes Go.ChangeAt Go.RowKit Go.Deep
set_option linter.unusedVariables false
set_option linter.unusedSimpArgs false

variable {Sim : HeapM → RefM → Int → Prop}

set_option maxHeartbeats 400000 in
theorem upto_empty (a0 : Option Addr) (cap : Nat) (last left lo hi : Int) (w : World) :
    Calls Tryz.prog 9 #[.slice a0 0 cap, .int .i64 last, .int .i64 left, .int .i64 lo, .int .i64 hi] w
      fun e w' => e = .returned (.int .i64 (-1)) ∧ Below w.heap.size w w' := by
  go_enter Tryz.func9, Tryz.ntmps9
  go_wp2
  go_loopw [12] (fun i wr => i = .int .i64 0 ∧ Below w.heap.size w wr) (fun i _ => 0)
  case atStart => exact ⟨rfl, (Below.refl _ _).alloc (Nat.le_refl _) _⟩
  case round =>
    obtain ⟨rfl, hb⟩ := hrel
    have K : Hid (Below w.heap.size w wr) := hb
    clear hb
    go_wp2
    go_ret
    exact ⟨rfl, K.out⟩

/-- late, where nothing is asked of it but that it comes back -/
theorem late_says (Sim : HeapM → RefM → Int → Prop) (last : Int) :
    LateSays Sim 1 last (fun t ps => t.kind = 2 → t.op = 2 → ∀ hp : 0 < ps.length, (ps[pickN t.a ps.length]'(pickN_lt _ _ hp)).news < (ps[pickN t.a ps.length]'(pickN_lt _ _ hp)).rm.most) := by
  intro B w wb v ps t r hm hok
  by_cases h1 : t.kind = 2
  · by_cases h2 : t.op = 2
    · rcases Nat.eq_zero_or_pos ps.length with hp | hp
      · obtain rfl : ps = [] := List.eq_nil_of_length_eq_zero hp
        exact (late_none r t 1 h1 h2).mono fun e w' ⟨he, hb⟩ => ⟨false, he, fun _ _ _ _ h => absurd h (by simp), hb⟩
      · exact (late_early r t h1 h2 hok.2.1 hp hm).mono fun e w' ⟨he, hb⟩ => ⟨_, he, fun ho _ _ _ _ => by simpa using ho, hb⟩
    · exact (late_kind wb t 1 w (.inr h2)).mono fun e w' ⟨he, hb⟩ => ⟨false, he, fun _ _ _ h => absurd h h2, hb⟩
  · exact (late_kind wb t 1 w (.inl h1)).mono fun e w' ⟨he, hb⟩ => ⟨false, he, fun _ _ h => absurd h h1, hb⟩

end Go.Proofs.YtpmkjeihbddfpaaGreatDoor

