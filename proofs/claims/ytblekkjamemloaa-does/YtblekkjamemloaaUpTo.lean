/- OUR OWN. UpTo: the loop over a script, for whatever kinds of steps. -/
import Derived.Test.YtblekkjamemloaaStep
namespace Go.Proofs.Ytblekkjamemloaa
open Go.RowKit

variable {Sim : HeapM → RefM → Int → Prop}

def StepM.ok (t : StepM) : Prop := fits t.kind ∧ fits t.a ∧ fits t.op ∧ fits t.n ∧ fits t.b ∧ fits t.s ∧ fits t.g ∧ fits t.u ∧ fits t.z ∧ fits t.o
def StepM.held (t : StepM) (lo hi : Int) : Prop := t.kind = 1 ∨ (lo ≤ t.kind ∧ t.kind ≤ hi)

/-- what late must tell of a step that is played -/
def LateSays (Sim : HeapM → RefM → Int → Prop) (left : Int) (last : Int) (Good : StepM → List PairM → Prop) : Prop :=
  ∀ (B : Nat) (w : World) (wb : Nat) (v : Value) (ps : List PairM) (t : StepM), LawAt Sim B w wb v ps → ps.length ≤ 2000000000000 → t.ok →
    Calls Try.prog 17 #[ptr wb, t.val, .int .i64 left] w fun e w' => ∃ out, e = .returned (.bool out) ∧ (out = false → t.kind ≤ last → Good t ps) ∧ Below w.heap.size w w'

/-- what a step that is played must do -/
def StepSays (Sim : HeapM → RefM → Int → Prop) (last lo hi : Int) (Good : StepM → List PairM → Prop) : Prop :=
  ∀ (B : Nat) (w : World) (wb : Nat) (v : Value) (ps : List PairM) (t : StepM), LawAt Sim B w wb v ps → B ≤ w.heap.size → ps.length ≤ 2000000000000 → t.ok → t.kind ≤ last → Good t ps →
    Calls Try.prog 18 #[ptr wb, t.val] w fun e w' => ∃ ok v' ps', e = .returned (.bool ok) ∧ (t.held lo hi → ok = true) ∧ ps'.length ≤ ps.length + 1 ∧ LawAt Sim B w' wb v' ps' ∧ Off (allFoot wb v ps) w w'

/-- the script in memory -/
def ScriptAt (w : World) (sb off len : Nat) (st : Nat → StepM) : Prop :=
  ∀ k, k < len → (st k).ok ∧ ∀ j u, (st k).cells[j]? = some u → w.cell? ⟨sb, off + k * 10 + j, none⟩ = some u

theorem lawStart (w : World) (B : Nat) (hB : B ≤ w.heap.size) : LawAt Sim B (w.alloc (.cells #[.slice none 0 0] 43)) w.heap.size (.slice none 0 0) [] :=
  ⟨heap_alloc_new w _, own_nil, by simp, by simp, by simp [allFoot, Value.ownBlock], by simp [allFoot, Value.ownBlock]; omega⟩

set_option maxHeartbeats 1000000 in
theorem upto_any (sb off len cap : Nat) (st : Nat → StepM) (last left lo hi : Int) (w : World) (hL : len * 80 ≤ 140737488351232) (hsb : sb < w.heap.size) (hS : ScriptAt w sb off len st)
    (Good : StepM → List PairM → Prop) (late : LateSays Sim left last Good) (step : StepSays Sim last lo hi Good) :
    Calls Try.prog 10 #[.slice (some ⟨sb, off, none⟩) len cap, .int .i64 last, .int .i64 left, .int .i64 lo, .int .i64 hi] w
      fun e w' => e = .returned (.int .i64 (-1)) ∧ Below w.heap.size w w' := by
  have H : Hid (ScriptAt w sb off len st ∧ LateSays Sim left last Good ∧ StepSays Sim last lo hi Good) := ⟨hS, late, step⟩
  clear hS late step
  go_enter Try.func10, Try.ntmps10
  go_wp2
  go_loopw [12] (fun i wr => ∃ (k : Nat) (v : Value) (ps : List PairM), k ≤ len ∧ i = .int .i64 k ∧ ps.length ≤ k ∧ LawAt Sim w.heap.size wr w.heap.size v ps ∧ Below w.heap.size w wr) (fun i _ => len - (intOf i).toNat)
  case atStart => exact ⟨0, _, [], by omega, rfl, by simp, lawStart w _ (Nat.le_refl _), (Below.refl _ _).alloc (Nat.le_refl _) _⟩
  case round =>
    obtain ⟨k, v, ps, hk, rfl, hps, hl, hbel⟩ := hrel
    by_cases hlt : k < len
    · obtain ⟨hS, late, step⟩ := H.out
      obtain ⟨hok, hcells⟩ := hS k hlt
      obtain ⟨t, ht⟩ : ∃ t, t = st k := ⟨_, rfl⟩
      rw [← ht] at hok hcells
      obtain ⟨kind, a, op, n, b, s, g, u, z, o⟩ := t
      have cc : ∀ j u, _ → wr.cell? ⟨sb, off + k * 10 + j, none⟩ = some u := fun j u hj => (hbel.cell (p := ⟨sb, off + k * 10 + j, none⟩) hsb).trans (hcells j u hj)
      have c0 := cc 0 _ rfl
      have c1 := cc 1 _ rfl
      have c2 := cc 2 _ rfl
      have c3 := cc 3 _ rfl
      have c4 := cc 4 _ rfl
      have c5 := cc 5 _ rfl
      have c6 := cc 6 _ rfl
      have c7 := cc 7 _ rfl
      have c8 := cc 8 _ rfl
      have c9 := cc 9 _ rfl
      simp only [Nat.add_zero] at c0
      have T : Hid (StepM.ok ⟨kind, a, op, n, b, s, g, u, z, o⟩ ∧ ps.length ≤ k ∧ LawAt Sim w.heap.size wr w.heap.size v ps ∧ Below w.heap.size w wr) := ⟨hok, hps, hl, hbel⟩
      clear hS late step hcells cc ht hok hl hbel hps
      go_wp2_with fail
      obtain ⟨hok, hps, hl, hbel⟩ := T.out
      obtain ⟨hS, late, step⟩ := H.out
      have hsz := hbel.size
      have hl1 := hl.below ((Below.refl _ _).alloc (Nat.le_refl _) (.cells #[.int .i64 kind, .int .i64 a, .int .i64 op, .int .i64 n, .int .i64 b, .int .i64 s, .int .i64 g, .int .i64 u, .int .i64 z, .int .i64 o] 45))
      refine (late _ _ _ _ _ ⟨kind, a, op, n, b, s, g, u, z, o⟩ hl1 (by omega) hok).mono ?_
      rintro e w1 ⟨out, rfl, hgood, hb1⟩
      have hl2 := hl1.below hb1
      have hh1 : w1.heap[wr.heap.size]? = some (.cells #[.int .i64 kind, .int .i64 a, .int .i64 op, .int .i64 n, .int .i64 b, .int .i64 s, .int .i64 g, .int .i64 u, .int .i64 z, .int .i64 o] 45) := by
        rw [hb1.block _ (by simp)]; exact heap_alloc_new wr _
      have hbel1 : Below w.heap.size w w1 := (hbel.alloc hsz _).trans (hb1.mono (by simp; omega))
      have hsz1 : wr.heap.size + 1 ≤ w1.heap.size := by have := hb1.size; simpa using this
      have hnf : wr.heap.size ∉ allFoot w.heap.size v ps := fun e => by have := hl.lt _ e; omega
      have STEP : Hid (kind ≤ last → out = false → Calls Try.prog 18 #[.pointer (some ⟨w.heap.size, 0, none⟩), .agg #[.int .i64 kind, .int .i64 a, .int .i64 op, .int .i64 n, .int .i64 b, .int .i64 s, .int .i64 g, .int .i64 u, .int .i64 z, .int .i64 o]] w1
        fun e w' => ∃ ok v' ps', e = .returned (.bool ok) ∧ (StepM.held ⟨kind, a, op, n, b, s, g, u, z, o⟩ lo hi → ok = true) ∧ ps'.length ≤ ps.length + 1 ∧ LawAt Sim w.heap.size w' w.heap.size v' ps' ∧ Off (allFoot w.heap.size v ps) w1 w') :=
        fun h1 h2 => step _ _ _ _ _ ⟨kind, a, op, n, b, s, g, u, z, o⟩ hl2 (by omega) (by omega) hok h1 (hgood h2 h1)
      have d0 := cell_of_heap (i := 0) hh1 rfl
      have d1 := cell_of_heap (i := 1) hh1 rfl
      have d2 := cell_of_heap (i := 2) hh1 rfl
      have d3 := cell_of_heap (i := 3) hh1 rfl
      have d4 := cell_of_heap (i := 4) hh1 rfl
      have d5 := cell_of_heap (i := 5) hh1 rfl
      have d6 := cell_of_heap (i := 6) hh1 rfl
      have d7 := cell_of_heap (i := 7) hh1 rfl
      have d8 := cell_of_heap (i := 8) hh1 rfl
      have d9 := cell_of_heap (i := 9) hh1 rfl
      have T1 : Hid (w1.heap[wr.heap.size]? = some (.cells #[.int .i64 kind, .int .i64 a, .int .i64 op, .int .i64 n, .int .i64 b, .int .i64 s, .int .i64 g, .int .i64 u, .int .i64 z, .int .i64 o] 45) ∧
        ps.length ≤ k ∧ LawAt Sim w.heap.size w1 w.heap.size v ps ∧ Below w.heap.size w w1 ∧ wr.heap.size + 1 ≤ w1.heap.size ∧ wr.heap.size ∉ allFoot w.heap.size v ps ∧ w.heap.size ≤ w1.heap.size) := ⟨hh1, hps, hl2, hbel1, hsz1, hnf, by omega⟩
      clear T hok hps hl hbel hS late step hl1 hgood hb1 hl2 hh1 hbel1 hsz1 hnf hsz c0 c1 c2 c3 c4 c5 c6 c7 c8 c9
      by_cases hkl : last < kind
      · go_wp2
        go_roundw
        case rel => exact ⟨k + 1, v, ps, by omega, by go_num, by have := T1.out.2.1; omega, T1.out.2.2.1, T1.out.2.2.2.1⟩
        case measure => simp [intOf]; omega
      cases out with
      | true =>
        go_wp2
        go_roundw
        case rel => exact ⟨k + 1, v, ps, by omega, by go_num, by have := T1.out.2.1; omega, T1.out.2.2.1, T1.out.2.2.2.1⟩
        case measure => simp [intOf]; omega
      | false =>
        go_wp2_with fail
        refine (STEP.out (by omega) (by first | rfl | trivial)).mono ?_
        rintro e w2 ⟨ok, v', ps', rfl, hheld, hps', hl', hoff⟩
        obtain ⟨hh1, hps, hl2, hbel1, hsz1, hnf, hsz2⟩ := T1.out
        have hh2 : w2.heap[wr.heap.size]? = some (.cells #[.int .i64 kind, .int .i64 a, .int .i64 op, .int .i64 n, .int .i64 b, .int .i64 s, .int .i64 g, .int .i64 u, .int .i64 z, .int .i64 o] 45) := by
          rw [hoff.block _ (by omega) hnf]; exact hh1
        have f0 := cell_of_heap (i := 0) hh2 rfl
        have KR : Hid (∃ (k' : Nat) (v : Value) (ps : List PairM), k' ≤ len ∧ (.int .i64 (k + 1) : Value) = .int .i64 k' ∧ ps.length ≤ k' ∧ LawAt Sim w.heap.size w2 w.heap.size v ps ∧ Below w.heap.size w w2) :=
          ⟨k + 1, v', ps', by omega, by go_num, by omega, hl', hbel1.trans (hoff.below hsz2 hl2.low)⟩
        have hheld' : kind = 1 ∨ (lo ≤ kind ∧ kind ≤ hi) → ok = true := hheld
        clear T1 STEP hheld hps' hl' hoff hh1 hps hl2 hbel1 hsz1 hnf hsz2 hh2 d0 d1 d2 d3 d4 d5 d6 d7 d8 d9
        by_cases q1 : kind = 1
        · have q0 : ok = true := hheld' (.inl q1)
          clear hheld'
          subst q1 q0
          go_wp2
          go_roundw
          case rel => exact KR.out
          case measure => simp [intOf]; omega
        · by_cases q2 : lo ≤ kind
          · by_cases q3 : kind ≤ hi
            · have q0 : ok = true := hheld' (.inr ⟨q2, q3⟩)
              clear hheld'
              subst q0
              go_wp2
              go_roundw
              case rel => exact KR.out
              case measure => simp [intOf]; omega
            · clear hheld'
              go_wp2
              go_roundw
              case rel => exact KR.out
              case measure => simp [intOf]; omega
          · clear hheld'
            go_wp2
            go_roundw
            case rel => exact KR.out
            case measure => simp [intOf]; omega
    · have K : Hid (Below w.heap.size w wr) := hbel
      clear hl hbel hps
      go_wp2
      go_ret
      exact ⟨rfl, K.out⟩

end Go.Proofs.Ytblekkjamemloaa
