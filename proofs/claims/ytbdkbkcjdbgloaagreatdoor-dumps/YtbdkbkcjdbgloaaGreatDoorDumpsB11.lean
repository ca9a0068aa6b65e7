import Derived.Test.YtbdkbkcjdbgloaaGreatDoorDumpsB10
import Derived.Lib.LaidTab
import Derived.Lib.ItoaNum
/- OUR OWN. The table of the library's that strconv reads: where it lies, and that it stays. -/
namespace Go.Proofs.YtbdkbkcjdbgloaaGreatDoor
open Go.RowKit
set_option linter.unusedVariables false
set_option linter.unusedSimpArgs false

theorem tabNamed : Tryz.prog.globalNamed "internal/strconv.uint64pow10" = some 0 := by kernel_rfl
/-- the table's block lies below B, and holds the powers of ten -/
def Tab (B : Nat) (w : World) : Prop := 0 < B ∧ 0 < w.heap.size ∧ Lib.TabIs Tryz.prog w "internal/strconv.uint64pow10" .u64 Lib.pow10Tab
theorem Tab.keep {B : Nat} {w w' : World} (t : Tab B w) (hs : w.heap.size ≤ w'.heap.size) (h : ∀ k, k < B → k < w.heap.size → w'.heap[k]? = w.heap[k]?) : Tab B w' := by
  refine ⟨t.1, by have := t.2.1; omega, ?_⟩
  have h2 := t.2.2
  unfold Lib.TabIs World.var? at h2 ⊢
  rw [tabNamed] at h2 ⊢
  simp only [Option.bind_some] at h2 ⊢
  rw [h _ t.1 t.2.1]
  exact h2
theorem Tab.below {B : Nat} {w w' : World} (t : Tab B w) (h : Below w.heap.size w w') : Tab B w' := t.keep h.size fun k _ h2 => h.block k h2
theorem Tab.off {B : Nat} {F : List Nat} {w w' : World} (t : Tab B w) (h : Off F w w') (hF : ∀ g ∈ F, B ≤ g) : Tab B w' := t.keep h.size fun k h1 h2 => h.block k h2 fun e => by have := hF k e; omega

end Go.Proofs.YtbdkbkcjdbgloaaGreatDoor

/- OUR OWN. What is asked of the program: one contract a call. -/
namespace Go.Proofs.YtbdkbkcjdbgloaaGreatDoor
open Go.RowKit
set_option linter.unusedVariables false
set_option linter.unusedSimpArgs false

/-- 'HS hm s c N': the program's heap hm is the state s of a heap of the configuration c, with N blocks. Room: what an OpNew may be asked of. -/
def DoPact (HS : HeapM → St → Cf → Nat → Prop) (Room : St → Prop) : Prop := ∀ (x N : Nat) (w : World) (hm : HeapM) (s : St) (c : Cf) (op n : Int), HeapAt w x hm → HS hm s c N → s.Good N → CfOk c → N ≤ 99 → s.stack.length ≤ 16 → s.globals.length ≤ 8 → fits op → fits n → (op = 2 → Room s) →
  Calls Tryz.prog 28 #[.pointer (some ⟨x, 0, none⟩), .int .i64 op, .int .i64 n] w fun e w' => e = .returned (.tuple #[.int .i64 (doS c s op n).2.1, .int .i64 (doS c s op n).2.2]) ∧ ∃ hm', HTurn x w hm w' hm' ∧ HS hm' (doS c s op n).1 c N
def GaugePact (HS : HeapM → St → Cf → Nat → Prop) : Prop := ∀ (x N : Nat) (w : World) (hm : HeapM) (s : St) (c : Cf), HeapAt w x hm → HS hm s c N → s.Good N → CfOk c → N ≤ 99 → s.stack.length ≤ 16 → s.globals.length ≤ 8 →
  Calls Tryz.prog 30 #[.pointer (some ⟨x, 0, none⟩)] w fun e w' => e = .returned (.agg #[.int .i64 (gaugeS s).1, .int .i64 (gaugeS s).2.1, .int .i64 (gaugeS s).2.2.1, .int .i64 (gaugeS s).2.2.2.1, .int .i64 (gaugeS s).2.2.2.2]) ∧ ∃ hm', HTurn x w hm w' hm' ∧ HS hm' s c N
def DumpPact (HS : HeapM → St → Cf → Nat → Prop) : Prop := ∀ (x N B : Nat) (w : World) (hm : HeapM) (s : St) (c : Cf), Tab B w → HeapAt w x hm → HS hm s c N → s.Good N → CfOk c → N ≤ 99 → s.stack.length ≤ 16 → s.globals.length ≤ 8 →
  Calls Tryz.prog 31 #[.pointer (some ⟨x, 0, none⟩)] w fun e w' => e = .returned (str (dumpL s)) ∧ ∃ hm', HTurn x w hm w' hm' ∧ HS hm' s c N
def SafePact (HS : HeapM → St → Cf → Nat → Prop) : Prop := ∀ (x N : Nat) (w : World) (hm : HeapM) (s : St) (c : Cf), HeapAt w x hm → HS hm s c N → s.Good N → CfOk c → N ≤ 99 → s.stack.length ≤ 16 → s.globals.length ≤ 8 →
  Calls Tryz.prog 18 #[.pointer (some ⟨x, 0, none⟩)] w fun e w' => e = .returned (.int .i64 (s.safe c).2) ∧ ∃ hm', HTurn x w hm w' hm' ∧ HS hm' (s.safe c).1 c N
def CollPact (HS : HeapM → St → Cf → Nat → Prop) : Prop := ∀ (x N : Nat) (w : World) (hm : HeapM) (s : St) (c : Cf), HeapAt w x hm → HS hm s c N → s.Good N → CfOk c → N ≤ 99 → s.stack.length ≤ 16 → s.globals.length ≤ 8 →
  Calls Tryz.prog 20 #[.pointer (some ⟨x, 0, none⟩)] w fun e w' => e = .returned (.int .i64 s.gone) ∧ ∃ hm', HTurn x w hm w' hm' ∧ HS hm' (s.collect c.over) c N
theorem St.Good.fits {s : St} {N : Nat} (g : s.Good N) (hN : N ≤ 99) : Fits s := by
  have hv : ∀ v, s.leads v → fitsV v := by
    rintro v (e | e | ⟨_, i, e, ha⟩)
    · rw [e]; exact ⟨by decide, by decide⟩
    · exact e.2
    · have := g.ne_zero ha.1; exact ⟨by omega, by omega⟩
  refine ⟨fun v h => hv v (g.stack v h), fun v h => hv v (g.globals v h), fun o ho v h => hv v ?_, fun b hb => ?_⟩
  · obtain ⟨i, hi, rfl⟩ := List.getElem_of_mem ho
    exact g.fields i v (by rw [ob_of (List.getElem?_eq_getElem hi)]; exact h)
  · have h0 := g.nat b hb
    have hq := (g.inq b.toNat).1 (by rw [Int.toNat_of_nonneg h0]; exact hb)
    have hh : (s.ob b.toNat).here = true := by
      cases e : (s.ob b.toNat).here with
      | true => rfl
      | false => rw [g.gone _ e] at hq; cases hq
    have := g.ne_zero hh
    exact ⟨by omega, by omega⟩
def room2 (s : St) : Prop := ∃ k, free? s = some k
def room3 (s : St) : Prop := room2 s ∨ s.queue.length ≠ 0

end Go.Proofs.YtbdkbkcjdbgloaaGreatDoor

/- OUR OWN. The program's heap: Do. -/
namespace Go.Proofs.YtbdkbkcjdbgloaaGreatDoor
open Go.RowKit
set_option linter.unusedVariables false
set_option linter.unusedSimpArgs false

def HDoSays (op : Int) : Prop := ∀ (h N : Nat) (w : World) (m : HeapM) (s : St) (c : Cf) (n : Int), HB 0 h w m s c N → (op = 2 → (∃ k, free? s = some k) ∨ s.queue.length ≠ 0) →
  Calls Tryz.prog 28 #[.pointer (some ⟨h, 0, none⟩), .int .i64 op, .int .i64 n] w (HDone2 h N w m c (doS c s op n))

set_option maxHeartbeats 400000 in
theorem hdo_0 : HDoSays 0 := by
  intro h N w m s c n p hf
  have e : doS c s 0 n = pushA c.deep s (0, 0) := by simp [doS]
  rw [e]
  have C : Hid (Calls Tryz.prog 41 #[.pointer (some ⟨h, 0, none⟩), .agg #[.int .i64 0, .int .i64 0]] w (HDone h N w m c (pushA c.deep s (0, 0)))) := by
    have d := hpush_do p.pre (0, 0)
    rw [p.hs.st, p.hs.deep] at d
    exact d.mono fun e w' x => x.done p.hs
  clear p e hf
  go_enter Tryz.func28, Tryz.ntmps28
  go_wp2_with fail
  refine Calls.mono C.out ?_
  rintro e w1 ⟨rfl, hm⟩
  have M : Hid _ := hm
  clear hm C
  go_wp2
  go_ret2
  exact ⟨ret_zero (push_zero _ _ _), M.out⟩

set_option maxHeartbeats 400000 in
theorem hdo_1 : HDoSays 1 := by
  intro h N w m s c n p hf
  have e : doS c s 1 n = pushA c.deep s (1, n) := by simp [doS]
  rw [e]
  have C : Hid (Calls Tryz.prog 41 #[.pointer (some ⟨h, 0, none⟩), .agg #[.int .i64 1, .int .i64 n]] w (HDone h N w m c (pushA c.deep s (1, n)))) := by
    have d := hpush_do p.pre (1, n)
    rw [p.hs.st, p.hs.deep] at d
    exact d.mono fun e w' x => x.done p.hs
  clear p e hf
  go_enter Tryz.func28, Tryz.ntmps28
  go_wp2_with fail
  refine Calls.mono C.out ?_
  rintro e w1 ⟨rfl, hm⟩
  have M : Hid _ := hm
  clear hm C
  go_wp2
  go_ret2
  exact ⟨ret_zero (push_zero _ _ _), M.out⟩

set_option maxHeartbeats 400000 in
theorem hdo_2 : HDoSays 2 := by
  intro h N w m s c n p hf
  have e : doS c s 2 n = newS c s n := by simp [doS]
  rw [e]
  have C : Hid (Calls Tryz.prog 42 #[.pointer (some ⟨h, 0, none⟩), .int .i64 n] w (HDone h N w m c (newS c s n))) := new_done p n (hf rfl)
  clear p e hf
  go_enter Tryz.func28, Tryz.ntmps28
  go_wp2_with fail
  refine Calls.mono C.out ?_
  rintro e w1 ⟨rfl, hm⟩
  have M : Hid _ := hm
  clear hm C
  go_wp2
  go_ret2
  exact ⟨ret_zero (new_zero _ _ _), M.out⟩

set_option maxHeartbeats 400000 in
theorem hdo_3 : HDoSays 3 := by
  intro h N w m s c n p hf
  have e : doS c s 3 n = dupS c.deep s n := by simp [doS]
  rw [e]
  have C : Hid (Calls Tryz.prog 43 #[.pointer (some ⟨h, 0, none⟩), .int .i64 n] w (HDone h N w m c (dupS c.deep s n))) := by
    have d := hdup_do h N w m n p.pre
    rw [p.hs.st, p.hs.deep] at d
    exact d.mono fun e w' x => x.done p.hs
  clear p e hf
  go_enter Tryz.func28, Tryz.ntmps28
  go_wp2_with fail
  refine Calls.mono C.out ?_
  rintro e w1 ⟨rfl, hm⟩
  have M : Hid _ := hm
  clear hm C
  go_wp2
  go_ret2
  exact ⟨ret_zero (dup_zero _ _ _), M.out⟩

set_option maxHeartbeats 400000 in
theorem hdo_4 : HDoSays 4 := by
  intro h N w m s c n p hf
  have e : doS c s 4 n = dropS s := by simp [doS]
  rw [e]
  have C : Hid (Calls Tryz.prog 44 #[.pointer (some ⟨h, 0, none⟩)] w (HDone h N w m c (dropS s))) := by
    have d := hdrop_do h N w m p.pre
    rw [p.hs.st] at d
    exact d.mono fun e w' x => x.done p.hs
  clear p e hf
  go_enter Tryz.func28, Tryz.ntmps28
  go_wp2_with fail
  refine Calls.mono C.out ?_
  rintro e w1 ⟨rfl, hm⟩
  have M : Hid _ := hm
  clear hm C
  go_wp2
  go_ret2
  exact ⟨ret_zero (drop_zero _), M.out⟩

set_option maxHeartbeats 400000 in
theorem hdo_5 : HDoSays 5 := by
  intro h N w m s c n p hf
  have e : doS c s 5 n = getS c.deep s n := by simp [doS]
  rw [e]
  have C : Hid (Calls Tryz.prog 45 #[.pointer (some ⟨h, 0, none⟩), .int .i64 n] w (HDone h N w m c (getS c.deep s n))) := by
    have d := hget_do h N w m n p.pre
    rw [p.hs.st, p.hs.deep] at d
    exact d.mono fun e w' x => x.done p.hs
  clear p e hf
  go_enter Tryz.func28, Tryz.ntmps28
  go_wp2_with fail
  refine Calls.mono C.out ?_
  rintro e w1 ⟨rfl, hm⟩
  have M : Hid _ := hm
  clear hm C
  go_wp2
  go_ret2
  exact ⟨ret_zero (get_zero _ _ _), M.out⟩

set_option maxHeartbeats 400000 in
theorem hdo_6 : HDoSays 6 := by
  intro h N w m s c n p hf
  have e : doS c s 6 n = setS s n := by simp [doS]
  rw [e]
  have C : Hid (Calls Tryz.prog 46 #[.pointer (some ⟨h, 0, none⟩), .int .i64 n] w (HDone h N w m c (setS s n))) := by
    have d := hset_do h N w m n p.pre
    rw [p.hs.st] at d
    exact d.mono fun e w' x => x.done p.hs
  clear p e hf
  go_enter Tryz.func28, Tryz.ntmps28
  go_wp2_with fail
  refine Calls.mono C.out ?_
  rintro e w1 ⟨rfl, hm⟩
  have M : Hid _ := hm
  clear hm C
  go_wp2
  go_ret2
  exact ⟨ret_zero (set_zero _ _), M.out⟩

set_option maxHeartbeats 400000 in
theorem hdo_7 : HDoSays 7 := by
  intro h N w m s c n p hf
  have e : doS c s 7 n = loadS c.deep s n := by simp [doS]
  rw [e]
  have C : Hid (Calls Tryz.prog 47 #[.pointer (some ⟨h, 0, none⟩), .int .i64 n] w (HDone h N w m c (loadS c.deep s n))) := by
    have d := hload_do h N w m n p.pre
    rw [p.hs.st, p.hs.deep] at d
    exact d.mono fun e w' x => x.done p.hs
  clear p e hf
  go_enter Tryz.func28, Tryz.ntmps28
  go_wp2_with fail
  refine Calls.mono C.out ?_
  rintro e w1 ⟨rfl, hm⟩
  have M : Hid _ := hm
  clear hm C
  go_wp2
  go_ret2
  exact ⟨ret_zero (load_zero _ _ _), M.out⟩

set_option maxHeartbeats 400000 in
theorem hdo_8 : HDoSays 8 := by
  intro h N w m s c n p hf
  have e : doS c s 8 n = storeS c s n := by simp [doS]
  rw [e]
  have C : Hid (Calls Tryz.prog 48 #[.pointer (some ⟨h, 0, none⟩), .int .i64 n] w (HDone h N w m c (storeS c s n))) := store_done p n
  clear p e hf
  go_enter Tryz.func28, Tryz.ntmps28
  go_wp2_with fail
  refine Calls.mono C.out ?_
  rintro e w1 ⟨rfl, hm⟩
  have M : Hid _ := hm
  clear hm C
  go_wp2
  go_ret2
  exact ⟨ret_zero (store_zero _ _ _), M.out⟩

set_option maxHeartbeats 400000 in
theorem hdo_9 : HDoSays 9 := by
  intro h N w m s c n p hf
  have e : doS c s 9 n = sameS s := by simp [doS]
  rw [e]
  have C : Hid (Calls Tryz.prog 49 #[.pointer (some ⟨h, 0, none⟩)] w (HDone2 h N w m c (sameS s))) := by
    have d := hsame_do h N w m p.pre
    rw [p.hs.st] at d
    exact d.mono fun e w' x => x.done p.hs
  clear p e hf
  go_enter Tryz.func28, Tryz.ntmps28
  go_wp2_with fail
  refine Calls.mono C.out ?_
  rintro e w1 ⟨rfl, hm⟩
  have M : Hid _ := hm
  clear hm C
  go_wp2
  go_ret2
  exact ⟨rfl, M.out⟩

set_option maxHeartbeats 400000 in
theorem hdo_10 : HDoSays 10 := by
  intro h N w m s c n p hf
  have e : doS c s 10 n = takeS s := by simp [doS]
  rw [e]
  have C : Hid (Calls Tryz.prog 50 #[.pointer (some ⟨h, 0, none⟩)] w (HDone2 h N w m c (takeS s))) := by
    have d := htake_do h N w m p.pre
    rw [p.hs.st] at d
    exact d.mono fun e w' x => x.done p.hs
  clear p e hf
  go_enter Tryz.func28, Tryz.ntmps28
  go_wp2_with fail
  refine Calls.mono C.out ?_
  rintro e w1 ⟨rfl, hm⟩
  have M : Hid _ := hm
  clear hm C
  go_wp2
  go_ret2
  exact ⟨rfl, M.out⟩

set_option maxHeartbeats 400000 in
theorem hdo_11 : HDoSays 11 := by
  intro h N w m s c n p hf
  have e : doS c s 11 n = sizeS s := by simp [doS]
  rw [e]
  have C : Hid (Calls Tryz.prog 51 #[.pointer (some ⟨h, 0, none⟩)] w (HDone2 h N w m c (sizeS s))) := by
    have d := hsize_do h N w m p.pre
    rw [p.hs.st] at d
    exact d.mono fun e w' x => x.done p.hs
  clear p e hf
  go_enter Tryz.func28, Tryz.ntmps28
  go_wp2_with fail
  refine Calls.mono C.out ?_
  rintro e w1 ⟨rfl, hm⟩
  have M : Hid _ := hm
  clear hm C
  go_wp2
  go_ret2
  exact ⟨rfl, M.out⟩

set_option maxHeartbeats 400000 in
theorem hdo_12 : HDoSays 12 := by
  intro h N w m s c n p hf
  have e : doS c s 12 n = kindS s := by simp [doS]
  rw [e]
  have C : Hid (Calls Tryz.prog 52 #[.pointer (some ⟨h, 0, none⟩)] w (HDone2 h N w m c (kindS s))) := by
    have d := hkind_do h N w m p.pre
    rw [p.hs.st] at d
    exact d.mono fun e w' x => x.done p.hs
  clear p e hf
  go_enter Tryz.func28, Tryz.ntmps28
  go_wp2_with fail
  refine Calls.mono C.out ?_
  rintro e w1 ⟨rfl, hm⟩
  have M : Hid _ := hm
  clear hm C
  go_wp2
  go_ret2
  exact ⟨rfl, M.out⟩

set_option maxHeartbeats 400000 in
theorem hdo_none (op : Int) (h0 : ¬ op = 0) (h1 : ¬ op = 1) (h2 : ¬ op = 2) (h3 : ¬ op = 3) (h4 : ¬ op = 4) (h5 : ¬ op = 5) (h6 : ¬ op = 6) (h7 : ¬ op = 7) (h8 : ¬ op = 8) (h9 : ¬ op = 9) (h10 : ¬ op = 10) (h11 : ¬ op = 11) (h12 : ¬ op = 12) : HDoSays op := by
  intro h N w m s c n p hf
  have e : doS c s op n = (s, 0, 2) := by simp [doS, h0, h1, h2, h3, h4, h5, h6, h7, h8, h9, h10, h11, h12]
  rw [e]
  have M : Hid (∃ m', HTurn h w m w m' ∧ HS m' s c N) := ⟨m, .refl p.r, p.hs⟩
  have q0 : (op == 0) = false := by simpa using h0
  have q1 : (op == 1) = false := by simpa using h1
  have q2 : (op == 2) = false := by simpa using h2
  have q3 : (op == 3) = false := by simpa using h3
  have q4 : (op == 4) = false := by simpa using h4
  have q5 : (op == 5) = false := by simpa using h5
  have q6 : (op == 6) = false := by simpa using h6
  have q7 : (op == 7) = false := by simpa using h7
  have q8 : (op == 8) = false := by simpa using h8
  have q9 : (op == 9) = false := by simpa using h9
  have q10 : (op == 10) = false := by simpa using h10
  have q11 : (op == 11) = false := by simpa using h11
  have q12 : (op == 12) = false := by simpa using h12
  clear p e hf
  go_enter Tryz.func28, Tryz.ntmps28
  go_wp2
  go_ret2
  exact ⟨rfl, M.out⟩

theorem hdo_any (op : Int) : HDoSays op := by
  by_cases h0 : op = 0
  · subst h0; exact hdo_0
  by_cases h1 : op = 1
  · subst h1; exact hdo_1
  by_cases h2 : op = 2
  · subst h2; exact hdo_2
  by_cases h3 : op = 3
  · subst h3; exact hdo_3
  by_cases h4 : op = 4
  · subst h4; exact hdo_4
  by_cases h5 : op = 5
  · subst h5; exact hdo_5
  by_cases h6 : op = 6
  · subst h6; exact hdo_6
  by_cases h7 : op = 7
  · subst h7; exact hdo_7
  by_cases h8 : op = 8
  · subst h8; exact hdo_8
  by_cases h9 : op = 9
  · subst h9; exact hdo_9
  by_cases h10 : op = 10
  · subst h10; exact hdo_10
  by_cases h11 : op = 11
  · subst h11; exact hdo_11
  by_cases h12 : op = 12
  · subst h12; exact hdo_12
  exact hdo_none op h0 h1 h2 h3 h4 h5 h6 h7 h8 h9 h10 h11 h12

end Go.Proofs.YtbdkbkcjdbgloaaGreatDoor

/- OUR OWN. The program's contracts: New's heap; Do, where a block is free or the queue is not empty. -/
namespace Go.Proofs.YtbdkbkcjdbgloaaGreatDoor
open Go.RowKit
set_option linter.unusedVariables false
set_option linter.unusedSimpArgs false

theorem count_none (b g : Nat) (x : Int) : (⟨[], List.replicate g (0, 0), List.replicate (b + 1) Ob.free, []⟩ : St).count x = 0 := by
  unfold St.count
  simp only [List.replicate_succ, List.tail_cons]
  induction b with
  | zero => rfl
  | succ b ih => rw [List.replicate_succ, List.map_cons, List.sum_cons, ih]; rfl

theorem fresh_hs (b s g u z o : Nat) (h : cfgB b s g u z o = true) (hm : HeapM) (hn : NewM b s g u z o hm) : HS hm ⟨[], List.replicate g (0, 0), List.replicate (b + 1) Ob.free, []⟩ ⟨s, u, z, o⟩ b := by
  obtain ⟨vG, vB, rfl⟩ := hn
  refine ⟨?_, rfl, rfl, rfl, rfl, fun x hx => ?_, fun i x hx hs => ?_⟩
  · have e : HObj.free.ob = Ob.free := by simp [HObj.free, HObj.ob, Ob.free]
    simp [HeapM.st, newM, e]
  · have : x = HObj.free := by simp [newM] at hx; exact hx
    subst this; exact .inl rfl
  · have hx' : x ∈ (newM b s g u z o vG vB).blks := List.mem_of_getElem? hx
    have : x = HObj.free := by simp [newM] at hx'; exact hx'
    subst this
    rcases hs with e | e <;> simp [HObj.free] at e

theorem do_pact : DoPact HS room3 := by
  intro x N w hm s c op n hat hs g cf hN h16 h8 hop hn hroom
  exact (hdo_any op x N w hm s c n ⟨hat, hs, g, cf, hN, h16, h8⟩ hroom).mono fun e w' ⟨he, m', ht, hs'⟩ => ⟨he, m', ht, hs'⟩
theorem do_pact2 : DoPact HS room2 := fun x N w hm s c op n hat hs g cf hN h16 h8 hop hn hroom => do_pact x N w hm s c op n hat hs g cf hN h16 h8 hop hn fun h => .inl (hroom h)

end Go.Proofs.YtbdkbkcjdbgloaaGreatDoor

/- OUR OWN. The program's Gauge: the contract. -/
namespace Go.Proofs.YtbdkbkcjdbgloaaGreatDoor
open Go.RowKit
set_option linter.unusedVariables false
set_option linter.unusedSimpArgs false

theorem gauge_of {m : HeapM} {s : St} {c : Cf} {N : Nat} (p : HSb 0 m s c N) (g : s.Good N) : gaugeS s = (countTo (m.inB 0) N, countTo (s.others 0) N, s.queue.length, countTo s.extra N, countTo (m.inB 2) N) := by
  have hl : m.blks.length = N + 1 := by
    have := g.len
    rw [← p.st] at this
    simpa [HeapM.st] using this
  have hob : ∀ i, i ≤ N → ∃ o, m.blks[i]? = some o ∧ s.ob i = o.ob := fun i hi => ⟨m.blks[i]'(by omega), List.getElem?_eq_getElem (by omega), by rw [← p.st]; exact hst_ob (List.getElem?_eq_getElem (by omega))⟩
  unfold gaugeS St.extras
  rw [g.sN]
  have e1 : countTo s.frees N = countTo (m.inB 0) N := countTo_congr fun b h1 h2 => by
    obtain ⟨o, ho, he⟩ := hob b h2
    unfold St.frees HeapM.inB
    rw [ho, he]
    simp [HObj.ob]
  have e2 : countTo s.waits N = countTo (s.others 0) N := countTo_congr fun b h1 h2 => by
    unfold St.others
    rw [decide_eq_true (by omega), Bool.and_true]
  have e3 : countTo s.stucks N = countTo (m.inB 2) N := countTo_congr fun b h1 h2 => by
    obtain ⟨o, ho, he⟩ := hob b h2
    unfold St.stucks HeapM.inB
    rw [ho, he]
    by_cases h : o.state = 2
    · simp [HObj.ob, h]
    · simp [HObj.ob, h]
  rw [e1, e2, e3]

theorem box5 {W : World} {L : Nat} {t : TypeId} {x0 x1 x2 x3 x4 a b c d e : Value} (h : W.heap[L]? = some (.cells #[x0, x1, x2, x3, x4] t)) :
    (((((W.setCell ⟨L, 0, none⟩ a).setCell ⟨L, 1, none⟩ b).setCell ⟨L, 2, none⟩ c).setCell ⟨L, 3, none⟩ d).setCell ⟨L, 4, none⟩ e).heap[L]? = some (.cells #[a, b, c, d, e] t) := by
  rw [heap_setCell_at (heap_setCell_at (heap_setCell_at (heap_setCell_at (heap_setCell_at h a) b) c) d) e]; rfl
theorem below_set {w W : World} (hb : Below w.heap.size w W) (i : Nat) (v : Value) : Below w.heap.size w (W.setCell ⟨w.heap.size, i, none⟩ v) :=
  ⟨hb.os, hb.tape, hb.output, by have := hb.size; simpa [World.setCell] using this, fun k hk => by rw [hso (by omega)]; exact hb.block k hk⟩

set_option maxRecDepth 20000 in
set_option maxHeartbeats 4000000 in
theorem gauge_done {h : Nat} {w : World} {m : HeapM} {s : St} {c : Cf} {N : Nat} (p : HB 0 h w m s c N) :
    Calls Tryz.prog 30 #[.pointer (some ⟨h, 0, none⟩)] w fun e w' =>
      e = .returned (.agg #[.int .i64 (gaugeS s).1, .int .i64 (gaugeS s).2.1, .int .i64 (gaugeS s).2.2.1, .int .i64 (gaugeS s).2.2.2.1, .int .i64 (gaugeS s).2.2.2.2]) ∧ Below w.heap.size w w' := by
  obtain ⟨qao, qcp, hvQ⟩ := win_slice p.r.queue
  rw [gauge_of p.hs p.good]
  simp only
  have K : Hid (∀ W, Below w.heap.size w W → W.cell? ⟨h, 7, none⟩ = some (.slice qao s.queue.length qcp) ∧
      (Calls Tryz.prog 58 #[.pointer (some ⟨h, 0, none⟩), .int .i64 0] W fun e w' => e = .returned (.int .i64 (countTo (m.inB 0) N)) ∧ Below W.heap.size W w') ∧
      (Calls Tryz.prog 59 #[.pointer (some ⟨h, 0, none⟩)] W fun e w' => e = .returned (.int .i64 (countTo (s.others 0) N)) ∧ Below W.heap.size W w') ∧
      (Calls Tryz.prog 60 #[.pointer (some ⟨h, 0, none⟩)] W fun e w' => e = .returned (.int .i64 (countTo s.extra N)) ∧ Below W.heap.size W w') ∧
      (Calls Tryz.prog 58 #[.pointer (some ⟨h, 0, none⟩), .int .i64 2] W fun e w' => e = .returned (.int .i64 (countTo (m.inB 2) N)) ∧ Below W.heap.size W w')) := by
    have cell : ∀ W, Below w.heap.size w W → W.cell? ⟨h, 7, none⟩ = some (.slice qao s.queue.length qcp) := fun W hb => by
      rw [(p.below hb).r.cell.2.2.2.2.1, hvQ, p.mqueue]
    intro W hb
    refine ⟨cell W hb, ?_, ?_, ?_, ?_⟩
    · exact (inState_any (p.below hb) 0).mono fun e w' ⟨he, hw⟩ => ⟨he, by rw [hw]; exact Below.refl _ _⟩
    · exact (waiting_any (p.below hb)).mono fun e w' ⟨he, hb2⟩ => ⟨he, hb2⟩
    · exact (hextras_any (p.below hb)).mono fun e w' ⟨he, hb2⟩ => ⟨he, hb2⟩
    · exact (inState_any (p.below hb) 2).mono fun e w' ⟨he, hw⟩ => ⟨he, by rw [hw]; exact Below.refl _ _⟩
  have c0 := (K.out w (Below.refl _ _)).1
  obtain ⟨n1, hn1⟩ : ∃ n, countTo (m.inB 0) N = n := ⟨_, rfl⟩
  obtain ⟨n2, hn2⟩ : ∃ n, countTo (s.others 0) N = n := ⟨_, rfl⟩
  obtain ⟨n3, hn3⟩ : ∃ n, s.queue.length = n := ⟨_, rfl⟩
  obtain ⟨n4, hn4⟩ : ∃ n, countTo s.extra N = n := ⟨_, rfl⟩
  obtain ⟨n5, hn5⟩ : ∃ n, countTo (m.inB 2) N = n := ⟨_, rfl⟩
  rw [hn1, hn2, hn3, hn4, hn5] at K
  rw [hn1, hn2, hn3, hn4, hn5]
  rw [hn3] at c0
  clear p hvQ hn1 hn2 hn3 hn4 hn5
  have NX : Hid (∀ W w', Below w.heap.size w W → W.heap[w.heap.size]? = some (.cells #[.int .i64 0, .int .i64 0, .int .i64 0, .int .i64 0, .int .i64 0] 66) → Below W.heap.size W w' → Below w.heap.size w w' ∧ w'.cell? ⟨h, 7, none⟩ = some (.slice qao n3 qcp) ∧ w'.heap[w.heap.size]? = some (.cells #[.int .i64 0, .int .i64 0, .int .i64 0, .int .i64 0, .int .i64 0] 66)) := fun W w' hb hx hb2 => by
    have hbb : Below w.heap.size w w' := hb.trans (hb2.mono hb.size)
    exact ⟨hbb, (K.out w' hbb).1, by rw [hb2.block _ (lt_of_heap hx)]; exact hx⟩
  have c1 := (K.out (w.alloc (.cells #[.int .i64 0, .int .i64 0, .int .i64 0, .int .i64 0, .int .i64 0] 66)) ((Below.refl _ _).alloc (Nat.le_refl _) _)).1
  go_enter Tryz.func30, Tryz.ntmps30
  go_wp2_with fail
  first | go_region_with (first | (go_at_call 58; refine Calls.mono (K.out _ B3.out.1).2.2.2.2 ?_; rintro e w4 ⟨rfl, hb⟩; obtain ⟨b4, g4, x4⟩ := NX.out _ w4 B3.out.1 B3.out.2 hb; have B4 : Hid _ := And.intro b4 x4; clear b4 x4 hb; have y0 := cell_of_heap (i := 0) B4.out.2 rfl; have y1 := cell_of_heap (i := 1) B4.out.2 rfl; have y2 := cell_of_heap (i := 2) B4.out.2 rfl; have y3 := cell_of_heap (i := 3) B4.out.2 rfl; have y4 := cell_of_heap (i := 4) B4.out.2 rfl; have z0 := frozen_of_heap (i := 0) B4.out.2; have z1 := frozen_of_heap (i := 1) B4.out.2; have z2 := frozen_of_heap (i := 2) B4.out.2; have z3 := frozen_of_heap (i := 3) B4.out.2; have z4 := frozen_of_heap (i := 4) B4.out.2) | (go_at_call 60; refine Calls.mono (K.out _ B2.out.1).2.2.2.1 ?_; rintro e w3 ⟨rfl, hb⟩; obtain ⟨b3, g3, x3⟩ := NX.out _ w3 B2.out.1 B2.out.2 hb; have B3 : Hid _ := And.intro b3 x3; clear b3 x3 hb) | (go_at_call 59; refine Calls.mono (K.out _ B1.out.1).2.2.1 ?_; rintro e w2 ⟨rfl, hb⟩; obtain ⟨b2, g2, x2⟩ := NX.out _ w2 B1.out.1 B1.out.2 hb; have B2 : Hid _ := And.intro b2 x2; clear b2 x2 hb) | (go_at_call 58; refine Calls.mono (K.out _ ((Below.refl _ _).alloc (Nat.le_refl _) _).drew).2.1 ?_; rintro e w1 ⟨rfl, hb⟩; obtain ⟨b1, g1, x1⟩ := NX.out _ w1 ((Below.refl _ _).alloc (Nat.le_refl _) _).drew (heap_alloc_new w _) hb; have B1 : Hid _ := And.intro b1 x1; clear b1 x1 hb)) | fail "region"
  all_goals go_wp2
  all_goals
    have hx := box5 (a := .int .i64 n1) (b := .int .i64 n2) (c := .int .i64 n3) (d := .int .i64 n4) (e := .int .i64 n5) B4.out.2
    have BB := below_set (below_set (below_set (below_set (below_set B4.out.1 0 (.int .i64 n1)) 1 (.int .i64 n2)) 2 (.int .i64 n3)) 3 (.int .i64 n4)) 4 (.int .i64 n5)
    obtain ⟨w5, hw5⟩ : ∃ w5, ((((w4.setCell ⟨w.heap.size, 0, none⟩ (.int .i64 n1)).setCell ⟨w.heap.size, 1, none⟩ (.int .i64 n2)).setCell ⟨w.heap.size, 2, none⟩ (.int .i64 n3)).setCell ⟨w.heap.size, 3, none⟩ (.int .i64 n4)).setCell ⟨w.heap.size, 4, none⟩ (.int .i64 n5) = w5 := ⟨_, rfl⟩
    rw [hw5] at hx BB ⊢
    have u0 := cell_of_heap (i := 0) hx rfl
    have u1 := cell_of_heap (i := 1) hx rfl
    have u2 := cell_of_heap (i := 2) hx rfl
    have u3 := cell_of_heap (i := 3) hx rfl
    have u4 := cell_of_heap (i := 4) hx rfl
    exact bodyPost_ret (v := .agg #[.int .i64 n1, .int .i64 n2, .int .i64 n3, .int .i64 n4, .int .i64 n5]) (by simp [results, Tryz.results30, go_sem, u0, u1, u2, u3, u4]) rfl ⟨rfl, BB⟩

theorem gauge_pact : GaugePact HS := by
  intro x N w hm s c hat hs g cf hN h16 h8
  exact (gauge_done ⟨hat, hs, g, cf, hN, h16, h8⟩).mono fun e w' ⟨he, hb⟩ => ⟨he, hm, .of_below hat hb, hs⟩

end Go.Proofs.YtbdkbkcjdbgloaaGreatDoor

