import Derived.Test.YtpmkjeihbddfpabDoorCoRFB7
import Derived.Lib.LaidTab
import Derived.Lib.ItoaNum
/- OUR OWN. The table of the library's that strconv reads: where it lies, and that it stays. -/
namespace Go.Proofs.YtpmkjeihbddfpabDoor
open Go.RowKit
set_option linter.unusedVariables false
set_option linter.unusedSimpArgs false

theorem tabNamed : Tryd.prog.globalNamed "internal/strconv.uint64pow10" = some 0 := by kernel_rfl
/-- the table's block lies below B, and holds the powers of ten -/
def Tab (B : Nat) (w : World) : Prop := 0 < B ∧ 0 < w.heap.size ∧ Lib.TabIs Tryd.prog w "internal/strconv.uint64pow10" .u64 Lib.pow10Tab
theorem Tab.keep {B : Nat} {w w' : World} (t : Tab B w) (hs : w.heap.size ≤ w'.heap.size) (h : ∀ k, k < B → k < w.heap.size → w'.heap[k]? = w.heap[k]?) : Tab B w' := by
  refine ⟨t.1, by have := t.2.1; omega, ?_⟩
  have h2 := t.2.2
  unfold Lib.TabIs World.var? at h2 ⊢
  rw [tabNamed] at h2 ⊢
  simp only [Option.bind_some] at h2 ⊢
  rw [h _ t.1 t.2.1]
  exact h2
theorem Tab.below {B : Nat} {w w' : World} (t : Tab B w) (h : Below w.heap.size w w') : Tab B w' := t.keep h.size fun k _ h2 => h.block k h2
theorem Tab.off {B : Nat} {F : List Nat} {w w' : World} (t : Tab B w) (h : Off F w w') (hF : ∀ g ∈ F, B ≤ g) : Tab B w' := t.keep h.size fun k h1 h2 => h.block k h2 fun e => by have := hF k e; omega

end Go.Proofs.YtpmkjeihbddfpabDoor

/- OUR OWN. The program's heap: Do. -/
namespace Go.Proofs.YtpmkjeihbddfpabDoor
open Go.RowKit
set_option linter.unusedVariables false
set_option linter.unusedSimpArgs false

def HDoSays (op : Int) : Prop := ∀ (h N : Nat) (w : World) (m : HeapM) (s : St) (c : Cf) (n : Int), HB 0 h w m s c N → True →
  Calls Tryd.prog 10 #[.pointer (some ⟨h, 0, none⟩), .int .i64 op, .int .i64 n] w (HDone2 h N w m c (doS c s op n))

set_option maxHeartbeats 400000 in
theorem hdo_0 : HDoSays 0 := by
  intro h N w m s c n p hf
  have e : doS c s 0 n = pushA c.deep s (0, 0) := by simp [doS]
  rw [e]
  have C : Hid (Calls Tryd.prog 26 #[.pointer (some ⟨h, 0, none⟩), .agg #[.int .i64 0, .int .i64 0]] w (HDone h N w m c (pushA c.deep s (0, 0)))) := by
    have d := hpush_do p.pre (0, 0)
    rw [p.hs.st, p.hs.deep] at d
    exact d.mono fun e w' x => x.done p.hs
  clear p e hf
  go_enter Tryd.func10, Tryd.ntmps10
  go_wp2_with fail
  refine Calls.mono C.out ?_
  rintro e w1 ⟨rfl, hm⟩
  have M : Hid _ := hm
  clear hm C
  go_wp2
  go_ret2
  exact ⟨ret_zero (push_zero _ _ _), M.out⟩

set_option maxHeartbeats 400000 in
theorem hdo_1 : HDoSays 1 := by
  intro h N w m s c n p hf
  have e : doS c s 1 n = pushA c.deep s (1, n) := by simp [doS]
  rw [e]
  have C : Hid (Calls Tryd.prog 26 #[.pointer (some ⟨h, 0, none⟩), .agg #[.int .i64 1, .int .i64 n]] w (HDone h N w m c (pushA c.deep s (1, n)))) := by
    have d := hpush_do p.pre (1, n)
    rw [p.hs.st, p.hs.deep] at d
    exact d.mono fun e w' x => x.done p.hs
  clear p e hf
  go_enter Tryd.func10, Tryd.ntmps10
  go_wp2_with fail
  refine Calls.mono C.out ?_
  rintro e w1 ⟨rfl, hm⟩
  have M : Hid _ := hm
  clear hm C
  go_wp2
  go_ret2
  exact ⟨ret_zero (push_zero _ _ _), M.out⟩

set_option maxHeartbeats 400000 in
theorem hdo_2 : HDoSays 2 := by
  intro h N w m s c n p hf
  have e : doS c s 2 n = newS c s n := by simp [doS]
  rw [e]
  have C : Hid (Calls Tryd.prog 27 #[.pointer (some ⟨h, 0, none⟩), .int .i64 n] w (HDone h N w m c (newS c s n))) := new_done p n
  clear p e hf
  go_enter Tryd.func10, Tryd.ntmps10
  go_wp2_with fail
  refine Calls.mono C.out ?_
  rintro e w1 ⟨rfl, hm⟩
  have M : Hid _ := hm
  clear hm C
  go_wp2
  go_ret2
  exact ⟨ret_zero (new_zero _ _ _), M.out⟩

set_option maxHeartbeats 400000 in
theorem hdo_3 : HDoSays 3 := by
  intro h N w m s c n p hf
  have e : doS c s 3 n = dupS c.deep s n := by simp [doS]
  rw [e]
  have C : Hid (Calls Tryd.prog 28 #[.pointer (some ⟨h, 0, none⟩), .int .i64 n] w (HDone h N w m c (dupS c.deep s n))) := by
    have d := hdup_do h N w m n p.pre
    rw [p.hs.st, p.hs.deep] at d
    exact d.mono fun e w' x => x.done p.hs
  clear p e hf
  go_enter Tryd.func10, Tryd.ntmps10
  go_wp2_with fail
  refine Calls.mono C.out ?_
  rintro e w1 ⟨rfl, hm⟩
  have M : Hid _ := hm
  clear hm C
  go_wp2
  go_ret2
  exact ⟨ret_zero (dup_zero _ _ _), M.out⟩

set_option maxHeartbeats 400000 in
theorem hdo_4 : HDoSays 4 := by
  intro h N w m s c n p hf
  have e : doS c s 4 n = dropS s := by simp [doS]
  rw [e]
  have C : Hid (Calls Tryd.prog 29 #[.pointer (some ⟨h, 0, none⟩)] w (HDone h N w m c (dropS s))) := by
    have d := hdrop_do h N w m p.pre
    rw [p.hs.st] at d
    exact d.mono fun e w' x => x.done p.hs
  clear p e hf
  go_enter Tryd.func10, Tryd.ntmps10
  go_wp2_with fail
  refine Calls.mono C.out ?_
  rintro e w1 ⟨rfl, hm⟩
  have M : Hid _ := hm
  clear hm C
  go_wp2
  go_ret2
  exact ⟨ret_zero (drop_zero _), M.out⟩

set_option maxHeartbeats 400000 in
theorem hdo_5 : HDoSays 5 := by
  intro h N w m s c n p hf
  have e : doS c s 5 n = getS c.deep s n := by simp [doS]
  rw [e]
  have C : Hid (Calls Tryd.prog 30 #[.pointer (some ⟨h, 0, none⟩), .int .i64 n] w (HDone h N w m c (getS c.deep s n))) := by
    have d := hget_do h N w m n p.pre
    rw [p.hs.st, p.hs.deep] at d
    exact d.mono fun e w' x => x.done p.hs
  clear p e hf
  go_enter Tryd.func10, Tryd.ntmps10
  go_wp2_with fail
  refine Calls.mono C.out ?_
  rintro e w1 ⟨rfl, hm⟩
  have M : Hid _ := hm
  clear hm C
  go_wp2
  go_ret2
  exact ⟨ret_zero (get_zero _ _ _), M.out⟩

set_option maxHeartbeats 400000 in
theorem hdo_6 : HDoSays 6 := by
  intro h N w m s c n p hf
  have e : doS c s 6 n = setS s n := by simp [doS]
  rw [e]
  have C : Hid (Calls Tryd.prog 31 #[.pointer (some ⟨h, 0, none⟩), .int .i64 n] w (HDone h N w m c (setS s n))) := by
    have d := hset_do h N w m n p.pre
    rw [p.hs.st] at d
    exact d.mono fun e w' x => x.done p.hs
  clear p e hf
  go_enter Tryd.func10, Tryd.ntmps10
  go_wp2_with fail
  refine Calls.mono C.out ?_
  rintro e w1 ⟨rfl, hm⟩
  have M : Hid _ := hm
  clear hm C
  go_wp2
  go_ret2
  exact ⟨ret_zero (set_zero _ _), M.out⟩

set_option maxHeartbeats 400000 in
theorem hdo_7 : HDoSays 7 := by
  intro h N w m s c n p hf
  have e : doS c s 7 n = loadS c.deep s n := by simp [doS]
  rw [e]
  have C : Hid (Calls Tryd.prog 32 #[.pointer (some ⟨h, 0, none⟩), .int .i64 n] w (HDone h N w m c (loadS c.deep s n))) := by
    have d := hload_do h N w m n p.pre
    rw [p.hs.st, p.hs.deep] at d
    exact d.mono fun e w' x => x.done p.hs
  clear p e hf
  go_enter Tryd.func10, Tryd.ntmps10
  go_wp2_with fail
  refine Calls.mono C.out ?_
  rintro e w1 ⟨rfl, hm⟩
  have M : Hid _ := hm
  clear hm C
  go_wp2
  go_ret2
  exact ⟨ret_zero (load_zero _ _ _), M.out⟩

set_option maxHeartbeats 400000 in
theorem hdo_8 : HDoSays 8 := by
  intro h N w m s c n p hf
  have e : doS c s 8 n = storeS c s n := by simp [doS]
  rw [e]
  have C : Hid (Calls Tryd.prog 33 #[.pointer (some ⟨h, 0, none⟩), .int .i64 n] w (HDone h N w m c (storeS c s n))) := store_done p n
  clear p e hf
  go_enter Tryd.func10, Tryd.ntmps10
  go_wp2_with fail
  refine Calls.mono C.out ?_
  rintro e w1 ⟨rfl, hm⟩
  have M : Hid _ := hm
  clear hm C
  go_wp2
  go_ret2
  exact ⟨ret_zero (store_zero _ _ _), M.out⟩

set_option maxHeartbeats 400000 in
theorem hdo_9 : HDoSays 9 := by
  intro h N w m s c n p hf
  have e : doS c s 9 n = sameS s := by simp [doS]
  rw [e]
  have C : Hid (Calls Tryd.prog 34 #[.pointer (some ⟨h, 0, none⟩)] w (HDone2 h N w m c (sameS s))) := by
    have d := hsame_do h N w m p.pre
    rw [p.hs.st] at d
    exact d.mono fun e w' x => x.done p.hs
  clear p e hf
  go_enter Tryd.func10, Tryd.ntmps10
  go_wp2_with fail
  refine Calls.mono C.out ?_
  rintro e w1 ⟨rfl, hm⟩
  have M : Hid _ := hm
  clear hm C
  go_wp2
  go_ret2
  exact ⟨rfl, M.out⟩

set_option maxHeartbeats 400000 in
theorem hdo_10 : HDoSays 10 := by
  intro h N w m s c n p hf
  have e : doS c s 10 n = takeS s := by simp [doS]
  rw [e]
  have C : Hid (Calls Tryd.prog 35 #[.pointer (some ⟨h, 0, none⟩)] w (HDone2 h N w m c (takeS s))) := by
    have d := htake_do h N w m p.pre
    rw [p.hs.st] at d
    exact d.mono fun e w' x => x.done p.hs
  clear p e hf
  go_enter Tryd.func10, Tryd.ntmps10
  go_wp2_with fail
  refine Calls.mono C.out ?_
  rintro e w1 ⟨rfl, hm⟩
  have M : Hid _ := hm
  clear hm C
  go_wp2
  go_ret2
  exact ⟨rfl, M.out⟩

set_option maxHeartbeats 400000 in
theorem hdo_11 : HDoSays 11 := by
  intro h N w m s c n p hf
  have e : doS c s 11 n = sizeS s := by simp [doS]
  rw [e]
  have C : Hid (Calls Tryd.prog 36 #[.pointer (some ⟨h, 0, none⟩)] w (HDone2 h N w m c (sizeS s))) := by
    have d := hsize_do h N w m p.pre
    rw [p.hs.st] at d
    exact d.mono fun e w' x => x.done p.hs
  clear p e hf
  go_enter Tryd.func10, Tryd.ntmps10
  go_wp2_with fail
  refine Calls.mono C.out ?_
  rintro e w1 ⟨rfl, hm⟩
  have M : Hid _ := hm
  clear hm C
  go_wp2
  go_ret2
  exact ⟨rfl, M.out⟩

set_option maxHeartbeats 400000 in
theorem hdo_12 : HDoSays 12 := by
  intro h N w m s c n p hf
  have e : doS c s 12 n = kindS s := by simp [doS]
  rw [e]
  have C : Hid (Calls Tryd.prog 37 #[.pointer (some ⟨h, 0, none⟩)] w (HDone2 h N w m c (kindS s))) := by
    have d := hkind_do h N w m p.pre
    rw [p.hs.st] at d
    exact d.mono fun e w' x => x.done p.hs
  clear p e hf
  go_enter Tryd.func10, Tryd.ntmps10
  go_wp2_with fail
  refine Calls.mono C.out ?_
  rintro e w1 ⟨rfl, hm⟩
  have M : Hid _ := hm
  clear hm C
  go_wp2
  go_ret2
  exact ⟨rfl, M.out⟩

set_option maxHeartbeats 400000 in
theorem hdo_none (op : Int) (h0 : ¬ op = 0) (h1 : ¬ op = 1) (h2 : ¬ op = 2) (h3 : ¬ op = 3) (h4 : ¬ op = 4) (h5 : ¬ op = 5) (h6 : ¬ op = 6) (h7 : ¬ op = 7) (h8 : ¬ op = 8) (h9 : ¬ op = 9) (h10 : ¬ op = 10) (h11 : ¬ op = 11) (h12 : ¬ op = 12) : HDoSays op := by
  intro h N w m s c n p hf
  have e : doS c s op n = (s, 0, 2) := by simp [doS, h0, h1, h2, h3, h4, h5, h6, h7, h8, h9, h10, h11, h12]
  rw [e]
  have M : Hid (∃ m', HTurn h w m w m' ∧ HS m' s c N) := ⟨m, .refl p.r, p.hs⟩
  have q0 : (op == 0) = false := by simpa using h0
  have q1 : (op == 1) = false := by simpa using h1
  have q2 : (op == 2) = false := by simpa using h2
  have q3 : (op == 3) = false := by simpa using h3
  have q4 : (op == 4) = false := by simpa using h4
  have q5 : (op == 5) = false := by simpa using h5
  have q6 : (op == 6) = false := by simpa using h6
  have q7 : (op == 7) = false := by simpa using h7
  have q8 : (op == 8) = false := by simpa using h8
  have q9 : (op == 9) = false := by simpa using h9
  have q10 : (op == 10) = false := by simpa using h10
  have q11 : (op == 11) = false := by simpa using h11
  have q12 : (op == 12) = false := by simpa using h12
  clear p e hf
  go_enter Tryd.func10, Tryd.ntmps10
  go_wp2
  go_ret2
  exact ⟨rfl, M.out⟩

theorem hdo_any (op : Int) : HDoSays op := by
  by_cases h0 : op = 0
  · subst h0; exact hdo_0
  by_cases h1 : op = 1
  · subst h1; exact hdo_1
  by_cases h2 : op = 2
  · subst h2; exact hdo_2
  by_cases h3 : op = 3
  · subst h3; exact hdo_3
  by_cases h4 : op = 4
  · subst h4; exact hdo_4
  by_cases h5 : op = 5
  · subst h5; exact hdo_5
  by_cases h6 : op = 6
  · subst h6; exact hdo_6
  by_cases h7 : op = 7
  · subst h7; exact hdo_7
  by_cases h8 : op = 8
  · subst h8; exact hdo_8
  by_cases h9 : op = 9
  · subst h9; exact hdo_9
  by_cases h10 : op = 10
  · subst h10; exact hdo_10
  by_cases h11 : op = 11
  · subst h11; exact hdo_11
  by_cases h12 : op = 12
  · subst h12; exact hdo_12
  exact hdo_none op h0 h1 h2 h3 h4 h5 h6 h7 h8 h9 h10 h11 h12

end Go.Proofs.YtpmkjeihbddfpabDoor

/- OUR OWN. The program's contracts: New's heap; Do, in every state. -/
namespace Go.Proofs.YtpmkjeihbddfpabDoor
open Go.RowKit
set_option linter.unusedVariables false
set_option linter.unusedSimpArgs false

theorem count_blank (b g : Nat) (x : Int) : (⟨[], List.replicate g (0, 0), List.replicate (b + 1) Ob.free, []⟩ : St).count x = 0 := by
  unfold St.count
  simp only [List.replicate_succ, List.tail_cons]
  induction b with
  | zero => rfl
  | succ b ih => rw [List.replicate_succ, List.map_cons, List.sum_cons, ih]; rfl

theorem fresh_hs (b s g u z o : Nat) (h : cfgB b s g u z o = true) (hm : HeapM) (hn : NewM b s g u z o hm) : HS hm ⟨[], List.replicate g (0, 0), List.replicate (b + 1) Ob.free, []⟩ ⟨s, u, z, o⟩ b := by
  obtain ⟨vG, vB, rfl⟩ := hn
  refine ⟨?_, rfl, rfl, rfl, rfl, fun x hx => ?_, fun i x hx hs => ?_⟩
  · have e : HObj.free.ob = Ob.free := by simp [HObj.free, HObj.ob, Ob.free]
    simp [HeapM.st, newM, e]
  · have : x = HObj.free := by simp [newM] at hx; exact hx
    subst this; exact .inl rfl
  · have hx' : x ∈ (newM b s g u z o vG vB).blks := List.mem_of_getElem? hx
    have : x = HObj.free := by simp [newM] at hx'; exact hx'
    subst this
    rcases hs with e | e <;> simp [HObj.free] at e

theorem do_all : DoPact HS fun _ => True := by
  intro x N w hm s c op n hat hs g cf hN h16 h8 hop hn _
  exact (hdo_any op x N w hm s c n ⟨hat, hs, g, cf, hN, h16, h8⟩ trivial).mono fun e w' ⟨he, m', ht, hs'⟩ => ⟨he, m', ht, hs'⟩
theorem do_pact : DoPact HS room3 := fun x N w hm s c op n hat hs g cf hN h16 h8 hop hn _ => do_all x N w hm s c op n hat hs g cf hN h16 h8 hop hn fun _ => trivial
theorem do_pact2 : DoPact HS room2 := fun x N w hm s c op n hat hs g cf hN h16 h8 hop hn _ => do_all x N w hm s c op n hat hs g cf hN h16 h8 hop hn fun _ => trivial

end Go.Proofs.YtpmkjeihbddfpabDoor

/- OUR OWN. The program's heap: Safepoint. -/
namespace Go.Proofs.YtpmkjeihbddfpabDoor
open Go.RowKit
set_option linter.unusedVariables false
set_option linter.unusedSimpArgs false

theorem safeN_end (z : Int) (k : Nat) (s : St) (h : k = 0 ∨ s.queue.length = 0) : safeN z k s = (s, 0) := by
  cases k with
  | zero => rfl
  | succ k =>
    rcases h with h | h
    · cases h
    · unfold safeN; rw [if_pos h]

set_option maxHeartbeats 1600000 in
theorem safepoint_any {h : Nat} {w : World} {m : HeapM} {s : St} {c : Cf} {N : Nat} (p : HB 0 h w m s c N) :
    Calls Tryd.prog 14 #[.pointer (some ⟨h, 0, none⟩)] w fun e w' => e = .returned (.int .i64 (s.safe c).2) ∧ ∃ m', HTurn h w m w' m' ∧ HS m' (s.safe c).1 c N := by
  obtain ⟨T, hT⟩ : ∃ T, s.safe c = T := ⟨_, rfl⟩
  rw [hT]
  obtain ⟨B, hB⟩ : ∃ B : Nat, c.budget = B := ⟨c.budget.toNat, by have := p.cf.budget; omega⟩
  have hB9 : B ≤ 99 := by have := p.cf.budget; omega
  have hT' : safeN c.zero B (s.sort 0) = T := by rw [← hT]; unfold St.safe; rw [hB, Int.toNat_natCast]
  have Inv : ∃ I : Nat → World → Prop, I = fun j wr => j ≤ B ∧ ∃ mr sj, HTurn h w m wr mr ∧ HB 0 h wr mr sj c N ∧ T.1 = (safeN c.zero (B - j) sj).1 ∧ T.2 = (safeN c.zero (B - j) sj).2 + j := ⟨_, rfl⟩
  obtain ⟨I, hI⟩ := Inv
  have SORT : Hid (Calls Tryd.prog 46 #[.pointer (some ⟨h, 0, none⟩)] w fun e w' => e = .returned (.tuple #[]) ∧ I 0 w') := by
    refine (sortWaiting_any p).mono ?_
    rintro e w' ⟨he, m', t, q⟩
    rw [hI]
    exact ⟨he, Nat.zero_le _, m', _, t, q, by rw [Nat.sub_zero, hT'], by rw [Nat.sub_zero, hT']; rfl⟩
  have CELL : Hid (∀ j wr, I j wr → j ≤ B ∧ wr.cell? ⟨h, 1, none⟩ = some (.int .i64 B) ∧ ∃ ao ql qc, wr.cell? ⟨h, 7, none⟩ = some (.slice ao ql qc) ∧ ql ≤ 100 ∧
      (j = B ∨ ql = 0 → ∀ W, Below wr.heap.size wr W → T.2 = j ∧ ∃ m', HTurn h w m W m' ∧ HS m' T.1 c N) ∧
      (j < B → ql ≠ 0 → ∀ W, Below wr.heap.size wr W → Calls Tryd.prog 47 #[.pointer (some ⟨h, 0, none⟩)] W fun e w' => e = .returned (.tuple #[]) ∧ I (j + 1) w')) := by
    intro j wr hi
    rw [hI] at hi
    obtain ⟨hj, mr, sj, t, q, h1, h2⟩ := hi
    obtain ⟨ao, qc, hvQ⟩ := win_slice q.r.queue
    refine ⟨hj, by rw [q.r.cellBudget, q.hs.budget, hB], ao, sj.queue.length, qc, by rw [q.r.cell.2.2.2.2.1, hvQ, q.mqueue], by have := q.good.queue_len; have := q.small; omega, fun he W hb => ?_, fun hlt hne W hb => ?_⟩
    · have e := safeN_end c.zero (B - j) sj (by omega)
      rw [e] at h1 h2
      exact ⟨by simpa using h2, mr, t.after hb, by rw [h1]; exact q.hs⟩
    · refine (freeFirst_any (q.below hb) hne).mono ?_
      rintro e w' ⟨he, m', t2, q2⟩
      rw [hI]
      obtain ⟨k, hk⟩ : ∃ k, B - j = k + 1 := ⟨B - j - 1, by omega⟩
      have hk1 : B - (j + 1) = k := by omega
      have es : safeN c.zero (B - j) sj = ((safeN c.zero k (sj.free c.zero)).1, (safeN c.zero k (sj.free c.zero)).2 + 1) := by rw [hk]; show (if _ then _ else _) = _; rw [if_neg hne]
      rw [es] at h1 h2
      exact ⟨he, by omega, m', _, (t.after hb).trans t2, q2, by rw [hk1, h1], by rw [hk1]; simp at h2; omega⟩
  clear p hT hT' hB hI
  go_enter Tryd.func14, Tryd.ntmps14
  go_wp2_with fail
  refine Calls.mono SORT.out ?_
  rintro e w1 ⟨rfl, hi⟩
  have I0 : Hid _ := hi
  clear hi SORT
  go_wp2
  go_loopw [3] (fun i wr => ∃ j : Nat, i = .int .i64 j ∧ I j wr) (fun i _ => B - (intOf i).toNat)
  case atStart => exact ⟨0, rfl, I0.out⟩
  case round =>
    obtain ⟨j, rfl, hi⟩ := hrel
    obtain ⟨hj, cB, ao, ql, qc, cQ, hql, hend, hgo⟩ := CELL.out j wr hi
    have EN : Hid _ := hend
    have GO : Hid _ := hgo
    clear hi hend hgo
    by_cases hlt : j < B
    · by_cases h0 : ql = 0
      · subst h0
        obtain ⟨hT, hm⟩ := EN.out (.inr rfl) wr (Below.refl _ _)
        have M : Hid _ := hm
        have hjI : (j : Int) < B := by omega
        clear hm EN GO
        obtain ⟨T1, T2⟩ := T
        simp only at hT M ⊢
        subst hT
        go_wp2
        go_ret
        exact ⟨rfl, M.out⟩
      · have R : Hid _ := GO.out hlt h0
        have hjI : (j : Int) < B := by omega
        have hqI : (0 : Int) < ql := by omega
        clear EN GO
        go_wp2_with fail
        refine Calls.mono (R.out _ (Below.refl _ _)) ?_
        rintro e w2 ⟨rfl, hm⟩
        have M : Hid _ := hm
        clear hm R cB cQ
        go_wp2
        go_roundw
        case rel => exact ⟨j + 1, by go_num, M.out⟩
        case measure => simp [intOf]; omega
    · obtain rfl : j = B := by omega
      obtain ⟨hT, hm⟩ := EN.out (.inl rfl) wr (Below.refl _ _)
      have M : Hid _ := hm
      clear hm EN GO
      obtain ⟨T1, T2⟩ := T
      simp only at hT M ⊢
      subst hT
      go_wp2
      go_ret
      exact ⟨rfl, M.out⟩

theorem safe_pact : SafePact HS := by
  intro x N w hm s c hat hs g cf hN h16 h8
  exact safepoint_any ⟨hat, hs, g, cf, hN, h16, h8⟩

end Go.Proofs.YtpmkjeihbddfpabDoor

/- OUR OWN. The program's Gauge: the contract. -/
namespace Go.Proofs.YtpmkjeihbddfpabDoor
open Go.RowKit
set_option linter.unusedVariables false
set_option linter.unusedSimpArgs false

theorem gauge_of {m : HeapM} {s : St} {c : Cf} {N : Nat} (p : HSb 0 m s c N) (g : s.Good N) : gaugeS s = (countTo (m.inB 0) N, countTo (s.others 0) N, s.queue.length, countTo s.extra N, countTo (m.inB 2) N) := by
  have hl : m.blks.length = N + 1 := by
    have := g.len
    rw [← p.st] at this
    simpa [HeapM.st] using this
  have hob : ∀ i, i ≤ N → ∃ o, m.blks[i]? = some o ∧ s.ob i = o.ob := fun i hi => ⟨m.blks[i]'(by omega), List.getElem?_eq_getElem (by omega), by rw [← p.st]; exact hst_ob (List.getElem?_eq_getElem (by omega))⟩
  unfold gaugeS St.extras
  rw [g.sN]
  have e1 : countTo s.frees N = countTo (m.inB 0) N := countTo_congr fun b h1 h2 => by
    obtain ⟨o, ho, he⟩ := hob b h2
    unfold St.frees HeapM.inB
    rw [ho, he]
    simp [HObj.ob]
  have e2 : countTo s.waits N = countTo (s.others 0) N := countTo_congr fun b h1 h2 => by
    unfold St.others
    rw [decide_eq_true (by omega), Bool.and_true]
  have e3 : countTo s.stucks N = countTo (m.inB 2) N := countTo_congr fun b h1 h2 => by
    obtain ⟨o, ho, he⟩ := hob b h2
    unfold St.stucks HeapM.inB
    rw [ho, he]
    by_cases h : o.state = 2
    · simp [HObj.ob, h]
    · simp [HObj.ob, h]
  rw [e1, e2, e3]

theorem box5 {W : World} {L : Nat} {t : TypeId} {x0 x1 x2 x3 x4 a b c d e : Value} (h : W.heap[L]? = some (.cells #[x0, x1, x2, x3, x4] t)) :
    (((((W.setCell ⟨L, 0, none⟩ a).setCell ⟨L, 1, none⟩ b).setCell ⟨L, 2, none⟩ c).setCell ⟨L, 3, none⟩ d).setCell ⟨L, 4, none⟩ e).heap[L]? = some (.cells #[a, b, c, d, e] t) := by
  rw [heap_setCell_at (heap_setCell_at (heap_setCell_at (heap_setCell_at (heap_setCell_at h a) b) c) d) e]; rfl
theorem below_set {w W : World} (hb : Below w.heap.size w W) (i : Nat) (v : Value) : Below w.heap.size w (W.setCell ⟨w.heap.size, i, none⟩ v) :=
  ⟨hb.os, hb.tape, hb.output, by have := hb.size; simpa [World.setCell] using this, fun k hk => by rw [hso (by omega)]; exact hb.block k hk⟩

set_option maxRecDepth 20000 in
set_option maxHeartbeats 4000000 in
theorem gauge_done {h : Nat} {w : World} {m : HeapM} {s : St} {c : Cf} {N : Nat} (p : HB 0 h w m s c N) :
    Calls Tryd.prog 15 #[.pointer (some ⟨h, 0, none⟩)] w fun e w' =>
      e = .returned (.agg #[.int .i64 (gaugeS s).1, .int .i64 (gaugeS s).2.1, .int .i64 (gaugeS s).2.2.1, .int .i64 (gaugeS s).2.2.2.1, .int .i64 (gaugeS s).2.2.2.2]) ∧ Below w.heap.size w w' := by
  obtain ⟨qao, qcp, hvQ⟩ := win_slice p.r.queue
  rw [gauge_of p.hs p.good]
  simp only
  have K : Hid (∀ W, Below w.heap.size w W → W.cell? ⟨h, 7, none⟩ = some (.slice qao s.queue.length qcp) ∧
      (Calls Tryd.prog 48 #[.pointer (some ⟨h, 0, none⟩), .int .i64 0] W fun e w' => e = .returned (.int .i64 (countTo (m.inB 0) N)) ∧ Below W.heap.size W w') ∧
      (Calls Tryd.prog 49 #[.pointer (some ⟨h, 0, none⟩)] W fun e w' => e = .returned (.int .i64 (countTo (s.others 0) N)) ∧ Below W.heap.size W w') ∧
      (Calls Tryd.prog 50 #[.pointer (some ⟨h, 0, none⟩)] W fun e w' => e = .returned (.int .i64 (countTo s.extra N)) ∧ Below W.heap.size W w') ∧
      (Calls Tryd.prog 48 #[.pointer (some ⟨h, 0, none⟩), .int .i64 2] W fun e w' => e = .returned (.int .i64 (countTo (m.inB 2) N)) ∧ Below W.heap.size W w')) := by
    have cell : ∀ W, Below w.heap.size w W → W.cell? ⟨h, 7, none⟩ = some (.slice qao s.queue.length qcp) := fun W hb => by
      rw [(p.below hb).r.cell.2.2.2.2.1, hvQ, p.mqueue]
    intro W hb
    refine ⟨cell W hb, ?_, ?_, ?_, ?_⟩
    · exact (inState_any (p.below hb) 0).mono fun e w' ⟨he, hw⟩ => ⟨he, by rw [hw]; exact Below.refl _ _⟩
    · exact (waiting_any (p.below hb)).mono fun e w' ⟨he, hb2⟩ => ⟨he, hb2⟩
    · exact (hextras_any (p.below hb)).mono fun e w' ⟨he, hb2⟩ => ⟨he, hb2⟩
    · exact (inState_any (p.below hb) 2).mono fun e w' ⟨he, hw⟩ => ⟨he, by rw [hw]; exact Below.refl _ _⟩
  have c0 := (K.out w (Below.refl _ _)).1
  obtain ⟨n1, hn1⟩ : ∃ n, countTo (m.inB 0) N = n := ⟨_, rfl⟩
  obtain ⟨n2, hn2⟩ : ∃ n, countTo (s.others 0) N = n := ⟨_, rfl⟩
  obtain ⟨n3, hn3⟩ : ∃ n, s.queue.length = n := ⟨_, rfl⟩
  obtain ⟨n4, hn4⟩ : ∃ n, countTo s.extra N = n := ⟨_, rfl⟩
  obtain ⟨n5, hn5⟩ : ∃ n, countTo (m.inB 2) N = n := ⟨_, rfl⟩
  rw [hn1, hn2, hn3, hn4, hn5] at K
  rw [hn1, hn2, hn3, hn4, hn5]
  rw [hn3] at c0
  clear p hvQ hn1 hn2 hn3 hn4 hn5
  have NX : Hid (∀ W w', Below w.heap.size w W → W.heap[w.heap.size]? = some (.cells #[.int .i64 0, .int .i64 0, .int .i64 0, .int .i64 0, .int .i64 0] 43) → Below W.heap.size W w' → Below w.heap.size w w' ∧ w'.cell? ⟨h, 7, none⟩ = some (.slice qao n3 qcp) ∧ w'.heap[w.heap.size]? = some (.cells #[.int .i64 0, .int .i64 0, .int .i64 0, .int .i64 0, .int .i64 0] 43)) := fun W w' hb hx hb2 => by
    have hbb : Below w.heap.size w w' := hb.trans (hb2.mono hb.size)
    exact ⟨hbb, (K.out w' hbb).1, by rw [hb2.block _ (lt_of_heap hx)]; exact hx⟩
  have c1 := (K.out (w.alloc (.cells #[.int .i64 0, .int .i64 0, .int .i64 0, .int .i64 0, .int .i64 0] 43)) ((Below.refl _ _).alloc (Nat.le_refl _) _)).1
  go_enter Tryd.func15, Tryd.ntmps15
  go_wp2_with fail
  first | go_region_with (first | (go_at_call 48; refine Calls.mono (K.out _ B3.out.1).2.2.2.2 ?_; rintro e w4 ⟨rfl, hb⟩; obtain ⟨b4, g4, x4⟩ := NX.out _ w4 B3.out.1 B3.out.2 hb; have B4 : Hid _ := And.intro b4 x4; clear b4 x4 hb; have y0 := cell_of_heap (i := 0) B4.out.2 rfl; have y1 := cell_of_heap (i := 1) B4.out.2 rfl; have y2 := cell_of_heap (i := 2) B4.out.2 rfl; have y3 := cell_of_heap (i := 3) B4.out.2 rfl; have y4 := cell_of_heap (i := 4) B4.out.2 rfl; have z0 := frozen_of_heap (i := 0) B4.out.2; have z1 := frozen_of_heap (i := 1) B4.out.2; have z2 := frozen_of_heap (i := 2) B4.out.2; have z3 := frozen_of_heap (i := 3) B4.out.2; have z4 := frozen_of_heap (i := 4) B4.out.2) | (go_at_call 50; refine Calls.mono (K.out _ B2.out.1).2.2.2.1 ?_; rintro e w3 ⟨rfl, hb⟩; obtain ⟨b3, g3, x3⟩ := NX.out _ w3 B2.out.1 B2.out.2 hb; have B3 : Hid _ := And.intro b3 x3; clear b3 x3 hb) | (go_at_call 49; refine Calls.mono (K.out _ B1.out.1).2.2.1 ?_; rintro e w2 ⟨rfl, hb⟩; obtain ⟨b2, g2, x2⟩ := NX.out _ w2 B1.out.1 B1.out.2 hb; have B2 : Hid _ := And.intro b2 x2; clear b2 x2 hb) | (go_at_call 48; refine Calls.mono (K.out _ ((Below.refl _ _).alloc (Nat.le_refl _) _).drew).2.1 ?_; rintro e w1 ⟨rfl, hb⟩; obtain ⟨b1, g1, x1⟩ := NX.out _ w1 ((Below.refl _ _).alloc (Nat.le_refl _) _).drew (heap_alloc_new w _) hb; have B1 : Hid _ := And.intro b1 x1; clear b1 x1 hb)) | fail "region"
  all_goals go_wp2
  all_goals
    have hx := box5 (a := .int .i64 n1) (b := .int .i64 n2) (c := .int .i64 n3) (d := .int .i64 n4) (e := .int .i64 n5) B4.out.2
    have BB := below_set (below_set (below_set (below_set (below_set B4.out.1 0 (.int .i64 n1)) 1 (.int .i64 n2)) 2 (.int .i64 n3)) 3 (.int .i64 n4)) 4 (.int .i64 n5)
    obtain ⟨w5, hw5⟩ : ∃ w5, ((((w4.setCell ⟨w.heap.size, 0, none⟩ (.int .i64 n1)).setCell ⟨w.heap.size, 1, none⟩ (.int .i64 n2)).setCell ⟨w.heap.size, 2, none⟩ (.int .i64 n3)).setCell ⟨w.heap.size, 3, none⟩ (.int .i64 n4)).setCell ⟨w.heap.size, 4, none⟩ (.int .i64 n5) = w5 := ⟨_, rfl⟩
    rw [hw5] at hx BB ⊢
    have u0 := cell_of_heap (i := 0) hx rfl
    have u1 := cell_of_heap (i := 1) hx rfl
    have u2 := cell_of_heap (i := 2) hx rfl
    have u3 := cell_of_heap (i := 3) hx rfl
    have u4 := cell_of_heap (i := 4) hx rfl
    exact bodyPost_ret (v := .agg #[.int .i64 n1, .int .i64 n2, .int .i64 n3, .int .i64 n4, .int .i64 n5]) (by simp [results, Tryd.results15, go_sem, u0, u1, u2, u3, u4]) rfl ⟨rfl, BB⟩

theorem gauge_pact : GaugePact HS := by
  intro x N w hm s c hat hs g cf hN h16 h8
  exact (gauge_done ⟨hat, hs, g, cf, hN, h16, h8⟩).mono fun e w' ⟨he, hb⟩ => ⟨he, hm, .of_below hat hb, hs⟩

end Go.Proofs.YtpmkjeihbddfpabDoor

/- OUR OWN. What is asked of the program's Dump. -/
namespace Go.Proofs.YtpmkjeihbddfpabDoor
open Go.RowKit
set_option linter.unusedVariables false
set_option linter.unusedSimpArgs false

def DumpPact (HS : HeapM → St → Cf → Nat → Prop) : Prop := ∀ (x N B : Nat) (w : World) (hm : HeapM) (s : St) (c : Cf), Tab B w → HeapAt w x hm → HS hm s c N → s.Good N → CfOk c → N ≤ 99 → s.stack.length ≤ 16 → s.globals.length ≤ 8 →
  Calls Tryd.prog 7 #[.pointer (some ⟨x, 0, none⟩)] w fun e w' => e = .returned (str (dumpL s)) ∧ ∃ hm', HTurn x w hm w' hm' ∧ HS hm' s c N

end Go.Proofs.YtpmkjeihbddfpabDoor

/- OUR OWN. Which of n things a raw number speaks of. -/
namespace Go.Proofs.YtpmkjeihbddfpabDoor

def pickN (c : Int) (n : Nat) : Nat := ((if c < 0 then -(c + 1) else c) % n).toNat

theorem pickN_lt (c : Int) (n : Nat) (h : 0 < n) : pickN c n < n := by
  unfold pickN
  have := Int.emod_lt_of_pos (if c < 0 then -(c + 1) else c) (show (0 : Int) < n by omega)
  omega

end Go.Proofs.YtpmkjeihbddfpabDoor

/- OUR OWN. The statements without the document's answer: a configuration out of raw numbers. -/
namespace Go.Proofs.YtpmkjeihbddfpabDoor
open Go.RowKit
set_option linter.unusedVariables false
set_option linter.unusedSimpArgs false

set_option maxHeartbeats 400000 in
theorem kpick_any (c : Int) (n : Nat) (w : World) (hc : -9223372036854775808 ≤ c ∧ c ≤ 9223372036854775807) (hn : 0 < n) (hm : n ≤ 2000000000000000) :
    Calls Tryd.prog 16 #[.int .i64 c, .int .i64 n] w fun r w' => r = .returned (.int .i64 (pickN c n)) ∧ w' = w := by
  obtain ⟨c1, c2⟩ := hc
  have hp : (0 : Int) < n := by omega
  have hne : ((n : Int) == 0) = false := by simp; omega
  by_cases h : c < 0
  · have e : (pickN c n : Int) = -((c + 1).tmod n) := by
      rw [← Int.neg_tmod, Int.tmod_eq_emod_of_nonneg (by omega)]
      unfold pickN; rw [if_pos h]; have := Int.emod_nonneg (-(c + 1)) (show (n : Int) ≠ 0 by omega); omega
    have E : Hid ((pickN c n : Int) = -((c + 1).tmod n)) := e
    clear e
    go_enter Tryd.func16, Tryd.ntmps16
    go_wp2
    go_ret
    rw [E.out]
    exact ⟨rfl, rfl⟩
  · have e : (pickN c n : Int) = c % n := by
      unfold pickN; rw [if_neg h]; have := Int.emod_nonneg c (show (n : Int) ≠ 0 by omega); omega
    have E : Hid ((pickN c n : Int) = c % n) := e
    clear e
    go_enter Tryd.func16, Tryd.ntmps16
    go_wp2
    go_ret
    rw [E.out]
    exact ⟨rfl, rfl⟩

/-- the configuration, out of raw numbers -/
structure CfgM where
  b : Nat
  s : Nat
  g : Nat
  u : Nat
  z : Nat
  o : Nat
def CfgM.val (k : CfgM) : Value := .agg #[.int .i64 k.b, .int .i64 k.s, .int .i64 k.g, .int .i64 k.u, .int .i64 k.z, .int .i64 k.o]
def CfgM.ok (k : CfgM) : Prop := cfgB k.b k.s k.g k.u k.z k.o = true
def CfgM.cf (k : CfgM) : Cf := ⟨k.s, k.u, k.z, k.o⟩

set_option maxHeartbeats 1600000 in
set_option maxRecDepth 10000 in
theorem config_any (b s g u z o : Int) (w : World) (hb : fits b) (hs : fits s) (hg : fits g) (hu : fits u) (hz : fits z) (ho : fits o) :
    Calls Tryd.prog 5 #[.agg #[.int .i64 b, .int .i64 s, .int .i64 g, .int .i64 u, .int .i64 z, .int .i64 o]] w fun e w' => (∃ k : CfgM, e = .returned k.val ∧ k.ok) ∧ Below w.heap.size w w' := by
  have PK : Hid (∀ (c : Int) (n : Nat) (W : World), fits c → 0 < n → n ≤ 1000 → Calls Tryd.prog 16 #[.int .i64 c, .int .i64 n] W fun r w' => r = .returned (.int .i64 (pickN c n)) ∧ w' = W) := fun c n W hc hn hm => kpick_any c n W hc hn (by omega)
  have p1 : pickN b 99 < 99 := pickN_lt _ _ (by decide)
  have p2 : pickN s 16 < 16 := pickN_lt _ _ (by decide)
  have p3 : pickN g 9 < 9 := pickN_lt _ _ (by decide)
  have p4 : pickN u 99 < 99 := pickN_lt _ _ (by decide)
  have p6 : pickN o 10 < 10 := pickN_lt _ _ (by decide)
  have P1 : Hid _ := PK.out b 99
  have P2 : Hid _ := PK.out s 16
  have P3 : Hid _ := PK.out g 9
  have P4 : Hid _ := PK.out u 99
  have P6 : Hid _ := PK.out o 10
  obtain ⟨x1, h1⟩ : ∃ x, pickN b 99 = x := ⟨_, rfl⟩
  obtain ⟨x2, h2⟩ : ∃ x, pickN s 16 = x := ⟨_, rfl⟩
  obtain ⟨x3, h3⟩ : ∃ x, pickN g 9 = x := ⟨_, rfl⟩
  obtain ⟨x4, h4⟩ : ∃ x, pickN u 99 = x := ⟨_, rfl⟩
  obtain ⟨x6, h6⟩ : ∃ x, pickN o 10 = x := ⟨_, rfl⟩
  have hpos : 0 < 99 - (1 + x2 + x3 + 1) + 1 := by omega
  have p5 : pickN z (99 - (1 + x2 + x3 + 1) + 1) < 99 - (1 + x2 + x3 + 1) + 1 := pickN_lt _ _ hpos
  have P5 : Hid _ := PK.out z (99 - (1 + x2 + x3 + 1) + 1)
  obtain ⟨x5, h5⟩ : ∃ x, pickN z (99 - (1 + x2 + x3 + 1) + 1) = x := ⟨_, rfl⟩
  rw [h1] at p1 P1
  rw [h2] at p2 P2
  rw [h3] at p3 P3
  rw [h4] at p4 P4
  rw [h5] at p5 P5
  rw [h6] at p6 P6
  have OK : Hid (CfgM.ok ⟨1 + x1, 1 + x2, x3, 1 + x4, 1 + x2 + x3 + 1 + x5, x6⟩) := by
    show cfgB _ _ _ _ _ _ = true
    simp [cfgB]; omega
  have en : (((99 - (1 + x2 + x3 + 1) + 1 : Nat)) : Int) = 99 - (1 + (x2 : Int) + x3 + 1) + 1 := by omega
  have P5' : Hid (∀ W, Calls Tryd.prog 16 #[.int .i64 z, .int .i64 (99 - (1 + (x2 : Int) + x3 + 1) + 1)] W fun r w' => r = .returned (.int .i64 x5) ∧ w' = W) := fun W => by
    have := P5.out W hz hpos (by omega)
    rw [en] at this; exact this
  have P1' : Hid (∀ W, Calls Tryd.prog 16 #[.int .i64 b, .int .i64 99] W fun r w' => r = .returned (.int .i64 x1) ∧ w' = W) := fun W => P1.out W hb (by decide) (by decide)
  have P2' : Hid (∀ W, Calls Tryd.prog 16 #[.int .i64 s, .int .i64 16] W fun r w' => r = .returned (.int .i64 x2) ∧ w' = W) := fun W => P2.out W hs (by decide) (by decide)
  have P3' : Hid (∀ W, Calls Tryd.prog 16 #[.int .i64 g, .int .i64 9] W fun r w' => r = .returned (.int .i64 x3) ∧ w' = W) := fun W => P3.out W hg (by decide) (by decide)
  have P4' : Hid (∀ W, Calls Tryd.prog 16 #[.int .i64 u, .int .i64 99] W fun r w' => r = .returned (.int .i64 x4) ∧ w' = W) := fun W => P4.out W hu (by decide) (by decide)
  have P6' : Hid (∀ W, Calls Tryd.prog 16 #[.int .i64 o, .int .i64 10] W fun r w' => r = .returned (.int .i64 x6) ∧ w' = W) := fun W => P6.out W ho (by decide) (by decide)
  clear PK P1 P2 P3 P4 P5 P6 h1 h2 h3 h4 h5 h6 hb hs hg hu hz ho en hpos
  go_enter Tryd.func5, Tryd.ntmps5
  go_wp2_with fail
  refine Calls.mono (P1'.out _) ?_
  rintro e w1 ⟨rfl, rfl⟩
  go_wp2_with fail
  refine Calls.mono (P2'.out _) ?_
  rintro e w2 ⟨rfl, rfl⟩
  go_wp2_with fail
  refine Calls.mono (P3'.out _) ?_
  rintro e w3 ⟨rfl, rfl⟩
  go_wp2_with fail
  refine Calls.mono (P4'.out _) ?_
  rintro e w4 ⟨rfl, rfl⟩
  go_wp2_with fail
  refine Calls.mono (P5'.out _) ?_
  rintro e w5 ⟨rfl, rfl⟩
  go_wp2_with fail
  refine Calls.mono (P6'.out _) ?_
  rintro e w6 ⟨rfl, rfl⟩
  go_wp2
  refine bodyPost_ret (v := CfgM.val ⟨1 + x1, 1 + x2, x3, 1 + x4, 1 + x2 + x3 + 1 + x5, x6⟩) (by simp [results, Tryd.results5, go_sem, CfgM.val]) rfl ⟨⟨_, rfl, OK.out⟩, ?_⟩
  exact ((Below.refl _ _).alloc (Nat.le_refl _) _).alloc (by simp) _

end Go.Proofs.YtpmkjeihbddfpabDoor

/- OUR OWN. The statements without the document's answer: a heap that works. -/
namespace Go.Proofs.YtpmkjeihbddfpabDoor
open Go.RowKit
set_option linter.unusedVariables false
set_option linter.unusedSimpArgs false

/-- all that the statements ask of the program -/
structure Pacts (HS : HeapM → St → Cf → Nat → Prop) : Prop where
  new : ∀ (b s g u z o : Nat), cfgB b s g u z o = true → ∀ hm, NewM b s g u z o hm → HS hm ⟨[], List.replicate g (0, 0), List.replicate (b + 1) Ob.free, []⟩ ⟨s, u, z, o⟩ b
  act : DoPact HS (fun _ => True)
  gauge : GaugePact HS
  safe : SafePact HS
  coll : CollPact HS

/-- what is asked of it where no heap is full -/
structure Pact3 (HS : HeapM → St → Cf → Nat → Prop) (Room : St → Prop) : Prop where
  new : ∀ (b s g u z o : Nat), cfgB b s g u z o = true → ∀ hm, NewM b s g u z o hm → HS hm ⟨[], List.replicate g (0, 0), List.replicate (b + 1) Ob.free, []⟩ ⟨s, u, z, o⟩ b
  act : DoPact HS Room
  gauge : GaugePact HS
  safe : SafePact HS
  room : ∀ s, (∃ k, free? s = some k) → Room s

variable {HS : HeapM → St → Cf → Nat → Prop} {Room : St → Prop}

theorem Pacts.base (P : Pacts HS) : Pact3 HS (fun _ => True) := ⟨P.new, P.act, P.gauge, P.safe, fun _ _ => trivial⟩

/-- a heap of the program, in memory from block B on -/
structure KAt (HS : HeapM → St → Cf → Nat → Prop) (B : Nat) (w : World) (x : Nat) (hm : HeapM) (s : St) (c : Cf) (N : Nat) : Prop where
  here : HeapAt w x hm
  hs : HS hm s c N
  good : s.Good N
  bound : Bound c s
  cf : CfOk c
  small : N ≤ 99
  gl : s.globals.length ≤ 8
  low : ∀ g ∈ x :: hm.foot, B ≤ g
  size : B ≤ w.heap.size
theorem KAt.stack {B : Nat} {w : World} {x : Nat} {hm : HeapM} {s : St} {c : Cf} {N : Nat} (k : KAt HS B w x hm s c N) : s.stack.length ≤ 16 := by have := k.bound.roots; have := k.cf.deep; omega
theorem KAt.below {B : Nat} {w w' : World} {x : Nat} {hm : HeapM} {s : St} {c : Cf} {N : Nat} (k : KAt HS B w x hm s c N) (hb : Below w.heap.size w w') : KAt HS B w' x hm s c N :=
  ⟨k.here.carry fun g hg => hb.block g (k.here.lt g hg), k.hs, k.good, k.bound, k.cf, k.small, k.gl, k.low, by have := hb.size; have := k.size; omega⟩
/-- what a call leaves: the heap, and nothing of the memory below block B is turned -/
structure KStep (HS : HeapM → St → Cf → Nat → Prop) (B : Nat) (w : World) (x : Nat) (hm : HeapM) (w' : World) (s' : St) (c : Cf) (N : Nat) : Prop where
  at_ : ∃ hm', HTurn x w hm w' hm' ∧ KAt HS B w' x hm' s' c N
  keep : Below B w w'
theorem kstep {B : Nat} {w w' : World} {x : Nat} {hm hm' : HeapM} {s s' : St} {c : Cf} {N : Nat} (k : KAt HS B w x hm s c N) (t : HTurn x w hm w' hm') (hs : HS hm' s' c N) (hg : s'.Good N) (hb : Bound c s') (hl : s'.globals.length ≤ 8) : KStep HS B w x hm w' s' c N := by
  have hz := t.off.size
  refine ⟨⟨hm', t, t.here, hs, hg, hb, k.cf, k.small, hl, fun g hgm => ?_, by have := k.size; omega⟩, t.off.os, t.off.tape, t.off.output, hz, fun g hgB => t.off.block g (by have := k.size; omega) fun hm => ?_⟩
  · rcases List.mem_cons.1 hgm with e | e
    · exact k.low g (by rw [e]; exact List.mem_cons_self)
    · rcases t.foot g e with e | e
      · exact k.low g (List.mem_cons_of_mem _ e)
      · have := k.size; omega
  · have := k.low g hm; omega

theorem store_globals (c : Cf) (s : St) (n : Int) : (storeS c s n).1.globals = s.globals := by
  unfold storeS
  split
  · rfl
  split
  · rfl
  split
  · rfl
  have er : ∀ o x, (stickS o (s.pop 2) x).globals = s.globals := fun o x => by unfold stickS; split <;> rfl
  unfold putS
  split
  · rfl
  · unfold dropS'
    split
    · exact (enter_roots _ _ _).2.trans (er _ _)
    · exact er _ _
theorem new_globals {s : St} {N : Nat} (g : s.Good N) (c : Cf) (n : Int) : (newS c s n).1.globals = s.globals := by
  by_cases h : (newS c s n).2.2 = 0
  · obtain ⟨k, _, _, h3, _⟩ := new_state g c n h; exact h3
  · exact (new_refused g c n h).globals
theorem do_globals {s : St} {N : Nat} (g : s.Good N) (c : Cf) (op n : Int) : (doS c s op n).1.globals.length = s.globals.length := by
  refine doS_keeps c s op n (fun t => t.globals.length = s.globals.length) rfl (fun t v ht _ _ _ => ht) (fun k => rfl) (fun k hk => by simp) (by rw [new_globals g]) (by rw [store_globals])

theorem k_do (P : Pacts HS) {B : Nat} {w : World} {x : Nat} {hm : HeapM} {s : St} {c : Cf} {N : Nat} (k : KAt HS B w x hm s c N) (op n : Int) (hop : fits op) (hn : fits n) :
    Calls Tryd.prog 10 #[.pointer (some ⟨x, 0, none⟩), .int .i64 op, .int .i64 n] w fun e w' => e = .returned (.tuple #[.int .i64 (doS c s op n).2.1, .int .i64 (doS c s op n).2.2]) ∧ KStep HS B w x hm w' (doS c s op n).1 c N := by
  refine (P.act x N w hm s c op n k.here k.hs k.good k.cf k.small k.stack k.gl hop hn (fun _ => trivial)).mono ?_
  rintro e w' ⟨he, hm', t, hs⟩
  exact ⟨he, kstep k t hs (k.good.did c op n hn) (k.bound.did k.good k.cf.over.1 op n) (by rw [do_globals k.good]; exact k.gl)⟩
theorem k_do3 (P : Pact3 HS Room) {B : Nat} {w : World} {x : Nat} {hm : HeapM} {s : St} {c : Cf} {N : Nat} (k : KAt HS B w x hm s c N) (op n : Int) (hop : fits op) (hn : fits n) (hr : op = 2 → ∃ k, free? s = some k) :
    Calls Tryd.prog 10 #[.pointer (some ⟨x, 0, none⟩), .int .i64 op, .int .i64 n] w fun e w' => e = .returned (.tuple #[.int .i64 (doS c s op n).2.1, .int .i64 (doS c s op n).2.2]) ∧ KStep HS B w x hm w' (doS c s op n).1 c N := by
  refine (P.act x N w hm s c op n k.here k.hs k.good k.cf k.small k.stack k.gl hop hn (fun h => P.room s (hr h))).mono ?_
  rintro e w' ⟨he, hm', t, hs⟩
  exact ⟨he, kstep k t hs (k.good.did c op n hn) (k.bound.did k.good k.cf.over.1 op n) (by rw [do_globals k.good]; exact k.gl)⟩
theorem k_safe3 (P : Pact3 HS Room) {B : Nat} {w : World} {x : Nat} {hm : HeapM} {s : St} {c : Cf} {N : Nat} (k : KAt HS B w x hm s c N) :
    Calls Tryd.prog 14 #[.pointer (some ⟨x, 0, none⟩)] w fun e w' => e = .returned (.int .i64 (s.safe c).2) ∧ KStep HS B w x hm w' (s.safe c).1 c N := by
  refine (P.safe x N w hm s c k.here k.hs k.good k.cf k.small k.stack k.gl).mono ?_
  rintro e w' ⟨he, hm', t, hs⟩
  exact ⟨he, kstep k t hs (k.good.safe c) (k.bound.safe k.good) (by rw [(same_safe k.good c).globals]; exact k.gl)⟩
theorem k_gauge3 (P : Pact3 HS Room) {B : Nat} {w : World} {x : Nat} {hm : HeapM} {s : St} {c : Cf} {N : Nat} (k : KAt HS B w x hm s c N) :
    Calls Tryd.prog 15 #[.pointer (some ⟨x, 0, none⟩)] w fun e w' => e = .returned (.agg #[.int .i64 (gaugeS s).1, .int .i64 (gaugeS s).2.1, .int .i64 (gaugeS s).2.2.1, .int .i64 (gaugeS s).2.2.2.1, .int .i64 (gaugeS s).2.2.2.2]) ∧ KStep HS B w x hm w' s c N := by
  refine (P.gauge x N w hm s c k.here k.hs k.good k.cf k.small k.stack k.gl).mono ?_
  rintro e w' ⟨he, hm', t, hs⟩
  exact ⟨he, kstep k t hs k.good k.bound k.gl⟩
theorem k_safe (P : Pacts HS) {B : Nat} {w : World} {x : Nat} {hm : HeapM} {s : St} {c : Cf} {N : Nat} (k : KAt HS B w x hm s c N) :
    Calls Tryd.prog 14 #[.pointer (some ⟨x, 0, none⟩)] w fun e w' => e = .returned (.int .i64 (s.safe c).2) ∧ KStep HS B w x hm w' (s.safe c).1 c N := by
  refine (P.safe x N w hm s c k.here k.hs k.good k.cf k.small k.stack k.gl).mono ?_
  rintro e w' ⟨he, hm', t, hs⟩
  exact ⟨he, kstep k t hs (k.good.safe c) (k.bound.safe k.good) (by rw [(same_safe k.good c).globals]; exact k.gl)⟩
theorem k_coll (P : Pacts HS) {B : Nat} {w : World} {x : Nat} {hm : HeapM} {s : St} {c : Cf} {N : Nat} (k : KAt HS B w x hm s c N) :
    Calls Tryd.prog 9 #[.pointer (some ⟨x, 0, none⟩)] w fun e w' => e = .returned (.int .i64 s.gone) ∧ KStep HS B w x hm w' (s.collect c.over) c N := by
  refine (P.coll x N w hm s c k.here k.hs k.good k.cf k.small k.stack k.gl).mono ?_
  rintro e w' ⟨he, hm', t, hs⟩
  exact ⟨he, kstep k t hs (k.good.collect _) (k.bound.collected k.good k.cf.over.1) (by rw [(same_collect k.good _).globals]; exact k.gl)⟩
def st0 (k : CfgM) : St := ⟨[], List.replicate k.g (0, 0), List.replicate (k.b + 1) Ob.free, []⟩
theorem CfgM.bounds {k : CfgM} (h : k.ok) : 1 ≤ k.b ∧ k.b ≤ 99 ∧ 1 ≤ k.s ∧ k.s ≤ 16 ∧ k.g ≤ 8 ∧ 1 ≤ k.u ∧ k.u ≤ 99 ∧ k.s + k.g < k.z ∧ k.z ≤ 99 ∧ k.o ≤ 9 := by
  have h' : cfgB k.b k.s k.g k.u k.z k.o = true := h
  simp [cfgB] at h'
  omega
theorem k_new (P : Pact3 HS Room) (k : CfgM) (hk : k.ok) (w : World) :
    Calls Tryd.prog 18 #[k.val] w fun e w' => ∃ x hm, e = .returned (.tuple #[.pointer (some ⟨x, 0, none⟩), .int .i64 0]) ∧ Below w.heap.size w w' ∧ KAt HS w.heap.size w' x hm (st0 k) k.cf k.b := by
  refine (new_says k.b k.s k.g k.u k.z k.o w hk).mono ?_
  rintro e w' ⟨x, hm, he, hb, ha, hf, hn⟩
  have hB := CfgM.bounds hk
  refine ⟨x, hm, he, hb, ha, P.new _ _ _ _ _ _ hk hm hn, good_new k.b k.g, bound_new k.cf k.b k.g ?_ ?_ ?_, ⟨?_, ?_, ?_, ?_⟩, by omega, ?_, hf, hb.size⟩
  · show (0 : Int) ≤ (k.s : Int); omega
  · show (k.s : Int) + k.g < (k.z : Int); omega
  · show (0 : Int) ≤ (k.o : Int); omega
  · show 1 ≤ (k.s : Int) ∧ (k.s : Int) ≤ 16; omega
  · show 1 ≤ (k.u : Int) ∧ (k.u : Int) ≤ 99; omega
  · show 0 ≤ (k.o : Int) ∧ (k.o : Int) ≤ 9; omega
  · show (k.s : Int) < (k.z : Int) ∧ (k.z : Int) ≤ 99; omega
  · show (List.replicate k.g (0, 0)).length ≤ 8; simp; omega

/-! ### What a heap that works answers -/
theorem reach_none {s : St} (h : ∀ b : Int, s.rooted b = false) (b : Nat) : s.reachB b = false := by
  cases e : s.reachB b with
  | false => rfl
  | true =>
    have := reach_least (s := s) (P := fun _ => False) (fun b _ _ hr => by rw [h] at hr; cases hr) (fun a b ha _ _ _ _ _ => ha) e
    exact this.elim
theorem reachN_none {s : St} (h : ∀ b : Int, s.rooted b = false) : reachN s = 0 := by
  unfold reachN countTo
  exact List.countP_eq_zero.2 fun j _ => by rw [reach_none h]; simp
theorem rooted_nils (g N : Nat) (b : Int) (q : List Int) (l : List Ob) : (⟨[], List.replicate g (0, 0), l, q⟩ : St).rooted b = false := by
  cases e : (⟨[], List.replicate g (0, 0), l, q⟩ : St).rooted b with
  | false => rfl
  | true =>
    rcases rooted_true.1 e with ⟨v, hv, _⟩ | ⟨v, hv, h1, _⟩
    · cases hv
    · simp at hv; rw [hv.2] at h1; cases h1
/-- the answers of the six calls -/
structure Works (c : Cf) (s0 s1 s2 s3 s4 : St) (z : Int) : Prop where
  a1 : (doS c s0 2 2).2 = (0, 0)
  e1 : s1 = (doS c s0 2 2).1
  a2 : (doS c s1 11 0).2 = (2, 0)
  e2 : s2 = (doS c s1 11 0).1
  a3 : (doS c s2 4 0).2 = (0, 0)
  e3 : s3 = (doS c s2 4 0).1
  a4 : (doS c s3 1 z).2 = (0, 0)
  e4 : s4 = (doS c s3 1 z).1
  a5 : (doS c s4 10 0).2 = (z, 0)
theorem works_pure (k : CfgM) (hk : k.ok) (z : Int) : ∃ s1 s2 s3 s4, Works k.cf (st0 k) s1 s2 s3 s4 z := by
  have hB := CfgM.bounds hk
  have g0 : (st0 k).Good k.b := good_new k.b k.g
  have d2 : doS k.cf (st0 k) 2 2 = newS k.cf (st0 k) 2 := rfl
  have a0 : (newS k.cf (st0 k) 2).2.2 = 0 := by
    rw [new_answer g0, if_neg (by omega), if_neg (by show ¬ (k.s : Int) ≤ ((0 : Nat) : Int); omega), if_neg ?_]
    have : reachN (st0 k) = 0 := reachN_none fun b => rooted_nils k.g k.b b _ _
    omega
  obtain ⟨b, hb1, hb2, hst, hob, hct⟩ := new_object g0 k.cf 2 a0
  obtain ⟨s1, hs1⟩ : ∃ s1, (newS k.cf (st0 k) 2).1 = s1 := ⟨_, rfl⟩
  rw [hs1] at hst hob
  have hst' : s1.stack = [(2, (b : Int))] := by rw [hst]; rfl
  have hd : s1.down 0 = (2, (b : Int)) := by unfold St.down; rw [hst']; rfl
  have hf : s1.fields (b : Int) = List.replicate 2 (0, 0) := by unfold St.fields; rw [Int.toNat_natCast, hob]; rfl
  have d11 : doS k.cf s1 11 0 = (s1, 2, 0) := by
    show sizeS s1 = _
    unfold sizeS
    rw [if_neg (by rw [hst']; simp), hd, if_neg (by simp [objErr])]
    show (s1, ((s1.fields (b : Int)).length : Int), (0 : Int)) = _
    rw [hf]; rfl
  have d4 : doS k.cf s1 4 0 = (s1.pop 1, 0, 0) := by
    show dropS s1 = _
    unfold dropS
    rw [if_neg (by rw [hst']; simp)]
  have hp : (s1.pop 1).stack = [] := by unfold St.pop; rw [hst']; rfl
  have dd : k.cf.deep = (k.s : Int) := rfl
  have d1 : doS k.cf (s1.pop 1) 1 z = ({ s1.pop 1 with stack := [(1, z)] }, 0, 0) := by
    show pushA k.cf.deep (s1.pop 1) (1, z) = _
    unfold pushA pushS
    rw [if_neg (by rw [hp, dd]; simp; omega), hp]; rfl
  have d10 : doS k.cf { s1.pop 1 with stack := [(1, z)] } 10 0 = (({ s1.pop 1 with stack := [(1, z)] } : St).pop 1, z, 0) := by
    show takeS { s1.pop 1 with stack := [(1, z)] } = _
    unfold takeS
    have e1 : ({ s1.pop 1 with stack := [(1, z)] } : St).down 0 = (1, z) := rfl
    rw [if_neg (by simp), e1]
    exact if_pos rfl
  refine ⟨s1, s1, s1.pop 1, { s1.pop 1 with stack := [(1, z)] }, ?_, ?_, ?_, ?_, ?_, ?_, ?_, ?_, ?_⟩
  · rw [d2]; exact Prod.ext (new_num _ _ _) a0
  · rw [d2]; exact hs1.symm
  · rw [d11]
  · rw [d11]
  · rw [d4]
  · rw [d4]
  · rw [d1]
  · rw [d1]
  · rw [d10]

end Go.Proofs.YtpmkjeihbddfpabDoor

/- OUR OWN. The statements without the document's answer: works, fresh. -/
namespace Go.Proofs.YtpmkjeihbddfpabDoor
open Go.RowKit
set_option linter.unusedVariables false
set_option linter.unusedSimpArgs false

variable {HS : HeapM → St → Cf → Nat → Prop} {Room : St → Prop}

def CfgM.cells (k : CfgM) : Array Value := #[.int .i64 k.b, .int .i64 k.s, .int .i64 k.g, .int .i64 k.u, .int .i64 k.z, .int .i64 k.o]

/-- a Do whose answer is known -/
def DoesAt (HS : HeapM → St → Cf → Nat → Prop) (B x : Nat) (c : Cf) (N : Nat) (s : St) (op n a e : Int) (s' : St) : Prop := ∀ W hm, KAt HS B W x hm s c N → Calls Tryd.prog 10 #[.pointer (some ⟨x, 0, none⟩), .int .i64 op, .int .i64 n] W
  fun r w' => r = .returned (.tuple #[.int .i64 a, .int .i64 e]) ∧ (∃ hm', KAt HS B w' x hm' s' c N) ∧ Below B W w'
theorem doesAt (P : Pact3 HS Room) {B x : Nat} {c : Cf} {N : Nat} {s s' : St} {op n a e : Int} (ha : (doS c s op n).2 = (a, e)) (hs : s' = (doS c s op n).1) (hop : fits op) (hn : fits n) (hf : op = 2 → ∃ k, free? s = some k) : DoesAt HS B x c N s op n a e s' := fun W hm k => by
  refine (k_do3 P k op n hop hn hf).mono ?_
  rintro r w' ⟨hr, st⟩
  obtain ⟨hm', _, k'⟩ := st.at_
  refine ⟨?_, ⟨hm', by rw [hs]; exact k'⟩, st.keep⟩
  rw [hr, ha]

set_option maxHeartbeats 3200000 in
set_option maxRecDepth 10000 in
theorem works_any (P : Pact3 HS Room) (k : CfgM) (hk : k.ok) (w : World) :
    Calls Tryd.prog 17 #[k.val] w fun e w' => e = .returned (.bool true) ∧ Below w.heap.size w w' := by
  have hB := CfgM.bounds hk
  have fz : fits (k.z : Int) := ⟨by omega, by omega⟩
  obtain ⟨s1, s2, s3, s4, W⟩ := works_pure k hk k.z
  have NEW : Hid (∀ W, Calls Tryd.prog 18 #[.agg #[.int .i64 k.b, .int .i64 k.s, .int .i64 k.g, .int .i64 k.u, .int .i64 k.z, .int .i64 k.o]] W fun e w' => ∃ x hm, e = .returned (.tuple #[.pointer (some ⟨x, 0, none⟩), .int .i64 0]) ∧ Below W.heap.size W w' ∧ KAt HS W.heap.size w' x hm (st0 k) k.cf k.b) := fun W => k_new P k hk W
  have F0 : ∃ j, free? (st0 k) = some j := by
    refine free_exists (b := 1) (Nat.le_refl _) (by simp [st0]; omega) ?_
    unfold St.ob st0
    rw [List.getD_eq_getElem?_getD, List.getElem?_replicate]
    split <;> rfl
  have D1 : Hid (∀ B x, DoesAt HS B x k.cf k.b (st0 k) 2 2 0 0 s1) := fun B x => doesAt P W.a1 W.e1 ⟨by decide, by decide⟩ ⟨by decide, by decide⟩ fun _ => F0
  have D2 : Hid (∀ B x, DoesAt HS B x k.cf k.b s1 11 0 2 0 s2) := fun B x => doesAt P W.a2 W.e2 ⟨by decide, by decide⟩ ⟨by decide, by decide⟩ fun h => absurd h (by decide)
  have D3 : Hid (∀ B x, DoesAt HS B x k.cf k.b s2 4 0 0 0 s3) := fun B x => doesAt P W.a3 W.e3 ⟨by decide, by decide⟩ ⟨by decide, by decide⟩ fun h => absurd h (by decide)
  have D4 : Hid (∀ B x, DoesAt HS B x k.cf k.b s3 1 (k.z : Int) 0 0 s4) := fun B x => doesAt P W.a4 W.e4 ⟨by decide, by decide⟩ fz fun h => absurd h (by decide)
  have D5 : Hid (∀ B x, DoesAt HS B x k.cf k.b s4 10 0 (k.z : Int) 0 (doS k.cf s4 10 0).1) := fun B x => doesAt P W.a5 rfl ⟨by decide, by decide⟩ ⟨by decide, by decide⟩ fun h => absurd h (by decide)
  obtain ⟨kb, ks, kg, ku, kz, ko⟩ := k
  simp only at *
  clear W hB fz hk P F0
  unfold CfgM.val
  simp only
  go_enter Tryd.func17, Tryd.ntmps17
  go_wp2_with fail
  refine Calls.mono (NEW.out _) ?_
  rintro e w1 ⟨x, hm, rfl, hb, hK⟩
  have hL := boxed' hb
  rw [show (w.alloc (.cells #[.int .i64 kb, .int .i64 ks, .int .i64 kg, .int .i64 ku, .int .i64 kz, .int .i64 ko] 23)).heap.size = w.heap.size + 1 by simp] at hK hb
  have K1 : Hid (KAt HS (w.heap.size + 1) w1 x hm (st0 ⟨kb, ks, kg, ku, kz, ko⟩) (CfgM.cf ⟨kb, ks, kg, ku, kz, ko⟩) kb ∧ w1.heap[w.heap.size]? = some (.cells #[.int .i64 kb, .int .i64 ks, .int .i64 kg, .int .i64 ku, .int .i64 kz, .int .i64 ko] 23) ∧ Below w.heap.size w w1) := ⟨hK, hL, ((Below.refl _ _).alloc (Nat.le_refl _) _).trans (hb.mono (by omega))⟩
  clear hK hL hb NEW
  go_wp2_with fail
  refine Calls.mono (D1.out _ x w1 hm K1.out.1) ?_
  rintro e w2 ⟨rfl, ⟨hm2, hK⟩, hb⟩
  have K2 : Hid (KAt HS (w.heap.size + 1) w2 x hm2 s1 (CfgM.cf ⟨kb, ks, kg, ku, kz, ko⟩) kb ∧ w2.heap[w.heap.size]? = some (.cells #[.int .i64 kb, .int .i64 ks, .int .i64 kg, .int .i64 ku, .int .i64 kz, .int .i64 ko] 23) ∧ Below w.heap.size w w2) := ⟨hK, by rw [hb.block _ (by omega)]; exact K1.out.2.1, K1.out.2.2.trans (hb.mono (by omega))⟩
  clear hK hb K1 D1
  go_wp2_with fail
  refine Calls.mono (D2.out _ x w2 hm2 K2.out.1) ?_
  rintro e w3 ⟨rfl, ⟨hm3, hK⟩, hb⟩
  have K3 : Hid (KAt HS (w.heap.size + 1) w3 x hm3 s2 (CfgM.cf ⟨kb, ks, kg, ku, kz, ko⟩) kb ∧ w3.heap[w.heap.size]? = some (.cells #[.int .i64 kb, .int .i64 ks, .int .i64 kg, .int .i64 ku, .int .i64 kz, .int .i64 ko] 23) ∧ Below w.heap.size w w3) := ⟨hK, by rw [hb.block _ (by omega)]; exact K2.out.2.1, K2.out.2.2.trans (hb.mono (by omega))⟩
  clear hK hb K2 D2
  go_wp2_with fail
  refine Calls.mono (D3.out _ x w3 hm3 K3.out.1) ?_
  rintro e w4 ⟨rfl, ⟨hm4, hK⟩, hb⟩
  have hL := (hb.block w.heap.size (by omega)).trans K3.out.2.1
  have l4 : w4.cell? ⟨w.heap.size, 4, none⟩ = some (.int .i64 kz) := cell_of_heap hL rfl
  have K4 : Hid (KAt HS (w.heap.size + 1) w4 x hm4 s3 (CfgM.cf ⟨kb, ks, kg, ku, kz, ko⟩) kb ∧ w4.heap[w.heap.size]? = some (.cells #[.int .i64 kb, .int .i64 ks, .int .i64 kg, .int .i64 ku, .int .i64 kz, .int .i64 ko] 23) ∧ Below w.heap.size w w4) := ⟨hK, hL, K3.out.2.2.trans (hb.mono (by omega))⟩
  clear hK hb K3 D3 hL
  go_wp2_with fail
  refine Calls.mono (D4.out _ x w4 hm4 K4.out.1) ?_
  rintro e w5 ⟨rfl, ⟨hm5, hK⟩, hb⟩
  have K5 : Hid (KAt HS (w.heap.size + 1) w5 x hm5 s4 (CfgM.cf ⟨kb, ks, kg, ku, kz, ko⟩) kb ∧ w5.heap[w.heap.size]? = some (.cells #[.int .i64 kb, .int .i64 ks, .int .i64 kg, .int .i64 ku, .int .i64 kz, .int .i64 ko] 23) ∧ Below w.heap.size w w5) := ⟨hK, by rw [hb.block _ (by omega)]; exact K4.out.2.1, K4.out.2.2.trans (hb.mono (by omega))⟩
  clear hK hb K4 D4 l4
  go_wp2_with fail
  refine Calls.mono (D5.out _ x w5 hm5 K5.out.1) ?_
  rintro e w6 ⟨rfl, ⟨hm6, hK⟩, hb⟩
  have hL := (hb.block w.heap.size (by omega)).trans K5.out.2.1
  have l4 : w6.cell? ⟨w.heap.size, 4, none⟩ = some (.int .i64 kz) := cell_of_heap hL rfl
  have B6 : Hid (Below w.heap.size w w6) := K5.out.2.2.trans (hb.mono (by omega))
  clear hK hb K5 D5 hL
  go_wp2
  go_ret
  exact ⟨rfl, B6.out⟩

set_option maxHeartbeats 1600000 in
set_option maxRecDepth 10000 in
theorem fresh_keep (P : Pact3 HS Room) (k : CfgM) (hk : k.ok) (w : World) :
    Calls Tryd.prog 6 #[k.val] w fun e w' => ∃ x hm, e = .returned (.pointer (some ⟨x, 0, none⟩)) ∧ Below w.heap.size w w' ∧ KAt HS w.heap.size w' x hm (st0 k) k.cf k.b := by
  have NEW : Hid (∀ W, Calls Tryd.prog 18 #[.agg #[.int .i64 k.b, .int .i64 k.s, .int .i64 k.g, .int .i64 k.u, .int .i64 k.z, .int .i64 k.o]] W fun e w' => ∃ x hm, e = .returned (.tuple #[.pointer (some ⟨x, 0, none⟩), .int .i64 0]) ∧ Below W.heap.size W w' ∧ KAt HS W.heap.size w' x hm (st0 k) k.cf k.b) := fun W => k_new P k hk W
  have WORKS : Hid (∀ W, Calls Tryd.prog 17 #[.agg #[.int .i64 k.b, .int .i64 k.s, .int .i64 k.g, .int .i64 k.u, .int .i64 k.z, .int .i64 k.o]] W fun e w' => e = .returned (.bool true) ∧ Below W.heap.size W w') := fun W => works_any P k hk W
  have LOW : Hid (∀ (B B' : Nat) W x hm, B' ≤ B → KAt HS B W x hm (st0 k) k.cf k.b → KAt HS B' W x hm (st0 k) k.cf k.b) := fun B B' W x hm hle K => ⟨K.here, K.hs, K.good, K.bound, K.cf, K.small, K.gl, fun g hg => Nat.le_trans hle (K.low g hg), Nat.le_trans hle K.size⟩
  obtain ⟨kb, ks, kg, ku, kz, ko⟩ := k
  simp only at *
  clear hk P
  unfold CfgM.val
  simp only
  go_enter Tryd.func6, Tryd.ntmps6
  go_wp2_with fail
  refine Calls.mono (WORKS.out _) ?_
  rintro e w1 ⟨rfl, hb⟩
  have hL := boxed' hb
  have B1 : Hid (Below w.heap.size w w1) := ((Below.refl _ _).alloc (Nat.le_refl _) _).trans (hb.mono (by simp))
  have l0 : w1.cell? ⟨w.heap.size, 0, none⟩ = some (.int .i64 kb) := cell_of_heap hL rfl
  have l1 : w1.cell? ⟨w.heap.size, 1, none⟩ = some (.int .i64 ks) := cell_of_heap hL rfl
  have l2 : w1.cell? ⟨w.heap.size, 2, none⟩ = some (.int .i64 kg) := cell_of_heap hL rfl
  have l3 : w1.cell? ⟨w.heap.size, 3, none⟩ = some (.int .i64 ku) := cell_of_heap hL rfl
  have l4 : w1.cell? ⟨w.heap.size, 4, none⟩ = some (.int .i64 kz) := cell_of_heap hL rfl
  have l5 : w1.cell? ⟨w.heap.size, 5, none⟩ = some (.int .i64 ko) := cell_of_heap hL rfl
  clear hb hL WORKS
  go_wp2_with fail
  refine Calls.mono (NEW.out _) ?_
  rintro e w2 ⟨x, hm, rfl, hb, hK⟩
  have K2 : Hid (Below w.heap.size w w2 ∧ KAt HS w.heap.size w2 x hm (st0 ⟨kb, ks, kg, ku, kz, ko⟩) (CfgM.cf ⟨kb, ks, kg, ku, kz, ko⟩) kb) := ⟨B1.out.trans (hb.mono B1.out.size), LOW.out _ _ _ _ _ B1.out.size hK⟩
  clear hb hK NEW LOW
  go_wp2
  go_ret
  exact ⟨x, hm, rfl, K2.out.1, K2.out.2⟩

end Go.Proofs.YtpmkjeihbddfpabDoor

/- OUR OWN. Acts and configurations in memory. -/
namespace Go.Proofs.YtpmkjeihbddfpabDoor
open Go.RowKit
set_option linter.unusedVariables false
set_option linter.unusedSimpArgs false

/-- a list of acts, of numbers, in memory -/
def ActsIn (w : World) (a0 : Option Addr) (len : Nat) (st : Nat → Int × Int) : Prop := ∀ k, k < len → ∃ sb off, a0 = some ⟨sb, off, none⟩ ∧ sb < w.heap.size ∧ fits (st k).1 ∧ fits (st k).2 ∧ w.cell? ⟨sb, off + k * 2, none⟩ = some (.int .i64 (st k).1) ∧ w.cell? ⟨sb, off + k * 2 + 1, none⟩ = some (.int .i64 (st k).2)
def IntsIn (w : World) (a0 : Option Addr) (len : Nat) (st : Nat → Int) : Prop := ∀ k, k < len → ∃ sb off, a0 = some ⟨sb, off, none⟩ ∧ sb < w.heap.size ∧ fits (st k) ∧ w.cell? ⟨sb, off + k, none⟩ = some (.int .i64 (st k))

theorem set6_heap {w : World} {L : Nat} {t : TypeId} {c0 c1 c2 c3 c4 c5 : Value} (h : w.heap[L]? = some (.cells #[c0, c1, c2, c3, c4, c5] t)) (a0 a1 a2 a3 a4 a5 : Value) :
    ((((((w.setCell ⟨L, 0, none⟩ a0).setCell ⟨L, 1, none⟩ a1).setCell ⟨L, 2, none⟩ a2).setCell ⟨L, 3, none⟩ a3).setCell ⟨L, 4, none⟩ a4).setCell ⟨L, 5, none⟩ a5).heap[L]? = some (.cells #[a0, a1, a2, a3, a4, a5] t) := by
  have h0 := heap_setCell_at (i := 0) h a0
  have h1 := heap_setCell_at (i := 1) h0 a1
  have h2 := heap_setCell_at (i := 2) h1 a2
  have h3 := heap_setCell_at (i := 3) h2 a3
  have h4 := heap_setCell_at (i := 4) h3 a4
  have h5 := heap_setCell_at (i := 5) h4 a5
  rw [h5]; rfl
theorem set6_off {w : World} {L j : Nat} (hj : j ≠ L) (a0 a1 a2 a3 a4 a5 : Value) :
    ((((((w.setCell ⟨L, 0, none⟩ a0).setCell ⟨L, 1, none⟩ a1).setCell ⟨L, 2, none⟩ a2).setCell ⟨L, 3, none⟩ a3).setCell ⟨L, 4, none⟩ a4).setCell ⟨L, 5, none⟩ a5).heap[j]? = w.heap[j]? := by
  rw [hso hj, hso hj, hso hj, hso hj, hso hj, hso hj]
theorem set6_below {B : Nat} {w w0 : World} {L : Nat} (hb : Below B w0 w) (hL : B ≤ L) (a0 a1 a2 a3 a4 a5 : Value) :
    Below B w0 ((((((w.setCell ⟨L, 0, none⟩ a0).setCell ⟨L, 1, none⟩ a1).setCell ⟨L, 2, none⟩ a2).setCell ⟨L, 3, none⟩ a3).setCell ⟨L, 4, none⟩ a4).setCell ⟨L, 5, none⟩ a5) :=
  (((((hb.setCell hL _).setCell hL _).setCell hL _).setCell hL _).setCell hL _).setCell hL _
theorem set6_size {w : World} {L : Nat} (a0 a1 a2 a3 a4 a5 : Value) : ((((((w.setCell ⟨L, 0, none⟩ a0).setCell ⟨L, 1, none⟩ a1).setCell ⟨L, 2, none⟩ a2).setCell ⟨L, 3, none⟩ a3).setCell ⟨L, 4, none⟩ a4).setCell ⟨L, 5, none⟩ a5).heap.size = w.heap.size := by simp [World.setCell]
/-- the cells of a configuration in memory -/
structure Box6 (w : World) (L : Nat) (c0 c1 c2 c3 c4 c5 : Value) : Prop where
  a0 : w.cell? ⟨L, 0, none⟩ = some c0
  a1 : w.cell? ⟨L, 1, none⟩ = some c1
  a2 : w.cell? ⟨L, 2, none⟩ = some c2
  a3 : w.cell? ⟨L, 3, none⟩ = some c3
  a4 : w.cell? ⟨L, 4, none⟩ = some c4
  a5 : w.cell? ⟨L, 5, none⟩ = some c5
  fz : ∀ j, w.frozen? ⟨L, j, none⟩ = false
theorem box6 {w : World} {L : Nat} {t : TypeId} {c0 c1 c2 c3 c4 c5 : Value} (h : w.heap[L]? = some (.cells #[c0, c1, c2, c3, c4, c5] t)) : Box6 w L c0 c1 c2 c3 c4 c5 :=
  ⟨cell_of_heap h rfl, cell_of_heap h rfl, cell_of_heap h rfl, cell_of_heap h rfl, cell_of_heap h rfl, cell_of_heap h rfl, fun _ => frozen_of_heap h⟩

end Go.Proofs.YtpmkjeihbddfpabDoor

