import Derived.Test.YtpmkjeihbddfpabGreatDoorAllB13
import Derived.Lib.LaidTab
import Derived.Lib.ItoaNum
/- OUR OWN. The table of the library's that strconv reads: where it lies, and that it stays. -/
namespace Go.Proofs.YtpmkjeihbddfpabGreatDoor
open Go.RowKit
set_option linter.unusedVariables false
set_option linter.unusedSimpArgs false

theorem tabNamed : Tryz.prog.globalNamed "internal/strconv.uint64pow10" = some 0 := by kernel_rfl
/-- the table's block lies below B, and holds the powers of ten -/
def Tab (B : Nat) (w : World) : Prop := 0 < B ∧ 0 < w.heap.size ∧ Lib.TabIs Tryz.prog w "internal/strconv.uint64pow10" .u64 Lib.pow10Tab
theorem Tab.keep {B : Nat} {w w' : World} (t : Tab B w) (hs : w.heap.size ≤ w'.heap.size) (h : ∀ k, k < B → k < w.heap.size → w'.heap[k]? = w.heap[k]?) : Tab B w' := by
  refine ⟨t.1, by have := t.2.1; omega, ?_⟩
  have h2 := t.2.2
  unfold Lib.TabIs World.var? at h2 ⊢
  rw [tabNamed] at h2 ⊢
  simp only [Option.bind_some] at h2 ⊢
  rw [h _ t.1 t.2.1]
  exact h2
theorem Tab.below {B : Nat} {w w' : World} (t : Tab B w) (h : Below w.heap.size w w') : Tab B w' := t.keep h.size fun k _ h2 => h.block k h2
theorem Tab.off {B : Nat} {F : List Nat} {w w' : World} (t : Tab B w) (h : Off F w w') (hF : ∀ g ∈ F, B ≤ g) : Tab B w' := t.keep h.size fun k h1 h2 => h.block k h2 fun e => by have := hF k e; omega

end Go.Proofs.YtpmkjeihbddfpabGreatDoor

/- OUR OWN. The program's heap: Do. -/
namespace Go.Proofs.YtpmkjeihbddfpabGreatDoor
open Go.RowKit
set_option linter.unusedVariables false
set_option linter.unusedSimpArgs false

def HDoSays (op : Int) : Prop := ∀ (h N : Nat) (w : World) (m : HeapM) (s : St) (c : Cf) (n : Int), HB 0 h w m s c N → True →
  Calls Tryz.prog 22 #[.pointer (some ⟨h, 0, none⟩), .int .i64 op, .int .i64 n] w (HDone2 h N w m c (doS c s op n))

set_option maxHeartbeats 400000 in
theorem hdo_0 : HDoSays 0 := by
  intro h N w m s c n p hf
  have e : doS c s 0 n = pushA c.deep s (0, 0) := by simp [doS]
  rw [e]
  have C : Hid (Calls Tryz.prog 46 #[.pointer (some ⟨h, 0, none⟩), .agg #[.int .i64 0, .int .i64 0]] w (HDone h N w m c (pushA c.deep s (0, 0)))) := by
    have d := hpush_do p.pre (0, 0)
    rw [p.hs.st, p.hs.deep] at d
    exact d.mono fun e w' x => x.done p.hs
  clear p e hf
  go_enter Tryz.func22, Tryz.ntmps22
  go_wp2_with fail
  refine Calls.mono C.out ?_
  rintro e w1 ⟨rfl, hm⟩
  have M : Hid _ := hm
  clear hm C
  go_wp2
  go_ret2
  exact ⟨ret_zero (push_zero _ _ _), M.out⟩

set_option maxHeartbeats 400000 in
theorem hdo_1 : HDoSays 1 := by
  intro h N w m s c n p hf
  have e : doS c s 1 n = pushA c.deep s (1, n) := by simp [doS]
  rw [e]
  have C : Hid (Calls Tryz.prog 46 #[.pointer (some ⟨h, 0, none⟩), .agg #[.int .i64 1, .int .i64 n]] w (HDone h N w m c (pushA c.deep s (1, n)))) := by
    have d := hpush_do p.pre (1, n)
    rw [p.hs.st, p.hs.deep] at d
    exact d.mono fun e w' x => x.done p.hs
  clear p e hf
  go_enter Tryz.func22, Tryz.ntmps22
  go_wp2_with fail
  refine Calls.mono C.out ?_
  rintro e w1 ⟨rfl, hm⟩
  have M : Hid _ := hm
  clear hm C
  go_wp2
  go_ret2
  exact ⟨ret_zero (push_zero _ _ _), M.out⟩

set_option maxHeartbeats 400000 in
theorem hdo_2 : HDoSays 2 := by
  intro h N w m s c n p hf
  have e : doS c s 2 n = newS c s n := by simp [doS]
  rw [e]
  have C : Hid (Calls Tryz.prog 47 #[.pointer (some ⟨h, 0, none⟩), .int .i64 n] w (HDone h N w m c (newS c s n))) := new_done p n
  clear p e hf
  go_enter Tryz.func22, Tryz.ntmps22
  go_wp2_with fail
  refine Calls.mono C.out ?_
  rintro e w1 ⟨rfl, hm⟩
  have M : Hid _ := hm
  clear hm C
  go_wp2
  go_ret2
  exact ⟨ret_zero (new_zero _ _ _), M.out⟩

set_option maxHeartbeats 400000 in
theorem hdo_3 : HDoSays 3 := by
  intro h N w m s c n p hf
  have e : doS c s 3 n = dupS c.deep s n := by simp [doS]
  rw [e]
  have C : Hid (Calls Tryz.prog 48 #[.pointer (some ⟨h, 0, none⟩), .int .i64 n] w (HDone h N w m c (dupS c.deep s n))) := by
    have d := hdup_do h N w m n p.pre
    rw [p.hs.st, p.hs.deep] at d
    exact d.mono fun e w' x => x.done p.hs
  clear p e hf
  go_enter Tryz.func22, Tryz.ntmps22
  go_wp2_with fail
  refine Calls.mono C.out ?_
  rintro e w1 ⟨rfl, hm⟩
  have M : Hid _ := hm
  clear hm C
  go_wp2
  go_ret2
  exact ⟨ret_zero (dup_zero _ _ _), M.out⟩

set_option maxHeartbeats 400000 in
theorem hdo_4 : HDoSays 4 := by
  intro h N w m s c n p hf
  have e : doS c s 4 n = dropS s := by simp [doS]
  rw [e]
  have C : Hid (Calls Tryz.prog 49 #[.pointer (some ⟨h, 0, none⟩)] w (HDone h N w m c (dropS s))) := by
    have d := hdrop_do h N w m p.pre
    rw [p.hs.st] at d
    exact d.mono fun e w' x => x.done p.hs
  clear p e hf
  go_enter Tryz.func22, Tryz.ntmps22
  go_wp2_with fail
  refine Calls.mono C.out ?_
  rintro e w1 ⟨rfl, hm⟩
  have M : Hid _ := hm
  clear hm C
  go_wp2
  go_ret2
  exact ⟨ret_zero (drop_zero _), M.out⟩

set_option maxHeartbeats 400000 in
theorem hdo_5 : HDoSays 5 := by
  intro h N w m s c n p hf
  have e : doS c s 5 n = getS c.deep s n := by simp [doS]
  rw [e]
  have C : Hid (Calls Tryz.prog 50 #[.pointer (some ⟨h, 0, none⟩), .int .i64 n] w (HDone h N w m c (getS c.deep s n))) := by
    have d := hget_do h N w m n p.pre
    rw [p.hs.st, p.hs.deep] at d
    exact d.mono fun e w' x => x.done p.hs
  clear p e hf
  go_enter Tryz.func22, Tryz.ntmps22
  go_wp2_with fail
  refine Calls.mono C.out ?_
  rintro e w1 ⟨rfl, hm⟩
  have M : Hid _ := hm
  clear hm C
  go_wp2
  go_ret2
  exact ⟨ret_zero (get_zero _ _ _), M.out⟩

set_option maxHeartbeats 400000 in
theorem hdo_6 : HDoSays 6 := by
  intro h N w m s c n p hf
  have e : doS c s 6 n = setS s n := by simp [doS]
  rw [e]
  have C : Hid (Calls Tryz.prog 51 #[.pointer (some ⟨h, 0, none⟩), .int .i64 n] w (HDone h N w m c (setS s n))) := by
    have d := hset_do h N w m n p.pre
    rw [p.hs.st] at d
    exact d.mono fun e w' x => x.done p.hs
  clear p e hf
  go_enter Tryz.func22, Tryz.ntmps22
  go_wp2_with fail
  refine Calls.mono C.out ?_
  rintro e w1 ⟨rfl, hm⟩
  have M : Hid _ := hm
  clear hm C
  go_wp2
  go_ret2
  exact ⟨ret_zero (set_zero _ _), M.out⟩

set_option maxHeartbeats 400000 in
theorem hdo_7 : HDoSays 7 := by
  intro h N w m s c n p hf
  have e : doS c s 7 n = loadS c.deep s n := by simp [doS]
  rw [e]
  have C : Hid (Calls Tryz.prog 52 #[.pointer (some ⟨h, 0, none⟩), .int .i64 n] w (HDone h N w m c (loadS c.deep s n))) := by
    have d := hload_do h N w m n p.pre
    rw [p.hs.st, p.hs.deep] at d
    exact d.mono fun e w' x => x.done p.hs
  clear p e hf
  go_enter Tryz.func22, Tryz.ntmps22
  go_wp2_with fail
  refine Calls.mono C.out ?_
  rintro e w1 ⟨rfl, hm⟩
  have M : Hid _ := hm
  clear hm C
  go_wp2
  go_ret2
  exact ⟨ret_zero (load_zero _ _ _), M.out⟩

set_option maxHeartbeats 400000 in
theorem hdo_8 : HDoSays 8 := by
  intro h N w m s c n p hf
  have e : doS c s 8 n = storeS c s n := by simp [doS]
  rw [e]
  have C : Hid (Calls Tryz.prog 53 #[.pointer (some ⟨h, 0, none⟩), .int .i64 n] w (HDone h N w m c (storeS c s n))) := store_done p n
  clear p e hf
  go_enter Tryz.func22, Tryz.ntmps22
  go_wp2_with fail
  refine Calls.mono C.out ?_
  rintro e w1 ⟨rfl, hm⟩
  have M : Hid _ := hm
  clear hm C
  go_wp2
  go_ret2
  exact ⟨ret_zero (store_zero _ _ _), M.out⟩

set_option maxHeartbeats 400000 in
theorem hdo_9 : HDoSays 9 := by
  intro h N w m s c n p hf
  have e : doS c s 9 n = sameS s := by simp [doS]
  rw [e]
  have C : Hid (Calls Tryz.prog 54 #[.pointer (some ⟨h, 0, none⟩)] w (HDone2 h N w m c (sameS s))) := by
    have d := hsame_do h N w m p.pre
    rw [p.hs.st] at d
    exact d.mono fun e w' x => x.done p.hs
  clear p e hf
  go_enter Tryz.func22, Tryz.ntmps22
  go_wp2_with fail
  refine Calls.mono C.out ?_
  rintro e w1 ⟨rfl, hm⟩
  have M : Hid _ := hm
  clear hm C
  go_wp2
  go_ret2
  exact ⟨rfl, M.out⟩

set_option maxHeartbeats 400000 in
theorem hdo_10 : HDoSays 10 := by
  intro h N w m s c n p hf
  have e : doS c s 10 n = takeS s := by simp [doS]
  rw [e]
  have C : Hid (Calls Tryz.prog 55 #[.pointer (some ⟨h, 0, none⟩)] w (HDone2 h N w m c (takeS s))) := by
    have d := htake_do h N w m p.pre
    rw [p.hs.st] at d
    exact d.mono fun e w' x => x.done p.hs
  clear p e hf
  go_enter Tryz.func22, Tryz.ntmps22
  go_wp2_with fail
  refine Calls.mono C.out ?_
  rintro e w1 ⟨rfl, hm⟩
  have M : Hid _ := hm
  clear hm C
  go_wp2
  go_ret2
  exact ⟨rfl, M.out⟩

set_option maxHeartbeats 400000 in
theorem hdo_11 : HDoSays 11 := by
  intro h N w m s c n p hf
  have e : doS c s 11 n = sizeS s := by simp [doS]
  rw [e]
  have C : Hid (Calls Tryz.prog 56 #[.pointer (some ⟨h, 0, none⟩)] w (HDone2 h N w m c (sizeS s))) := by
    have d := hsize_do h N w m p.pre
    rw [p.hs.st] at d
    exact d.mono fun e w' x => x.done p.hs
  clear p e hf
  go_enter Tryz.func22, Tryz.ntmps22
  go_wp2_with fail
  refine Calls.mono C.out ?_
  rintro e w1 ⟨rfl, hm⟩
  have M : Hid _ := hm
  clear hm C
  go_wp2
  go_ret2
  exact ⟨rfl, M.out⟩

set_option maxHeartbeats 400000 in
theorem hdo_12 : HDoSays 12 := by
  intro h N w m s c n p hf
  have e : doS c s 12 n = kindS s := by simp [doS]
  rw [e]
  have C : Hid (Calls Tryz.prog 57 #[.pointer (some ⟨h, 0, none⟩)] w (HDone2 h N w m c (kindS s))) := by
    have d := hkind_do h N w m p.pre
    rw [p.hs.st] at d
    exact d.mono fun e w' x => x.done p.hs
  clear p e hf
  go_enter Tryz.func22, Tryz.ntmps22
  go_wp2_with fail
  refine Calls.mono C.out ?_
  rintro e w1 ⟨rfl, hm⟩
  have M : Hid _ := hm
  clear hm C
  go_wp2
  go_ret2
  exact ⟨rfl, M.out⟩

set_option maxHeartbeats 400000 in
theorem hdo_none (op : Int) (h0 : ¬ op = 0) (h1 : ¬ op = 1) (h2 : ¬ op = 2) (h3 : ¬ op = 3) (h4 : ¬ op = 4) (h5 : ¬ op = 5) (h6 : ¬ op = 6) (h7 : ¬ op = 7) (h8 : ¬ op = 8) (h9 : ¬ op = 9) (h10 : ¬ op = 10) (h11 : ¬ op = 11) (h12 : ¬ op = 12) : HDoSays op := by
  intro h N w m s c n p hf
  have e : doS c s op n = (s, 0, 2) := by simp [doS, h0, h1, h2, h3, h4, h5, h6, h7, h8, h9, h10, h11, h12]
  rw [e]
  have M : Hid (∃ m', HTurn h w m w m' ∧ HS m' s c N) := ⟨m, .refl p.r, p.hs⟩
  have q0 : (op == 0) = false := by simpa using h0
  have q1 : (op == 1) = false := by simpa using h1
  have q2 : (op == 2) = false := by simpa using h2
  have q3 : (op == 3) = false := by simpa using h3
  have q4 : (op == 4) = false := by simpa using h4
  have q5 : (op == 5) = false := by simpa using h5
  have q6 : (op == 6) = false := by simpa using h6
  have q7 : (op == 7) = false := by simpa using h7
  have q8 : (op == 8) = false := by simpa using h8
  have q9 : (op == 9) = false := by simpa using h9
  have q10 : (op == 10) = false := by simpa using h10
  have q11 : (op == 11) = false := by simpa using h11
  have q12 : (op == 12) = false := by simpa using h12
  clear p e hf
  go_enter Tryz.func22, Tryz.ntmps22
  go_wp2
  go_ret2
  exact ⟨rfl, M.out⟩

theorem hdo_any (op : Int) : HDoSays op := by
  by_cases h0 : op = 0
  · subst h0; exact hdo_0
  by_cases h1 : op = 1
  · subst h1; exact hdo_1
  by_cases h2 : op = 2
  · subst h2; exact hdo_2
  by_cases h3 : op = 3
  · subst h3; exact hdo_3
  by_cases h4 : op = 4
  · subst h4; exact hdo_4
  by_cases h5 : op = 5
  · subst h5; exact hdo_5
  by_cases h6 : op = 6
  · subst h6; exact hdo_6
  by_cases h7 : op = 7
  · subst h7; exact hdo_7
  by_cases h8 : op = 8
  · subst h8; exact hdo_8
  by_cases h9 : op = 9
  · subst h9; exact hdo_9
  by_cases h10 : op = 10
  · subst h10; exact hdo_10
  by_cases h11 : op = 11
  · subst h11; exact hdo_11
  by_cases h12 : op = 12
  · subst h12; exact hdo_12
  exact hdo_none op h0 h1 h2 h3 h4 h5 h6 h7 h8 h9 h10 h11 h12

end Go.Proofs.YtpmkjeihbddfpabGreatDoor

/- OUR OWN. The program's contracts: New's heap; Do, in every state. -/
namespace Go.Proofs.YtpmkjeihbddfpabGreatDoor
open Go.RowKit
set_option linter.unusedVariables false
set_option linter.unusedSimpArgs false

theorem count_blank (b g : Nat) (x : Int) : (⟨[], List.replicate g (0, 0), List.replicate (b + 1) Ob.free, []⟩ : St).count x = 0 := by
  unfold St.count
  simp only [List.replicate_succ, List.tail_cons]
  induction b with
  | zero => rfl
  | succ b ih => rw [List.replicate_succ, List.map_cons, List.sum_cons, ih]; rfl

theorem fresh_hs (b s g u z o : Nat) (h : cfgB b s g u z o = true) (hm : HeapM) (hn : NewM b s g u z o hm) : HS hm ⟨[], List.replicate g (0, 0), List.replicate (b + 1) Ob.free, []⟩ ⟨s, u, z, o⟩ b := by
  obtain ⟨vG, vB, rfl⟩ := hn
  refine ⟨?_, rfl, rfl, rfl, rfl, fun x hx => ?_, fun i x hx hs => ?_⟩
  · have e : HObj.free.ob = Ob.free := by simp [HObj.free, HObj.ob, Ob.free]
    simp [HeapM.st, newM, e]
  · have : x = HObj.free := by simp [newM] at hx; exact hx
    subst this; exact .inl rfl
  · have hx' : x ∈ (newM b s g u z o vG vB).blks := List.mem_of_getElem? hx
    have : x = HObj.free := by simp [newM] at hx'; exact hx'
    subst this
    rcases hs with e | e <;> simp [HObj.free] at e

theorem do_all : DoPact HS fun _ => True := by
  intro x N w hm s c op n hat hs g cf hN h16 h8 hop hn _
  exact (hdo_any op x N w hm s c n ⟨hat, hs, g, cf, hN, h16, h8⟩ trivial).mono fun e w' ⟨he, m', ht, hs'⟩ => ⟨he, m', ht, hs'⟩
theorem do_pact : DoPact HS room3 := fun x N w hm s c op n hat hs g cf hN h16 h8 hop hn _ => do_all x N w hm s c op n hat hs g cf hN h16 h8 hop hn fun _ => trivial
theorem do_pact2 : DoPact HS room2 := fun x N w hm s c op n hat hs g cf hN h16 h8 hop hn _ => do_all x N w hm s c op n hat hs g cf hN h16 h8 hop hn fun _ => trivial

end Go.Proofs.YtpmkjeihbddfpabGreatDoor

/- OUR OWN. The program's heap: Safepoint. -/
namespace Go.Proofs.YtpmkjeihbddfpabGreatDoor
open Go.RowKit
set_option linter.unusedVariables false
set_option linter.unusedSimpArgs false

theorem safeN_end (z : Int) (k : Nat) (s : St) (h : k = 0 ∨ s.queue.length = 0) : safeN z k s = (s, 0) := by
  cases k with
  | zero => rfl
  | succ k =>
    rcases h with h | h
    · cases h
    · unfold safeN; rw [if_pos h]

set_option maxHeartbeats 1600000 in
theorem safepoint_any {h : Nat} {w : World} {m : HeapM} {s : St} {c : Cf} {N : Nat} (p : HB 0 h w m s c N) :
    Calls Tryz.prog 10 #[.pointer (some ⟨h, 0, none⟩)] w fun e w' => e = .returned (.int .i64 (s.safe c).2) ∧ ∃ m', HTurn h w m w' m' ∧ HS m' (s.safe c).1 c N := by
  obtain ⟨T, hT⟩ : ∃ T, s.safe c = T := ⟨_, rfl⟩
  rw [hT]
  obtain ⟨B, hB⟩ : ∃ B : Nat, c.budget = B := ⟨c.budget.toNat, by have := p.cf.budget; omega⟩
  have hB9 : B ≤ 99 := by have := p.cf.budget; omega
  have hT' : safeN c.zero B (s.sort 0) = T := by rw [← hT]; unfold St.safe; rw [hB, Int.toNat_natCast]
  have Inv : ∃ I : Nat → World → Prop, I = fun j wr => j ≤ B ∧ ∃ mr sj, HTurn h w m wr mr ∧ HB 0 h wr mr sj c N ∧ T.1 = (safeN c.zero (B - j) sj).1 ∧ T.2 = (safeN c.zero (B - j) sj).2 + j := ⟨_, rfl⟩
  obtain ⟨I, hI⟩ := Inv
  have SORT : Hid (Calls Tryz.prog 24 #[.pointer (some ⟨h, 0, none⟩)] w fun e w' => e = .returned (.tuple #[]) ∧ I 0 w') := by
    refine (sortWaiting_any p).mono ?_
    rintro e w' ⟨he, m', t, q⟩
    rw [hI]
    exact ⟨he, Nat.zero_le _, m', _, t, q, by rw [Nat.sub_zero, hT'], by rw [Nat.sub_zero, hT']; rfl⟩
  have CELL : Hid (∀ j wr, I j wr → j ≤ B ∧ wr.cell? ⟨h, 1, none⟩ = some (.int .i64 B) ∧ ∃ ao ql qc, wr.cell? ⟨h, 7, none⟩ = some (.slice ao ql qc) ∧ ql ≤ 100 ∧
      (j = B ∨ ql = 0 → ∀ W, Below wr.heap.size wr W → T.2 = j ∧ ∃ m', HTurn h w m W m' ∧ HS m' T.1 c N) ∧
      (j < B → ql ≠ 0 → ∀ W, Below wr.heap.size wr W → Calls Tryz.prog 25 #[.pointer (some ⟨h, 0, none⟩)] W fun e w' => e = .returned (.tuple #[]) ∧ I (j + 1) w')) := by
    intro j wr hi
    rw [hI] at hi
    obtain ⟨hj, mr, sj, t, q, h1, h2⟩ := hi
    obtain ⟨ao, qc, hvQ⟩ := win_slice q.r.queue
    refine ⟨hj, by rw [q.r.cellBudget, q.hs.budget, hB], ao, sj.queue.length, qc, by rw [q.r.cell.2.2.2.2.1, hvQ, q.mqueue], by have := q.good.queue_len; have := q.small; omega, fun he W hb => ?_, fun hlt hne W hb => ?_⟩
    · have e := safeN_end c.zero (B - j) sj (by omega)
      rw [e] at h1 h2
      exact ⟨by simpa using h2, mr, t.after hb, by rw [h1]; exact q.hs⟩
    · refine (freeFirst_any (q.below hb) hne).mono ?_
      rintro e w' ⟨he, m', t2, q2⟩
      rw [hI]
      obtain ⟨k, hk⟩ : ∃ k, B - j = k + 1 := ⟨B - j - 1, by omega⟩
      have hk1 : B - (j + 1) = k := by omega
      have es : safeN c.zero (B - j) sj = ((safeN c.zero k (sj.free c.zero)).1, (safeN c.zero k (sj.free c.zero)).2 + 1) := by rw [hk]; show (if _ then _ else _) = _; rw [if_neg hne]
      rw [es] at h1 h2
      exact ⟨he, by omega, m', _, (t.after hb).trans t2, q2, by rw [hk1, h1], by rw [hk1]; simp at h2; omega⟩
  clear p hT hT' hB hI
  go_enter Tryz.func10, Tryz.ntmps10
  go_wp2_with fail
  refine Calls.mono SORT.out ?_
  rintro e w1 ⟨rfl, hi⟩
  have I0 : Hid _ := hi
  clear hi SORT
  go_wp2
  go_loopw [3] (fun i wr => ∃ j : Nat, i = .int .i64 j ∧ I j wr) (fun i _ => B - (intOf i).toNat)
  case atStart => exact ⟨0, rfl, I0.out⟩
  case round =>
    obtain ⟨j, rfl, hi⟩ := hrel
    obtain ⟨hj, cB, ao, ql, qc, cQ, hql, hend, hgo⟩ := CELL.out j wr hi
    have EN : Hid _ := hend
    have GO : Hid _ := hgo
    clear hi hend hgo
    by_cases hlt : j < B
    · by_cases h0 : ql = 0
      · subst h0
        obtain ⟨hT, hm⟩ := EN.out (.inr rfl) wr (Below.refl _ _)
        have M : Hid _ := hm
        have hjI : (j : Int) < B := by omega
        clear hm EN GO
        obtain ⟨T1, T2⟩ := T
        simp only at hT M ⊢
        subst hT
        go_wp2
        go_ret
        exact ⟨rfl, M.out⟩
      · have R : Hid _ := GO.out hlt h0
        have hjI : (j : Int) < B := by omega
        have hqI : (0 : Int) < ql := by omega
        clear EN GO
        go_wp2_with fail
        refine Calls.mono (R.out _ (Below.refl _ _)) ?_
        rintro e w2 ⟨rfl, hm⟩
        have M : Hid _ := hm
        clear hm R cB cQ
        go_wp2
        go_roundw
        case rel => exact ⟨j + 1, by go_num, M.out⟩
        case measure => simp [intOf]; omega
    · obtain rfl : j = B := by omega
      obtain ⟨hT, hm⟩ := EN.out (.inl rfl) wr (Below.refl _ _)
      have M : Hid _ := hm
      clear hm EN GO
      obtain ⟨T1, T2⟩ := T
      simp only at hT M ⊢
      subst hT
      go_wp2
      go_ret
      exact ⟨rfl, M.out⟩

theorem safe_pact : SafePact HS := by
  intro x N w hm s c hat hs g cf hN h16 h8
  exact safepoint_any ⟨hat, hs, g, cf, hN, h16, h8⟩

end Go.Proofs.YtpmkjeihbddfpabGreatDoor

/- OUR OWN. The program's Gauge: the contract. -/
namespace Go.Proofs.YtpmkjeihbddfpabGreatDoor
open Go.RowKit
set_option linter.unusedVariables false
set_option linter.unusedSimpArgs false

theorem gauge_of {m : HeapM} {s : St} {c : Cf} {N : Nat} (p : HSb 0 m s c N) (g : s.Good N) : gaugeS s = (countTo (m.inB 0) N, countTo (s.others 0) N, s.queue.length, countTo s.extra N, countTo (m.inB 2) N) := by
  have hl : m.blks.length = N + 1 := by
    have := g.len
    rw [← p.st] at this
    simpa [HeapM.st] using this
  have hob : ∀ i, i ≤ N → ∃ o, m.blks[i]? = some o ∧ s.ob i = o.ob := fun i hi => ⟨m.blks[i]'(by omega), List.getElem?_eq_getElem (by omega), by rw [← p.st]; exact hst_ob (List.getElem?_eq_getElem (by omega))⟩
  unfold gaugeS St.extras
  rw [g.sN]
  have e1 : countTo s.frees N = countTo (m.inB 0) N := countTo_congr fun b h1 h2 => by
    obtain ⟨o, ho, he⟩ := hob b h2
    unfold St.frees HeapM.inB
    rw [ho, he]
    simp [HObj.ob]
  have e2 : countTo s.waits N = countTo (s.others 0) N := countTo_congr fun b h1 h2 => by
    unfold St.others
    rw [decide_eq_true (by omega), Bool.and_true]
  have e3 : countTo s.stucks N = countTo (m.inB 2) N := countTo_congr fun b h1 h2 => by
    obtain ⟨o, ho, he⟩ := hob b h2
    unfold St.stucks HeapM.inB
    rw [ho, he]
    by_cases h : o.state = 2
    · simp [HObj.ob, h]
    · simp [HObj.ob, h]
  rw [e1, e2, e3]

theorem box5 {W : World} {L : Nat} {t : TypeId} {x0 x1 x2 x3 x4 a b c d e : Value} (h : W.heap[L]? = some (.cells #[x0, x1, x2, x3, x4] t)) :
    (((((W.setCell ⟨L, 0, none⟩ a).setCell ⟨L, 1, none⟩ b).setCell ⟨L, 2, none⟩ c).setCell ⟨L, 3, none⟩ d).setCell ⟨L, 4, none⟩ e).heap[L]? = some (.cells #[a, b, c, d, e] t) := by
  rw [heap_setCell_at (heap_setCell_at (heap_setCell_at (heap_setCell_at (heap_setCell_at h a) b) c) d) e]; rfl
theorem below_set {w W : World} (hb : Below w.heap.size w W) (i : Nat) (v : Value) : Below w.heap.size w (W.setCell ⟨w.heap.size, i, none⟩ v) :=
  ⟨hb.os, hb.tape, hb.output, by have := hb.size; simpa [World.setCell] using this, fun k hk => by rw [hso (by omega)]; exact hb.block k hk⟩

set_option maxRecDepth 20000 in
set_option maxHeartbeats 4000000 in
theorem gauge_done {h : Nat} {w : World} {m : HeapM} {s : St} {c : Cf} {N : Nat} (p : HB 0 h w m s c N) :
    Calls Tryz.prog 16 #[.pointer (some ⟨h, 0, none⟩)] w fun e w' =>
      e = .returned (.agg #[.int .i64 (gaugeS s).1, .int .i64 (gaugeS s).2.1, .int .i64 (gaugeS s).2.2.1, .int .i64 (gaugeS s).2.2.2.1, .int .i64 (gaugeS s).2.2.2.2]) ∧ Below w.heap.size w w' := by
  obtain ⟨qao, qcp, hvQ⟩ := win_slice p.r.queue
  rw [gauge_of p.hs p.good]
  simp only
  have K : Hid (∀ W, Below w.heap.size w W → W.cell? ⟨h, 7, none⟩ = some (.slice qao s.queue.length qcp) ∧
      (Calls Tryz.prog 40 #[.pointer (some ⟨h, 0, none⟩), .int .i64 0] W fun e w' => e = .returned (.int .i64 (countTo (m.inB 0) N)) ∧ Below W.heap.size W w') ∧
      (Calls Tryz.prog 41 #[.pointer (some ⟨h, 0, none⟩)] W fun e w' => e = .returned (.int .i64 (countTo (s.others 0) N)) ∧ Below W.heap.size W w') ∧
      (Calls Tryz.prog 42 #[.pointer (some ⟨h, 0, none⟩)] W fun e w' => e = .returned (.int .i64 (countTo s.extra N)) ∧ Below W.heap.size W w') ∧
      (Calls Tryz.prog 40 #[.pointer (some ⟨h, 0, none⟩), .int .i64 2] W fun e w' => e = .returned (.int .i64 (countTo (m.inB 2) N)) ∧ Below W.heap.size W w')) := by
    have cell : ∀ W, Below w.heap.size w W → W.cell? ⟨h, 7, none⟩ = some (.slice qao s.queue.length qcp) := fun W hb => by
      rw [(p.below hb).r.cell.2.2.2.2.1, hvQ, p.mqueue]
    intro W hb
    refine ⟨cell W hb, ?_, ?_, ?_, ?_⟩
    · exact (inState_any (p.below hb) 0).mono fun e w' ⟨he, hw⟩ => ⟨he, by rw [hw]; exact Below.refl _ _⟩
    · exact (waiting_any (p.below hb)).mono fun e w' ⟨he, hb2⟩ => ⟨he, hb2⟩
    · exact (hextras_any (p.below hb)).mono fun e w' ⟨he, hb2⟩ => ⟨he, hb2⟩
    · exact (inState_any (p.below hb) 2).mono fun e w' ⟨he, hw⟩ => ⟨he, by rw [hw]; exact Below.refl _ _⟩
  have c0 := (K.out w (Below.refl _ _)).1
  obtain ⟨n1, hn1⟩ : ∃ n, countTo (m.inB 0) N = n := ⟨_, rfl⟩
  obtain ⟨n2, hn2⟩ : ∃ n, countTo (s.others 0) N = n := ⟨_, rfl⟩
  obtain ⟨n3, hn3⟩ : ∃ n, s.queue.length = n := ⟨_, rfl⟩
  obtain ⟨n4, hn4⟩ : ∃ n, countTo s.extra N = n := ⟨_, rfl⟩
  obtain ⟨n5, hn5⟩ : ∃ n, countTo (m.inB 2) N = n := ⟨_, rfl⟩
  rw [hn1, hn2, hn3, hn4, hn5] at K
  rw [hn1, hn2, hn3, hn4, hn5]
  rw [hn3] at c0
  clear p hvQ hn1 hn2 hn3 hn4 hn5
  have NX : Hid (∀ W w', Below w.heap.size w W → W.heap[w.heap.size]? = some (.cells #[.int .i64 0, .int .i64 0, .int .i64 0, .int .i64 0, .int .i64 0] 45) → Below W.heap.size W w' → Below w.heap.size w w' ∧ w'.cell? ⟨h, 7, none⟩ = some (.slice qao n3 qcp) ∧ w'.heap[w.heap.size]? = some (.cells #[.int .i64 0, .int .i64 0, .int .i64 0, .int .i64 0, .int .i64 0] 45)) := fun W w' hb hx hb2 => by
    have hbb : Below w.heap.size w w' := hb.trans (hb2.mono hb.size)
    exact ⟨hbb, (K.out w' hbb).1, by rw [hb2.block _ (lt_of_heap hx)]; exact hx⟩
  have c1 := (K.out (w.alloc (.cells #[.int .i64 0, .int .i64 0, .int .i64 0, .int .i64 0, .int .i64 0] 45)) ((Below.refl _ _).alloc (Nat.le_refl _) _)).1
  go_enter Tryz.func16, Tryz.ntmps16
  go_wp2_with fail
  first | go_region_with (first | (go_at_call 40; refine Calls.mono (K.out _ B3.out.1).2.2.2.2 ?_; rintro e w4 ⟨rfl, hb⟩; obtain ⟨b4, g4, x4⟩ := NX.out _ w4 B3.out.1 B3.out.2 hb; have B4 : Hid _ := And.intro b4 x4; clear b4 x4 hb; have y0 := cell_of_heap (i := 0) B4.out.2 rfl; have y1 := cell_of_heap (i := 1) B4.out.2 rfl; have y2 := cell_of_heap (i := 2) B4.out.2 rfl; have y3 := cell_of_heap (i := 3) B4.out.2 rfl; have y4 := cell_of_heap (i := 4) B4.out.2 rfl; have z0 := frozen_of_heap (i := 0) B4.out.2; have z1 := frozen_of_heap (i := 1) B4.out.2; have z2 := frozen_of_heap (i := 2) B4.out.2; have z3 := frozen_of_heap (i := 3) B4.out.2; have z4 := frozen_of_heap (i := 4) B4.out.2) | (go_at_call 42; refine Calls.mono (K.out _ B2.out.1).2.2.2.1 ?_; rintro e w3 ⟨rfl, hb⟩; obtain ⟨b3, g3, x3⟩ := NX.out _ w3 B2.out.1 B2.out.2 hb; have B3 : Hid _ := And.intro b3 x3; clear b3 x3 hb) | (go_at_call 41; refine Calls.mono (K.out _ B1.out.1).2.2.1 ?_; rintro e w2 ⟨rfl, hb⟩; obtain ⟨b2, g2, x2⟩ := NX.out _ w2 B1.out.1 B1.out.2 hb; have B2 : Hid _ := And.intro b2 x2; clear b2 x2 hb) | (go_at_call 40; refine Calls.mono (K.out _ ((Below.refl _ _).alloc (Nat.le_refl _) _).drew).2.1 ?_; rintro e w1 ⟨rfl, hb⟩; obtain ⟨b1, g1, x1⟩ := NX.out _ w1 ((Below.refl _ _).alloc (Nat.le_refl _) _).drew (heap_alloc_new w _) hb; have B1 : Hid _ := And.intro b1 x1; clear b1 x1 hb)) | fail "region"
  all_goals go_wp2
  all_goals
    have hx := box5 (a := .int .i64 n1) (b := .int .i64 n2) (c := .int .i64 n3) (d := .int .i64 n4) (e := .int .i64 n5) B4.out.2
    have BB := below_set (below_set (below_set (below_set (below_set B4.out.1 0 (.int .i64 n1)) 1 (.int .i64 n2)) 2 (.int .i64 n3)) 3 (.int .i64 n4)) 4 (.int .i64 n5)
    obtain ⟨w5, hw5⟩ : ∃ w5, ((((w4.setCell ⟨w.heap.size, 0, none⟩ (.int .i64 n1)).setCell ⟨w.heap.size, 1, none⟩ (.int .i64 n2)).setCell ⟨w.heap.size, 2, none⟩ (.int .i64 n3)).setCell ⟨w.heap.size, 3, none⟩ (.int .i64 n4)).setCell ⟨w.heap.size, 4, none⟩ (.int .i64 n5) = w5 := ⟨_, rfl⟩
    rw [hw5] at hx BB ⊢
    have u0 := cell_of_heap (i := 0) hx rfl
    have u1 := cell_of_heap (i := 1) hx rfl
    have u2 := cell_of_heap (i := 2) hx rfl
    have u3 := cell_of_heap (i := 3) hx rfl
    have u4 := cell_of_heap (i := 4) hx rfl
    exact bodyPost_ret (v := .agg #[.int .i64 n1, .int .i64 n2, .int .i64 n3, .int .i64 n4, .int .i64 n5]) (by simp [results, Tryz.results16, go_sem, u0, u1, u2, u3, u4]) rfl ⟨rfl, BB⟩

theorem gauge_pact : GaugePact HS := by
  intro x N w hm s c hat hs g cf hN h16 h8
  exact (gauge_done ⟨hat, hs, g, cf, hN, h16, h8⟩).mono fun e w' ⟨he, hb⟩ => ⟨he, hm, .of_below hat hb, hs⟩

end Go.Proofs.YtpmkjeihbddfpabGreatDoor

/- OUR OWN. What is asked of the program's Dump. -/
namespace Go.Proofs.YtpmkjeihbddfpabGreatDoor
open Go.RowKit
set_option linter.unusedVariables false
set_option linter.unusedSimpArgs false

def DumpPact (HS : HeapM → St → Cf → Nat → Prop) : Prop := ∀ (x N B : Nat) (w : World) (hm : HeapM) (s : St) (c : Cf), Tab B w → HeapAt w x hm → HS hm s c N → s.Good N → CfOk c → N ≤ 99 → s.stack.length ≤ 16 → s.globals.length ≤ 8 →
  Calls Tryz.prog 14 #[.pointer (some ⟨x, 0, none⟩)] w fun e w' => e = .returned (str (dumpL s)) ∧ ∃ hm', HTurn x w hm w' hm' ∧ HS hm' s c N

end Go.Proofs.YtpmkjeihbddfpabGreatDoor

/- OUR OWN. Which of n things a raw number speaks of. -/
namespace Go.Proofs.YtpmkjeihbddfpabGreatDoor

def pickN (c : Int) (n : Nat) : Nat := ((if c < 0 then -(c + 1) else c) % n).toNat

theorem pickN_lt (c : Int) (n : Nat) (h : 0 < n) : pickN c n < n := by
  unfold pickN
  have := Int.emod_lt_of_pos (if c < 0 then -(c + 1) else c) (show (0 : Int) < n by omega)
  omega

end Go.Proofs.YtpmkjeihbddfpabGreatDoor

/- OUR OWN. May, num, pick. -/
namespace Go.Proofs.YtpmkjeihbddfpabGreatDoor
open Go.RowKit
set_option linter.unusedVariables false
set_option linter.unusedSimpArgs false

theorem num_any (e : Int) (w : World) :
    Calls Tryz.prog 20 #[.int .i64 e] w fun r w' => r = .returned (.int .i64 e) ∧ w' = w := by
  go_enter Tryz.func20, Tryz.ntmps20
  go_wp2
  go_ret
  exact ⟨rfl, rfl⟩

set_option maxHeartbeats 400000 in
theorem pick_any (c : Int) (n : Nat) (w : World) (hc : -9223372036854775808 ≤ c ∧ c ≤ 9223372036854775807) (hn : 0 < n) (hm : n ≤ 2000000000000) :
    Calls Tryz.prog 8 #[.int .i64 c, .int .i64 n] w fun r w' => r = .returned (.int .i64 (pickN c n)) ∧ w' = w := by
  obtain ⟨c1, c2⟩ := hc
  have hp : (0 : Int) < n := by omega
  have hne : ((n : Int) == 0) = false := by simp; omega
  by_cases h : c < 0
  · have e : (pickN c n : Int) = -((c + 1).tmod n) := by
      rw [← Int.neg_tmod, Int.tmod_eq_emod_of_nonneg (by omega)]
      unfold pickN; rw [if_pos h]; have := Int.emod_nonneg (-(c + 1)) (show (n : Int) ≠ 0 by omega); omega
    have E : Hid ((pickN c n : Int) = -((c + 1).tmod n)) := e
    clear e
    go_enter Tryz.func8, Tryz.ntmps8
    go_wp2
    go_ret
    rw [E.out]
    exact ⟨rfl, rfl⟩
  · have e : (pickN c n : Int) = c % n := by
      unfold pickN; rw [if_neg h]; have := Int.emod_nonneg c (show (n : Int) ≠ 0 by omega); omega
    have E : Hid ((pickN c n : Int) = c % n) := e
    clear e
    go_enter Tryz.func8, Tryz.ntmps8
    go_wp2
    go_ret
    rw [E.out]
    exact ⟨rfl, rfl⟩

set_option maxHeartbeats 800000 in
theorem may_yes (b s g u z o : Int) (w : World) (h : cfgB b s g u z o = true) :
    Calls Tryz.prog 19 #[.int .i64 b, .int .i64 s, .int .i64 g, .int .i64 u, .int .i64 z, .int .i64 o] w
      fun e w' => e = .returned (.bool true) ∧ w' = w := by
  have ⟨h1, h2, h3, h4, h5, h6, h7, h8, h9, h10, h11, h12⟩ : 1 ≤ b ∧ b ≤ 99 ∧ 1 ≤ s ∧ s ≤ 16 ∧ 0 ≤ g ∧ g ≤ 8 ∧ 1 ≤ u ∧ u ≤ 99 ∧ s + g < z ∧ z ≤ 99 ∧ 0 ≤ o ∧ o ≤ 9 := by simpa [cfgB] using h
  clear h
  go_enter Tryz.func19, Tryz.ntmps19
  go_wp2
  go_ret
  exact ⟨rfl, rfl⟩

theorem cfg_cases {b s g u z o : Int} (h : cfgB b s g u z o = false) :
    (b < 1) ∨
    (1 ≤ b ∧ 99 < b) ∨
    (1 ≤ b ∧ b ≤ 99 ∧ s < 1) ∨
    (1 ≤ b ∧ b ≤ 99 ∧ 1 ≤ s ∧ 16 < s) ∨
    (1 ≤ b ∧ b ≤ 99 ∧ 1 ≤ s ∧ s ≤ 16 ∧ g < 0) ∨
    (1 ≤ b ∧ b ≤ 99 ∧ 1 ≤ s ∧ s ≤ 16 ∧ 0 ≤ g ∧ 8 < g) ∨
    (1 ≤ b ∧ b ≤ 99 ∧ 1 ≤ s ∧ s ≤ 16 ∧ 0 ≤ g ∧ g ≤ 8 ∧ u < 1) ∨
    (1 ≤ b ∧ b ≤ 99 ∧ 1 ≤ s ∧ s ≤ 16 ∧ 0 ≤ g ∧ g ≤ 8 ∧ 1 ≤ u ∧ 99 < u) ∨
    (1 ≤ b ∧ b ≤ 99 ∧ 1 ≤ s ∧ s ≤ 16 ∧ 0 ≤ g ∧ g ≤ 8 ∧ 1 ≤ u ∧ u ≤ 99 ∧ z ≤ s + g) ∨
    (1 ≤ b ∧ b ≤ 99 ∧ 1 ≤ s ∧ s ≤ 16 ∧ 0 ≤ g ∧ g ≤ 8 ∧ 1 ≤ u ∧ u ≤ 99 ∧ s + g < z ∧ 99 < z) ∨
    (1 ≤ b ∧ b ≤ 99 ∧ 1 ≤ s ∧ s ≤ 16 ∧ 0 ≤ g ∧ g ≤ 8 ∧ 1 ≤ u ∧ u ≤ 99 ∧ s + g < z ∧ z ≤ 99 ∧ o < 0) ∨
    (1 ≤ b ∧ b ≤ 99 ∧ 1 ≤ s ∧ s ≤ 16 ∧ 0 ≤ g ∧ g ≤ 8 ∧ 1 ≤ u ∧ u ≤ 99 ∧ s + g < z ∧ z ≤ 99 ∧ 0 ≤ o ∧ 9 < o) := by
  by_cases a0 : b < 1
  · exact Or.inl a0
  by_cases a1 : 99 < b
  · exact Or.inr (Or.inl (⟨Int.not_lt.1 a0, a1⟩))
  by_cases a2 : s < 1
  · exact Or.inr (Or.inr (Or.inl (⟨Int.not_lt.1 a0, Int.not_lt.1 a1, a2⟩)))
  by_cases a3 : 16 < s
  · exact Or.inr (Or.inr (Or.inr (Or.inl (⟨Int.not_lt.1 a0, Int.not_lt.1 a1, Int.not_lt.1 a2, a3⟩))))
  by_cases a4 : g < 0
  · exact Or.inr (Or.inr (Or.inr (Or.inr (Or.inl (⟨Int.not_lt.1 a0, Int.not_lt.1 a1, Int.not_lt.1 a2, Int.not_lt.1 a3, a4⟩)))))
  by_cases a5 : 8 < g
  · exact Or.inr (Or.inr (Or.inr (Or.inr (Or.inr (Or.inl (⟨Int.not_lt.1 a0, Int.not_lt.1 a1, Int.not_lt.1 a2, Int.not_lt.1 a3, Int.not_lt.1 a4, a5⟩))))))
  by_cases a6 : u < 1
  · exact Or.inr (Or.inr (Or.inr (Or.inr (Or.inr (Or.inr (Or.inl (⟨Int.not_lt.1 a0, Int.not_lt.1 a1, Int.not_lt.1 a2, Int.not_lt.1 a3, Int.not_lt.1 a4, Int.not_lt.1 a5, a6⟩)))))))
  by_cases a7 : 99 < u
  · exact Or.inr (Or.inr (Or.inr (Or.inr (Or.inr (Or.inr (Or.inr (Or.inl (⟨Int.not_lt.1 a0, Int.not_lt.1 a1, Int.not_lt.1 a2, Int.not_lt.1 a3, Int.not_lt.1 a4, Int.not_lt.1 a5, Int.not_lt.1 a6, a7⟩))))))))
  by_cases a8 : z ≤ s + g
  · exact Or.inr (Or.inr (Or.inr (Or.inr (Or.inr (Or.inr (Or.inr (Or.inr (Or.inl (⟨Int.not_lt.1 a0, Int.not_lt.1 a1, Int.not_lt.1 a2, Int.not_lt.1 a3, Int.not_lt.1 a4, Int.not_lt.1 a5, Int.not_lt.1 a6, Int.not_lt.1 a7, a8⟩)))))))))
  by_cases a9 : 99 < z
  · exact Or.inr (Or.inr (Or.inr (Or.inr (Or.inr (Or.inr (Or.inr (Or.inr (Or.inr (Or.inl (⟨Int.not_lt.1 a0, Int.not_lt.1 a1, Int.not_lt.1 a2, Int.not_lt.1 a3, Int.not_lt.1 a4, Int.not_lt.1 a5, Int.not_lt.1 a6, Int.not_lt.1 a7, Int.not_le.1 a8, a9⟩))))))))))
  by_cases a10 : o < 0
  · exact Or.inr (Or.inr (Or.inr (Or.inr (Or.inr (Or.inr (Or.inr (Or.inr (Or.inr (Or.inr (Or.inl (⟨Int.not_lt.1 a0, Int.not_lt.1 a1, Int.not_lt.1 a2, Int.not_lt.1 a3, Int.not_lt.1 a4, Int.not_lt.1 a5, Int.not_lt.1 a6, Int.not_lt.1 a7, Int.not_le.1 a8, Int.not_lt.1 a9, a10⟩)))))))))))
  by_cases a11 : 9 < o
  · exact Or.inr (Or.inr (Or.inr (Or.inr (Or.inr (Or.inr (Or.inr (Or.inr (Or.inr (Or.inr (Or.inr (⟨Int.not_lt.1 a0, Int.not_lt.1 a1, Int.not_lt.1 a2, Int.not_lt.1 a3, Int.not_lt.1 a4, Int.not_lt.1 a5, Int.not_lt.1 a6, Int.not_lt.1 a7, Int.not_le.1 a8, Int.not_lt.1 a9, Int.not_lt.1 a10, a11⟩)))))))))))
  exfalso
  simp only [cfgB, decide_eq_false_iff_not] at h
  exact h ⟨Int.not_lt.1 a0, Int.not_lt.1 a1, Int.not_lt.1 a2, Int.not_lt.1 a3, Int.not_lt.1 a4, Int.not_lt.1 a5, Int.not_lt.1 a6, Int.not_lt.1 a7, Int.not_le.1 a8, Int.not_lt.1 a9, Int.not_lt.1 a10, Int.not_lt.1 a11⟩

set_option maxHeartbeats 1600000 in
theorem may_no (b s g u z o : Int) (w : World) (h : cfgB b s g u z o = false) :
    Calls Tryz.prog 19 #[.int .i64 b, .int .i64 s, .int .i64 g, .int .i64 u, .int .i64 z, .int .i64 o] w
      fun e w' => e = .returned (.bool false) ∧ w' = w := by
  have h' := cfg_cases h
  clear h
  rcases h' with h | h | h | h | h | h | h | h | h | h | h | h
  all_goals
    (repeat (obtain ⟨hx, h⟩ := h))
    go_enter Tryz.func19, Tryz.ntmps19
    go_wp2
    go_ret
    first | exact ⟨rfl, rfl⟩ | exact ⟨ret_bool (by simp; omega), rfl⟩

end Go.Proofs.YtpmkjeihbddfpabGreatDoor

/- OUR OWN. The law's heaps, in pairs; made. -/
namespace Go.Proofs.YtpmkjeihbddfpabGreatDoor
open Go.RowKit
set_option linter.unusedVariables false
set_option linter.unusedSimpArgs false

/-- a heap, the document's, how many objects were asked for; and where they lie -/
structure PairM where
  p : Nat
  x : Nat
  h : Nat
  hm : HeapM
  rm : RefM
  news : Int

def PairM.foot (q : PairM) : List Nat := q.p :: (q.x :: q.hm.foot) ++ (q.h :: q.rm.foot)
def PairM.head (q : PairM) : Obj := .cells #[.pointer (some ⟨q.x, 0, none⟩), .pointer (some ⟨q.h, 0, none⟩), .int .i64 q.news] 41

structure PairAt (w : World) (q : PairM) : Prop where
  head : w.heap[q.p]? = some q.head
  heap : HeapAt w q.x q.hm
  ref : RefAt w q.h q.rm
  apart : q.foot.Nodup

theorem PairAt.carry {w w' : World} {q : PairM} (r : PairAt w q) (hb : ∀ g ∈ q.foot, w'.heap[g]? = w.heap[g]?) : PairAt w' q :=
  ⟨by rw [hb _ (by simp [PairM.foot])]; exact r.head, r.heap.carry fun g hg => hb g (List.mem_cons_of_mem q.p (List.mem_append_left (q.h :: q.rm.foot) hg)),
    r.ref.carry fun g hg => hb g (List.mem_cons_of_mem q.p (List.mem_append_right (q.x :: q.hm.foot) hg)), r.apart⟩

theorem PairAt.lt {w : World} {q : PairM} (r : PairAt w q) : ∀ g ∈ q.foot, g < w.heap.size := by
  intro g hg
  simp only [PairM.foot, List.cons_append] at hg
  rcases List.mem_cons.1 hg with rfl | hg
  · exact lt_of_heap r.head
  · rcases List.mem_append.1 (show g ∈ (q.x :: q.hm.foot) ++ (q.h :: q.rm.foot) from hg) with hg | hg
    · exact r.heap.lt g hg
    · exact r.ref.lt g hg

def ptr (n : Nat) : Value := .pointer (some ⟨n, 0, none⟩)
def allFoot (wb : Nat) (v : Value) (ps : List PairM) : List Nat := wb :: v.ownBlock.toList ++ ps.flatMap PairM.foot

/-- the law's world: block wb, with the slice v of the pairs ps -/
structure LawAt (Sim : HeapM → RefM → Int → Prop) (B : Nat) (w : World) (wb : Nat) (v : Value) (ps : List PairM) : Prop where
  head : w.heap[wb]? = some (.cells #[v] 26)
  row : w.ownsRow 0 32 1 v ps.length (ps.map fun q => ptr q.p)
  pairs : ∀ q ∈ ps, PairAt w q
  sim : ∀ q ∈ ps, Sim q.hm q.rm q.news
  apart : (allFoot wb v ps).Nodup
  low : ∀ g ∈ allFoot wb v ps, B ≤ g
  tab : Tab B w

variable {Sim : HeapM → RefM → Int → Prop}

theorem LawAt.lt {B : Nat} {w : World} {wb : Nat} {v : Value} {ps : List PairM} (r : LawAt Sim B w wb v ps) : ∀ g ∈ allFoot wb v ps, g < w.heap.size := by
  intro g hg
  simp only [allFoot, List.cons_append] at hg
  rcases List.mem_cons.1 hg with rfl | hg
  · exact lt_of_heap r.head
  · rcases List.mem_append.1 hg with hg | hg
    · exact (own_lt r.row (by simpa using hg)).2
    · obtain ⟨q, hq, hg⟩ := List.mem_flatMap.1 hg
      exact (r.pairs q hq).lt g hg

theorem LawAt.carry {B : Nat} {w w' : World} {wb : Nat} {v : Value} {ps : List PairM} (r : LawAt Sim B w wb v ps) (hb : ∀ g ∈ allFoot wb v ps, w'.heap[g]? = w.heap[g]?) (ht : Tab B w') : LawAt Sim B w' wb v ps :=
  ⟨by rw [hb _ (by simp [allFoot])]; exact r.head, own_carry r.row fun g hg => hb g (by simp [allFoot, hg]),
    fun q hq => (r.pairs q hq).carry fun g hg => hb g (by simp only [allFoot, List.cons_append]; exact List.mem_cons_of_mem _ (List.mem_append_right _ (List.mem_flatMap.2 ⟨q, hq, hg⟩))), r.sim, r.apart, r.low, ht⟩

theorem LawAt.below {B : Nat} {w w' : World} {wb : Nat} {v : Value} {ps : List PairM} (r : LawAt Sim B w wb v ps) (hb : Below w.heap.size w w') : LawAt Sim B w' wb v ps :=
  r.carry (fun g hg => hb.block g (r.lt g hg)) (r.tab.below hb)

/-- One pair more: its memory is new; only the world's own block and the row of the pairs were written. -/
theorem LawAt.more {B : Nat} {w w1 : World} {wb : Nat} {v v' : Value} {ps : List PairM} (r : LawAt Sim B w wb v ps) (q : PairM)
    (hB : B ≤ w.heap.size) (hh : w1.heap[wb]? = some (.cells #[v'] 26))
    (hrow : w1.ownsRow 0 32 1 v' (ps.length + 1) (ps.map (fun q => ptr q.p) ++ [ptr q.p])) (hv : ∀ g, v'.ownBlock = some g → v.ownBlock = some g ∨ (w.heap.size ≤ g ∧ g ∉ q.foot))
    (hsz1 : w.heap.size ≤ w1.heap.size) (hold : ∀ g, g < w.heap.size → g ≠ wb → v.ownBlock ≠ some g → w1.heap[g]? = w.heap[g]?) (hq : PairAt w1 q) (hqn : ∀ g ∈ q.foot, w.heap.size ≤ g) (hs : Sim q.hm q.rm q.news) :
    LawAt Sim B w1 wb v' (ps ++ [q]) := by
  have hnd := r.apart
  have hlt := r.lt
  simp only [allFoot, List.cons_append, List.nodup_cons, List.nodup_append, List.mem_append, not_or] at hnd
  obtain ⟨⟨hwv, hwp⟩, hvn, hpn, hvp⟩ := hnd
  have hin : ∀ q' ∈ ps, ∀ g ∈ q'.foot, g ∈ allFoot wb v ps := fun q' hq' g hg => by
    simp only [allFoot, List.cons_append]; exact List.mem_cons_of_mem _ (List.mem_append_right _ (List.mem_flatMap.2 ⟨q', hq', hg⟩))
  have hw : wb < w.heap.size := lt_of_heap r.head
  have hpl : ∀ g ∈ ps.flatMap PairM.foot, g < w.heap.size := fun g hg => hlt g (by simp only [allFoot, List.cons_append]; exact List.mem_cons_of_mem _ (List.mem_append_right _ hg))
  have hvl : ∀ g, v.ownBlock = some g → g < w.heap.size := fun g hg => (own_lt r.row hg).2
  refine ⟨hh, by simpa using hrow, ?_, ?_, ?_, ?_, r.tab.keep hsz1 fun k h1 h2 => hold k h2 (fun e => ?_) (fun e => ?_)⟩
  rotate_left 4
  · have := r.low wb (by simp [allFoot]); omega
  · have := r.low k (by simp [allFoot, e]); omega
  · intro q' hq'
    rcases List.mem_append.1 hq' with hq' | hq'
    · refine (r.pairs q' hq').carry fun g hg => hold g (hlt g (hin q' hq' g hg)) ?_ ?_
      · intro e; subst e; exact hwp (List.mem_flatMap.2 ⟨q', hq', hg⟩)
      · intro e; exact hvp g (by simp [e]) g (List.mem_flatMap.2 ⟨q', hq', hg⟩) rfl
    · simp at hq'; subst hq'; exact hq
  · intro q' hq'
    rcases List.mem_append.1 hq' with hq' | hq'
    · exact r.sim q' hq'
    · simp at hq'; subst hq'; exact hs
  · simp only [allFoot, List.cons_append, List.flatMap_append, List.flatMap_cons, List.flatMap_nil, List.append_nil, List.nodup_cons, List.nodup_append, List.mem_append, not_or]
    refine ⟨⟨?_, hwp, fun hg => by have := hqn _ hg; omega⟩, ?_, ⟨hpn, hq.apart, ?_⟩, ?_⟩
    · intro hg
      have hg' : v'.ownBlock = some wb := by simpa using hg
      rcases hv _ hg' with e | ⟨e, _⟩
      · exact hwv (by simp [e])
      · omega
    · cases v'.ownBlock <;> simp
    · intro a ha b hb' e; subst e; have := hpl _ ha; have := hqn _ hb'; omega
    · intro a ha b hb' e
      subst e
      have ha' : v'.ownBlock = some a := by simpa using ha
      rcases hv _ ha' with e1 | ⟨e1, e2⟩
      · rcases hb' with hb' | hb'
        · exact hvp a (by simp [e1]) a hb' rfl
        · have := hqn _ hb'; have := hvl _ e1; omega
      · rcases hb' with hb' | hb'
        · have := hpl _ hb'; omega
        · exact e2 hb'
  · intro g hg
    simp only [allFoot, List.cons_append, List.flatMap_append, List.flatMap_cons, List.flatMap_nil, List.append_nil] at hg
    rcases List.mem_cons.1 hg with rfl | hg
    · exact r.low _ (by simp [allFoot])
    · rcases List.mem_append.1 hg with hg | hg
      · have hg' : v'.ownBlock = some g := by simpa using hg
        rcases hv _ hg' with e | ⟨e, _⟩
        · exact r.low _ (by simp [allFoot, e])
        · omega
      · rcases List.mem_append.1 hg with hg | hg
        · exact r.low _ (by simp only [allFoot, List.cons_append]; exact List.mem_cons_of_mem _ (List.mem_append_right _ hg))
        · have := hqn _ hg; omega

theorem infoPair : (Tryz.prog.info? 32).map (fun i => (i.zero, i.size, i.bytes)) = some (some (.pointer none), 1, 8) := by kernel_rfl

/-- the configuration that a call has boxed, behind whatever made memory alone -/
theorem boxed {w w1 : World} {cs : Array Value} {t : TypeId} (hb : Below (w.alloc (.cells cs t)).heap.size (w.alloc (.cells cs t)) w1) : w1.heap[w.heap.size]? = some (.cells cs t) := by
  rw [hb.block _ (by simp)]; exact heap_alloc_new w _

set_option maxHeartbeats 800000 in
theorem made_no {B : Nat} {w : World} {wb : Nat} {v : Value} {ps : List PairM} (r : LawAt Sim B w wb v ps) (b s g u z o : Int) (h : cfgB b s g u z o = false) :
    Calls Tryz.prog 7 #[ptr wb, .agg #[.int .i64 b, .int .i64 s, .int .i64 g, .int .i64 u, .int .i64 z, .int .i64 o]] w
      fun e w' => e = .returned (.bool true) ∧ LawAt Sim B w' wb v ps ∧ Off (allFoot wb v ps) w w' := by
  have key : ∀ w', Below w.heap.size w w' → LawAt Sim B w' wb v ps ∧ Off (allFoot wb v ps) w w' := fun w' hb => ⟨r.below hb, .of_below hb⟩
  clear r
  go_enter Tryz.func7, Tryz.ntmps7
  go_wp2_with (first
    | (go_at_call 18; refine (new_no _ _ _ _ _ _ _ h).mono ?_; rintro e w1 ⟨rfl, hbel⟩; have hh := boxed hbel; have hc0 := cell_of_heap (i := 0) hh rfl; have hc1 := cell_of_heap (i := 1) hh rfl; have hc2 := cell_of_heap (i := 2) hh rfl; have hc3 := cell_of_heap (i := 3) hh rfl; have hc4 := cell_of_heap (i := 4) hh rfl; have hc5 := cell_of_heap (i := 5) hh rfl; clear hh)
    | (go_at_call 19; refine (may_no _ _ _ _ _ _ _ h).mono ?_; rintro e w2 ⟨rfl, rfl⟩)
    | (go_at_call 20; refine (num_any _ _).mono ?_; rintro e w2 ⟨rfl, rfl⟩))
  go_ret
  exact ⟨rfl, key _ (((Below.refl _ _).alloc (Nat.le_refl _) _).trans (hbel.mono (by simp)))⟩

theorem nodup_two {l m : List Nat} {n : Nat} (hl : l.Nodup) (hm : m.Nodup) (h : ∀ x ∈ l, x < n) (h' : ∀ x ∈ m, n ≤ x) : (l ++ m).Nodup :=
  List.nodup_append.2 ⟨hl, hm, fun a ha b hb e => by have := h a ha; have := h' b hb; omega⟩

/-- The end of made: all that the walk leaves, put together. -/
theorem made_end {B : Nat} {w w1 w2 w3 : World} {wb : Nat} {v : Value} {ps : List PairM} (r : LawAt Sim B w wb v ps) (hB : B ≤ w.heap.size) {cfg : Obj} {b s g u z o : Nat} {x gg cap : Nat} {hm0 : HeapM} {rB rG : Value}
    (hsim : Sim hm0 (freshM b s g u z o rB rG) 0)
    (hbel : Below (w.alloc cfg).heap.size (w.alloc cfg) w1) (hat : HeapAt w1 x hm0) (hft : ∀ j ∈ x :: hm0.foot, (w.alloc cfg).heap.size ≤ j)
    (hm : Made2 w1 w2 b s u z o rB rG (b + 1) g)
    (hown : w3.ownsRow 0 32 1 (.slice (some ⟨gg, 0, none⟩) (ps.length + 1) cap) (ps.length + 1) (ps.map (fun q => ptr q.p) ++ [ptr w2.heap.size]))
    (hgr : ((w2.alloc (.cells #[ptr x, ptr w1.heap.size, .int .i64 0] 41)).alloc (.cells #[ptr w2.heap.size] 32)).grownBy w3 v.ownBlock)
    (hlie : v.ownBlock = some gg ∨ gg = w2.heap.size + 1 + 1) :
    LawAt Sim B (w3.setCell ⟨wb, 0, none⟩ (.slice (some ⟨gg, 0, none⟩) (ps.length + 1) cap)) wb (.slice (some ⟨gg, 0, none⟩) (ps.length + 1) cap)
      (ps ++ [⟨w2.heap.size, x, w1.heap.size, hm0, freshM b s g u z o rB rG, 0⟩]) ∧
    Off (allFoot wb v ps) w (w3.setCell ⟨wb, 0, none⟩ (.slice (some ⟨gg, 0, none⟩) (ps.length + 1) cap)) := by
  have hw := lt_of_heap r.head
  have hs1 : w.heap.size + 1 ≤ w1.heap.size := by have := hbel.size; simpa using this
  have hs2 : w1.heap.size < w2.heap.size := lt_of_heap hm.head
  have hs3 : w2.heap.size + 1 + 1 ≤ w3.heap.size := by have := hgr.size; simpa using this
  have hvl : ∀ j, v.ownBlock = some j → j < w.heap.size := fun j hj => (own_lt r.row hj).2
  -- a block of the old world, or of what New made, is the same in w2 and in w3
  have old1 : ∀ j, j < w.heap.size → w1.heap[j]? = w.heap[j]? := fun j hj => by
    rw [hbel.block j (by simp; omega), hao hj]
  have old2 : ∀ j, j < w1.heap.size → w2.heap[j]? = w1.heap[j]? := fun j hj => hm.below.block j hj
  have old3 : ∀ j, j < w2.heap.size → v.ownBlock ≠ some j → w3.heap[j]? = w2.heap[j]? := fun j hj hv => by
    rw [hgr.block j (by simp; omega) (fun e => hv e.symm), hao (by simp; omega), hao hj]
  have newp : w3.heap[w2.heap.size]? = some (.cells #[ptr x, ptr w1.heap.size, .int .i64 0] 41) := by
    rw [hgr.block _ (by simp; omega) (fun e => by have := hvl _ e.symm; omega), hao (by simp)]; exact heap_alloc_new w2 _
  have hset : ∀ j, j ≠ wb → (w3.setCell ⟨wb, 0, none⟩ (.slice (some ⟨gg, 0, none⟩) (ps.length + 1) cap)).heap[j]? = w3.heap[j]? := fun j hj => Below.heap_setCell _ _ _ _ hj
  have hxl := hat.lt
  have hrl := hm.refAt.lt
  have hrf := hm.foot
  have hwv : v.ownBlock ≠ some wb := fun e => by
    have := r.apart
    simp only [allFoot, e, List.cons_append, List.nodup_cons] at this
    exact this.1 (by simp)
  have hgw : gg ≠ wb := fun e => by
    subst e
    rcases hlie with e | e
    · exact hwv e
    · omega
  have hhead : w3.heap[wb]? = some (.cells #[v] 26) := by
    rw [old3 wb (by omega) hwv, old2 wb (by omega), old1 wb hw]; exact r.head
  have hfoot : ∀ j ∈ PairM.foot ⟨w2.heap.size, x, w1.heap.size, hm0, freshM b s g u z o rB rG, 0⟩, w.heap.size ≤ j ∧ j ≤ w2.heap.size := by
    intro j hj
    rcases List.mem_append.1 (show j ∈ (w2.heap.size :: (x :: hm0.foot)) ++ (w1.heap.size :: (freshM b s g u z o rB rG).foot) from hj) with hj | hj
    · rcases List.mem_cons.1 hj with rfl | hj
      · omega
      · have h1 := hft j hj
        have h2 := hxl j hj
        simp at h1
        omega
    · have h1 := hrf j hj
      have h2 := hrl j hj
      omega
  have hne : ∀ j, w.heap.size ≤ j → v.ownBlock ≠ some j := fun j hj e => by have := hvl j e; omega
  refine ⟨r.more _ hB (by rw [heap_setCell_at hhead]; rfl) ?_ ?_ (by simp [World.setCell]; omega) ?_ ?_ (fun j hj => (hfoot j hj).1) hsim, ?_⟩
  · exact own_carry hown fun j hj => hset j (by simp [Value.ownBlock] at hj; omega)
  · intro j hj
    simp [Value.ownBlock] at hj
    subst hj
    rcases hlie with e | e
    · exact .inl e
    · right
      refine ⟨by omega, fun hj => ?_⟩
      have := (hfoot _ hj).2
      omega
  · intro j hj h1 h2
    rw [hset j h1, old3 j (by omega) h2, old2 j (by omega), old1 j hj]
  · refine ⟨?_, ?_, ?_, ?_⟩
    · exact (hset _ (show w2.heap.size ≠ wb by omega)).trans newp
    · refine hat.carry fun j hj => ?_
      have h1 := hft j hj
      have h2 := hxl j hj
      simp at h1
      rw [hset _ (by omega), old3 j (by omega) (hne j (by omega)), old2 j h2]
    · refine hm.refAt.carry fun j hj => ?_
      have h1 := hrf j hj
      have h2 := hrl j hj
      rw [hset _ (by omega), old3 j h2 (hne j (by omega))]
    · show (w2.heap.size :: ((x :: hm0.foot) ++ (w1.heap.size :: (freshM b s g u z o rB rG).foot))).Nodup
      refine List.nodup_cons.2 ⟨fun hj => ?_, nodup_two hat.apart hm.refAt.apart hxl hrf⟩
      rcases List.mem_append.1 hj with hj | hj
      · have := hxl _ hj; omega
      · have := hrl _ hj; omega
  · refine ⟨?_, ?_, ?_, ?_, ?_⟩
    · exact hgr.os.trans (hm.below.os.trans hbel.os)
    · exact hgr.tape.trans (hm.below.tape.trans hbel.tape)
    · exact hgr.output.trans (hm.below.output.trans hbel.output)
    · simp [World.setCell]; omega
    · intro j hj hF
      rw [hset j (fun e => hF (by simp [allFoot, e])), old3 j (by omega) (fun e => hF (by simp [allFoot, e])), old2 j (by omega), old1 j hj]

set_option maxHeartbeats 800000 in
theorem made_yes {B : Nat} {w : World} {wb : Nat} {v : Value} {ps : List PairM} (r : LawAt Sim B w wb v ps) (hB : B ≤ w.heap.size) (hlen : ps.length ≤ 2000000000000) (b s g u z o : Nat) (h : cfgB b s g u z o = true)
    (hsim : ∀ hm0, NewM b s g u z o hm0 → ∀ rB rG, Sim hm0 (freshM b s g u z o rB rG) 0) :
    Calls Tryz.prog 7 #[ptr wb, .agg #[.int .i64 b, .int .i64 s, .int .i64 g, .int .i64 u, .int .i64 z, .int .i64 o]] w
      fun e w' => ∃ v' q, e = .returned (.bool true) ∧ LawAt Sim B w' wb v' (ps ++ [q]) ∧ Off (allFoot wb v ps) w w' := by
  have hcf : (b : Int) ≤ 99 ∧ (g : Int) ≤ 8 := by simp [cfgB] at h; omega
  have hb : b ≤ 99 := by omega
  have hg : g ≤ 8 := by omega
  obtain ⟨i0, hi, hz0, hz1, hz2⟩ := info_parts infoPair
  have hw := lt_of_heap r.head
  have hwv : v.ownBlock ≠ some wb := fun e => by
    have := r.apart
    simp only [allFoot, e, List.cons_append, List.nodup_cons] at this
    exact this.1 (by simp)
  have hhd := r.head
  have E : Hid (LawAt Sim B w wb v ps ∧ B ≤ w.heap.size ∧ ∀ hm0, NewM b s g u z o hm0 → ∀ rB rG, Sim hm0 (freshM b s g u z o rB rG) 0) := ⟨r, hB, hsim⟩
  have W : Hid (w.heap[wb]? = some (.cells #[v] 26) ∧ wb < w.heap.size) := ⟨hhd, hw⟩
  have OWN : Hid (w.ownsRow 0 32 1 v ps.length (ps.map fun q => ptr q.p)) := r.row
  clear r hsim hB hhd
  unfold ptr
  go_enter Tryz.func7, Tryz.ntmps7
  go_wp2_with (first
    | (go_at_call 18; refine (new_says _ _ _ _ _ _ _ h).mono ?_; rintro e w1 ⟨x, hm0, rfl, hbel, hat, hft, hnw⟩; have hh := boxed hbel; have hc0 := cell_of_heap (i := 0) hh rfl; have hc1 := cell_of_heap (i := 1) hh rfl; have hc2 := cell_of_heap (i := 2) hh rfl; have hc3 := cell_of_heap (i := 3) hh rfl; have hc4 := cell_of_heap (i := 4) hh rfl; have hc5 := cell_of_heap (i := 5) hh rfl; clear hh; have N : Hid (_ ∧ _ ∧ _ ∧ _) := ⟨hbel, hat, hft, hnw⟩; clear hbel hat hft hnw)
    | (go_at_call 19; refine (may_yes _ _ _ _ _ _ _ h).mono ?_; rintro e w1 ⟨rfl, rfl⟩)
    | (go_at_call 20; refine (num_any _ _).mono ?_; rintro e w1 ⟨rfl, rfl⟩))
  refine (fresh_any _ _ _ _ _ _ _ hb hg).mono ?_
  rintro e w2 ⟨rfl, rB, rG, hm⟩
  obtain ⟨hbel, hat, hft, hnw⟩ := N.out
  have hs1 : w.heap.size + 1 ≤ w1.heap.size := by have := hbel.size; simpa using this
  have hs2 : w1.heap.size < w2.heap.size := lt_of_heap hm.head
  have old2 : ∀ j, j < w.heap.size → w2.heap[j]? = w.heap[j]? := fun j hj => by
    rw [hm.below.block j (by omega), hbel.block j (by simp; omega), hao hj]
  have hwb : w2.cell? ⟨wb, 0, none⟩ = some v := cell_of_heap ((old2 wb W.out.2).trans W.out.1) rfl
  have own2 : w2.ownsRow 0 32 1 v ps.length (ps.map fun q => ptr q.p) := own_carry OWN.out fun j hj => old2 j (own_lt OWN.out hj).2
  have own3 := (own2.alloc (.cells #[ptr x, ptr w1.heap.size, .int .i64 0] 41)).alloc (.cells #[ptr w2.heap.size] 32)
  have OWN3 : Hid (((w2.alloc (.cells #[ptr x, ptr w1.heap.size, .int .i64 0] 41)).alloc (.cells #[ptr w2.heap.size] 32)).ownsRow 0 32 1 v ps.length (ps.map fun q => ptr q.p)) := own3
  have M : Hid (Made2 w1 w2 b s u z o rB rG (b + 1) g) := hm
  have O2 : Hid (∀ j, j < w.heap.size → w2.heap[j]? = w.heap[j]?) := old2
  clear hm hbel hat hft hnw own2 own3 old2 hc0 hc1 hc2 hc3 hc4 hc5 h
  go_wp2_with (at_builtin; refine wpList_append_lies _ rfl (.tmp 60) (.tmp 65) 24 rfl 0 32 i0 _ 1 8 Tryz.underlying24 hi hz0 hz1 hz2 rfl (by decide) _ _ _ rfl OWN3.out ⟨w2.heap.size + 1, 0, none⟩ 1 1 [ptr w2.heap.size] rfl rfl ?c1 ?c2 (by decide) ?c3 ?c4 (Nat.zero_le _) (w2.heap.size + 1 + 1) (by simp) ?_)
  case c1 => have := news_new (w2.alloc (.cells #[ptr x, ptr w1.heap.size, .int .i64 0] 41)) [ptr w2.heap.size] 32; simpa [ptr] using this
  case c2 => intro u hu; simp at hu; subst hu; rfl
  case c3 => unfold maxLen; omega
  case c4 => omega
  intro gg cap w3 hown hgr hlie _
  obtain ⟨r, hB, hsim⟩ := E.out
  obtain ⟨hbel, hat, hft, hnw⟩ := N.out
  have K := made_end r hB (hsim hm0 hnw rB rG) hbel hat hft M.out hown hgr hlie
  have hh3 : w3.heap[wb]? = some (.cells #[v] 26) := by
    rw [hgr.block wb (by simp; omega) (fun e => hwv e.symm), hao (by simp; omega), hao (by omega), O2.out wb hw]; exact W.out.1
  have hf3 : w3.frozen? ⟨wb, 0, none⟩ = false := frozen_of_heap hh3
  have hc3 : w3.cell? ⟨wb, 0, none⟩ = some v := cell_of_heap hh3 rfl
  clear hown hgr hlie r hB hsim hbel hat hft hnw hh3 E W OWN OWN3 M O2 N
  go_wp2
  go_ret
  exact ⟨_, _, rfl, K⟩

end Go.Proofs.YtpmkjeihbddfpabGreatDoor

/- OUR OWN. The law's steps, as numbers; a script in memory. -/
namespace Go.Proofs.YtpmkjeihbddfpabGreatDoor
open Go.RowKit
set_option linter.unusedVariables false
set_option linter.unusedSimpArgs false

variable {Sim : HeapM → RefM → Int → Prop}

/-- a step, as its ten numbers -/
structure StepM where
  kind : Int
  a : Int
  op : Int
  n : Int
  b : Int
  s : Int
  g : Int
  u : Int
  z : Int
  o : Int

def StepM.cells (t : StepM) : List Value := [.int .i64 t.kind, .int .i64 t.a, .int .i64 t.op, .int .i64 t.n, .int .i64 t.b, .int .i64 t.s, .int .i64 t.g, .int .i64 t.u, .int .i64 t.z, .int .i64 t.o]
def StepM.val (t : StepM) : Value := .agg #[.int .i64 t.kind, .int .i64 t.a, .int .i64 t.op, .int .i64 t.n, .int .i64 t.b, .int .i64 t.s, .int .i64 t.g, .int .i64 t.u, .int .i64 t.z, .int .i64 t.o]
/-- the configuration in a step -/
def StepM.cfg (t : StepM) : Bool := cfgB t.b t.s t.g t.u t.z t.o

theorem LawAt.form {B : Nat} {w : World} {wb : Nat} {v : Value} {ps : List PairM} (r : LawAt Sim B w wb v ps) (hp : 0 < ps.length) :
    ∃ g cap, v = .slice (some ⟨g, 0, none⟩) ps.length cap ∧ g < w.heap.size ∧ ∀ k (hk : k < ps.length), w.cell? ⟨g, k, none⟩ = some (ptr (ps[k]).p) := by
  obtain ⟨g, cap, hv, _, hg⟩ := r.row.form hp
  refine ⟨g, cap, hv, hg, fun k hk => ?_⟩
  have := r.row.cells (g := g) (by rw [hv]; rfl) k (ptr (ps[k]).p) (by simp [hk])
  rwa [show (⟨g, 0, none⟩ : Addr).add k = ⟨g, k, none⟩ by unfold Addr.add; split <;> simp_all] at this

def StepM.ok (t : StepM) : Prop := fits t.kind ∧ fits t.a ∧ fits t.op ∧ fits t.n ∧ fits t.b ∧ fits t.s ∧ fits t.g ∧ fits t.u ∧ fits t.z ∧ fits t.o
def StepM.held (t : StepM) (lo hi : Int) : Prop := t.kind = 1 ∨ (lo ≤ t.kind ∧ t.kind ≤ hi)

/-- what a step that is played must do -/
def StepSays (Sim : HeapM → RefM → Int → Prop) (last lo hi : Int) (Good : StepM → List PairM → Prop) : Prop :=
  ∀ (B : Nat) (w : World) (wb : Nat) (v : Value) (ps : List PairM) (t : StepM), LawAt Sim B w wb v ps → B ≤ w.heap.size → ps.length ≤ 2000000000000 → t.ok → t.kind ≤ last → Good t ps →
    Calls Tryz.prog 4 #[ptr wb, t.val] w fun e w' => ∃ ok v' ps', e = .returned (.bool ok) ∧ (t.held lo hi → ok = true) ∧ ps'.length ≤ ps.length + 1 ∧ LawAt Sim B w' wb v' ps' ∧ Off (allFoot wb v ps) w w'

/-- the script in memory -/
def ScriptAt (w : World) (sb off len : Nat) (st : Nat → StepM) : Prop :=
  ∀ k, k < len → (st k).ok ∧ ∀ j u, (st k).cells[j]? = some u → w.cell? ⟨sb, off + k * 10 + j, none⟩ = some u

theorem lawStart (w : World) (B : Nat) (hB : B ≤ w.heap.size) (ht : Tab B w) : LawAt Sim B (w.alloc (.cells #[.slice none 0 0] 26)) w.heap.size (.slice none 0 0) [] :=
  ⟨heap_alloc_new w _, own_nil, by simp, by simp, by simp [allFoot, Value.ownBlock], by simp [allFoot, Value.ownBlock]; omega, ht.below ((Below.refl _ _).alloc (Nat.le_refl _) _)⟩


end Go.Proofs.YtpmkjeihbddfpabGreatDoor

/- OUR OWN. step: New, and what does nothing. -/
namespace Go.Proofs.YtpmkjeihbddfpabGreatDoor
open Go.RowKit
set_option linter.unusedVariables false
set_option linter.unusedSimpArgs false

variable {Sim : HeapM → RefM → Int → Prop}

theorem cfg_nats {b s g u z o : Int} (h : cfgB b s g u z o = true) : ∃ b' s' g' u' z' o' : Nat, b = b' ∧ s = s' ∧ g = g' ∧ u = u' ∧ z = z' ∧ o = o' := by
  simp [cfgB] at h
  exact ⟨b.toNat, s.toNat, g.toNat, u.toNat, z.toNat, o.toNat, by omega, by omega, by omega, by omega, by omega, by omega⟩

/-- A fresh heap and the document's are alike. -/
def FreshSim (Sim : HeapM → RefM → Int → Prop) : Prop :=
  ∀ (b s g u z o : Nat), cfgB b s g u z o = true → ∀ hm0, NewM b s g u z o hm0 → ∀ rB rG, Sim hm0 (freshM b s g u z o rB rG) 0

set_option maxHeartbeats 800000 in
theorem step_new {B : Nat} {w : World} {wb : Nat} {v : Value} {ps : List PairM} (r : LawAt Sim B w wb v ps) (hF : FreshSim Sim) (hB : B ≤ w.heap.size) (hlen : ps.length ≤ 2000000000000) (t : StepM) (hk : t.kind = 1) :
    Calls Tryz.prog 4 #[ptr wb, t.val] w
      fun e w' => ∃ v' ps', e = .returned (.bool true) ∧ ps'.length ≤ ps.length + 1 ∧ LawAt Sim B w' wb v' ps' ∧ Off (allFoot wb v ps) w w' := by
  obtain ⟨kind, a, op, n, b, s, g, u, z, o⟩ := t
  simp only at hk
  subst hk
  have rb : ∀ ob, LawAt Sim B (w.alloc ob) wb v ps := fun ob => r.below ((Below.refl _ _).alloc (Nat.le_refl _) ob)
  have hw := lt_of_heap r.head
  cases hc : cfgB b s g u z o with
  | false =>
    have MK : Hid (∀ ob, Calls Tryz.prog 7 #[.pointer (some ⟨wb, 0, none⟩), .agg #[.int .i64 b, .int .i64 s, .int .i64 g, .int .i64 u, .int .i64 z, .int .i64 o]] (w.alloc ob)
      fun e w' => e = .returned (.bool true) ∧ LawAt Sim B w' wb v ps ∧ Off (allFoot wb v ps) (w.alloc ob) w') := fun ob => made_no (rb ob) b s g u z o hc
    clear r rb hF hc
    unfold ptr StepM.val
    go_enter Tryz.func4, Tryz.ntmps4
    go_wp2_with (go_at_call 7; refine (MK.out _).mono ?_; rintro e w1 ⟨rfl, hl, hbel⟩)
    go_ret
    exact ⟨v, ps, rfl, by omega, hl, (Off.of_below ((Below.refl _ w).alloc (Nat.le_refl _) _)).trans hbel⟩
  | true =>
    obtain ⟨b', s', g', u', z', o', rfl, rfl, rfl, rfl, rfl, rfl⟩ := cfg_nats hc
    have MK : Hid (∀ ob, Calls Tryz.prog 7 #[.pointer (some ⟨wb, 0, none⟩), .agg #[.int .i64 b', .int .i64 s', .int .i64 g', .int .i64 u', .int .i64 z', .int .i64 o']] (w.alloc ob)
      fun e w' => ∃ v' q, e = .returned (.bool true) ∧ LawAt Sim B w' wb v' (ps ++ [q]) ∧ Off (allFoot wb v ps) (w.alloc ob) w') := fun ob => made_yes (rb ob) (by simp; omega) hlen b' s' g' u' z' o' hc (hF _ _ _ _ _ _ hc)
    clear r rb hF hc
    unfold ptr StepM.val
    go_enter Tryz.func4, Tryz.ntmps4
    go_wp2_with (go_at_call 7; refine (MK.out _).mono ?_; rintro e w1 ⟨v', q, rfl, hl, hbel⟩)
    go_ret
    exact ⟨v', ps ++ [q], rfl, by simp, hl, (Off.of_below ((Below.refl _ w).alloc (Nat.le_refl _) _)).trans hbel⟩

set_option maxHeartbeats 400000 in
theorem step_none {B : Nat} {w : World} {wb : Nat} {v : Value} (r : LawAt Sim B w wb v []) (t : StepM) (hk : t.kind ≠ 1) :
    Calls Tryz.prog 4 #[ptr wb, t.val] w fun e w' => e = .returned (.bool true) ∧ Below w.heap.size w w' := by
  obtain ⟨kind, a, op, n, b, s, g, u, z, o⟩ := t
  simp only at hk
  have hk2 : (kind == 1) = false := by simpa using hk
  have hw := lt_of_heap r.head
  have hc : w.cell? ⟨wb, 0, none⟩ = some v := cell_of_heap r.head rfl
  obtain ⟨ao, cap, hv⟩ : ∃ ao cap, v = .slice ao 0 cap := by
    rcases r.row.2 with ⟨hv, _⟩ | ⟨g, cap, cur, hv, _⟩
    · exact ⟨_, _, hv⟩
    · exact ⟨_, _, hv⟩
  subst hv
  clear r
  unfold ptr StepM.val
  go_enter Tryz.func4, Tryz.ntmps4
  go_wp2
  go_ret
  exact ⟨rfl, (Below.refl _ _).alloc (Nat.le_refl _) _⟩

set_option maxHeartbeats 800000 in
theorem idle_core (w : World) (wb gb cap len k qp : Nat) (kind a op n b s g u z o : Int) (hw : wb < w.heap.size) (hgb : gb < w.heap.size)
    (hc : w.cell? ⟨wb, 0, none⟩ = some (.slice (some ⟨gb, 0, none⟩) len cap)) (hc1 : w.cell? ⟨gb, k, none⟩ = some (.pointer (some ⟨qp, 0, none⟩)))
    (hp : 0 < len) (hk : k < len) (PK : ∀ w, Calls Tryz.prog 8 #[.int .i64 a, .int .i64 len] w fun r w' => r = .returned (.int .i64 k) ∧ w' = w)
    (h1 : ¬ kind = 1) (h2 : ¬ kind = 2) (h3 : ¬ kind = 3) (h4 : ¬ kind = 4) (h5 : ¬ kind = 5) (h6 : ¬ kind = 6) :
    Calls Tryz.prog 4 #[.pointer (some ⟨wb, 0, none⟩), .agg #[.int .i64 kind, .int .i64 a, .int .i64 op, .int .i64 n, .int .i64 b, .int .i64 s, .int .i64 g, .int .i64 u, .int .i64 z, .int .i64 o]] w fun e w' =>
      e = .returned (.bool true) ∧ Below w.heap.size w w' := by
  have hkI : (k : Int) < len := by omega
  have hne : ((len : Int) == 0) = false := by simp; omega
  have hl0 : ¬ len = 0 := by omega
  have e1 : (kind == 1) = false := by simpa using h1
  have e2 : (kind == 2) = false := by simpa using h2
  have e3 : (kind == 3) = false := by simpa using h3
  have e4 : (kind == 4) = false := by simpa using h4
  have e5 : (kind == 5) = false := by simpa using h5
  have e6 : (kind == 6) = false := by simpa using h6
  go_enter Tryz.func4, Tryz.ntmps4
  go_wp2_with fail
  go_quiet ((go_at_call 8; exact Calls.quiet_of_same (PK _)))
  go_wp2
  go_ret
  exact ⟨rfl, below_drewN ((Below.refl _ _).alloc (Nat.le_refl _) _) _⟩

theorem step_idle {B : Nat} {w : World} {wb : Nat} {v : Value} {ps : List PairM} (r : LawAt Sim B w wb v ps) (t : StepM) (h1 : ¬ t.kind = 1) (h2 : ¬ t.kind = 2) (h3 : ¬ t.kind = 3) (h4 : ¬ t.kind = 4) (h5 : ¬ t.kind = 5) (h6 : ¬ t.kind = 6)
    (ha : fits t.a) (hm : ps.length ≤ 2000000000000) :
    Calls Tryz.prog 4 #[ptr wb, t.val] w fun e w' => e = .returned (.bool true) ∧ Below w.heap.size w w' := by
  rcases Nat.eq_zero_or_pos ps.length with hp | hp
  · obtain rfl : ps = [] := List.eq_nil_of_length_eq_zero hp
    exact step_none r t h1
  · obtain ⟨kind, a, op, n, b, s, g, u, z, o⟩ := t
    obtain ⟨gb, cap, rfl, hgb, hrow⟩ := r.form hp
    have hk := pickN_lt a ps.length hp
    exact idle_core w wb gb cap ps.length (pickN a ps.length) _ kind a op n b s g u z o (lt_of_heap r.head) hgb (cell_of_heap r.head rfl) (hrow _ hk) hp hk
      (fun w => pick_any a ps.length w ha hp hm) h1 h2 h3 h4 h5 h6

end Go.Proofs.YtpmkjeihbddfpabGreatDoor

