/- OUR OWN. The program's heap: Do. -/
import Derived.Test.YtblekkjamemloaaHG
namespace Go.Proofs.Ytblekkjamemloaa
open Go.RowKit
set_option linter.unusedVariables false
set_option linter.unusedSimpArgs false

theorem hnew_do {h N : Nat} {w : World} {m : HeapM} (p : HPre h N w m) (n : Int) (hfree : ∃ k, free? m.st = some k) :
    Calls Try.prog 22 #[.pointer (some ⟨h, 0, none⟩), .int .i64 n] w (HDid h N w m (newS m.room m.st n)) := by
  by_cases h1 : n < 0 ∨ 4 < n
  · have e : newS m.room m.st n = (m.st, 0, 6) := by unfold newS; exact if_pos h1
    rw [e]
    exact (hnew_index n h1).mono fun e w' ⟨he, hw⟩ => ⟨he, m, by rw [hw]; exact .refl p, rfl⟩
  by_cases h2 : m.room ≤ m.stack.length
  · have e : newS m.room m.st n = (m.st, 0, 7) := by unfold newS; exact (if_neg h1).trans (if_pos h2)
    rw [e]
    exact (hnew_deep p.r n (by omega) (by omega) h2).mono fun e w' ⟨he, hb⟩ => ⟨he, m, .of_below p hb, rfl⟩
  obtain ⟨k, hk⟩ := hfree
  obtain ⟨j, rfl⟩ : ∃ j : Nat, n = j := ⟨n.toNat, by omega⟩
  have e : newS m.room m.st j = ({ m.st with objs := m.st.objs.set (k + 1) (true, List.replicate j (0, 0)), stack := m.stack ++ [(2, (k : Int) + 1)] }, 0, 0) := by
    unfold newS
    refine (if_neg h1).trans ((if_neg h2).trans ?_)
    rw [hk, Int.toNat_natCast]
    rfl
  rw [e]
  have hkN := free_lt p.inv.len hk
  unfold free? at hk
  obtain ⟨hkl, hkf, hka⟩ := List.findIdx?_eq_some_iff_getElem.1 hk
  have hol : k + 1 < m.blks.length := by rw [p.ok.len]; omega
  have tl : ∀ j (hj : j + 1 < m.blks.length) (hj' : j < m.st.objs.tail.length), m.st.objs.tail[j] = ((m.blks[j + 1]).taken, (m.blks[j + 1]).fs) := fun j hj hj' => by
    simp [HeapM.st, List.getElem_tail]
  have hfr : (m.blks[k + 1]).taken = false := by rw [tl k hol hkl] at hkf; simpa using hkf
  have hall : ∀ j, j < k → ∃ o, m.blks[j + 1]? = some o ∧ o.taken = true := fun j hj => by
    have hjl : j + 1 < m.blks.length := by omega
    have := hka j hj
    rw [tl j hjl (by omega)] at this
    exact ⟨_, List.getElem?_eq_getElem hjl, by simpa using this⟩
  have ho0 : m.blks[k + 1]? = some m.blks[k + 1] := List.getElem?_eq_getElem hol
  exact (hnew_room p j (by omega) (by omega) k hkN _ ho0 hfr hall).mono fun e w' ⟨he, m', hs, hm⟩ => ⟨he, m', hs, hm⟩

def HDoSays (op : Int) : Prop := ∀ (h N : Nat) (w : World) (m : HeapM) (n : Int), HPre h N w m → (op = 2 → ∃ k, free? m.st = some k) →
  Calls Try.prog 16 #[.pointer (some ⟨h, 0, none⟩), .int .i64 op, .int .i64 n] w (HDid2 h N w m (doS m.room m.st op n))

set_option maxHeartbeats 400000 in
theorem hdo_0 : HDoSays 0 := by
  intro h N w m n p hf
  have e : doS m.room m.st 0 n = pushA m.room m.st (0, 0) := by simp [doS]
  rw [e]
  have C : Hid _ := (hpush_do p (0, 0))
  clear p e hf
  go_enter Try.func16, Try.ntmps16
  go_wp2_with fail
  refine Calls.mono C.out ?_
  rintro e w1 ⟨rfl, hm⟩
  have M : Hid _ := hm
  clear hm C
  go_wp2
  go_ret2
  exact ⟨ret_zero (push_zero _ _ _), M.out⟩

set_option maxHeartbeats 400000 in
theorem hdo_1 : HDoSays 1 := by
  intro h N w m n p hf
  have e : doS m.room m.st 1 n = pushA m.room m.st (1, n) := by simp [doS]
  rw [e]
  have C : Hid _ := (hpush_do p (1, n))
  clear p e hf
  go_enter Try.func16, Try.ntmps16
  go_wp2_with fail
  refine Calls.mono C.out ?_
  rintro e w1 ⟨rfl, hm⟩
  have M : Hid _ := hm
  clear hm C
  go_wp2
  go_ret2
  exact ⟨ret_zero (push_zero _ _ _), M.out⟩

set_option maxHeartbeats 400000 in
theorem hdo_2 : HDoSays 2 := by
  intro h N w m n p hf
  have e : doS m.room m.st 2 n = newS m.room m.st n := by simp [doS]
  rw [e]
  have C : Hid _ := (hnew_do p n (hf rfl))
  clear p e hf
  go_enter Try.func16, Try.ntmps16
  go_wp2_with fail
  refine Calls.mono C.out ?_
  rintro e w1 ⟨rfl, hm⟩
  have M : Hid _ := hm
  clear hm C
  go_wp2
  go_ret2
  exact ⟨ret_zero (new_zero _ _ _), M.out⟩

set_option maxHeartbeats 400000 in
theorem hdo_3 : HDoSays 3 := by
  intro h N w m n p hf
  have e : doS m.room m.st 3 n = dupS m.room m.st n := by simp [doS]
  rw [e]
  have C : Hid _ := (hdup_do h N w m n p)
  clear p e hf
  go_enter Try.func16, Try.ntmps16
  go_wp2_with fail
  refine Calls.mono C.out ?_
  rintro e w1 ⟨rfl, hm⟩
  have M : Hid _ := hm
  clear hm C
  go_wp2
  go_ret2
  exact ⟨ret_zero (dup_zero _ _ _), M.out⟩

set_option maxHeartbeats 400000 in
theorem hdo_4 : HDoSays 4 := by
  intro h N w m n p hf
  have e : doS m.room m.st 4 n = dropS m.st := by simp [doS]
  rw [e]
  have C : Hid _ := (hdrop_do h N w m p)
  clear p e hf
  go_enter Try.func16, Try.ntmps16
  go_wp2_with fail
  refine Calls.mono C.out ?_
  rintro e w1 ⟨rfl, hm⟩
  have M : Hid _ := hm
  clear hm C
  go_wp2
  go_ret2
  exact ⟨ret_zero (drop_zero _), M.out⟩

set_option maxHeartbeats 400000 in
theorem hdo_5 : HDoSays 5 := by
  intro h N w m n p hf
  have e : doS m.room m.st 5 n = getS m.room m.st n := by simp [doS]
  rw [e]
  have C : Hid _ := (hget_do h N w m n p)
  clear p e hf
  go_enter Try.func16, Try.ntmps16
  go_wp2_with fail
  refine Calls.mono C.out ?_
  rintro e w1 ⟨rfl, hm⟩
  have M : Hid _ := hm
  clear hm C
  go_wp2
  go_ret2
  exact ⟨ret_zero (get_zero _ _ _), M.out⟩

set_option maxHeartbeats 400000 in
theorem hdo_6 : HDoSays 6 := by
  intro h N w m n p hf
  have e : doS m.room m.st 6 n = setS m.st n := by simp [doS]
  rw [e]
  have C : Hid _ := (hset_do h N w m n p)
  clear p e hf
  go_enter Try.func16, Try.ntmps16
  go_wp2_with fail
  refine Calls.mono C.out ?_
  rintro e w1 ⟨rfl, hm⟩
  have M : Hid _ := hm
  clear hm C
  go_wp2
  go_ret2
  exact ⟨ret_zero (set_zero _ _), M.out⟩

set_option maxHeartbeats 400000 in
theorem hdo_7 : HDoSays 7 := by
  intro h N w m n p hf
  have e : doS m.room m.st 7 n = loadS m.room m.st n := by simp [doS]
  rw [e]
  have C : Hid _ := (hload_do h N w m n p)
  clear p e hf
  go_enter Try.func16, Try.ntmps16
  go_wp2_with fail
  refine Calls.mono C.out ?_
  rintro e w1 ⟨rfl, hm⟩
  have M : Hid _ := hm
  clear hm C
  go_wp2
  go_ret2
  exact ⟨ret_zero (load_zero _ _ _), M.out⟩

set_option maxHeartbeats 400000 in
theorem hdo_8 : HDoSays 8 := by
  intro h N w m n p hf
  have e : doS m.room m.st 8 n = storeS m.st n := by simp [doS]
  rw [e]
  have C : Hid _ := (hstore_do h N w m n p)
  clear p e hf
  go_enter Try.func16, Try.ntmps16
  go_wp2_with fail
  refine Calls.mono C.out ?_
  rintro e w1 ⟨rfl, hm⟩
  have M : Hid _ := hm
  clear hm C
  go_wp2
  go_ret2
  exact ⟨ret_zero (store_zero _ _), M.out⟩

set_option maxHeartbeats 400000 in
theorem hdo_9 : HDoSays 9 := by
  intro h N w m n p hf
  have e : doS m.room m.st 9 n = sameS m.st := by simp [doS]
  rw [e]
  have C : Hid _ := (hsame_do h N w m p)
  clear p e hf
  go_enter Try.func16, Try.ntmps16
  go_wp2_with fail
  refine Calls.mono C.out ?_
  rintro e w1 ⟨rfl, hm⟩
  have M : Hid _ := hm
  clear hm C
  go_wp2
  go_ret2
  exact ⟨rfl, M.out⟩

set_option maxHeartbeats 400000 in
theorem hdo_10 : HDoSays 10 := by
  intro h N w m n p hf
  have e : doS m.room m.st 10 n = takeS m.st := by simp [doS]
  rw [e]
  have C : Hid _ := (htake_do h N w m p)
  clear p e hf
  go_enter Try.func16, Try.ntmps16
  go_wp2_with fail
  refine Calls.mono C.out ?_
  rintro e w1 ⟨rfl, hm⟩
  have M : Hid _ := hm
  clear hm C
  go_wp2
  go_ret2
  exact ⟨rfl, M.out⟩

set_option maxHeartbeats 400000 in
theorem hdo_11 : HDoSays 11 := by
  intro h N w m n p hf
  have e : doS m.room m.st 11 n = sizeS m.st := by simp [doS]
  rw [e]
  have C : Hid _ := (hsize_do h N w m p)
  clear p e hf
  go_enter Try.func16, Try.ntmps16
  go_wp2_with fail
  refine Calls.mono C.out ?_
  rintro e w1 ⟨rfl, hm⟩
  have M : Hid _ := hm
  clear hm C
  go_wp2
  go_ret2
  exact ⟨rfl, M.out⟩

set_option maxHeartbeats 400000 in
theorem hdo_12 : HDoSays 12 := by
  intro h N w m n p hf
  have e : doS m.room m.st 12 n = kindS m.st := by simp [doS]
  rw [e]
  have C : Hid _ := (hkind_do h N w m p)
  clear p e hf
  go_enter Try.func16, Try.ntmps16
  go_wp2_with fail
  refine Calls.mono C.out ?_
  rintro e w1 ⟨rfl, hm⟩
  have M : Hid _ := hm
  clear hm C
  go_wp2
  go_ret2
  exact ⟨rfl, M.out⟩

set_option maxHeartbeats 400000 in
theorem hdo_none (op : Int) (h0 : ¬ op = 0) (h1 : ¬ op = 1) (h2 : ¬ op = 2) (h3 : ¬ op = 3) (h4 : ¬ op = 4) (h5 : ¬ op = 5) (h6 : ¬ op = 6) (h7 : ¬ op = 7) (h8 : ¬ op = 8) (h9 : ¬ op = 9) (h10 : ¬ op = 10) (h11 : ¬ op = 11) (h12 : ¬ op = 12) : HDoSays op := by
  intro h N w m n p hf
  have e : doS m.room m.st op n = (m.st, 0, 2) := by simp [doS, h0, h1, h2, h3, h4, h5, h6, h7, h8, h9, h10, h11, h12]
  rw [e]
  have K : Hid (∃ m', HStep h N w m w m' ∧ m'.st = m.st) := ⟨m, .refl p, rfl⟩
  have e0 : (op == 0) = false := by simpa using h0
  have e1 : (op == 1) = false := by simpa using h1
  have e2 : (op == 2) = false := by simpa using h2
  have e3 : (op == 3) = false := by simpa using h3
  have e4 : (op == 4) = false := by simpa using h4
  have e5 : (op == 5) = false := by simpa using h5
  have e6 : (op == 6) = false := by simpa using h6
  have e7 : (op == 7) = false := by simpa using h7
  have e8 : (op == 8) = false := by simpa using h8
  have e9 : (op == 9) = false := by simpa using h9
  have e10 : (op == 10) = false := by simpa using h10
  have e11 : (op == 11) = false := by simpa using h11
  have e12 : (op == 12) = false := by simpa using h12
  clear p e hf
  go_enter Try.func16, Try.ntmps16
  go_wp2
  go_ret2
  exact ⟨rfl, K.out⟩

theorem do_prog (op : Int) : HDoSays op := by
  by_cases h0 : op = 0
  · subst h0; exact hdo_0
  by_cases h1 : op = 1
  · subst h1; exact hdo_1
  by_cases h2 : op = 2
  · subst h2; exact hdo_2
  by_cases h3 : op = 3
  · subst h3; exact hdo_3
  by_cases h4 : op = 4
  · subst h4; exact hdo_4
  by_cases h5 : op = 5
  · subst h5; exact hdo_5
  by_cases h6 : op = 6
  · subst h6; exact hdo_6
  by_cases h7 : op = 7
  · subst h7; exact hdo_7
  by_cases h8 : op = 8
  · subst h8; exact hdo_8
  by_cases h9 : op = 9
  · subst h9; exact hdo_9
  by_cases h10 : op = 10
  · subst h10; exact hdo_10
  by_cases h11 : op = 11
  · subst h11; exact hdo_11
  by_cases h12 : op = 12
  · subst h12; exact hdo_12
  exact hdo_none op h0 h1 h2 h3 h4 h5 h6 h7 h8 h9 h10 h11 h12

end Go.Proofs.Ytblekkjamemloaa
