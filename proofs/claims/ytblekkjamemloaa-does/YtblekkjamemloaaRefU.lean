/- OUR OWN. The document's heap: Do. -/
import Derived.Test.YtblekkjamemloaaRefT
namespace Go.Proofs.Ytblekkjamemloaa
open Go.RowKit
set_option linter.unusedVariables false
set_option linter.unusedSimpArgs false

/-- OpNew, as long as a block is free -/
theorem made_do {h N : Nat} {w : World} {m : RefM} (p : RPre h N w m) (n : Int) (hfree : ∃ k, free? m.st = some k) :
    Calls Try.prog 64 #[.pointer (some ⟨h, 0, none⟩), .int .i64 n] w (RDid h N w m (newS m.deep m.st n)) := by
  by_cases h1 : n < 0 ∨ 4 < n
  · have e : newS m.deep m.st n = (m.st, 0, 6) := by unfold newS; exact if_pos h1
    rw [e]
    exact (made_index n h1).mono fun e w' ⟨he, hw⟩ => ⟨he, m, by rw [hw]; exact .refl p, rfl⟩
  by_cases h2 : m.deep ≤ m.stack.length
  · have e : newS m.deep m.st n = (m.st, 0, 7) := by unfold newS; exact (if_neg h1).trans (if_pos h2)
    rw [e]
    exact (made_deep p.r p.ok.stack n (by omega) (by omega) h2).mono fun e w' ⟨he, hb⟩ => ⟨he, m, .of_below p hb, rfl⟩
  obtain ⟨k, hk⟩ := hfree
  obtain ⟨j, rfl⟩ : ∃ j : Nat, n = j := ⟨n.toNat, by omega⟩
  have e : newS m.deep m.st j = ({ m.st with objs := m.st.objs.set (k + 1) (true, List.replicate j (0, 0)), stack := m.stack ++ [(2, (k : Int) + 1)] }, 0, 0) := by
    unfold newS
    refine (if_neg h1).trans ((if_neg h2).trans ?_)
    rw [hk, Int.toNat_natCast]
    rfl
  rw [e]
  have hkN := free_lt p.inv.len hk
  unfold free? at hk
  obtain ⟨hkl, hkf, hka⟩ := List.findIdx?_eq_some_iff_getElem.1 hk
  have hol : k + 1 < m.objs.length := by rw [p.ok.len]; omega
  have tl : ∀ j (hj : j + 1 < m.objs.length) (hj' : j < m.st.objs.tail.length), m.st.objs.tail[j] = ((m.objs[j + 1]).here, (m.objs[j + 1]).fs) := fun j hj hj' => by
    simp [RefM.st, List.getElem_tail]
  have hfr : (m.objs[k + 1]).here = false := by rw [tl k hol hkl] at hkf; simpa using hkf
  have hall : ∀ j, j < k → ∃ o, m.objs[j + 1]? = some o ∧ o.here = true := fun j hj => by
    have hjl : j + 1 < m.objs.length := by omega
    have := hka j hj
    rw [tl j hjl (by omega)] at this
    exact ⟨_, List.getElem?_eq_getElem hjl, by simpa using this⟩
  have ho0 : m.objs[k + 1]? = some m.objs[k + 1] := List.getElem?_eq_getElem hol
  have hoq : (m.objs[k + 1]).queued = false := p.clean _ (List.getElem_mem hol) hfr
  refine (made_room p.r p.ok j (by omega) (by omega) p.deep k hkN _ ho0 hfr hoq hall).mono ?_
  rintro e w' ⟨he, vF, m2, vS, hE, hT, hok⟩
  have al := hE.alike
  have hc1 : FreeClean (m.put (k + 1) ⟨true, vF, List.replicate j (0, 0), false, false⟩) := fun o ho hf => by
    rcases List.mem_or_eq_of_mem_set ho with e | e
    · exact p.clean o e hf
    · subst e; cases hf
  have hst : m2.st = { m.st with objs := m.st.objs.set (k + 1) (true, List.replicate j (0, 0)) } := by rw [al.st, put_st]
  refine ⟨he, _, ⟨hT, hok, al.deep, fun o ho hf => hE.clean hc1 o ho hf⟩, ?_⟩
  show ({ m2.st with stack := m2.stack ++ [(2, (k : Int) + 1)] } : St) = _
  have hs : m2.stack = m.stack := al.stack
  rw [hst, hs]

theorem ret_zero {a b c : Int} (h : a = b) : Ending.returned (.tuple #[.int .i64 a, .int .i64 c]) = .returned (.tuple #[.int .i64 b, .int .i64 c]) := by rw [h]
theorem push_zero (d : Int) (s : St) (v : Int × Int) : 0 = (pushA d s v).2.1 := rfl
theorem new_zero (d : Int) (s : St) (n : Int) : 0 = (newS d s n).2.1 := by
  unfold newS
  by_cases h1 : n < 0 ∨ 4 < n
  · rw [if_pos h1]
  rw [if_neg h1]
  by_cases h2 : d ≤ s.stack.length
  · rw [if_pos h2]
  rw [if_neg h2]
  cases free? s <;> rfl
theorem dup_zero (d : Int) (s : St) (n : Int) : 0 = (dupS d s n).2.1 := by
  unfold dupS
  by_cases h1 : n < 0 ∨ (s.stack.length : Int) ≤ n
  · rw [if_pos h1]
  · rw [if_neg h1]; rfl
theorem drop_zero (s : St) : 0 = (dropS s).2.1 := by
  unfold dropS
  by_cases h1 : s.stack.length < 1
  · rw [if_pos h1]
  · rw [if_neg h1]
theorem get_zero (d : Int) (s : St) (n : Int) : 0 = (getS d s n).2.1 := by
  unfold getS
  by_cases h1 : n < 0 ∨ (s.globals.length : Int) ≤ n
  · rw [if_pos h1]
  · rw [if_neg h1]; rfl
theorem set_zero (s : St) (n : Int) : 0 = (setS s n).2.1 := by
  unfold setS
  by_cases h1 : n < 0 ∨ (s.globals.length : Int) ≤ n
  · rw [if_pos h1]
  rw [if_neg h1]
  by_cases h2 : s.stack.length < 1
  · rw [if_pos h2]
  · rw [if_neg h2]
theorem load_zero (d : Int) (s : St) (n : Int) : 0 = (loadS d s n).2.1 := by
  unfold loadS
  by_cases h1 : s.stack.length < 1
  · rw [if_pos h1]
  rw [if_neg h1]
  by_cases h2 : objErr (s.down 0) ≠ 0
  · rw [if_pos h2]
  rw [if_neg h2]
  by_cases h3 : n < 0 ∨ ((s.fields (s.down 0).2).length : Int) ≤ n
  · rw [if_pos h3]
  · rw [if_neg h3]; rfl
theorem store_zero (s : St) (n : Int) : 0 = (storeS s n).2.1 := by
  unfold storeS
  by_cases h1 : s.stack.length < 2
  · rw [if_pos h1]
  rw [if_neg h1]
  by_cases h2 : objErr (s.down 1) ≠ 0
  · rw [if_pos h2]
  rw [if_neg h2]
  by_cases h3 : n < 0 ∨ ((s.fields (s.down 1).2).length : Int) ≤ n
  · rw [if_pos h3]
  · rw [if_neg h3]

def DoSays (op : Int) : Prop := ∀ (h N : Nat) (w : World) (m : RefM) (n : Int), RPre h N w m → (op = 2 → ∃ k, free? m.st = some k) →
  Calls Try.prog 54 #[.pointer (some ⟨h, 0, none⟩), .int .i64 op, .int .i64 n] w (RDid2 h N w m (doS m.deep m.st op n))

set_option maxHeartbeats 400000 in
theorem do_0 : DoSays 0 := by
  intro h N w m n p hf
  have e : doS m.deep m.st 0 n = pushA m.deep m.st (0, 0) := by simp [doS]
  rw [e]
  have C : Hid _ := (moves_nil h N w m n p)
  clear p e hf
  go_enter Try.func54, Try.ntmps54
  go_wp2_with fail
  refine Calls.mono C.out ?_
  rintro e w1 ⟨rfl, hm⟩
  have M : Hid _ := hm
  clear hm C
  go_wp2
  go_ret2
  exact ⟨ret_zero (push_zero _ _ _), M.out⟩

set_option maxHeartbeats 400000 in
theorem do_1 : DoSays 1 := by
  intro h N w m n p hf
  have e : doS m.deep m.st 1 n = pushA m.deep m.st (1, n) := by simp [doS]
  rw [e]
  have C : Hid _ := (moves_int h N w m n p)
  clear p e hf
  go_enter Try.func54, Try.ntmps54
  go_wp2_with fail
  refine Calls.mono C.out ?_
  rintro e w1 ⟨rfl, hm⟩
  have M : Hid _ := hm
  clear hm C
  go_wp2
  go_ret2
  exact ⟨ret_zero (push_zero _ _ _), M.out⟩

set_option maxHeartbeats 400000 in
theorem do_2 : DoSays 2 := by
  intro h N w m n p hf
  have e : doS m.deep m.st 2 n = newS m.deep m.st n := by simp [doS]
  rw [e]
  have C : Hid _ := (made_do p n (hf rfl))
  clear p e hf
  go_enter Try.func54, Try.ntmps54
  go_wp2_with fail
  refine Calls.mono C.out ?_
  rintro e w1 ⟨rfl, hm⟩
  have M : Hid _ := hm
  clear hm C
  go_wp2
  go_ret2
  exact ⟨ret_zero (new_zero _ _ _), M.out⟩

set_option maxHeartbeats 400000 in
theorem do_3 : DoSays 3 := by
  intro h N w m n p hf
  have e : doS m.deep m.st 3 n = dupS m.deep m.st n := by simp [doS]
  rw [e]
  have C : Hid _ := (moves_dup h N w m n p)
  clear p e hf
  go_enter Try.func54, Try.ntmps54
  go_wp2_with fail
  refine Calls.mono C.out ?_
  rintro e w1 ⟨rfl, hm⟩
  have M : Hid _ := hm
  clear hm C
  go_wp2
  go_ret2
  exact ⟨ret_zero (dup_zero _ _ _), M.out⟩

set_option maxHeartbeats 400000 in
theorem do_4 : DoSays 4 := by
  intro h N w m n p hf
  have e : doS m.deep m.st 4 n = dropS m.st := by simp [doS]
  rw [e]
  have C : Hid _ := (moves_drop h N w m n p)
  clear p e hf
  go_enter Try.func54, Try.ntmps54
  go_wp2_with fail
  refine Calls.mono C.out ?_
  rintro e w1 ⟨rfl, hm⟩
  have M : Hid _ := hm
  clear hm C
  go_wp2
  go_ret2
  exact ⟨ret_zero (drop_zero _), M.out⟩

set_option maxHeartbeats 400000 in
theorem do_5 : DoSays 5 := by
  intro h N w m n p hf
  have e : doS m.deep m.st 5 n = getS m.deep m.st n := by simp [doS]
  rw [e]
  have C : Hid _ := (moves_get h N w m n p)
  clear p e hf
  go_enter Try.func54, Try.ntmps54
  go_wp2_with fail
  refine Calls.mono C.out ?_
  rintro e w1 ⟨rfl, hm⟩
  have M : Hid _ := hm
  clear hm C
  go_wp2
  go_ret2
  exact ⟨ret_zero (get_zero _ _ _), M.out⟩

set_option maxHeartbeats 400000 in
theorem do_6 : DoSays 6 := by
  intro h N w m n p hf
  have e : doS m.deep m.st 6 n = setS m.st n := by simp [doS]
  rw [e]
  have C : Hid _ := (moves_set h N w m n p)
  clear p e hf
  go_enter Try.func54, Try.ntmps54
  go_wp2_with fail
  refine Calls.mono C.out ?_
  rintro e w1 ⟨rfl, hm⟩
  have M : Hid _ := hm
  clear hm C
  go_wp2
  go_ret2
  exact ⟨ret_zero (set_zero _ _), M.out⟩

set_option maxHeartbeats 400000 in
theorem do_7 : DoSays 7 := by
  intro h N w m n p hf
  have e : doS m.deep m.st 7 n = loadS m.deep m.st n := by simp [doS]
  rw [e]
  have C : Hid _ := (loaded_any h N w m n p)
  clear p e hf
  go_enter Try.func54, Try.ntmps54
  go_wp2_with fail
  refine Calls.mono C.out ?_
  rintro e w1 ⟨rfl, hm⟩
  have M : Hid _ := hm
  clear hm C
  go_wp2
  go_ret2
  exact ⟨ret_zero (load_zero _ _ _), M.out⟩

set_option maxHeartbeats 400000 in
theorem do_8 : DoSays 8 := by
  intro h N w m n p hf
  have e : doS m.deep m.st 8 n = storeS m.st n := by simp [doS]
  rw [e]
  have C : Hid _ := (stored_any h N w m n p)
  clear p e hf
  go_enter Try.func54, Try.ntmps54
  go_wp2_with fail
  refine Calls.mono C.out ?_
  rintro e w1 ⟨rfl, hm⟩
  have M : Hid _ := hm
  clear hm C
  go_wp2
  go_ret2
  exact ⟨ret_zero (store_zero _ _), M.out⟩

set_option maxHeartbeats 400000 in
theorem do_9 : DoSays 9 := by
  intro h N w m n p hf
  have e : doS m.deep m.st 9 n = sameS m.st := by simp [doS]
  rw [e]
  have C : Hid _ := (tells_same h N w m p)
  clear p e hf
  go_enter Try.func54, Try.ntmps54
  go_wp2_with fail
  refine Calls.mono C.out ?_
  rintro e w1 ⟨rfl, hm⟩
  have M : Hid _ := hm
  clear hm C
  go_wp2
  go_ret2
  exact ⟨rfl, M.out⟩

set_option maxHeartbeats 400000 in
theorem do_10 : DoSays 10 := by
  intro h N w m n p hf
  have e : doS m.deep m.st 10 n = takeS m.st := by simp [doS]
  rw [e]
  have C : Hid _ := (tells_take h N w m p)
  clear p e hf
  go_enter Try.func54, Try.ntmps54
  go_wp2_with fail
  refine Calls.mono C.out ?_
  rintro e w1 ⟨rfl, hm⟩
  have M : Hid _ := hm
  clear hm C
  go_wp2
  go_ret2
  exact ⟨rfl, M.out⟩

set_option maxHeartbeats 400000 in
theorem do_11 : DoSays 11 := by
  intro h N w m n p hf
  have e : doS m.deep m.st 11 n = sizeS m.st := by simp [doS]
  rw [e]
  have C : Hid _ := (tells_size h N w m p)
  clear p e hf
  go_enter Try.func54, Try.ntmps54
  go_wp2_with fail
  refine Calls.mono C.out ?_
  rintro e w1 ⟨rfl, hm⟩
  have M : Hid _ := hm
  clear hm C
  go_wp2
  go_ret2
  exact ⟨rfl, M.out⟩

set_option maxHeartbeats 400000 in
theorem do_12 : DoSays 12 := by
  intro h N w m n p hf
  have e : doS m.deep m.st 12 n = kindS m.st := by simp [doS]
  rw [e]
  have C : Hid _ := (tells_kind h N w m p)
  clear p e hf
  go_enter Try.func54, Try.ntmps54
  go_wp2_with fail
  refine Calls.mono C.out ?_
  rintro e w1 ⟨rfl, hm⟩
  have M : Hid _ := hm
  clear hm C
  go_wp2
  go_ret2
  exact ⟨rfl, M.out⟩

set_option maxHeartbeats 400000 in
theorem do_none (op : Int) (h0 : ¬ op = 0) (h1 : ¬ op = 1) (h2 : ¬ op = 2) (h3 : ¬ op = 3) (h4 : ¬ op = 4) (h5 : ¬ op = 5) (h6 : ¬ op = 6) (h7 : ¬ op = 7) (h8 : ¬ op = 8) (h9 : ¬ op = 9) (h10 : ¬ op = 10) (h11 : ¬ op = 11) (h12 : ¬ op = 12) : DoSays op := by
  intro h N w m n p hf
  have e : doS m.deep m.st op n = (m.st, 0, 2) := by simp [doS, h0, h1, h2, h3, h4, h5, h6, h7, h8, h9, h10, h11, h12]
  rw [e]
  have K : Hid (∃ m', RStep h N w m w m' ∧ m'.st = m.st) := ⟨m, .refl p, rfl⟩
  have e0 : (op == 0) = false := by simpa using h0
  have e1 : (op == 1) = false := by simpa using h1
  have e2 : (op == 2) = false := by simpa using h2
  have e3 : (op == 3) = false := by simpa using h3
  have e4 : (op == 4) = false := by simpa using h4
  have e5 : (op == 5) = false := by simpa using h5
  have e6 : (op == 6) = false := by simpa using h6
  have e7 : (op == 7) = false := by simpa using h7
  have e8 : (op == 8) = false := by simpa using h8
  have e9 : (op == 9) = false := by simpa using h9
  have e10 : (op == 10) = false := by simpa using h10
  have e11 : (op == 11) = false := by simpa using h11
  have e12 : (op == 12) = false := by simpa using h12
  clear p e hf
  go_enter Try.func54, Try.ntmps54
  go_wp2
  go_ret2
  exact ⟨rfl, K.out⟩

theorem do_ref (op : Int) : DoSays op := by
  by_cases h0 : op = 0
  · subst h0; exact do_0
  by_cases h1 : op = 1
  · subst h1; exact do_1
  by_cases h2 : op = 2
  · subst h2; exact do_2
  by_cases h3 : op = 3
  · subst h3; exact do_3
  by_cases h4 : op = 4
  · subst h4; exact do_4
  by_cases h5 : op = 5
  · subst h5; exact do_5
  by_cases h6 : op = 6
  · subst h6; exact do_6
  by_cases h7 : op = 7
  · subst h7; exact do_7
  by_cases h8 : op = 8
  · subst h8; exact do_8
  by_cases h9 : op = 9
  · subst h9; exact do_9
  by_cases h10 : op = 10
  · subst h10; exact do_10
  by_cases h11 : op = 11
  · subst h11; exact do_11
  by_cases h12 : op = 12
  · subst h12; exact do_12
  exact do_none op h0 h1 h2 h3 h4 h5 h6 h7 h8 h9 h10 h11 h12

end Go.Proofs.Ytblekkjamemloaa
