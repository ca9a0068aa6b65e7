/- OUR OWN. Does: a heap and the document's, side by side. -/
import Derived.Test.YtblekkjamemloaaHH
import Derived.Test.YtblekkjamemloaaStep
namespace Go.Proofs.Ytblekkjamemloaa
open Go.RowKit
set_option linter.unusedVariables false
set_option linter.unusedSimpArgs false

/-! ### How many blocks have an object -/
theorem countP_setP (l : List (Bool × List (Int × Int))) (i : Nat) (x : Bool × List (Int × Int)) : (l.set i x).countP (·.1) ≤ l.countP (·.1) + 1 := by
  induction l generalizing i with
  | nil => simp
  | cons a l ih =>
    cases i with
    | zero => simp only [List.set_cons_zero, List.countP_cons]; split <;> split <;> omega
    | succ i => simp only [List.set_cons_succ, List.countP_cons]; have := ih i; omega
theorem countP_keep (l : List (Bool × List (Int × Int))) (i : Nat) (x y : Bool × List (Int × Int)) (h : l[i]? = some y) (hx : x.1 = y.1) : (l.set i x).countP (·.1) = l.countP (·.1) := by
  induction l generalizing i with
  | nil => simp at h
  | cons a l ih =>
    cases i with
    | zero => simp at h; subst h; simp [List.countP_cons, hx]
    | succ i => simp at h; simp only [List.set_cons_succ, List.countP_cons, ih i h]

theorem used_set_le (l : List (Bool × List (Int × Int))) (i : Nat) (x : Bool × List (Int × Int)) : (l.set i x).tail.countP (·.1) ≤ l.tail.countP (·.1) + 1 := by
  cases l with
  | nil => simp
  | cons a l =>
    cases i with
    | zero => simp
    | succ i => simp only [List.set_cons_succ, List.tail_cons]; exact countP_setP l i x
theorem used_keep (l : List (Bool × List (Int × Int))) (i : Nat) (fs : List (Int × Int)) : (l.set i ((l.getD i (false, [])).1, fs)).tail.countP (·.1) = l.tail.countP (·.1) := by
  cases l with
  | nil => simp
  | cons a l =>
    cases i with
    | zero => simp
    | succ i =>
      simp only [List.set_cons_succ, List.tail_cons]
      cases h : l[i]? with
      | none => rw [List.set_eq_of_length_le (by simpa using h)]
      | some y => exact countP_keep l i _ y h (by simp [List.getD_eq_getElem?_getD, h])

theorem used_push (d : Int) (s : St) (v : Int × Int) : usedN (pushA d s v).1 = usedN s := by
  unfold pushA pushS
  by_cases h : d ≤ (s.stack.length : Int)
  · rw [if_pos h]
  · rw [if_neg h]; rfl
theorem used_new (d : Int) (s : St) (n : Int) : usedN (newS d s n).1 ≤ usedN s + 1 := by
  unfold newS
  by_cases h1 : n < 0 ∨ 4 < n
  · rw [if_pos h1]; exact Nat.le_succ _
  rw [if_neg h1]
  by_cases h2 : d ≤ s.stack.length
  · rw [if_pos h2]; exact Nat.le_succ _
  rw [if_neg h2]
  cases free? s with
  | none => simp
  | some k => exact used_set_le s.objs (k + 1) _
theorem used_other (d : Int) (s : St) (op n : Int) (h : ¬ op = 2) : usedN (doS d s op n).1 = usedN s := by
  unfold doS
  by_cases h0 : op = 0
  · rw [if_pos h0]; exact used_push _ _ _
  rw [if_neg h0]
  by_cases h1 : op = 1
  · rw [if_pos h1]; exact used_push _ _ _
  rw [if_neg h1, if_neg h]
  by_cases h3 : op = 3
  · rw [if_pos h3]; unfold dupS
    by_cases c : n < 0 ∨ (s.stack.length : Int) ≤ n
    · rw [if_pos c]
    · rw [if_neg c]; exact used_push _ _ _
  rw [if_neg h3]
  by_cases h4 : op = 4
  · rw [if_pos h4]; unfold dropS
    by_cases c : s.stack.length < 1
    · rw [if_pos c]
    · rw [if_neg c]; rfl
  rw [if_neg h4]
  by_cases h5 : op = 5
  · rw [if_pos h5]; unfold getS
    by_cases c : n < 0 ∨ (s.globals.length : Int) ≤ n
    · rw [if_pos c]
    · rw [if_neg c]; exact used_push _ _ _
  rw [if_neg h5]
  by_cases h6 : op = 6
  · rw [if_pos h6]; unfold setS
    by_cases c : n < 0 ∨ (s.globals.length : Int) ≤ n
    · rw [if_pos c]
    · rw [if_neg c]
      by_cases c2 : s.stack.length < 1
      · rw [if_pos c2]
      · rw [if_neg c2]; rfl
  rw [if_neg h6]
  by_cases h7 : op = 7
  · rw [if_pos h7]; unfold loadS
    by_cases c : s.stack.length < 1
    · rw [if_pos c]
    rw [if_neg c]
    by_cases c2 : objErr (s.down 0) ≠ 0
    · rw [if_pos c2]
    rw [if_neg c2]
    by_cases c3 : n < 0 ∨ ((s.fields (s.down 0).2).length : Int) ≤ n
    · rw [if_pos c3]
    · rw [if_neg c3, used_push]; rfl
  rw [if_neg h7]
  by_cases h8 : op = 8
  · rw [if_pos h8]; unfold storeS
    by_cases c : s.stack.length < 2
    · rw [if_pos c]
    rw [if_neg c]
    by_cases c2 : objErr (s.down 1) ≠ 0
    · rw [if_pos c2]
    rw [if_neg c2]
    by_cases c3 : n < 0 ∨ ((s.fields (s.down 1).2).length : Int) ≤ n
    · rw [if_pos c3]
    · rw [if_neg c3]; exact used_keep s.objs _ _
  rw [if_neg h8]
  by_cases h9 : op = 9
  · rw [if_pos h9]; unfold sameS
    by_cases c : s.stack.length < 2
    · rw [if_pos c]
    rw [if_neg c]
    by_cases c2 : s.down 0 = s.down 1
    · rw [if_pos c2]; rfl
    · rw [if_neg c2]; rfl
  rw [if_neg h9]
  by_cases h10 : op = 10
  · rw [if_pos h10]; unfold takeS
    by_cases c : s.stack.length < 1
    · rw [if_pos c]
    rw [if_neg c]
    by_cases c2 : (s.down 0).1 = 1
    · rw [if_pos c2]; rfl
    · rw [if_neg c2]
  rw [if_neg h10]
  by_cases h11 : op = 11
  · rw [if_pos h11]; unfold sizeS
    by_cases c : s.stack.length < 1
    · rw [if_pos c]
    rw [if_neg c]
    by_cases c2 : objErr (s.down 0) ≠ 0
    · rw [if_pos c2]
    · rw [if_neg c2]
  rw [if_neg h11]
  by_cases h12 : op = 12
  · rw [if_pos h12]; unfold kindS
    by_cases c : s.stack.length < 1
    · rw [if_pos c]
    · rw [if_neg c]
  rw [if_neg h12]

/-- the heap and the document's are alike, and not asked for more objects than there are blocks -/
def DoSim (hm : HeapM) (rm : RefM) (news : Int) : Prop :=
  ∃ N : Nat, hm.Ok N ∧ rm.Ok N ∧ FreeClean rm ∧ hm.st = rm.st ∧ rm.st.Inv N ∧ hm.room = rm.deep ∧ rm.deep ≤ 16 ∧ (usedN rm.st : Int) ≤ news ∧ 0 ≤ news ∧ news ≤ N

theorem doSim_fresh : FreshSim DoSim := by
  intro b s g u z o h vG vB rB rG
  simp [cfgB] at h
  have e : (newM b s g vG vB).st = (freshM b s g u z o rB rG).st := by simp [HeapM.st, RefM.st, newM, freshM, HObj.free, RObj.free]
  refine ⟨b, ⟨by simp [newM], by omega, fun x hx => ?_, by simp [newM], by simp [newM]; omega⟩, ⟨rfl, by simp [freshM], by omega, fun x hx => ?_, by simp [freshM], by simp [freshM]; omega, by simp [freshM]⟩, fun x hx _ => ?_, e, ⟨by simp [RefM.st, freshM], fun v hv => ?_, fun x hx v hv => ?_, by simp [RefM.st, freshM]⟩, rfl, ?_, ?_, by omega, by omega⟩
  · have : x = HObj.free := by simp [newM] at hx; exact hx
    subst this; simp [HObj.free]
  · have : x = RObj.free := by simp [freshM] at hx; exact hx
    subst this; simp [RObj.free]
  · have : x = RObj.free := by simp [freshM] at hx; exact hx
    subst this; rfl
  · have : v = (0, 0) := by simp [RefM.st, freshM] at hv; exact hv.2
    subst this; exact .inl rfl
  · have : x = (false, []) := by simp [RefM.st, freshM, RObj.free] at hx; exact hx
    subst this; simp at hv
  · show (s : Int) ≤ 16; omega
  · have : usedN (freshM b s g u z o rB rG).st = 0 := by
      unfold usedN
      rw [List.countP_eq_zero]
      intro x hx
      have hx' := List.mem_of_mem_tail hx
      have : x = (false, []) := by simp [RefM.st, freshM, RObj.free] at hx'; exact hx'
      subst this; simp
    rw [this]; simp

end Go.Proofs.Ytblekkjamemloaa
