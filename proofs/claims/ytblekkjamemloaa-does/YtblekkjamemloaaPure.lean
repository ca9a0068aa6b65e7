/- OUR OWN. What an operation does, and answers, by the document: without memory. -/
namespace Go.Proofs.Ytblekkjamemloaa
set_option linter.unusedVariables false
set_option linter.unusedSimpArgs false

/-- stack, globals, and of each block whether it has an object and its fields -/
structure St where
  stack : List (Int × Int)
  globals : List (Int × Int)
  objs : List (Bool × List (Int × Int))

def St.pop (s : St) (k : Nat) : St := { s with stack := s.stack.take (s.stack.length - k) }
def St.down (s : St) (k : Nat) : Int × Int := s.stack.getD (s.stack.length - 1 - k) (0, 0)
def St.fields (s : St) (b : Int) : List (Int × Int) := (s.objs.getD b.toNat (false, [])).2
def pushS (deep : Int) (s : St) (v : Int × Int) : St × Int := if deep ≤ s.stack.length then (s, 7) else ({ s with stack := s.stack ++ [v] }, 0)
def objErr (v : Int × Int) : Int := if v.1 = 0 then 4 else if v.1 = 1 then 5 else 0
def pushA (deep : Int) (s : St) (v : Int × Int) : St × Int × Int := ((pushS deep s v).1, 0, (pushS deep s v).2)
def free? (s : St) : Option Nat := s.objs.tail.findIdx? (fun o => !o.1)

def newS (deep : Int) (s : St) (n : Int) : St × Int × Int :=
  if n < 0 ∨ 4 < n then (s, 0, 6) else if deep ≤ s.stack.length then (s, 0, 7) else
  match free? s with
  | none => (s, 0, 8)
  | some k => ({ s with objs := s.objs.set (k + 1) (true, List.replicate n.toNat (0, 0)), stack := s.stack ++ [(2, (k : Int) + 1)] }, 0, 0)

def loadS (deep : Int) (s : St) (n : Int) : St × Int × Int :=
  if s.stack.length < 1 then (s, 0, 3) else if objErr (s.down 0) ≠ 0 then (s, 0, objErr (s.down 0)) else
  if n < 0 ∨ ((s.fields (s.down 0).2).length : Int) ≤ n then (s, 0, 6) else pushA deep (s.pop 1) ((s.fields (s.down 0).2).getD n.toNat (0, 0))

def storeS (s : St) (n : Int) : St × Int × Int :=
  if s.stack.length < 2 then (s, 0, 3) else if objErr (s.down 1) ≠ 0 then (s, 0, objErr (s.down 1)) else
  if n < 0 ∨ ((s.fields (s.down 1).2).length : Int) ≤ n then (s, 0, 6) else
  ({ s.pop 2 with objs := s.objs.set (s.down 1).2.toNat ((s.objs.getD (s.down 1).2.toNat (false, [])).1, (s.fields (s.down 1).2).set n.toNat (s.down 0)) }, 0, 0)

def dupS (deep : Int) (s : St) (n : Int) : St × Int × Int := if n < 0 ∨ (s.stack.length : Int) ≤ n then (s, 0, 6) else pushA deep s (s.down n.toNat)
def dropS (s : St) : St × Int × Int := if s.stack.length < 1 then (s, 0, 3) else (s.pop 1, 0, 0)
def getS (deep : Int) (s : St) (n : Int) : St × Int × Int := if n < 0 ∨ (s.globals.length : Int) ≤ n then (s, 0, 6) else pushA deep s (s.globals.getD n.toNat (0, 0))
def setS (s : St) (n : Int) : St × Int × Int :=
  if n < 0 ∨ (s.globals.length : Int) ≤ n then (s, 0, 6) else if s.stack.length < 1 then (s, 0, 3) else ({ s.pop 1 with globals := s.globals.set n.toNat (s.down 0) }, 0, 0)
def sameS (s : St) : St × Int × Int := if s.stack.length < 2 then (s, 0, 3) else if s.down 0 = s.down 1 then (s.pop 2, 1, 0) else (s.pop 2, 0, 0)
def takeS (s : St) : St × Int × Int := if s.stack.length < 1 then (s, 0, 3) else if (s.down 0).1 = 1 then (s.pop 1, (s.down 0).2, 0) else (s, 0, 5)
def sizeS (s : St) : St × Int × Int := if s.stack.length < 1 then (s, 0, 3) else if objErr (s.down 0) ≠ 0 then (s, 0, objErr (s.down 0)) else (s, (s.fields (s.down 0).2).length, 0)
def kindS (s : St) : St × Int × Int := if s.stack.length < 1 then (s, 0, 3) else (s, (s.down 0).1, 0)

def doS (deep : Int) (s : St) (op n : Int) : St × Int × Int :=
  if op = 0 then pushA deep s (0, 0) else if op = 1 then pushA deep s (1, n) else if op = 2 then newS deep s n else if op = 3 then dupS deep s n else if op = 4 then dropS s else
  if op = 5 then getS deep s n else if op = 6 then setS s n else if op = 7 then loadS deep s n else if op = 8 then storeS s n else if op = 9 then sameS s else if op = 10 then takeS s else
  if op = 11 then sizeS s else if op = 12 then kindS s else (s, 0, 2)

/-! ### What stays so -/
/-- a value is nil, a number, or leads to a block -/
def okV (N : Nat) (v : Int × Int) : Prop := v.1 = 0 ∨ v.1 = 1 ∨ (1 ≤ v.2 ∧ v.2 ≤ N)

structure St.Inv (s : St) (N : Nat) : Prop where
  stack : ∀ v ∈ s.stack, okV N v
  globals : ∀ v ∈ s.globals, okV N v
  fields : ∀ o ∈ s.objs, ∀ v ∈ o.2, okV N v
  len : s.objs.length = N + 1

theorem getD_ok {N : Nat} {l : List (Int × Int)} (h : ∀ v ∈ l, okV N v) (i : Nat) : okV N (l.getD i (0, 0)) := by
  rw [List.getD_eq_getElem?_getD]
  cases hi : l[i]? with
  | none => exact .inl rfl
  | some v => exact h v (List.mem_of_getElem? hi)

theorem St.Inv.down {s : St} {N : Nat} (i : s.Inv N) (k : Nat) : okV N (s.down k) := getD_ok i.stack _
theorem St.Inv.pop {s : St} {N : Nat} (i : s.Inv N) (k : Nat) : (s.pop k).Inv N := ⟨fun v hv => i.stack v (List.mem_of_mem_take hv), i.globals, i.fields, i.len⟩
theorem St.Inv.field {s : St} {N : Nat} (i : s.Inv N) (b : Int) : ∀ v ∈ s.fields b, okV N v := by
  intro v hv
  unfold St.fields at hv
  rw [List.getD_eq_getElem?_getD] at hv
  cases hi : s.objs[b.toNat]? with
  | none => rw [hi] at hv; simp at hv
  | some o => rw [hi] at hv; exact i.fields o (List.mem_of_getElem? hi) v hv
theorem St.Inv.push {s : St} {N : Nat} (i : s.Inv N) (deep : Int) {v : Int × Int} (hv : okV N v) : (pushS deep s v).1.Inv N := by
  unfold pushS
  split
  · exact i
  · exact ⟨fun x hx => by rcases List.mem_append.1 hx with e | e; · exact i.stack x e
                          · simp at e; subst e; exact hv, i.globals, i.fields, i.len⟩

theorem free_lt {s : St} {k : Nat} {N : Nat} (hl : s.objs.length = N + 1) (h : free? s = some k) : k < N := by
  unfold free? at h
  have := (List.findIdx?_eq_some_iff_getElem.1 h).1
  rw [List.length_tail, hl] at this
  omega

theorem inv_push {s : St} {N : Nat} (i : s.Inv N) (deep : Int) {v : Int × Int} (hv : okV N v) : (pushA deep s v).1.Inv N := i.push deep hv

theorem inv_new {s : St} {N : Nat} (i : s.Inv N) (deep n : Int) : (newS deep s n).1.Inv N := by
  unfold newS
  by_cases h1 : n < 0 ∨ 4 < n
  · rw [if_pos h1]; exact i
  rw [if_neg h1]
  by_cases h2 : deep ≤ s.stack.length
  · rw [if_pos h2]; exact i
  rw [if_neg h2]
  cases hk : free? s with
  | none => exact i
  | some k =>
    have hkN := free_lt i.len hk
    refine ⟨fun v hv => ?_, i.globals, fun o ho v hv => ?_, by simp [i.len]⟩
    · rcases List.mem_append.1 hv with e | e
      · exact i.stack v e
      · simp at e; subst e; exact .inr (.inr ⟨by simp; omega, by simp; omega⟩)
    · rcases List.mem_or_eq_of_mem_set ho with e | e
      · exact i.fields o e v hv
      · subst e; have := (List.mem_replicate.1 hv).2; subst this; exact .inl rfl

theorem inv_dup {s : St} {N : Nat} (i : s.Inv N) (deep n : Int) : (dupS deep s n).1.Inv N := by
  unfold dupS
  by_cases h1 : n < 0 ∨ (s.stack.length : Int) ≤ n
  · rw [if_pos h1]; exact i
  rw [if_neg h1]; exact i.push deep (i.down _)
theorem inv_drop {s : St} {N : Nat} (i : s.Inv N) : (dropS s).1.Inv N := by
  unfold dropS
  by_cases h1 : s.stack.length < 1
  · rw [if_pos h1]; exact i
  rw [if_neg h1]; exact i.pop 1
theorem inv_get {s : St} {N : Nat} (i : s.Inv N) (deep n : Int) : (getS deep s n).1.Inv N := by
  unfold getS
  by_cases h1 : n < 0 ∨ (s.globals.length : Int) ≤ n
  · rw [if_pos h1]; exact i
  rw [if_neg h1]; exact i.push deep (getD_ok i.globals _)
theorem inv_set {s : St} {N : Nat} (i : s.Inv N) (n : Int) : (setS s n).1.Inv N := by
  unfold setS
  by_cases h1 : n < 0 ∨ (s.globals.length : Int) ≤ n
  · rw [if_pos h1]; exact i
  rw [if_neg h1]
  by_cases h2 : s.stack.length < 1
  · rw [if_pos h2]; exact i
  rw [if_neg h2]
  refine ⟨(i.pop 1).stack, fun v hv => ?_, i.fields, i.len⟩
  rcases List.mem_or_eq_of_mem_set hv with e | e
  · exact i.globals v e
  · subst e; exact i.down 0
theorem inv_load {s : St} {N : Nat} (i : s.Inv N) (deep n : Int) : (loadS deep s n).1.Inv N := by
  unfold loadS
  by_cases h1 : s.stack.length < 1
  · rw [if_pos h1]; exact i
  rw [if_neg h1]
  by_cases h2 : objErr (s.down 0) ≠ 0
  · rw [if_pos h2]; exact i
  rw [if_neg h2]
  by_cases h3 : n < 0 ∨ ((s.fields (s.down 0).2).length : Int) ≤ n
  · rw [if_pos h3]; exact i
  rw [if_neg h3]; exact (i.pop 1).push deep (getD_ok (i.field _) _)
theorem inv_store {s : St} {N : Nat} (i : s.Inv N) (n : Int) : (storeS s n).1.Inv N := by
  unfold storeS
  by_cases h1 : s.stack.length < 2
  · rw [if_pos h1]; exact i
  rw [if_neg h1]
  by_cases h2 : objErr (s.down 1) ≠ 0
  · rw [if_pos h2]; exact i
  rw [if_neg h2]
  by_cases h3 : n < 0 ∨ ((s.fields (s.down 1).2).length : Int) ≤ n
  · rw [if_pos h3]; exact i
  rw [if_neg h3]
  refine ⟨(i.pop 2).stack, i.globals, fun o ho v hv => ?_, by simp [i.len]⟩
  rcases List.mem_or_eq_of_mem_set ho with e | e
  · exact i.fields o e v hv
  · subst e
    rcases List.mem_or_eq_of_mem_set hv with e | e
    · exact i.field _ v e
    · subst e; exact i.down 0
theorem inv_same {s : St} {N : Nat} (i : s.Inv N) : (sameS s).1.Inv N := by
  unfold sameS
  by_cases h1 : s.stack.length < 2
  · rw [if_pos h1]; exact i
  rw [if_neg h1]
  by_cases h2 : s.down 0 = s.down 1
  · rw [if_pos h2]; exact i.pop 2
  · rw [if_neg h2]; exact i.pop 2
theorem inv_take {s : St} {N : Nat} (i : s.Inv N) : (takeS s).1.Inv N := by
  unfold takeS
  by_cases h1 : s.stack.length < 1
  · rw [if_pos h1]; exact i
  rw [if_neg h1]
  by_cases h2 : (s.down 0).1 = 1
  · rw [if_pos h2]; exact i.pop 1
  · rw [if_neg h2]; exact i
theorem inv_size {s : St} {N : Nat} (i : s.Inv N) : (sizeS s).1.Inv N := by
  unfold sizeS
  by_cases h1 : s.stack.length < 1
  · rw [if_pos h1]; exact i
  rw [if_neg h1]
  by_cases h2 : objErr (s.down 0) ≠ 0
  · rw [if_pos h2]; exact i
  · rw [if_neg h2]; exact i
theorem inv_kind {s : St} {N : Nat} (i : s.Inv N) : (kindS s).1.Inv N := by
  unfold kindS
  by_cases h1 : s.stack.length < 1
  · rw [if_pos h1]; exact i
  · rw [if_neg h1]; exact i

theorem inv_do {s : St} {N : Nat} (i : s.Inv N) (deep : Int) (op n : Int) : (doS deep s op n).1.Inv N := by
  unfold doS
  by_cases h0 : op = 0
  · rw [if_pos h0]; exact i.push deep (.inl rfl)
  rw [if_neg h0]
  by_cases h1 : op = 1
  · rw [if_pos h1]; exact i.push deep (.inr (.inl rfl))
  rw [if_neg h1]
  by_cases h2 : op = 2
  · rw [if_pos h2]; exact inv_new i deep n
  rw [if_neg h2]
  by_cases h3 : op = 3
  · rw [if_pos h3]; exact inv_dup i deep n
  rw [if_neg h3]
  by_cases h4 : op = 4
  · rw [if_pos h4]; exact inv_drop i
  rw [if_neg h4]
  by_cases h5 : op = 5
  · rw [if_pos h5]; exact inv_get i deep n
  rw [if_neg h5]
  by_cases h6 : op = 6
  · rw [if_pos h6]; exact inv_set i n
  rw [if_neg h6]
  by_cases h7 : op = 7
  · rw [if_pos h7]; exact inv_load i deep n
  rw [if_neg h7]
  by_cases h8 : op = 8
  · rw [if_pos h8]; exact inv_store i n
  rw [if_neg h8]
  by_cases h9 : op = 9
  · rw [if_pos h9]; exact inv_same i
  rw [if_neg h9]
  by_cases h10 : op = 10
  · rw [if_pos h10]; exact inv_take i
  rw [if_neg h10]
  by_cases h11 : op = 11
  · rw [if_pos h11]; exact inv_size i
  rw [if_neg h11]
  by_cases h12 : op = 12
  · rw [if_pos h12]; exact inv_kind i
  rw [if_neg h12]
  exact i

/-- how many blocks have an object -/
def usedN (s : St) : Nat := s.objs.tail.countP (·.1)

theorem used_le {s : St} {N : Nat} (hl : s.objs.length = N + 1) (h : usedN s < N) : ∃ k, free? s = some k := by
  cases hf : free? s with
  | some k => exact ⟨k, rfl⟩
  | none =>
    exfalso
    unfold free? at hf
    rw [List.findIdx?_eq_none_iff] at hf
    have : usedN s = s.objs.tail.length := List.countP_eq_length.2 fun o ho => by simpa using hf o ho
    rw [List.length_tail, hl] at this
    omega

end Go.Proofs.Ytblekkjamemloaa
