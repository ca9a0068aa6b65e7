/- OUR OWN. Rows that lie apart: one is turned, the others stay. -/
import Derived.Test.YtblekkjamemloaaRefA
namespace Go.Proofs.Ytblekkjamemloaa
open Go.RowKit
set_option linter.unusedVariables false
set_option linter.unusedSimpArgs false

/-- a slice that is owned: element type, cells an element, value, length, cells -/
structure SRow where
  e : TypeId
  size : Nat
  v : Value
  n : Nat
  xs : List Value

def SRow.At (w : World) (r : SRow) : Prop := w.ownsRow 0 r.e r.size r.v r.n r.xs
def SRow.ob (r : SRow) : Option Nat := r.v.ownBlock
def rfoot (rows : List SRow) : List Nat := rows.filterMap SRow.ob

/-- the rows of one thing whose head is block h -/
structure RowsAt (w : World) (h : Nat) (rows : List SRow) : Prop where
  all : ∀ r ∈ rows, r.At w
  apart : (h :: rfoot rows).Nodup
  head : h < w.heap.size

theorem filterMap_idx {α : Type} (f : α → Option Nat) (l : List α) (hn : (l.filterMap f).Nodup) : ∀ (i j : Nat) (a b : α) (x : Nat), l[i]? = some a → l[j]? = some b → f a = some x → f b = some x → i = j := by
  induction l with
  | nil => intro i j a b x h; simp at h
  | cons c l ih =>
    intro i j a b x hi hj ha hb
    have hl : (l.filterMap f).Nodup := by
      rw [List.filterMap_cons] at hn
      cases hc : f c with
      | none => rw [hc] at hn; exact hn
      | some y => rw [hc] at hn; exact (List.nodup_cons.1 hn).2
    cases i with
    | zero =>
      cases j with
      | zero => rfl
      | succ j =>
        exfalso
        simp at hi hj
        subst hi
        rw [List.filterMap_cons, ha] at hn
        exact (List.nodup_cons.1 hn).1 (List.mem_filterMap.2 ⟨b, List.mem_of_getElem? hj, hb⟩)
    | succ i =>
      cases j with
      | zero =>
        exfalso
        simp at hi hj
        subst hj
        rw [List.filterMap_cons, hb] at hn
        exact (List.nodup_cons.1 hn).1 (List.mem_filterMap.2 ⟨a, List.mem_of_getElem? hi, ha⟩)
      | succ j =>
        simp at hi hj
        rw [ih hl i j a b x hi hj ha hb]

theorem rows_lt {w : World} {h : Nat} {rows : List SRow} (R : RowsAt w h rows) : ∀ g ∈ h :: rfoot rows, g < w.heap.size := by
  intro g hg
  rcases List.mem_cons.1 hg with rfl | hg
  · exact R.head
  · obtain ⟨r, hr, hg⟩ := List.mem_filterMap.1 hg
    exact (own_lt (R.all r hr) hg).2

theorem RowsAt.carry {w w' : World} {h : Nat} {rows : List SRow} (R : RowsAt w h rows) (hb : ∀ g ∈ h :: rfoot rows, w'.heap[g]? = w.heap[g]?) (hh : h < w'.heap.size) : RowsAt w' h rows :=
  ⟨fun r hr => own_carry (R.all r hr) fun g hg => hb g (List.mem_cons_of_mem _ (List.mem_filterMap.2 ⟨r, hr, hg⟩)), R.apart, hh⟩

theorem nodup_set {f : SRow → Option Nat} {n : Nat} (l : List SRow) (p : Nat) (r0 r1 : SRow) (hp : l[p]? = some r0) (hn : (l.filterMap f).Nodup) (hlt : ∀ x ∈ l.filterMap f, x < n)
    (hv : ∀ g, f r1 = some g → f r0 = some g ∨ n ≤ g) : ((l.set p r1).filterMap f).Nodup ∧ ∀ x ∈ (l.set p r1).filterMap f, x ∈ l.filterMap f ∨ (n ≤ x ∧ f r1 = some x) := by
  induction l generalizing p with
  | nil => simp at hp
  | cons c l ih =>
    cases p with
    | zero =>
      simp at hp
      subst hp
      rw [List.set_cons_zero]
      have hl : (l.filterMap f).Nodup := by
        rw [List.filterMap_cons] at hn
        cases hc : f c with
        | none => rw [hc] at hn; exact hn
        | some y => rw [hc] at hn; exact (List.nodup_cons.1 hn).2
      have hll : ∀ x ∈ l.filterMap f, x ∈ (c :: l).filterMap f := fun x hx => by
        rw [List.filterMap_cons]; split
        · exact hx
        · exact List.mem_cons_of_mem _ hx
      cases h1 : f r1 with
      | none =>
        rw [List.filterMap_cons, h1]
        exact ⟨hl, fun x hx => .inl (hll x hx)⟩
      | some y =>
        rw [List.filterMap_cons, h1]
        refine ⟨List.nodup_cons.2 ⟨fun hy => ?_, hl⟩, fun x hx => ?_⟩
        · rcases hv y h1 with e | e
          · rw [List.filterMap_cons, e] at hn
            exact (List.nodup_cons.1 hn).1 hy
          · have := hlt y (hll y hy); omega
        · rcases List.mem_cons.1 hx with rfl | hx
          · rcases hv x h1 with e | e
            · exact .inl (by rw [List.filterMap_cons, e]; exact List.mem_cons_self)
            · exact .inr ⟨e, rfl⟩
          · exact .inl (hll x hx)
    | succ p =>
      simp at hp
      rw [List.set_cons_succ]
      have hl : (l.filterMap f).Nodup := by
        rw [List.filterMap_cons] at hn
        cases hc : f c with
        | none => rw [hc] at hn; exact hn
        | some y => rw [hc] at hn; exact (List.nodup_cons.1 hn).2
      have hll : ∀ x ∈ l.filterMap f, x ∈ (c :: l).filterMap f := fun x hx => by
        rw [List.filterMap_cons]; split
        · exact hx
        · exact List.mem_cons_of_mem _ hx
      obtain ⟨g1, g2⟩ := ih p hp hl (fun x hx => hlt x (hll x hx))
      cases h1 : f c with
      | none =>
        rw [List.filterMap_cons, h1]
        refine ⟨g1, fun x hx => ?_⟩
        rcases g2 x hx with e | e
        · exact .inl (hll x e)
        · exact .inr e
      | some y =>
        rw [List.filterMap_cons, h1]
        refine ⟨List.nodup_cons.2 ⟨fun hy => ?_, g1⟩, fun x hx => ?_⟩
        · rcases g2 y hy with e | ⟨e, _⟩
          · rw [List.filterMap_cons, h1] at hn
            exact (List.nodup_cons.1 hn).1 e
          · have := hlt y (by rw [List.filterMap_cons, h1]; exact List.mem_cons_self); omega
        · rcases List.mem_cons.1 hx with rfl | hx
          · exact .inl (by rw [List.filterMap_cons, h1]; exact List.mem_cons_self)
          · rcases g2 x hx with e | e
            · exact .inl (hll x e)
            · exact .inr e

/-- ONE ROW IS TURNED: the others, and the head's place, stay apart. -/
theorem RowsAt.set {w w' : World} {h : Nat} {rows : List SRow} (R : RowsAt w h rows) {p : Nat} {r0 : SRow} (hp : rows[p]? = some r0) (r1 : SRow) (h1 : r1.At w')
    (hv : ∀ g, r1.ob = some g → r0.ob = some g ∨ w.heap.size ≤ g) (hk : ∀ k, k < w.heap.size → k ≠ h → r0.ob ≠ some k → w'.heap[k]? = w.heap[k]?) (hs : w.heap.size ≤ w'.heap.size) :
    RowsAt w' h (rows.set p r1) ∧ ∀ g ∈ rfoot (rows.set p r1), g ∈ rfoot rows ∨ w.heap.size ≤ g := by
  have hlt := rows_lt R
  have hap := List.nodup_cons.1 R.apart
  obtain ⟨g1, g2⟩ := nodup_set (f := SRow.ob) (n := w.heap.size) rows p r0 r1 hp hap.2 (fun x hx => hlt x (List.mem_cons_of_mem _ hx)) hv
  refine ⟨⟨fun r hr => ?_, List.nodup_cons.2 ⟨fun hy => ?_, g1⟩, by have := R.head; omega⟩, fun g hg => ?_⟩
  · obtain ⟨i, hi⟩ := List.getElem?_of_mem hr
    rw [List.getElem?_set] at hi
    split at hi
    · split at hi
      · cases hi; exact h1
      · cases hi
    · rename_i hne
      have hm := List.mem_of_getElem? hi
      refine own_carry (R.all r hm) fun g hg => hk g ?_ ?_ ?_
      · exact hlt g (List.mem_cons_of_mem _ (List.mem_filterMap.2 ⟨r, hm, hg⟩))
      · intro e; subst e; exact hap.1 (List.mem_filterMap.2 ⟨r, hm, hg⟩)
      · intro e; exact hne (filterMap_idx SRow.ob rows hap.2 p i r0 r g hp hi e hg)
  · rcases g2 h hy with e | ⟨e, _⟩
    · exact hap.1 e
    · have := R.head; omega
  · rcases g2 g hg with e | ⟨e, _⟩
    · exact .inl e
    · exact .inr e

/-! ### Stores into a row -/
theorem flat_set {α : Type} (f : α → List Value) (c : Nat) (hc : ∀ x, (f x).length = c) (l : List α) (i j : Nat) (hj : j < c) (x : α) (u : Value) (hi : l[i]? = some x) (x' : α) (hx : f x' = (f x).set j u) :
    (l.set i x').flatMap f = (l.flatMap f).set (i * c + j) u := by
  induction l generalizing i with
  | nil => simp at hi
  | cons y l ih =>
    cases i with
    | zero =>
      simp at hi
      subst hi
      rw [List.set_cons_zero, List.flatMap_cons, List.flatMap_cons, hx, List.set_append_left _ _ (by rw [hc]; omega)]
      simp
    | succ i =>
      simp at hi
      rw [List.set_cons_succ, List.flatMap_cons, List.flatMap_cons, ih i hi, List.set_append_right _ _ (by rw [hc, Nat.succ_mul]; omega), hc, show (i + 1) * c + j - c = i * c + j by rw [Nat.succ_mul]; omega]

/-- the one element that an append lays down first, behind a draw -/
theorem news_drewN (w : World) (cs : List Value) (t : TypeId) (n H : Nat) (hH : w.heap.size = H) : ∀ j u, cs[j]? = some u → ((w.drewN n).alloc (.cells cs.toArray t)).cell? ((⟨H, 0, none⟩ : Addr).add j) = some u := by
  subst hH
  exact news_new (w.drewN n) cs t

theorem hso {w : World} {b i k : Nat} {u : Value} (h : k ≠ b) : (w.setCell ⟨b, i, none⟩ u).heap[k]? = w.heap[k]? := Below.heap_setCell _ _ _ _ h

theorem off_setCell (w : World) (b i : Nat) (u : Value) : Off [b] w (w.setCell ⟨b, i, none⟩ u) :=
  ⟨rfl, rfl, rfl, by simp [World.setCell], fun k _ hF => Below.heap_setCell _ _ _ _ (by simpa using hF)⟩
theorem Off.mono {F G : List Nat} {w w' : World} (h : Off F w w') (hF : ∀ x ∈ F, x ∈ G) : Off G w w' :=
  ⟨h.os, h.tape, h.output, h.size, fun k hk hG => h.block k hk fun e => hG (hF k e)⟩
theorem Off.refl (F : List Nat) (w : World) : Off F w w := ⟨rfl, rfl, rfl, Nat.le_refl _, fun _ _ _ => rfl⟩
theorem off_grown {w w' : World} {row : Option Nat} (h : w.grownBy w' row) : Off row.toList w w' :=
  ⟨h.os, h.tape, h.output, h.size, fun k hk hF => h.block k hk fun e => hF (by simp [← e])⟩
theorem Off.drewN {F : List Nat} {w w' : World} (h : Off F w w') (n : Nat) : Off F w (w'.drewN n) := ⟨h.os, h.tape, h.output, h.size, h.block⟩
theorem Off.drew {F : List Nat} {w w' : World} (h : Off F w w') : Off F w w'.drew := ⟨h.os, h.tape, h.output, h.size, h.block⟩

end Go.Proofs.Ytblekkjamemloaa
