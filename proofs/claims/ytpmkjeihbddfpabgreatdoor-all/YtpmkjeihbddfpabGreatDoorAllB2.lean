import Derived.Test.YtpmkjeihbddfpabGreatDoorAllB1
import Derived.WalkSmall
/- OUR OWN. Rows read by index; boxes; what the walks of both heaps share. -/
namespace Go.Proofs.YtpmkjeihbddfpabGreatDoor
open Go.RowKit
set_option linter.unusedVariables false
set_option linter.unusedSimpArgs false

theorem flat_get {α : Type} (f : α → List Value) (c : Nat) (hc : ∀ x, (f x).length = c) (l : List α) (i j : Nat) (hj : j < c) : (l.flatMap f)[i * c + j]? = (l[i]?).bind fun x => (f x)[j]? := by
  induction l generalizing i with
  | nil => simp
  | cons x l ih =>
    rw [List.flatMap_cons]
    cases i with
    | zero => rw [List.getElem?_append_left (by rw [hc]; omega)]; simp
    | succ i =>
      rw [List.getElem?_append_right (by rw [hc, Nat.succ_mul]; omega), hc, show (i + 1) * c + j - c = i * c + j by rw [Nat.succ_mul]; omega, ih]
      simp
theorem own_view {w : World} {e : TypeId} {size : Nat} {v : Value} {n : Nat} {xs : List Value} (h : w.ownsRow 0 e size v n xs) (hn : 0 < n) :
    ∃ g cap, v = .slice (some ⟨g, 0, none⟩) n cap ∧ g < w.heap.size ∧ v.ownBlock = some g ∧ n ≤ cap ∧ (∀ j u, xs[j]? = some u → w.cell? ⟨g, j, none⟩ = some u) ∧ ∀ j, w.frozen? ⟨g, j, none⟩ = false := by
  rcases h.2 with ⟨_, h0⟩ | ⟨g, cap, cur, rfl, _, hg, hnc, _, _, _⟩
  · omega
  · refine ⟨g, cap, rfl, lt_of_heap hg, rfl, hnc, fun j u hu => ?_, fun j => frozen_of_heap hg⟩
    have := h.cells (g := g) rfl j u hu
    rwa [show (⟨g, 0, none⟩ : Addr).add j = ⟨g, j, none⟩ by unfold Addr.add; split <;> simp_all] at this
theorem own_empty {w : World} {e : TypeId} {size : Nat} {v : Value} {xs : List Value} (h : w.ownsRow 0 e size v 0 xs) : ∃ ao cap, v = .slice ao 0 cap := by
  rcases h.2 with ⟨hv, _⟩ | ⟨g, cap, cur, hv, _⟩
  · exact ⟨_, _, hv⟩
  · exact ⟨_, _, hv⟩
theorem own_slice {w : World} {e : TypeId} {size : Nat} {v : Value} {n : Nat} {xs : List Value} (h : w.ownsRow 0 e size v n xs) : ∃ ao cap, v = .slice ao n cap := by
  rcases h.2 with ⟨hv, hn⟩ | ⟨g, cap, cur, hv, _⟩
  · exact ⟨none, 0, by rw [hv, hn]⟩
  · exact ⟨_, _, hv⟩
theorem refsN_snoc (l : List (Int × Int)) (v : Int × Int) (b : Int) : refsN (l ++ [v]) b = refsN l b + if v.1 = 2 ∧ v.2 = b then 1 else 0 := by
  unfold refsN
  rw [List.countP_append]
  by_cases h : v.1 = 2 ∧ v.2 = b
  · simp [List.countP_cons, h]
  · rw [if_neg h]
    simp [List.countP_cons]
    intro h1 h2
    exact h ⟨h1, h2⟩
theorem refsN_le (l : List (Int × Int)) (b : Int) : refsN l b ≤ l.length := List.countP_le_length
theorem take_snoc {α : Type} (l : List α) (k : Nat) (h : k < l.length) : l.take (k + 1) = l.take k ++ [l[k]] := List.take_succ_eq_append_getElem h
theorem map_set_same {α β : Type} (f : α → β) (l : List α) (i : Nat) (o o' : α) (h : l[i]? = some o) (hf : f o' = f o) : (l.set i o').map f = l.map f := by
  rw [List.map_set, hf]
  have : (l.map f)[i]? = some (f o) := by rw [List.getElem?_map, h]; rfl
  refine List.ext_getElem? fun j => ?_
  rw [List.getElem?_set]
  split
  · rename_i e
    subst e
    split
    · exact this.symm
    · rename_i hn
      rw [List.getElem?_eq_none (by simpa using hn)]
  · rfl
/-- a value more at the end: where there is room -/
theorem win_room {w : World} {e : TypeId} {g off n cap : Nat} {xs : List Value} (h : ownsWin w e (.slice (some ⟨g, off, none⟩) n cap) n xs) (hr : n < cap) (x : Value) :
    ownsWin (w.setCell ⟨g, off + n, none⟩ x) e (.slice (some ⟨g, off, none⟩) (n + 1) cap) (n + 1) (xs ++ [x]) ∧ (w.cell? ⟨g, off + n, none⟩).isSome = true ∧ w.frozen? ⟨g, off + n, none⟩ = false := by
  rcases h.2 with ⟨hv, _⟩ | ⟨g', off', cap', cur, hv, h1, h2, h3, h4, h5⟩
  · cases hv
  · simp at hv
    obtain ⟨⟨rfl, rfl⟩, rfl⟩ := hv
    have hlt : off + n < cur.size := by omega
    refine ⟨⟨by simp [h.1], .inr ⟨g, off, cap, cur.setIfInBounds (off + n) x, rfl, heap_setCell_at h1 x, by omega, h3, by simpa using h4, fun j u hu => ?_⟩⟩, ?_, frozen_of_heap h1⟩
    · rw [Array.getElem?_setIfInBounds]
      by_cases hj : j < xs.length
      · rw [List.getElem?_append_left hj] at hu
        have := h.1
        rw [if_neg (by omega)]
        exact h5 j u hu
      · have hjl : j < (xs ++ [x]).length := (List.getElem?_eq_some_iff.1 hu).1
        have hj2 : j = n := by have := h.1; simp at hjl; omega
        subst hj2
        rw [if_pos rfl, if_pos hlt]
        rw [List.getElem?_append_right (by have := h.1; omega)] at hu
        have := h.1
        rw [show j - xs.length = 0 by omega] at hu
        simpa using hu
    · rw [cell_of_heap h1 (Array.getElem?_eq_getElem hlt)]; rfl
theorem infoInt : (Tryz.prog.info? 3).map (fun i => (i.zero, i.size, i.bytes)) = some (some (.int .i64 0), 1, 8) := by kernel_rfl
theorem boxed' {w w1 : World} {cs : Array Value} {t : TypeId} (hb : Below (w.alloc (.cells cs t)).heap.size (w.alloc (.cells cs t)) w1) : w1.heap[w.heap.size]? = some (.cells cs t) := by
  rw [hb.block _ (by simp)]; exact heap_alloc_new w _
theorem flat_same {α : Type} (f : α → List Value) (l : List α) (i : Nat) (o o' : α) (h : l[i]? = some o) (hf : f o' = f o) : (l.set i o').flatMap f = l.flatMap f := by
  rw [List.flatMap_def, List.flatMap_def, map_set_same f l i o o' h hf]
theorem ref_of {N : Nat} {v : Int × Int} (h : okV N v) (he : objErr v = 0) : 1 ≤ v.2 ∧ v.2 ≤ N := by
  unfold objErr at he
  rcases h with h | h | h
  · rw [if_pos h] at he; omega
  · rw [if_neg (by omega), if_pos h] at he; omega
  · exact h

theorem wrapS {x : Int} (h1 : -9223372036854775808 ≤ x) (h2 : x ≤ 9223372036854775807) : IntKind.i64.wrap x = x := by
  rw [IntKind.wrap_i64]
  omega

end Go.Proofs.YtpmkjeihbddfpabGreatDoor

/- OUR OWN. Rows that lie apart: one is turned, the others stay. -/
namespace Go.Proofs.YtpmkjeihbddfpabGreatDoor
open Go.RowKit
set_option linter.unusedVariables false
set_option linter.unusedSimpArgs false

/-- a slice that is owned: element type, cells an element, value, length, cells -/
structure SRow where
  e : TypeId
  size : Nat
  v : Value
  n : Nat
  xs : List Value

def SRow.At (w : World) (r : SRow) : Prop := match r.size with
  | 1 => ownsWin w r.e r.v r.n r.xs
  | _ => w.ownsRow 0 r.e r.size r.v r.n r.xs
theorem SRow.At.carry {w w' : World} {r : SRow} (h : r.At w) (hb : ∀ g, r.v.ownBlock = some g → w'.heap[g]? = w.heap[g]?) : r.At w' := by
  unfold SRow.At at *
  split
  · rename_i h1; rw [h1] at h; exact win_carry h hb
  · rename_i h1
    split at h
    · rename_i h2; exact absurd h2 h1
    · exact own_carry h hb
theorem SRow.At.lt {w : World} {r : SRow} (h : r.At w) {g : Nat} (hg : r.v.ownBlock = some g) : g < w.heap.size := by
  unfold SRow.At at h
  split at h
  · exact win_lt h hg
  · exact (own_lt h hg).2
def SRow.ob (r : SRow) : Option Nat := r.v.ownBlock
def rfoot (rows : List SRow) : List Nat := rows.filterMap SRow.ob

/-- the rows of one thing whose head is block h -/
structure RowsAt (w : World) (h : Nat) (rows : List SRow) : Prop where
  all : ∀ r ∈ rows, r.At w
  apart : (h :: rfoot rows).Nodup
  head : h < w.heap.size

theorem filterMap_idx {α : Type} (f : α → Option Nat) (l : List α) (hn : (l.filterMap f).Nodup) : ∀ (i j : Nat) (a b : α) (x : Nat), l[i]? = some a → l[j]? = some b → f a = some x → f b = some x → i = j := by
  induction l with
  | nil => intro i j a b x h; simp at h
  | cons c l ih =>
    intro i j a b x hi hj ha hb
    have hl : (l.filterMap f).Nodup := by
      rw [List.filterMap_cons] at hn
      cases hc : f c with
      | none => rw [hc] at hn; exact hn
      | some y => rw [hc] at hn; exact (List.nodup_cons.1 hn).2
    cases i with
    | zero =>
      cases j with
      | zero => rfl
      | succ j =>
        exfalso
        simp at hi hj
        subst hi
        rw [List.filterMap_cons, ha] at hn
        exact (List.nodup_cons.1 hn).1 (List.mem_filterMap.2 ⟨b, List.mem_of_getElem? hj, hb⟩)
    | succ i =>
      cases j with
      | zero =>
        exfalso
        simp at hi hj
        subst hj
        rw [List.filterMap_cons, hb] at hn
        exact (List.nodup_cons.1 hn).1 (List.mem_filterMap.2 ⟨a, List.mem_of_getElem? hi, ha⟩)
      | succ j =>
        simp at hi hj
        rw [ih hl i j a b x hi hj ha hb]

theorem rows_lt {w : World} {h : Nat} {rows : List SRow} (R : RowsAt w h rows) : ∀ g ∈ h :: rfoot rows, g < w.heap.size := by
  intro g hg
  rcases List.mem_cons.1 hg with rfl | hg
  · exact R.head
  · obtain ⟨r, hr, hg⟩ := List.mem_filterMap.1 hg
    exact (R.all r hr).lt hg

theorem RowsAt.carry {w w' : World} {h : Nat} {rows : List SRow} (R : RowsAt w h rows) (hb : ∀ g ∈ h :: rfoot rows, w'.heap[g]? = w.heap[g]?) (hh : h < w'.heap.size) : RowsAt w' h rows :=
  ⟨fun r hr => (R.all r hr).carry fun g hg => hb g (List.mem_cons_of_mem _ (List.mem_filterMap.2 ⟨r, hr, hg⟩)), R.apart, hh⟩

theorem nodup_set {f : SRow → Option Nat} {n : Nat} (l : List SRow) (p : Nat) (r0 r1 : SRow) (hp : l[p]? = some r0) (hn : (l.filterMap f).Nodup) (hlt : ∀ x ∈ l.filterMap f, x < n)
    (hv : ∀ g, f r1 = some g → f r0 = some g ∨ n ≤ g) : ((l.set p r1).filterMap f).Nodup ∧ ∀ x ∈ (l.set p r1).filterMap f, x ∈ l.filterMap f ∨ (n ≤ x ∧ f r1 = some x) := by
  induction l generalizing p with
  | nil => simp at hp
  | cons c l ih =>
    cases p with
    | zero =>
      simp at hp
      subst hp
      rw [List.set_cons_zero]
      have hl : (l.filterMap f).Nodup := by
        rw [List.filterMap_cons] at hn
        cases hc : f c with
        | none => rw [hc] at hn; exact hn
        | some y => rw [hc] at hn; exact (List.nodup_cons.1 hn).2
      have hll : ∀ x ∈ l.filterMap f, x ∈ (c :: l).filterMap f := fun x hx => by
        rw [List.filterMap_cons]; split
        · exact hx
        · exact List.mem_cons_of_mem _ hx
      cases h1 : f r1 with
      | none =>
        rw [List.filterMap_cons, h1]
        exact ⟨hl, fun x hx => .inl (hll x hx)⟩
      | some y =>
        rw [List.filterMap_cons, h1]
        refine ⟨List.nodup_cons.2 ⟨fun hy => ?_, hl⟩, fun x hx => ?_⟩
        · rcases hv y h1 with e | e
          · rw [List.filterMap_cons, e] at hn
            exact (List.nodup_cons.1 hn).1 hy
          · have := hlt y (hll y hy); omega
        · rcases List.mem_cons.1 hx with rfl | hx
          · rcases hv x h1 with e | e
            · exact .inl (by rw [List.filterMap_cons, e]; exact List.mem_cons_self)
            · exact .inr ⟨e, rfl⟩
          · exact .inl (hll x hx)
    | succ p =>
      simp at hp
      rw [List.set_cons_succ]
      have hl : (l.filterMap f).Nodup := by
        rw [List.filterMap_cons] at hn
        cases hc : f c with
        | none => rw [hc] at hn; exact hn
        | some y => rw [hc] at hn; exact (List.nodup_cons.1 hn).2
      have hll : ∀ x ∈ l.filterMap f, x ∈ (c :: l).filterMap f := fun x hx => by
        rw [List.filterMap_cons]; split
        · exact hx
        · exact List.mem_cons_of_mem _ hx
      obtain ⟨g1, g2⟩ := ih p hp hl (fun x hx => hlt x (hll x hx))
      cases h1 : f c with
      | none =>
        rw [List.filterMap_cons, h1]
        refine ⟨g1, fun x hx => ?_⟩
        rcases g2 x hx with e | e
        · exact .inl (hll x e)
        · exact .inr e
      | some y =>
        rw [List.filterMap_cons, h1]
        refine ⟨List.nodup_cons.2 ⟨fun hy => ?_, g1⟩, fun x hx => ?_⟩
        · rcases g2 y hy with e | ⟨e, _⟩
          · rw [List.filterMap_cons, h1] at hn
            exact (List.nodup_cons.1 hn).1 e
          · have := hlt y (by rw [List.filterMap_cons, h1]; exact List.mem_cons_self); omega
        · rcases List.mem_cons.1 hx with rfl | hx
          · exact .inl (by rw [List.filterMap_cons, h1]; exact List.mem_cons_self)
          · rcases g2 x hx with e | e
            · exact .inl (hll x e)
            · exact .inr e

/-- ONE ROW IS TURNED: the others, and the head's place, stay apart. -/
theorem RowsAt.set {w w' : World} {h : Nat} {rows : List SRow} (R : RowsAt w h rows) {p : Nat} {r0 : SRow} (hp : rows[p]? = some r0) (r1 : SRow) (h1 : r1.At w')
    (hv : ∀ g, r1.ob = some g → r0.ob = some g ∨ w.heap.size ≤ g) (hk : ∀ k, k < w.heap.size → k ≠ h → r0.ob ≠ some k → w'.heap[k]? = w.heap[k]?) (hs : w.heap.size ≤ w'.heap.size) :
    RowsAt w' h (rows.set p r1) ∧ ∀ g ∈ rfoot (rows.set p r1), g ∈ rfoot rows ∨ w.heap.size ≤ g := by
  have hlt := rows_lt R
  have hap := List.nodup_cons.1 R.apart
  obtain ⟨g1, g2⟩ := nodup_set (f := SRow.ob) (n := w.heap.size) rows p r0 r1 hp hap.2 (fun x hx => hlt x (List.mem_cons_of_mem _ hx)) hv
  refine ⟨⟨fun r hr => ?_, List.nodup_cons.2 ⟨fun hy => ?_, g1⟩, by have := R.head; omega⟩, fun g hg => ?_⟩
  · obtain ⟨i, hi⟩ := List.getElem?_of_mem hr
    rw [List.getElem?_set] at hi
    split at hi
    · split at hi
      · cases hi; exact h1
      · cases hi
    · rename_i hne
      have hm := List.mem_of_getElem? hi
      refine (R.all r hm).carry fun g hg => hk g ?_ ?_ ?_
      · exact hlt g (List.mem_cons_of_mem _ (List.mem_filterMap.2 ⟨r, hm, hg⟩))
      · intro e; subst e; exact hap.1 (List.mem_filterMap.2 ⟨r, hm, hg⟩)
      · intro e; exact hne (filterMap_idx SRow.ob rows hap.2 p i r0 r g hp hi e hg)
  · rcases g2 h hy with e | ⟨e, _⟩
    · exact hap.1 e
    · have := R.head; omega
  · rcases g2 g hg with e | ⟨e, _⟩
    · exact .inl e
    · exact .inr e

/-! ### Stores into a row -/
theorem flat_set {α : Type} (f : α → List Value) (c : Nat) (hc : ∀ x, (f x).length = c) (l : List α) (i j : Nat) (hj : j < c) (x : α) (u : Value) (hi : l[i]? = some x) (x' : α) (hx : f x' = (f x).set j u) :
    (l.set i x').flatMap f = (l.flatMap f).set (i * c + j) u := by
  induction l generalizing i with
  | nil => simp at hi
  | cons y l ih =>
    cases i with
    | zero =>
      simp at hi
      subst hi
      rw [List.set_cons_zero, List.flatMap_cons, List.flatMap_cons, hx, List.set_append_left _ _ (by rw [hc]; omega)]
      simp
    | succ i =>
      simp at hi
      rw [List.set_cons_succ, List.flatMap_cons, List.flatMap_cons, ih i hi, List.set_append_right _ _ (by rw [hc, Nat.succ_mul]; omega), hc, show (i + 1) * c + j - c = i * c + j by rw [Nat.succ_mul]; omega]

/-- the one element that an append lays down first, behind a draw -/
theorem news_drewN (w : World) (cs : List Value) (t : TypeId) (n H : Nat) (hH : w.heap.size = H) : ∀ j u, cs[j]? = some u → ((w.drewN n).alloc (.cells cs.toArray t)).cell? ((⟨H, 0, none⟩ : Addr).add j) = some u := by
  subst hH
  exact news_new (w.drewN n) cs t

theorem hso {w : World} {b i k : Nat} {u : Value} (h : k ≠ b) : (w.setCell ⟨b, i, none⟩ u).heap[k]? = w.heap[k]? := Below.heap_setCell _ _ _ _ h

theorem off_setCell (w : World) (b i : Nat) (u : Value) : Off [b] w (w.setCell ⟨b, i, none⟩ u) :=
  ⟨rfl, rfl, rfl, by simp [World.setCell], fun k _ hF => Below.heap_setCell _ _ _ _ (by simpa using hF)⟩
theorem Off.mono {F G : List Nat} {w w' : World} (h : Off F w w') (hF : ∀ x ∈ F, x ∈ G) : Off G w w' :=
  ⟨h.os, h.tape, h.output, h.size, fun k hk hG => h.block k hk fun e => hG (hF k e)⟩
theorem Off.refl (F : List Nat) (w : World) : Off F w w := ⟨rfl, rfl, rfl, Nat.le_refl _, fun _ _ _ => rfl⟩
theorem off_grown {w w' : World} {row : Option Nat} (h : w.grownBy w' row) : Off row.toList w w' :=
  ⟨h.os, h.tape, h.output, h.size, fun k hk hF => h.block k hk fun e => hF (by simp [← e])⟩
theorem Off.drewN {F : List Nat} {w w' : World} (h : Off F w w') (n : Nat) : Off F w (w'.drewN n) := ⟨h.os, h.tape, h.output, h.size, h.block⟩
theorem Off.drew {F : List Nat} {w w' : World} (h : Off F w w') : Off F w w'.drew := ⟨h.os, h.tape, h.output, h.size, h.block⟩

end Go.Proofs.YtpmkjeihbddfpabGreatDoor

/- OUR OWN. The number of an operation that tells none. -/
namespace Go.Proofs.YtpmkjeihbddfpabGreatDoor
open Go.RowKit
set_option linter.unusedVariables false
set_option linter.unusedSimpArgs false

theorem ret_zero {a b c : Int} (h : a = b) : Ending.returned (.tuple #[.int .i64 a, .int .i64 c]) = .returned (.tuple #[.int .i64 b, .int .i64 c]) := by rw [h]
theorem push_zero (d : Int) (s : St) (v : Int × Int) : 0 = (pushA d s v).2.1 := rfl
theorem new_zero (c : Cf) (s : St) (n : Int) : 0 = (newS c s n).2.1 := by
  unfold newS
  by_cases h1 : n < 0 ∨ 4 < n
  · rw [if_pos h1]
  rw [if_neg h1]
  by_cases h2 : c.deep ≤ s.stack.length
  · rw [if_pos h2]
  rw [if_neg h2]
  cases free? (roomS c s) <;> rfl
theorem dup_zero (d : Int) (s : St) (n : Int) : 0 = (dupS d s n).2.1 := by
  unfold dupS
  by_cases h1 : n < 0 ∨ (s.stack.length : Int) ≤ n
  · rw [if_pos h1]
  · rw [if_neg h1]; rfl
theorem drop_zero (s : St) : 0 = (dropS s).2.1 := by
  unfold dropS
  by_cases h1 : s.stack.length < 1
  · rw [if_pos h1]
  · rw [if_neg h1]
theorem get_zero (d : Int) (s : St) (n : Int) : 0 = (getS d s n).2.1 := by
  unfold getS
  by_cases h1 : n < 0 ∨ (s.globals.length : Int) ≤ n
  · rw [if_pos h1]
  · rw [if_neg h1]; rfl
theorem set_zero (s : St) (n : Int) : 0 = (setS s n).2.1 := by
  unfold setS
  by_cases h1 : n < 0 ∨ (s.globals.length : Int) ≤ n
  · rw [if_pos h1]
  rw [if_neg h1]
  by_cases h2 : s.stack.length < 1
  · rw [if_pos h2]
  · rw [if_neg h2]
theorem load_zero (d : Int) (s : St) (n : Int) : 0 = (loadS d s n).2.1 := by
  unfold loadS
  by_cases h1 : s.stack.length < 1
  · rw [if_pos h1]
  rw [if_neg h1]
  by_cases h2 : objErr (s.down 0) ≠ 0
  · rw [if_pos h2]
  rw [if_neg h2]
  by_cases h3 : n < 0 ∨ ((s.fields (s.down 0).2).length : Int) ≤ n
  · rw [if_pos h3]
  · rw [if_neg h3]; rfl
theorem store_zero (c : Cf) (s : St) (n : Int) : 0 = (storeS c s n).2.1 := by
  unfold storeS
  by_cases h1 : s.stack.length < 2
  · rw [if_pos h1]
  rw [if_neg h1]
  by_cases h2 : objErr (s.down 1) ≠ 0
  · rw [if_pos h2]
  rw [if_neg h2]
  by_cases h3 : n < 0 ∨ ((s.fields (s.down 1).2).length : Int) ≤ n
  · rw [if_pos h3]
  · rw [if_neg h3]

end Go.Proofs.YtpmkjeihbddfpabGreatDoor

/- OUR OWN. What a Dump writes, what a Gauge tells: without memory. -/
namespace Go.Proofs.YtpmkjeihbddfpabGreatDoor
open Go.RowKit
set_option linter.unusedVariables false
set_option linter.unusedSimpArgs false

/-- bytes as a string's value -/
def str (l : List UInt8) : Value := .string ⟨l.toArray⟩
theorem ba_append (a b : List UInt8) : (⟨a.toArray⟩ ++ ⟨b.toArray⟩ : ByteArray) = ⟨(a ++ b).toArray⟩ := by
  simp [ByteArray.mk_append_mk]
def digF : Nat → Nat → List UInt8
  | 0, _ => []
  | f + 1, n => (if n / 10 = 0 then [] else digF f (n / 10)) ++ [48 + UInt8.ofNat (n % 10)]
theorem digF_last {f n : Nat} (hf : 1 ≤ f) (h : n / 10 = 0) : digF f n = [48 + UInt8.ofNat (n % 10)] := by
  obtain ⟨f, rfl⟩ : ∃ f', f = f' + 1 := ⟨f - 1, by omega⟩
  unfold digF; rw [if_pos h]; rfl
theorem digF_more {f n : Nat} (hf : 1 ≤ f) (h : ¬ n / 10 = 0) : digF f n = digF (f - 1) (n / 10) ++ [48 + UInt8.ofNat (n % 10)] := by
  obtain ⟨f, rfl⟩ : ∃ f', f = f' + 1 := ⟨f - 1, by omega⟩
  rw [digF, if_neg h]; rfl
theorem digF_fuel {f b : Nat} (hb : b < 10 ^ f) (h : ¬ b / 10 = 0) : 1 ≤ f - 1 ∧ b / 10 < 10 ^ (f - 1) := by
  have hf : 1 ≤ f := by
    rcases Nat.eq_zero_or_pos f with e | e
    · subst e; simp at hb; omega
    · exact e
  obtain ⟨g, rfl⟩ : ∃ g, f = g + 1 := ⟨f - 1, by omega⟩
  rw [Nat.pow_succ] at hb
  have h1 : b / 10 < 10 ^ g := by omega
  refine ⟨?_, by simpa using h1⟩
  rcases Nat.eq_zero_or_pos g with e | e
  · subst e; simp at h1; omega
  · omega
/-- a number, as it is written -/
def digits (n : Int) : List UInt8 := if n < 0 then 45 :: digF 20 n.natAbs else digF 20 n.natAbs
theorem digF_len (f n : Nat) : (digF f n).length ≤ f := by
  induction f generalizing n with
  | zero => simp [digF]
  | succ f ih =>
    unfold digF
    by_cases h : n / 10 = 0
    · rw [if_pos h]; simp
    · rw [if_neg h]; have := ih (n / 10); simp; omega
theorem digits_len (n : Int) : (digits n).length ≤ 21 := by
  unfold digits
  have := digF_len 20 n.natAbs
  by_cases h : n < 0
  · rw [if_pos h]; simp; omega
  · rw [if_neg h]; omega
def fitsV (v : Int × Int) : Prop := -9223372036854775808 ≤ v.2 ∧ v.2 ≤ 9223372036854775807
/-- a value -/
def writtenL (v : Int × Int) : List UInt8 := if v.1 = 0 then [110] else if v.1 = 1 then digits v.2 else 35 :: digits v.2
theorem written_len (v : Int × Int) : (writtenL v).length ≤ 22 := by
  unfold writtenL
  have := digits_len v.2
  by_cases h0 : v.1 = 0
  · rw [if_pos h0]; simp
  rw [if_neg h0]
  by_cases h1 : v.1 = 1
  · rw [if_pos h1]; omega
  · rw [if_neg h1]; simp; omega
/-- the first k values, with commas between -/
def listN (l : List (Int × Int)) : Nat → List UInt8
  | 0 => []
  | k + 1 => listN l k ++ (if k = 0 then [] else [44]) ++ writtenL (l.getD k (0, 0))
def listL (l : List (Int × Int)) : List UInt8 := listN l l.length
theorem listN_len (l : List (Int × Int)) (k : Nat) : (listN l k).length ≤ 23 * k := by
  induction k with
  | zero => simp [listN]
  | succ k ih =>
    have := written_len (l.getD k (0, 0))
    unfold listN
    by_cases h : k = 0
    · rw [if_pos h]; simp only [List.length_append, List.length_nil]; omega
    · rw [if_neg h]; simp only [List.length_append, List.length_singleton]; omega
/-- an object's letter and count -/
def letterL (s : St) (i : Nat) : List UInt8 :=
  if (s.ob i).queued then 113 :: digits (s.count i) else if (s.ob i).stuck then [115] else if s.waits i then 119 :: digits (s.count i) else 104 :: digits (s.count i)
def recordL (s : St) (i : Nat) : List UInt8 := if (s.ob i).here then letterL s i ++ [91] ++ listL (s.ob i).fs ++ [93, 59] else [46, 59]
theorem letter_len (s : St) (i : Nat) : (letterL s i).length ≤ 22 := by
  unfold letterL
  have := digits_len (s.count i)
  split
  · simp; omega
  · split
    · simp
    · split <;> simp <;> omega
theorem list_len (l : List (Int × Int)) : (listL l).length ≤ 23 * l.length := listN_len l _
theorem record_len (s : St) (i : Nat) (h : (s.ob i).fs.length ≤ 4) : (recordL s i).length ≤ 120 := by
  unfold recordL
  have h1 := letter_len s i
  have h2 := list_len (s.ob i).fs
  split
  · simp only [List.length_append, List.length_cons, List.length_nil]; omega
  · simp
def recsTo (s : St) : Nat → List UInt8
  | 0 => []
  | k + 1 => recsTo s k ++ recordL s (k + 1)
def queueN (q : List Int) : Nat → List UInt8
  | 0 => []
  | k + 1 => queueN q k ++ (if k = 0 then [] else [44]) ++ digits (q.getD k 0)
def dumpL (s : St) : List UInt8 := recsTo s s.N ++ [124] ++ queueN s.queue s.queue.length ++ [124] ++ listL s.stack ++ [124] ++ listL s.globals
/-- the numbers of a heap's values are numbers of Go -/
structure Fits (s : St) : Prop where
  stack : ∀ v ∈ s.stack, fitsV v
  globals : ∀ v ∈ s.globals, fitsV v
  fields : ∀ o ∈ s.objs, ∀ v ∈ o.fs, fitsV v
  queue : ∀ b ∈ s.queue, -9223372036854775808 ≤ b ∧ b ≤ 9223372036854775807
theorem Fits.ob {s : St} (f : Fits s) (i : Nat) : ∀ v ∈ (s.ob i).fs, fitsV v := by
  intro v hv
  rcases ob_mem s i with e | e
  · exact f.fields _ e v hv
  · rw [e] at hv; simp [Ob.free] at hv
theorem recs_len (s : St) (k : Nat) (h : ∀ i, (s.ob i).fs.length ≤ 4) : (recsTo s k).length ≤ 120 * k := by
  induction k with
  | zero => simp [recsTo]
  | succ k ih => have := record_len s (k + 1) (h _); simp only [recsTo, List.length_append]; omega
theorem queueN_len (q : List Int) (k : Nat) : (queueN q k).length ≤ 23 * k := by
  induction k with
  | zero => simp [queueN]
  | succ k ih =>
    have := digits_len (q.getD k 0)
    unfold queueN
    by_cases h : k = 0
    · rw [if_pos h]; simp only [List.length_append, List.length_nil]; omega
    · rw [if_neg h]; simp only [List.length_append, List.length_singleton]; omega
/-- free, waiting, queued, extras, stuck -/
def St.frees (s : St) (b : Nat) : Bool := !(s.ob b).here
def St.stucks (s : St) (b : Nat) : Bool := (s.ob b).here && (s.ob b).stuck
def gaugeS (s : St) : Nat × Nat × Nat × Nat × Nat := (countTo s.frees s.N, countTo s.waits s.N, s.queue.length, s.extras, countTo s.stucks s.N)

end Go.Proofs.YtpmkjeihbddfpabGreatDoor

/- OUR OWN. The document's heap: what is counted (refs, Count, rooted, Waits, Extra, extras). -/
namespace Go.Proofs.YtpmkjeihbddfpabGreatDoor
open Go.RowKit
set_option linter.unusedVariables false
set_option linter.unusedSimpArgs false

/-! ### Rows read by index -/
/-! ### What is counted -/

set_option maxHeartbeats 400000 in
theorem refs_any (v : Value) (l : List (Int × Int)) (b : Int) (w : World) (ho : w.ownsRow 0 84 2 v l.length (l.flatMap valCells)) (hn : l.length ≤ 1000) :
    Calls Tryz.prog 73 #[v, .int .i64 b] w fun e w' => e = .returned (.int .i64 (refsN l b)) ∧ w' = w := by
  rcases Nat.eq_zero_or_pos l.length with h0 | h0
  · obtain rfl : l = [] := List.eq_nil_of_length_eq_zero h0
    obtain ⟨ao, cap, rfl⟩ := own_empty ho
    clear ho
    go_enter Tryz.func73, Tryz.ntmps73
    go_wp2
    go_loop [5, 6] (fun n i => n = .int .i64 0 ∧ i = .int .i64 0) (fun _ _ => 0)
    case atStart => exact ⟨rfl, rfl⟩
    case round =>
      obtain ⟨rfl, rfl⟩ := hrel
      go_wp2
      go_ret
      exact ⟨rfl, rfl⟩
  · obtain ⟨g, cap, rfl, _, _, _, hcell, _⟩ := own_view ho h0
    have hc0 : ∀ k (hk : k < l.length), w.cell? ⟨g, k * 2, none⟩ = some (.int .i64 (l[k]).1) := fun k hk => hcell _ _ (by have := flat_get valCells 2 (fun _ => rfl) l k 0 (by decide); simpa [hk, valCells] using this)
    have hc1 : ∀ k (hk : k < l.length), w.cell? ⟨g, k * 2 + 1, none⟩ = some (.int .i64 (l[k]).2) := fun k hk => hcell _ _ (by have := flat_get valCells 2 (fun _ => rfl) l k 1 (by decide); simpa [hk, valCells] using this)
    have C : Hid (∀ k (hk : k < l.length), w.cell? ⟨g, k * 2, none⟩ = some (.int .i64 (l[k]).1) ∧ w.cell? ⟨g, k * 2 + 1, none⟩ = some (.int .i64 (l[k]).2)) := fun k hk => ⟨hc0 k hk, hc1 k hk⟩
    clear hcell ho hc0 hc1
    obtain ⟨len, hlen⟩ : ∃ len, l.length = len := ⟨_, rfl⟩
    rw [hlen] at hn h0 ⊢
    have L : Hid (l.length = len) := hlen
    clear hlen
    go_enter Tryz.func73, Tryz.ntmps73
    go_wp2
    go_loop [5, 6] (fun n i => ∃ k : Nat, k ≤ len ∧ i = .int .i64 k ∧ n = .int .i64 (refsN (l.take k) b)) (fun _ i => len - (intOf i).toNat)
    case atStart => exact ⟨0, Nat.zero_le _, rfl, rfl⟩
    case round =>
      obtain ⟨k, hk, rfl, rfl⟩ := hrel
      by_cases hlt : k < len
      · have hk' : k < l.length := by rw [L.out]; exact hlt
        obtain ⟨c0, c1⟩ := C.out k hk'
        have hs := refsN_snoc (l.take k) l[k] b
        rw [← take_snoc l k hk'] at hs
        have hle := refsN_le (l.take k) b
        have hle2 : (l.take k).length ≤ k := List.length_take_le _ _
        obtain ⟨r, hr⟩ : ∃ r, r = refsN (l.take k) b := ⟨_, rfl⟩
        rw [← hr] at hs hle ⊢
        obtain ⟨x, hx⟩ : ∃ x, x = l[k] := ⟨_, rfl⟩
        rw [← hx] at c0 c1 hs
        obtain ⟨x1, x2⟩ := x
        simp only at c0 c1 hs
        have S : Hid (refsN (l.take (k + 1)) b = r + if x1 = 2 ∧ x2 = b then 1 else 0) := hs
        clear hs hr hx
        by_cases q1 : x1 = 2
        · by_cases q2 : x2 = b
          · subst q1 q2
            go_wp2
            go_round
            case rel => exact ⟨k + 1, by omega, by go_num, by rw [S.out, if_pos ⟨rfl, rfl⟩]; go_num⟩
            case measure => simp [intOf]; omega
          · have q3 : (x2 == b) = false := by simpa using q2
            subst q1
            go_wp2
            go_round
            case rel => exact ⟨k + 1, by omega, by go_num, by rw [S.out, if_neg (fun h => q2 h.2)]; rfl⟩
            case measure => simp [intOf]; omega
        · have q3 : (x1 == 2) = false := by simpa using q1
          go_wp2
          go_round
          case rel => exact ⟨k + 1, by omega, by go_num, by rw [S.out, if_neg (fun h => q1 h.1)]; rfl⟩
          case measure => simp [intOf]; omega
      · go_wp2
        go_ret
        exact ⟨ret_int (by rw [List.take_of_length_le (by rw [L.out]; omega)]), rfl⟩

end Go.Proofs.YtpmkjeihbddfpabGreatDoor

/- OUR OWN. The document's heap: Count, rooted, Waits, Extra, extras. -/
namespace Go.Proofs.YtpmkjeihbddfpabGreatDoor
open Go.RowKit
set_option linter.unusedVariables false
set_option linter.unusedSimpArgs false

/-- What is always so of the document's heap: how great its parts are. -/
structure RefM.Ok (m : RefM) (N : Nat) : Prop where
  most : m.most = N
  len : m.objs.length = N + 1
  small : N ≤ 99
  fields : ∀ o ∈ m.objs, o.fs.length ≤ 4
  stack : m.stack.length ≤ 16
  globals : m.globals.length ≤ 8
  queue : m.queue.length ≤ m.objs.countP RObj.queued

def objCount (b : Int) (o : RObj) : Nat := if o.here then refsN o.fs b else 0
def countObjs (l : List RObj) (b : Int) : Nat := (l.map (objCount b)).sum
/-- the objects of the blocks from 1 on -/
def RefM.live (m : RefM) : List RObj := m.objs.tail
def RefM.count (m : RefM) (b : Int) : Nat := countObjs m.live b

theorem live_get (m : RefM) (j : Nat) : m.live[j]? = m.objs[j + 1]? := by simp [RefM.live]
theorem live_mem {m : RefM} {o : RObj} (h : o ∈ m.live) : o ∈ m.objs := List.mem_of_mem_tail h
theorem RefM.Ok.live {m : RefM} {N : Nat} (ok : m.Ok N) : m.live.length = N := by simp [RefM.live, ok.len]

theorem countObjs_snoc (l : List RObj) (o : RObj) (b : Int) : countObjs (l ++ [o]) b = countObjs l b + objCount b o := by
  simp [countObjs, List.sum_append]

theorem countObjs_le (l : List RObj) (b : Int) (h : ∀ o ∈ l, o.fs.length ≤ 4) : countObjs l b ≤ 4 * l.length := by
  induction l with
  | nil => simp [countObjs]
  | cons o l ih =>
    have h1 := ih fun o ho => h o (List.mem_cons_of_mem _ ho)
    have h2 := h o (by simp)
    have h3 : objCount b o ≤ o.fs.length := by unfold objCount; split; · exact refsN_le _ _
                                               · omega
    simp only [countObjs, List.map_cons, List.sum_cons, List.length_cons] at *
    omega

/-- the blocks' row, and what the walk wants of it -/
theorem RefAt.view0 {w : World} {h : Nat} {m : RefM} {N : Nat} (r : RefAt w h m) (hlen : m.objs.length = N + 1) :
    ∃ g cap, m.vB = .slice (some ⟨g, 0, none⟩) (N + 1) cap ∧ g < w.heap.size ∧ g ≠ h ∧ m.vB.ownBlock = some g ∧ (∀ j, w.frozen? ⟨g, j, none⟩ = false) ∧
      ∀ i (hi : i < m.objs.length), w.cell? ⟨g, i * 4, none⟩ = some (.bool (m.objs[i]).here) ∧ w.cell? ⟨g, i * 4 + 1, none⟩ = some (m.objs[i]).vF ∧
        w.cell? ⟨g, i * 4 + 2, none⟩ = some (.bool (m.objs[i]).stuck) ∧ w.cell? ⟨g, i * 4 + 3, none⟩ = some (.bool (m.objs[i]).queued) := by
  obtain ⟨g, cap, hv, hg, hb, _, hc, hf⟩ := own_view r.blocks (by rw [hlen]; omega)
  rw [hlen] at hv
  refine ⟨g, cap, hv, hg, ?_, hb, hf, fun i hi => ?_⟩
  · intro e
    have := r.apart
    simp only [RefM.foot, List.nodup_cons] at this
    exact this.1 (by rw [← e]; exact List.mem_filterMap.2 ⟨m.vB, by simp, hb⟩)
  · have key : ∀ j, j < 4 → ∀ u, (m.objs[i]).cells[j]? = some u → w.cell? ⟨g, i * 4 + j, none⟩ = some u := fun j hj u hu =>
      hc _ _ (by rw [flat_get RObj.cells 4 (fun _ => rfl) m.objs i j hj, List.getElem?_eq_getElem hi]; exact hu)
    exact ⟨key 0 (by decide) _ rfl, key 1 (by decide) _ rfl, key 2 (by decide) _ rfl, key 3 (by decide) _ rfl⟩
theorem RefAt.view {w : World} {h : Nat} {m : RefM} {N : Nat} (r : RefAt w h m) (ok : m.Ok N) :
    ∃ g cap, m.vB = .slice (some ⟨g, 0, none⟩) (N + 1) cap ∧ g < w.heap.size ∧ g ≠ h ∧ m.vB.ownBlock = some g ∧ (∀ j, w.frozen? ⟨g, j, none⟩ = false) ∧
      ∀ i (hi : i < m.objs.length), w.cell? ⟨g, i * 4, none⟩ = some (.bool (m.objs[i]).here) ∧ w.cell? ⟨g, i * 4 + 1, none⟩ = some (m.objs[i]).vF ∧
        w.cell? ⟨g, i * 4 + 2, none⟩ = some (.bool (m.objs[i]).stuck) ∧ w.cell? ⟨g, i * 4 + 3, none⟩ = some (.bool (m.objs[i]).queued) := r.view0 ok.len

theorem RefAt.cell {w : World} {h : Nat} {m : RefM} (r : RefAt w h m) : w.cell? ⟨h, 0, none⟩ = some (.int .i64 m.most) ∧ w.cell? ⟨h, 1, none⟩ = some (.int .i64 m.deep) ∧ w.cell? ⟨h, 2, none⟩ = some (.int .i64 m.budget) ∧
    w.cell? ⟨h, 3, none⟩ = some (.int .i64 m.zero) ∧ w.cell? ⟨h, 4, none⟩ = some (.int .i64 m.over) ∧ w.cell? ⟨h, 5, none⟩ = some m.vB ∧ w.cell? ⟨h, 6, none⟩ = some m.vQ ∧ w.cell? ⟨h, 7, none⟩ = some m.vS ∧ w.cell? ⟨h, 8, none⟩ = some m.vG ∧
    ∀ j, w.frozen? ⟨h, j, none⟩ = false :=
  ⟨cell_of_heap r.head rfl, cell_of_heap r.head rfl, cell_of_heap r.head rfl, cell_of_heap r.head rfl, cell_of_heap r.head rfl, cell_of_heap r.head rfl, cell_of_heap r.head rfl, cell_of_heap r.head rfl, cell_of_heap r.head rfl, fun _ => frozen_of_heap r.head⟩

set_option maxHeartbeats 400000 in
theorem count_any {w : World} {h : Nat} {m : RefM} {N : Nat} (r : RefAt w h m) (ok : m.Ok N) (b : Int) :
    Calls Tryz.prog 33 #[.pointer (some ⟨h, 0, none⟩), .int .i64 b] w fun e w' => e = .returned (.int .i64 (m.count b)) ∧ w' = w := by
  obtain ⟨g, cap, hv, _, _, _, _, hobj⟩ := r.view ok
  have cM : w.cell? ⟨h, 0, none⟩ = some (.int .i64 N) := by rw [r.cell.1, ok.most]
  have cB : w.cell? ⟨h, 5, none⟩ = some (.slice (some ⟨g, 0, none⟩) (N + 1) cap) := by rw [r.cell.2.2.2.2.2.1, hv]
  have hlen : m.live.length = N := ok.live
  have OBJ : Hid (∀ j (hj : j < N), ∃ o : RObj, o ∈ m.objs ∧ m.live[j]? = some o ∧ w.cell? ⟨g, (j + 1) * 4, none⟩ = some (.bool o.here) ∧ w.cell? ⟨g, (j + 1) * 4 + 1, none⟩ = some o.vF ∧ w.ownsRow 0 84 2 o.vF o.fs.length (o.fs.flatMap valCells) ∧ o.fs.length ≤ 4 ∧
      countObjs (m.live.take (j + 1)) b = countObjs (m.live.take j) b + objCount b o ∧ countObjs (m.live.take j) b ≤ 4 * j) := by
    intro j hj
    have hi : j + 1 < m.objs.length := by rw [ok.len]; omega
    obtain ⟨c0, c1, _, _⟩ := hobj (j + 1) hi
    have hd : m.live[j]? = some m.objs[j + 1] := by rw [live_get, List.getElem?_eq_getElem hi]
    have hjl : j < m.live.length := by rw [hlen]; exact hj
    refine ⟨m.objs[j + 1], List.getElem_mem hi, hd, c0, c1, r.fields _ (List.getElem_mem hi), ok.fields _ (List.getElem_mem hi), ?_, ?_⟩
    · rw [take_snoc _ j hjl, countObjs_snoc]
      have : m.live[j] = m.objs[j + 1] := by rw [List.getElem?_eq_getElem hjl] at hd; exact Option.some.inj hd
      rw [this]
    · have h1 := countObjs_le (m.live.take j) b fun o ho => ok.fields o (live_mem (List.mem_of_mem_take ho))
      have h2 : (m.live.take j).length ≤ j := List.length_take_le _ _
      omega
  have FIN : Hid (countObjs (m.live.take N) b = m.count b) := by
    have : m.live.take N = m.live := List.take_of_length_le (by omega)
    show countObjs (m.live.take N) b = m.count b
    rw [this]; rfl
  have hN := ok.small
  clear hobj hlen r ok hv
  go_enter Tryz.func33, Tryz.ntmps33
  go_wp2
  go_loop [5, 6] (fun n i => ∃ j : Nat, j ≤ N ∧ i = .int .i64 (j + 1) ∧ n = .int .i64 (countObjs (m.live.take j) b)) (fun _ i => N + 1 - (intOf i).toNat)
  case atStart => exact ⟨0, Nat.zero_le _, rfl, rfl⟩
  case round =>
    obtain ⟨j, hj, rfl, rfl⟩ := hrel
    by_cases hlt : j < N
    · obtain ⟨o, _, _, c0, c1, hown, hfs, hs, hle⟩ := OBJ.out j hlt
      have hrl := refsN_le o.fs b
      obtain ⟨s0, hs0⟩ : ∃ s0, s0 = countObjs (m.live.take j) b := ⟨_, rfl⟩
      rw [← hs0] at hs hle ⊢
      have S : Hid (countObjs (m.live.take (j + 1)) b = s0 + objCount b o) := hs
      have R := refs_any o.vF o.fs b
      have R' : Hid (∀ w, w.ownsRow 0 84 2 o.vF o.fs.length (o.fs.flatMap valCells) → Calls Tryz.prog 73 #[o.vF, .int .i64 b] w fun e w' => e = .returned (.int .i64 (refsN o.fs b)) ∧ w' = w) := fun w hw => R w hw (by omega)
      have O : Hid (w.ownsRow 0 84 2 o.vF o.fs.length (o.fs.flatMap valCells)) := hown
      have hE : Hid (objCount b o = if o.here then refsN o.fs b else 0) := rfl
      clear hs R hown hs0
      obtain ⟨here, vF, fs, stuck, queued⟩ := o
      simp only at *
      cases here with
      | true =>
        go_wp2_with (go_at_call 73; refine (R'.out _ O.out).mono ?_; rintro e w' ⟨rfl, rfl⟩)
        go_round
        case rel => exact ⟨j + 1, by omega, by go_num, by rw [S.out, hE.out]; go_num⟩
        case measure => simp [intOf]; omega
      | false =>
        go_wp2_with (go_at_call 73; refine (R'.out _ O.out).mono ?_; rintro e w' ⟨rfl, rfl⟩)
        go_round
        case rel => exact ⟨j + 1, by omega, by go_num, by rw [S.out, hE.out]; go_num⟩
        case measure => simp [intOf]; omega
    · obtain rfl : j = N := by omega
      go_wp2
      go_ret
      exact ⟨ret_int (by rw [FIN.out]), rfl⟩

end Go.Proofs.YtpmkjeihbddfpabGreatDoor

/- OUR OWN. The document's heap: rooted, Waits, Extra, extras, room. -/
namespace Go.Proofs.YtpmkjeihbddfpabGreatDoor
open Go.RowKit
set_option linter.unusedVariables false
set_option linter.unusedSimpArgs false

def RefM.rootedB (m : RefM) (b : Int) : Bool := decide (0 < refsN m.stack b + refsN m.globals b)

set_option maxHeartbeats 400000 in
theorem rooted_any {w : World} {h : Nat} {m : RefM} {N : Nat} (r : RefAt w h m) (ok : m.Ok N) (b : Int) :
    Calls Tryz.prog 68 #[.pointer (some ⟨h, 0, none⟩), .int .i64 b] w fun e w' => e = .returned (.bool (m.rootedB b)) ∧ w' = w := by
  have cS := r.cell.2.2.2.2.2.2.2.1
  have cG := r.cell.2.2.2.2.2.2.2.2.1
  have R1 : Hid (Calls Tryz.prog 73 #[m.vS, .int .i64 b] w fun e w' => e = .returned (.int .i64 (refsN m.stack b)) ∧ w' = w) := refs_any _ _ b w r.stack (by have := ok.stack; omega)
  have R2 : Hid (Calls Tryz.prog 73 #[m.vG, .int .i64 b] w fun e w' => e = .returned (.int .i64 (refsN m.globals b)) ∧ w' = w) := refs_any _ _ b w r.globals (by have := ok.globals; omega)
  have h1 := refsN_le m.stack b
  have h2 := refsN_le m.globals b
  have h3 := ok.stack
  have h4 := ok.globals
  have E : Hid (m.rootedB b = decide (0 < refsN m.stack b + refsN m.globals b)) := rfl
  obtain ⟨x, hx⟩ : ∃ x, refsN m.stack b = x := ⟨_, rfl⟩
  obtain ⟨y, hy⟩ : ∃ y, refsN m.globals b = y := ⟨_, rfl⟩
  rw [hx] at R1 h1 E
  rw [hy] at R2 h2 E
  clear r ok hx hy
  go_enter Tryz.func68, Tryz.ntmps68
  go_wp2_with fail
  refine R1.out.mono ?_
  rintro e w' ⟨rfl, hw1⟩
  subst hw1
  go_wp2_with fail
  refine R2.out.mono ?_
  rintro e w' ⟨rfl, hw1⟩
  subst hw1
  go_wp2
  go_ret
  exact ⟨ret_bool (by rw [E.out]; simp; omega), rfl⟩

def RefM.waitsB (m : RefM) (i : Nat) : Bool := match m.objs[i]? with
  | some o => o.here && !o.stuck && !o.queued && decide (m.count i = 0)
  | none => false
def RefM.extraB (m : RefM) (i : Nat) : Bool := match m.objs[i]? with
  | some o => o.here && !o.stuck && decide (7 < m.count i)
  | none => false

set_option maxHeartbeats 800000 in
theorem waits_any {w : World} {h : Nat} {m : RefM} {N : Nat} (r : RefAt w h m) (ok : m.Ok N) (i : Nat) (hi : i ≤ N) :
    Calls Tryz.prog 43 #[.pointer (some ⟨h, 0, none⟩), .int .i64 i] w fun e w' => e = .returned (.bool (m.waitsB i)) ∧ Below w.heap.size w w' := by
  obtain ⟨g, cap, hv, hg, _, _, _, hobj⟩ := r.view ok
  have hil : i < m.objs.length := by rw [ok.len]; omega
  obtain ⟨c0, c1, c2, c3⟩ := hobj i hil
  have cB : w.cell? ⟨h, 5, none⟩ = some (.slice (some ⟨g, 0, none⟩) (N + 1) cap) := by rw [r.cell.2.2.2.2.2.1, hv]
  have hh := lt_of_heap r.head
  have CNT : Hid (∀ ob, Calls Tryz.prog 33 #[.pointer (some ⟨h, 0, none⟩), .int .i64 i] (w.alloc ob) fun e w' => e = .returned (.int .i64 (m.count i)) ∧ w' = w.alloc ob) :=
    fun ob => count_any (r.carry fun x hx => hao (r.lt x hx)) ok i
  have E : Hid (m.waitsB i = ((m.objs[i]).here && !(m.objs[i]).stuck && !(m.objs[i]).queued && decide (m.count i = 0))) := by
    show m.waitsB i = _
    unfold RefM.waitsB
    rw [List.getElem?_eq_getElem hil]
  have hN := ok.small
  obtain ⟨ao, cp, hvF⟩ := own_slice (r.fields _ (List.getElem_mem hil))
  obtain ⟨o, ho⟩ : ∃ o, o = m.objs[i] := ⟨_, rfl⟩
  rw [← ho] at c0 c1 c2 c3 E hvF
  obtain ⟨n, hn⟩ : ∃ n, m.count i = n := ⟨_, rfl⟩
  rw [hn] at E CNT
  obtain ⟨here, vF, fs, stuck, queued⟩ := o
  simp only at c0 c1 c2 c3 E hvF
  subst hvF
  have hiI : (i : Int) < (N : Int) + 1 := by omega
  clear r ok hv hobj ho hn hil
  by_cases hn0 : n = 0
  · subst hn0
    cases here <;> cases stuck <;> cases queued
    all_goals
      go_enter Tryz.func43, Tryz.ntmps43
      go_wp2_with fail
      refine (CNT.out _).mono ?_
      rintro e w' ⟨rfl, hw1⟩
      subst hw1
      go_wp2
      go_ret
      exact ⟨ret_bool (by rw [E.out]; rfl), (Below.refl _ _).alloc (Nat.le_refl _) _⟩
  · have hn1 : ((n : Int) == 0) = false := by simp; omega
    cases here <;> cases stuck <;> cases queued
    all_goals
      go_enter Tryz.func43, Tryz.ntmps43
      go_wp2_with fail
      refine (CNT.out _).mono ?_
      rintro e w' ⟨rfl, hw1⟩
      subst hw1
      go_wp2
      go_ret
      exact ⟨ret_bool (by rw [E.out]; simp [hn0]), (Below.refl _ _).alloc (Nat.le_refl _) _⟩

set_option maxHeartbeats 800000 in
theorem extra_any {w : World} {h : Nat} {m : RefM} {N : Nat} (r : RefAt w h m) (ok : m.Ok N) (i : Nat) (hi : i ≤ N) :
    Calls Tryz.prog 79 #[.pointer (some ⟨h, 0, none⟩), .int .i64 i] w fun e w' => e = .returned (.bool (m.extraB i)) ∧ Below w.heap.size w w' := by
  obtain ⟨g, cap, hv, hg, _, _, _, hobj⟩ := r.view ok
  have hil : i < m.objs.length := by rw [ok.len]; omega
  obtain ⟨c0, c1, c2, c3⟩ := hobj i hil
  have cB : w.cell? ⟨h, 5, none⟩ = some (.slice (some ⟨g, 0, none⟩) (N + 1) cap) := by rw [r.cell.2.2.2.2.2.1, hv]
  have hh := lt_of_heap r.head
  have CNT : Hid (∀ ob, Calls Tryz.prog 33 #[.pointer (some ⟨h, 0, none⟩), .int .i64 i] (w.alloc ob) fun e w' => e = .returned (.int .i64 (m.count i)) ∧ w' = w.alloc ob) :=
    fun ob => count_any (r.carry fun x hx => hao (r.lt x hx)) ok i
  have E : Hid (m.extraB i = ((m.objs[i]).here && !(m.objs[i]).stuck && decide (7 < m.count i))) := by
    show m.extraB i = _
    unfold RefM.extraB
    rw [List.getElem?_eq_getElem hil]
  have hN := ok.small
  obtain ⟨ao, cp, hvF⟩ := own_slice (r.fields _ (List.getElem_mem hil))
  obtain ⟨o, ho⟩ : ∃ o, o = m.objs[i] := ⟨_, rfl⟩
  rw [← ho] at c0 c1 c2 c3 E hvF
  obtain ⟨n, hn⟩ : ∃ n, m.count i = n := ⟨_, rfl⟩
  rw [hn] at E CNT
  obtain ⟨here, vF, fs, stuck, queued⟩ := o
  simp only at c0 c1 c2 c3 E hvF
  subst hvF
  have hiI : (i : Int) < (N : Int) + 1 := by omega
  clear r ok hv hobj ho hn hil
  by_cases hn0 : (7 : Int) < n
  all_goals
    cases here <;> cases stuck
  all_goals
    go_enter Tryz.func79, Tryz.ntmps79
    go_wp2_with fail
    refine (CNT.out _).mono ?_
    rintro e w' ⟨rfl, hw1⟩
    subst hw1
    go_wp2
    go_ret
    exact ⟨ret_bool (by rw [E.out]; simp; try omega), (Below.refl _ _).alloc (Nat.le_refl _) _⟩

def RefM.extrasN (m : RefM) (N : Nat) : Nat := countTo m.extraB N

set_option maxHeartbeats 800000 in
theorem extras_any {w : World} {h : Nat} {m : RefM} {N : Nat} (r : RefAt w h m) (ok : m.Ok N) :
    Calls Tryz.prog 44 #[.pointer (some ⟨h, 0, none⟩)] w fun e w' => e = .returned (.int .i64 (m.extrasN N)) ∧ Below w.heap.size w w' := by
  have hh := lt_of_heap r.head
  have hN := ok.small
  have KEEP : Hid (∀ wr, Below w.heap.size w wr → RefAt wr h m) := fun wr hb => r.carry fun x hx => hb.block x (r.lt x hx)
  have X : Hid (∀ wr (i : Nat), RefAt wr h m → i ≤ N → Calls Tryz.prog 79 #[.pointer (some ⟨h, 0, none⟩), .int .i64 i] wr fun e w' => e = .returned (.bool (m.extraB i)) ∧ Below wr.heap.size wr w') := fun wr i hr hi => extra_any hr ok i hi
  have cM : ∀ wr, RefAt wr h m → wr.cell? ⟨h, 0, none⟩ = some (.int .i64 N) := fun wr hr => by rw [hr.cell.1, ok.most]
  have CM : Hid _ := cM
  clear r ok cM
  go_enter Tryz.func44, Tryz.ntmps44
  go_wp2
  go_loopw [3, 4] (fun n i wr => ∃ j : Nat, j ≤ N ∧ i = .int .i64 (j + 1) ∧ n = .int .i64 (countTo m.extraB j) ∧ Below w.heap.size w wr) (fun _ i _ => N + 1 - (intOf i).toNat)
  case atStart => exact ⟨0, Nat.zero_le _, rfl, rfl, Below.refl _ _⟩
  case round =>
    obtain ⟨j, hj, rfl, rfl, hb⟩ := hrel
    have hr := KEEP.out wr hb
    have cM := CM.out wr hr
    have hle := countTo_le m.extraB j
    have HB : Hid (Below w.heap.size w wr ∧ RefAt wr h m) := ⟨hb, hr⟩
    have hsz := hb.size
    clear hb hr
    obtain ⟨c, hc⟩ : ∃ c, c = countTo m.extraB j := ⟨_, rfl⟩
    rw [← hc] at hle ⊢
    have S : Hid (countTo m.extraB (j + 1) = c + if m.extraB (j + 1) then 1 else 0) := by rw [hc]; exact countTo_succ _ _
    by_cases hlt : j < N
    · clear hc
      have X1 : Hid (Calls Tryz.prog 79 #[.pointer (some ⟨h, 0, none⟩), .int .i64 ((j : Int) + 1)] wr fun e w' => e = .returned (.bool (m.extraB (j + 1))) ∧ Below wr.heap.size wr w') := X.out wr (j + 1) HB.out.2 (by omega)
      go_wp2_with fail
      refine X1.out.mono ?_
      rintro e w1 ⟨rfl, hb1⟩
      have HB1 : Hid (Below w.heap.size w w1) := HB.out.1.trans (hb1.mono hsz)
      clear hb1 X1
      cases hx : m.extraB (j + 1) with
      | true =>
        rw [hx] at S
        go_wp2
        go_roundw
        case rel => exact ⟨j + 1, by omega, by go_num, by rw [S.out]; go_num, HB1.out⟩
        case measure => simp [intOf]; omega
      | false =>
        rw [hx] at S
        go_wp2
        go_roundw
        case rel => exact ⟨j + 1, by omega, by go_num, by rw [S.out]; go_num, HB1.out⟩
        case measure => simp [intOf]; omega
    · obtain rfl : j = N := by omega
      have HC : Hid (c = countTo m.extraB j) := hc
      clear hc
      go_wp2
      go_ret
      exact ⟨ret_int (by rw [HC.out]; rfl), HB.out.1⟩

end Go.Proofs.YtpmkjeihbddfpabGreatDoor

/- OUR OWN. Fresh. -/
namespace Go.Proofs.YtpmkjeihbddfpabGreatDoor
open Go.RowKit
set_option linter.unusedVariables false
set_option linter.unusedSimpArgs false

theorem infoObject : (Tryz.prog.info? 73).map (fun i => (i.zero, i.size, i.bytes)) = some (some (.agg #[.bool false, .slice none 0 0, .bool false, .bool false]), 4, 40) := by kernel_rfl
theorem infoRValue : (Tryz.prog.info? 84).map (fun i => (i.zero, i.size, i.bytes)) = some (some (.agg #[.int .i64 0, .int .i64 0]), 2, 16) := by kernel_rfl

def freeCells (k : Nat) : List Value := (List.replicate k RObj.free).flatMap RObj.cells
theorem freeCells_succ (k : Nat) : freeCells (k + 1) = freeCells k ++ [.bool false, .slice none 0 0, .bool false, .bool false] := by
  simp [freeCells, List.replicate_succ', RObj.cells, RObj.free]
def nilCells (k : Nat) : List Value := (List.replicate k ((0, 0) : Int × Int)).flatMap valCells
theorem nilCells_succ (k : Nat) : nilCells (k + 1) = nilCells k ++ [.int .i64 0, .int .i64 0] := by
  simp [nilCells, List.replicate_succ', valCells]

/-- the heap's own block while it is being made -/
def mkHead (b s u z o : Int) (vB vG : Value) : Obj :=
  .cells #[.int .i64 b, .int .i64 s, .int .i64 u, .int .i64 z, .int .i64 o, vB, .slice none 0 0, .slice none 0 0, vG] 68

/-- what holds in the first loop, behind k rounds -/
structure Made1 (w wr : World) (b s u z o : Int) (vB : Value) (k : Nat) : Prop where
  head : wr.heap[w.heap.size]? = some (mkHead b s u z o vB (.slice none 0 0))
  row : wr.ownsRow (w.heap.size + 1) 73 4 vB k (freeCells k)
  below : Below w.heap.size w wr

structure Made2 (w wr : World) (b s u z o : Int) (vB vG : Value) (n k : Nat) : Prop where
  head : wr.heap[w.heap.size]? = some (mkHead b s u z o vB vG)
  row : wr.ownsRow (w.heap.size + 1) 73 4 vB n (freeCells n)
  rowG : wr.ownsRow (w.heap.size + 1) 84 2 vG k (nilCells k)
  apart : ∀ g, vB.ownBlock = some g → vG.ownBlock ≠ some g
  below : Below w.heap.size w wr

theorem Made1.start (w : World) (b s u z o : Int) : Made1 w (w.alloc (mkHead b s u z o (.slice none 0 0) (.slice none 0 0))) b s u z o (.slice none 0 0) 0 :=
  ⟨heap_alloc_new _ _, World.ownsRow_nil _ _ _ _, (Below.refl _ _).alloc (Nat.le_refl _) _⟩

theorem Made1.step {w wr w1 : World} {b s u z o : Int} {vB : Value} {k g cap : Nat} {ob : Obj} (h : Made1 w wr b s u z o vB k)
    (hown : w1.ownsRow (w.heap.size + 1) 73 4 (.slice (some ⟨g, 0, none⟩) (k + 1) cap) (k + 1) (freeCells k ++ [.bool false, .slice none 0 0, .bool false, .bool false]))
    (hgr : (wr.alloc ob).grownBy w1 vB.ownBlock) :
    Made1 w (w1.setCell ⟨w.heap.size, 5, none⟩ (.slice (some ⟨g, 0, none⟩) (k + 1) cap)) b s u z o (.slice (some ⟨g, 0, none⟩) (k + 1) cap) (k + 1) := by
  have hs := lt_of_heap h.head
  have hgb := own_lt hown (g := g) rfl
  have hne : some w.heap.size ≠ vB.ownBlock := fun e => by have := own_lt h.row e.symm; omega
  have hh : w1.heap[w.heap.size]? = some (mkHead b s u z o vB (.slice none 0 0)) := by
    rw [hgr.block _ (by simp; omega) hne, hao hs]; exact h.head
  refine ⟨?_, ?_, ?_⟩
  · rw [heap_setCell_at hh]; rfl
  · rw [freeCells_succ]
    exact ownsRow_setCell_below hown (by simp) _
  · refine ((h.below.alloc (by omega) ob).grown hgr (by simp; omega) (fun j hj => by have := own_lt h.row hj; omega)).setCell (by simp) _

theorem Made1.turn {w wr : World} {b s u z o : Int} {vB : Value} {n : Nat} (h : Made1 w wr b s u z o vB n) : Made2 w wr b s u z o vB (.slice none 0 0) n 0 :=
  ⟨h.head, h.row, World.ownsRow_nil _ _ _ _, fun _ _ => by simp [Value.ownBlock], h.below⟩

theorem Made2.step {w wr w1 : World} {b s u z o : Int} {vB vG : Value} {n k g cap : Nat} {ob : Obj} (h : Made2 w wr b s u z o vB vG n k)
    (hown : w1.ownsRow (w.heap.size + 1) 84 2 (.slice (some ⟨g, 0, none⟩) (k + 1) cap) (k + 1) (nilCells k ++ [.int .i64 0, .int .i64 0]))
    (hgr : (wr.alloc ob).grownBy w1 vG.ownBlock) (hat : vG.ownBlock = some g ∨ g = wr.heap.size + 1) :
    Made2 w (w1.setCell ⟨w.heap.size, 8, none⟩ (.slice (some ⟨g, 0, none⟩) (k + 1) cap)) b s u z o vB (.slice (some ⟨g, 0, none⟩) (k + 1) cap) n (k + 1) := by
  have hs := lt_of_heap h.head
  have hne : some w.heap.size ≠ vG.ownBlock := fun e => by have := own_lt h.rowG e.symm; omega
  have hh : w1.heap[w.heap.size]? = some (mkHead b s u z o vB vG) := by
    rw [hgr.block _ (by simp; omega) hne, hao hs]; exact h.head
  refine ⟨?_, ?_, ?_, ?_, ?_⟩
  · rw [heap_setCell_at hh]; rfl
  · refine ownsRow_setCell_below (own_carry h.row fun j hj => ?_) (by simp) _
    have hj1 := own_lt h.row hj
    rw [hgr.block _ (by simp; omega) (fun e => h.apart j hj e.symm), hao (by omega)]
  · rw [nilCells_succ]
    exact ownsRow_setCell_below hown (by simp) _
  · intro j hj e
    simp [Value.ownBlock] at e
    subst e
    have hj1 := own_lt h.row hj
    rcases hat with hat | hat
    · exact h.apart _ hj hat
    · omega
  · refine ((h.below.alloc (by omega) ob).grown hgr (by simp; omega) (fun j hj => by have := own_lt h.rowG hj; omega)).setCell (by simp) _

def freshM (b s g u z o : Nat) (vB vG : Value) : RefM :=
  { most := b, deep := s, budget := u, zero := z, over := o, vB := vB, vQ := .slice none 0 0, vS := .slice none 0 0, vG := vG, objs := List.replicate (b + 1) RObj.free, queue := [], stack := [], globals := List.replicate g (0, 0) }

theorem freshM_foot (b s g u z o : Nat) (vB vG : Value) : (freshM b s g u z o vB vG).foot = [vB, vG].filterMap Value.ownBlock := by
  have h : ∀ n, (List.replicate n (Value.slice none 0 0)).filterMap Value.ownBlock = [] := fun n => by
    induction n with
    | zero => rfl
    | succ n ih => rw [List.replicate_succ, List.filterMap_cons]; exact ih
  simp only [RefM.foot, freshM, List.filterMap_append, List.map_replicate, RObj.free, h, List.append_nil]
  simp only [List.filterMap_cons, List.filterMap_nil, Value.ownBlock]

theorem Made2.refAt {w wr : World} {b s g u z o : Nat} {vB vG : Value} (h : Made2 w wr b s u z o vB vG (b + 1) g) : RefAt wr w.heap.size (freshM b s g u z o vB vG) := by
  refine ⟨h.head, ?_, win_nil, own_nil, ?_, ?_, ?_⟩
  · have := own_base h.row (Nat.zero_le _)
    simpa [freshM, freeCells] using this
  · have := own_base h.rowG (Nat.zero_le _)
    simpa [freshM, nilCells] using this
  · intro x hx
    have : x = RObj.free := by simp [freshM] at hx; exact hx
    subst this
    exact own_nil
  · rw [freshM_foot]
    have hB : ∀ j, vB.ownBlock = some j → w.heap.size + 1 ≤ j := fun j hj => (own_lt h.row hj).1
    have hG : ∀ j, vG.ownBlock = some j → w.heap.size + 1 ≤ j := fun j hj => (own_lt h.rowG hj).1
    have hap := h.apart
    cases e1 : vB.ownBlock with
    | none =>
      cases e2 : vG.ownBlock with
      | none => simp [e1, e2]
      | some j2 => have := hG _ e2; simp [e1, e2]; omega
    | some j1 =>
      have := hB _ e1
      cases e2 : vG.ownBlock with
      | none => simp [e1, e2]; omega
      | some j2 => have := hG _ e2; have := hap _ e1; simp [e1, e2] at *; omega

theorem Made2.foot {w wr : World} {b s g u z o : Nat} {vB vG : Value} (h : Made2 w wr b s u z o vB vG (b + 1) g) : ∀ x ∈ w.heap.size :: (freshM b s g u z o vB vG).foot, w.heap.size ≤ x := by
  intro x hx
  rw [freshM_foot] at hx
  rcases List.mem_cons.1 hx with rfl | hx
  · exact Nat.le_refl _
  · obtain ⟨v, hv, hx'⟩ := List.mem_filterMap.1 hx
    simp at hv
    rcases hv with rfl | rfl
    · have := (own_lt h.row hx').1; omega
    · have := (own_lt h.rowG hx').1; omega

set_option maxHeartbeats 400000 in
theorem fresh_any (b s g u z o : Nat) (w : World) (hb : b ≤ 99) (hg : g ≤ 8) :
    Calls Tryz.prog 21 #[.int .i64 b, .int .i64 s, .int .i64 g, .int .i64 u, .int .i64 z, .int .i64 o] w
      fun e w' => e = .returned (.pointer (some ⟨w.heap.size, 0, none⟩)) ∧ ∃ vB vG, Made2 w w' b s u z o vB vG (b + 1) g := by
  obtain ⟨i0, hi, hz0, hz1, hz2⟩ := info_parts infoObject
  obtain ⟨i1, hi1, hy0, hy1, hy2⟩ := info_parts infoRValue
  go_enter Tryz.func21, Tryz.ntmps21
  go_wp2
  go_loopw [14] (fun i wr => ∃ k : Nat, k ≤ b + 1 ∧ i = .int .i64 k ∧ ∃ vB, Made1 w wr b s u z o vB k) (fun i _ => b + 1 - (intOf i).toNat)
  case atStart => exact ⟨0, by omega, rfl, _, Made1.start w b s u z o⟩
  case round =>
    obtain ⟨k, hk, rfl, vB, hm⟩ := hrel
    by_cases hlt : k ≤ b
    · have hcell : wr.cell? ⟨w.heap.size, 5, none⟩ = some vB := cell_of_heap hm.head rfl
      go_wp2_with (at_builtin; refine wpList_append_lies _ rfl (.tmp 32) (.tmp 34) 65 rfl (w.heap.size + 1) 73 i0 _ 4 40 Tryz.underlying65 hi hz0 hz1 hz2 rfl (by decide) _ _ _ rfl (hm.row.alloc _) ⟨wr.heap.size, 0, none⟩ 1 1 [.bool false, .slice none 0 0, .bool false, .bool false] rfl rfl ?c1 ?c2 (by decide) ?c3 ?c4 ?c5 (wr.heap.size + 1) (by simp) ?_)
      case c1 => exact news_new _ [.bool false, .slice none 0 0, .bool false, .bool false] _
      case c2 => intro u hu; simp at hu; rcases hu with rfl | rfl | rfl <;> rfl
      case c3 => unfold maxLen; omega
      case c4 => omega
      case c5 => have := lt_of_heap hm.head; simp; omega
      intro g' cap w1 hown hgr _ _
      have hm' := hm.step hown hgr
      have hf : w1.frozen? ⟨w.heap.size, 5, none⟩ = false := by
        have hs := lt_of_heap hm.head
        have hne : some w.heap.size ≠ vB.ownBlock := fun e => by have := own_lt hm.row e.symm; omega
        have hh : w1.heap[w.heap.size]? = some (mkHead b s u z o vB (.slice none 0 0)) := by
          rw [hgr.block _ (by simp; omega) hne, hao hs]; exact hm.head
        exact frozen_of_heap hh
      have hcell1 : w1.cell? ⟨w.heap.size, 5, none⟩ = some vB := by
        have hs := lt_of_heap hm.head
        have hne : some w.heap.size ≠ vB.ownBlock := fun e => by have := own_lt hm.row e.symm; omega
        have hh : w1.heap[w.heap.size]? = some (mkHead b s u z o vB (.slice none 0 0)) := by
          rw [hgr.block _ (by simp; omega) hne, hao hs]; exact hm.head
        exact cell_of_heap hh rfl
      clear hown hgr hcell hm
      go_wp2
      go_roundw
      case rel => exact ⟨k + 1, by omega, by go_num, _, hm'⟩
      case measure => simp [intOf]; omega
    · have hkb : k = b + 1 := by omega
      have hm2 : Made2 w wr b s u z o vB (.slice none 0 0) (b + 1) 0 := (hkb ▸ hm).turn
      clear hm hkb
      go_wp2
      go_loopw [15] (fun i wr => ∃ j : Nat, j ≤ g ∧ i = .int .i64 j ∧ ∃ vG, Made2 w wr b s u z o vB vG (b + 1) j) (fun i _ => g - (intOf i).toNat)
      case atStart => exact ⟨0, by omega, rfl, _, hm2⟩
      case round =>
        rename_i wr0 _ _ _
        clear hm2
        obtain ⟨j, hj, rfl, vG, hm⟩ := hrel
        by_cases hlt2 : j < g
        · have hcell : wr.cell? ⟨w.heap.size, 8, none⟩ = some vG := cell_of_heap hm.head rfl
          go_wp2_with (at_builtin; refine wpList_append_lies _ rfl (.tmp 47) (.tmp 49) 66 rfl (w.heap.size + 1) 84 i1 _ 2 16 Tryz.underlying66 hi1 hy0 hy1 hy2 rfl (by decide) _ _ _ rfl (hm.rowG.alloc _) ⟨wr.heap.size, 0, none⟩ 1 1 [.int .i64 0, .int .i64 0] rfl rfl ?c1 ?c2 (by decide) ?c3 ?c4 ?c5 (wr.heap.size + 1) (by simp) ?_)
          case c1 => exact news_new _ [.int .i64 0, .int .i64 0] _
          case c2 => intro u hu; simp at hu; subst hu; rfl
          case c3 => unfold maxLen; omega
          case c4 => omega
          case c5 => have := lt_of_heap hm.head; simp; omega
          intro g' cap w1 hown hgr hat _
          have hm' := hm.step hown hgr hat
          have hh : w1.heap[w.heap.size]? = some (mkHead b s u z o vB vG) := by
            have hs := lt_of_heap hm.head
            have hne : some w.heap.size ≠ vG.ownBlock := fun e => by have := own_lt hm.rowG e.symm; omega
            rw [hgr.block _ (by simp; omega) hne, hao hs]; exact hm.head
          have hf : w1.frozen? ⟨w.heap.size, 8, none⟩ = false := frozen_of_heap hh
          have hcell1 : w1.cell? ⟨w.heap.size, 8, none⟩ = some vG := cell_of_heap hh rfl
          clear hown hgr hcell hm hat hh
          go_wp2
          go_roundw
          case rel => exact ⟨j + 1, by omega, by go_num, _, hm'⟩
          case measure => simp [intOf]; omega
        · have hjg : j = g := by omega
          subst hjg
          go_wp2
          go_ret
          exact ⟨rfl, _, _, hm⟩
end Go.Proofs.YtpmkjeihbddfpabGreatDoor

