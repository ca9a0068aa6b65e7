import Derived.Test.YtpmkjeihbddfpabDoorCoRFB1
import Derived.WalkSmall
/- OUR OWN. Rows read by index; boxes; what the walks of both heaps share. -/
namespace Go.Proofs.YtpmkjeihbddfpabDoor
open Go.RowKit
set_option linter.unusedVariables false
set_option linter.unusedSimpArgs false

theorem flat_get {α : Type} (f : α → List Value) (c : Nat) (hc : ∀ x, (f x).length = c) (l : List α) (i j : Nat) (hj : j < c) : (l.flatMap f)[i * c + j]? = (l[i]?).bind fun x => (f x)[j]? := by
  induction l generalizing i with
  | nil => simp
  | cons x l ih =>
    rw [List.flatMap_cons]
    cases i with
    | zero => rw [List.getElem?_append_left (by rw [hc]; omega)]; simp
    | succ i =>
      rw [List.getElem?_append_right (by rw [hc, Nat.succ_mul]; omega), hc, show (i + 1) * c + j - c = i * c + j by rw [Nat.succ_mul]; omega, ih]
      simp
theorem own_view {w : World} {e : TypeId} {size : Nat} {v : Value} {n : Nat} {xs : List Value} (h : w.ownsRow 0 e size v n xs) (hn : 0 < n) :
    ∃ g cap, v = .slice (some ⟨g, 0, none⟩) n cap ∧ g < w.heap.size ∧ v.ownBlock = some g ∧ n ≤ cap ∧ (∀ j u, xs[j]? = some u → w.cell? ⟨g, j, none⟩ = some u) ∧ ∀ j, w.frozen? ⟨g, j, none⟩ = false := by
  rcases h.2 with ⟨_, h0⟩ | ⟨g, cap, cur, rfl, _, hg, hnc, _, _, _⟩
  · omega
  · refine ⟨g, cap, rfl, lt_of_heap hg, rfl, hnc, fun j u hu => ?_, fun j => frozen_of_heap hg⟩
    have := h.cells (g := g) rfl j u hu
    rwa [show (⟨g, 0, none⟩ : Addr).add j = ⟨g, j, none⟩ by unfold Addr.add; split <;> simp_all] at this
theorem own_empty {w : World} {e : TypeId} {size : Nat} {v : Value} {xs : List Value} (h : w.ownsRow 0 e size v 0 xs) : ∃ ao cap, v = .slice ao 0 cap := by
  rcases h.2 with ⟨hv, _⟩ | ⟨g, cap, cur, hv, _⟩
  · exact ⟨_, _, hv⟩
  · exact ⟨_, _, hv⟩
theorem own_slice {w : World} {e : TypeId} {size : Nat} {v : Value} {n : Nat} {xs : List Value} (h : w.ownsRow 0 e size v n xs) : ∃ ao cap, v = .slice ao n cap := by
  rcases h.2 with ⟨hv, hn⟩ | ⟨g, cap, cur, hv, _⟩
  · exact ⟨none, 0, by rw [hv, hn]⟩
  · exact ⟨_, _, hv⟩
theorem refsN_snoc (l : List (Int × Int)) (v : Int × Int) (b : Int) : refsN (l ++ [v]) b = refsN l b + if v.1 = 2 ∧ v.2 = b then 1 else 0 := by
  unfold refsN
  rw [List.countP_append]
  by_cases h : v.1 = 2 ∧ v.2 = b
  · simp [List.countP_cons, h]
  · rw [if_neg h]
    simp [List.countP_cons]
    intro h1 h2
    exact h ⟨h1, h2⟩
theorem refsN_le (l : List (Int × Int)) (b : Int) : refsN l b ≤ l.length := List.countP_le_length
theorem take_snoc {α : Type} (l : List α) (k : Nat) (h : k < l.length) : l.take (k + 1) = l.take k ++ [l[k]] := List.take_succ_eq_append_getElem h
theorem map_set_same {α β : Type} (f : α → β) (l : List α) (i : Nat) (o o' : α) (h : l[i]? = some o) (hf : f o' = f o) : (l.set i o').map f = l.map f := by
  rw [List.map_set, hf]
  have : (l.map f)[i]? = some (f o) := by rw [List.getElem?_map, h]; rfl
  refine List.ext_getElem? fun j => ?_
  rw [List.getElem?_set]
  split
  · rename_i e
    subst e
    split
    · exact this.symm
    · rename_i hn
      rw [List.getElem?_eq_none (by simpa using hn)]
  · rfl
/-- a value more at the end: where there is room -/
theorem win_room {w : World} {e : TypeId} {g off n cap : Nat} {xs : List Value} (h : ownsWin w e (.slice (some ⟨g, off, none⟩) n cap) n xs) (hr : n < cap) (x : Value) :
    ownsWin (w.setCell ⟨g, off + n, none⟩ x) e (.slice (some ⟨g, off, none⟩) (n + 1) cap) (n + 1) (xs ++ [x]) ∧ (w.cell? ⟨g, off + n, none⟩).isSome = true ∧ w.frozen? ⟨g, off + n, none⟩ = false := by
  rcases h.2 with ⟨hv, _⟩ | ⟨g', off', cap', cur, hv, h1, h2, h3, h4, h5⟩
  · cases hv
  · simp at hv
    obtain ⟨⟨rfl, rfl⟩, rfl⟩ := hv
    have hlt : off + n < cur.size := by omega
    refine ⟨⟨by simp [h.1], .inr ⟨g, off, cap, cur.setIfInBounds (off + n) x, rfl, heap_setCell_at h1 x, by omega, h3, by simpa using h4, fun j u hu => ?_⟩⟩, ?_, frozen_of_heap h1⟩
    · rw [Array.getElem?_setIfInBounds]
      by_cases hj : j < xs.length
      · rw [List.getElem?_append_left hj] at hu
        have := h.1
        rw [if_neg (by omega)]
        exact h5 j u hu
      · have hjl : j < (xs ++ [x]).length := (List.getElem?_eq_some_iff.1 hu).1
        have hj2 : j = n := by have := h.1; simp at hjl; omega
        subst hj2
        rw [if_pos rfl, if_pos hlt]
        rw [List.getElem?_append_right (by have := h.1; omega)] at hu
        have := h.1
        rw [show j - xs.length = 0 by omega] at hu
        simpa using hu
    · rw [cell_of_heap h1 (Array.getElem?_eq_getElem hlt)]; rfl
theorem infoInt : (Tryd.prog.info? 3).map (fun i => (i.zero, i.size, i.bytes)) = some (some (.int .i64 0), 1, 8) := by kernel_rfl
theorem boxed' {w w1 : World} {cs : Array Value} {t : TypeId} (hb : Below (w.alloc (.cells cs t)).heap.size (w.alloc (.cells cs t)) w1) : w1.heap[w.heap.size]? = some (.cells cs t) := by
  rw [hb.block _ (by simp)]; exact heap_alloc_new w _
theorem flat_same {α : Type} (f : α → List Value) (l : List α) (i : Nat) (o o' : α) (h : l[i]? = some o) (hf : f o' = f o) : (l.set i o').flatMap f = l.flatMap f := by
  rw [List.flatMap_def, List.flatMap_def, map_set_same f l i o o' h hf]
theorem ref_of {N : Nat} {v : Int × Int} (h : okV N v) (he : objErr v = 0) : 1 ≤ v.2 ∧ v.2 ≤ N := by
  unfold objErr at he
  rcases h with h | h | h
  · rw [if_pos h] at he; omega
  · rw [if_neg (by omega), if_pos h] at he; omega
  · exact h

theorem wrapS {x : Int} (h1 : -9223372036854775808 ≤ x) (h2 : x ≤ 9223372036854775807) : IntKind.i64.wrap x = x := by
  rw [IntKind.wrap_i64]
  omega

end Go.Proofs.YtpmkjeihbddfpabDoor

/- OUR OWN. Rows that lie apart: one is turned, the others stay. -/
namespace Go.Proofs.YtpmkjeihbddfpabDoor
open Go.RowKit
set_option linter.unusedVariables false
set_option linter.unusedSimpArgs false

/-- a slice that is owned: element type, cells an element, value, length, cells -/
structure SRow where
  e : TypeId
  size : Nat
  v : Value
  n : Nat
  xs : List Value

def SRow.At (w : World) (r : SRow) : Prop := match r.size with
  | 1 => ownsWin w r.e r.v r.n r.xs
  | _ => w.ownsRow 0 r.e r.size r.v r.n r.xs
theorem SRow.At.carry {w w' : World} {r : SRow} (h : r.At w) (hb : ∀ g, r.v.ownBlock = some g → w'.heap[g]? = w.heap[g]?) : r.At w' := by
  unfold SRow.At at *
  split
  · rename_i h1; rw [h1] at h; exact win_carry h hb
  · rename_i h1
    split at h
    · rename_i h2; exact absurd h2 h1
    · exact own_carry h hb
theorem SRow.At.lt {w : World} {r : SRow} (h : r.At w) {g : Nat} (hg : r.v.ownBlock = some g) : g < w.heap.size := by
  unfold SRow.At at h
  split at h
  · exact win_lt h hg
  · exact (own_lt h hg).2
def SRow.ob (r : SRow) : Option Nat := r.v.ownBlock
def rfoot (rows : List SRow) : List Nat := rows.filterMap SRow.ob

/-- the rows of one thing whose head is block h -/
structure RowsAt (w : World) (h : Nat) (rows : List SRow) : Prop where
  all : ∀ r ∈ rows, r.At w
  apart : (h :: rfoot rows).Nodup
  head : h < w.heap.size

theorem filterMap_idx {α : Type} (f : α → Option Nat) (l : List α) (hn : (l.filterMap f).Nodup) : ∀ (i j : Nat) (a b : α) (x : Nat), l[i]? = some a → l[j]? = some b → f a = some x → f b = some x → i = j := by
  induction l with
  | nil => intro i j a b x h; simp at h
  | cons c l ih =>
    intro i j a b x hi hj ha hb
    have hl : (l.filterMap f).Nodup := by
      rw [List.filterMap_cons] at hn
      cases hc : f c with
      | none => rw [hc] at hn; exact hn
      | some y => rw [hc] at hn; exact (List.nodup_cons.1 hn).2
    cases i with
    | zero =>
      cases j with
      | zero => rfl
      | succ j =>
        exfalso
        simp at hi hj
        subst hi
        rw [List.filterMap_cons, ha] at hn
        exact (List.nodup_cons.1 hn).1 (List.mem_filterMap.2 ⟨b, List.mem_of_getElem? hj, hb⟩)
    | succ i =>
      cases j with
      | zero =>
        exfalso
        simp at hi hj
        subst hj
        rw [List.filterMap_cons, hb] at hn
        exact (List.nodup_cons.1 hn).1 (List.mem_filterMap.2 ⟨a, List.mem_of_getElem? hi, ha⟩)
      | succ j =>
        simp at hi hj
        rw [ih hl i j a b x hi hj ha hb]

theorem rows_lt {w : World} {h : Nat} {rows : List SRow} (R : RowsAt w h rows) : ∀ g ∈ h :: rfoot rows, g < w.heap.size := by
  intro g hg
  rcases List.mem_cons.1 hg with rfl | hg
  · exact R.head
  · obtain ⟨r, hr, hg⟩ := List.mem_filterMap.1 hg
    exact (R.all r hr).lt hg

theorem RowsAt.carry {w w' : World} {h : Nat} {rows : List SRow} (R : RowsAt w h rows) (hb : ∀ g ∈ h :: rfoot rows, w'.heap[g]? = w.heap[g]?) (hh : h < w'.heap.size) : RowsAt w' h rows :=
  ⟨fun r hr => (R.all r hr).carry fun g hg => hb g (List.mem_cons_of_mem _ (List.mem_filterMap.2 ⟨r, hr, hg⟩)), R.apart, hh⟩

theorem nodup_set {f : SRow → Option Nat} {n : Nat} (l : List SRow) (p : Nat) (r0 r1 : SRow) (hp : l[p]? = some r0) (hn : (l.filterMap f).Nodup) (hlt : ∀ x ∈ l.filterMap f, x < n)
    (hv : ∀ g, f r1 = some g → f r0 = some g ∨ n ≤ g) : ((l.set p r1).filterMap f).Nodup ∧ ∀ x ∈ (l.set p r1).filterMap f, x ∈ l.filterMap f ∨ (n ≤ x ∧ f r1 = some x) := by
  induction l generalizing p with
  | nil => simp at hp
  | cons c l ih =>
    cases p with
    | zero =>
      simp at hp
      subst hp
      rw [List.set_cons_zero]
      have hl : (l.filterMap f).Nodup := by
        rw [List.filterMap_cons] at hn
        cases hc : f c with
        | none => rw [hc] at hn; exact hn
        | some y => rw [hc] at hn; exact (List.nodup_cons.1 hn).2
      have hll : ∀ x ∈ l.filterMap f, x ∈ (c :: l).filterMap f := fun x hx => by
        rw [List.filterMap_cons]; split
        · exact hx
        · exact List.mem_cons_of_mem _ hx
      cases h1 : f r1 with
      | none =>
        rw [List.filterMap_cons, h1]
        exact ⟨hl, fun x hx => .inl (hll x hx)⟩
      | some y =>
        rw [List.filterMap_cons, h1]
        refine ⟨List.nodup_cons.2 ⟨fun hy => ?_, hl⟩, fun x hx => ?_⟩
        · rcases hv y h1 with e | e
          · rw [List.filterMap_cons, e] at hn
            exact (List.nodup_cons.1 hn).1 hy
          · have := hlt y (hll y hy); omega
        · rcases List.mem_cons.1 hx with rfl | hx
          · rcases hv x h1 with e | e
            · exact .inl (by rw [List.filterMap_cons, e]; exact List.mem_cons_self)
            · exact .inr ⟨e, rfl⟩
          · exact .inl (hll x hx)
    | succ p =>
      simp at hp
      rw [List.set_cons_succ]
      have hl : (l.filterMap f).Nodup := by
        rw [List.filterMap_cons] at hn
        cases hc : f c with
        | none => rw [hc] at hn; exact hn
        | some y => rw [hc] at hn; exact (List.nodup_cons.1 hn).2
      have hll : ∀ x ∈ l.filterMap f, x ∈ (c :: l).filterMap f := fun x hx => by
        rw [List.filterMap_cons]; split
        · exact hx
        · exact List.mem_cons_of_mem _ hx
      obtain ⟨g1, g2⟩ := ih p hp hl (fun x hx => hlt x (hll x hx))
      cases h1 : f c with
      | none =>
        rw [List.filterMap_cons, h1]
        refine ⟨g1, fun x hx => ?_⟩
        rcases g2 x hx with e | e
        · exact .inl (hll x e)
        · exact .inr e
      | some y =>
        rw [List.filterMap_cons, h1]
        refine ⟨List.nodup_cons.2 ⟨fun hy => ?_, g1⟩, fun x hx => ?_⟩
        · rcases g2 y hy with e | ⟨e, _⟩
          · rw [List.filterMap_cons, h1] at hn
            exact (List.nodup_cons.1 hn).1 e
          · have := hlt y (by rw [List.filterMap_cons, h1]; exact List.mem_cons_self); omega
        · rcases List.mem_cons.1 hx with rfl | hx
          · exact .inl (by rw [List.filterMap_cons, h1]; exact List.mem_cons_self)
          · rcases g2 x hx with e | e
            · exact .inl (hll x e)
            · exact .inr e

/-- ONE ROW IS TURNED: the others, and the head's place, stay apart. -/
theorem RowsAt.set {w w' : World} {h : Nat} {rows : List SRow} (R : RowsAt w h rows) {p : Nat} {r0 : SRow} (hp : rows[p]? = some r0) (r1 : SRow) (h1 : r1.At w')
    (hv : ∀ g, r1.ob = some g → r0.ob = some g ∨ w.heap.size ≤ g) (hk : ∀ k, k < w.heap.size → k ≠ h → r0.ob ≠ some k → w'.heap[k]? = w.heap[k]?) (hs : w.heap.size ≤ w'.heap.size) :
    RowsAt w' h (rows.set p r1) ∧ ∀ g ∈ rfoot (rows.set p r1), g ∈ rfoot rows ∨ w.heap.size ≤ g := by
  have hlt := rows_lt R
  have hap := List.nodup_cons.1 R.apart
  obtain ⟨g1, g2⟩ := nodup_set (f := SRow.ob) (n := w.heap.size) rows p r0 r1 hp hap.2 (fun x hx => hlt x (List.mem_cons_of_mem _ hx)) hv
  refine ⟨⟨fun r hr => ?_, List.nodup_cons.2 ⟨fun hy => ?_, g1⟩, by have := R.head; omega⟩, fun g hg => ?_⟩
  · obtain ⟨i, hi⟩ := List.getElem?_of_mem hr
    rw [List.getElem?_set] at hi
    split at hi
    · split at hi
      · cases hi; exact h1
      · cases hi
    · rename_i hne
      have hm := List.mem_of_getElem? hi
      refine (R.all r hm).carry fun g hg => hk g ?_ ?_ ?_
      · exact hlt g (List.mem_cons_of_mem _ (List.mem_filterMap.2 ⟨r, hm, hg⟩))
      · intro e; subst e; exact hap.1 (List.mem_filterMap.2 ⟨r, hm, hg⟩)
      · intro e; exact hne (filterMap_idx SRow.ob rows hap.2 p i r0 r g hp hi e hg)
  · rcases g2 h hy with e | ⟨e, _⟩
    · exact hap.1 e
    · have := R.head; omega
  · rcases g2 g hg with e | ⟨e, _⟩
    · exact .inl e
    · exact .inr e

/-! ### Stores into a row -/
theorem flat_set {α : Type} (f : α → List Value) (c : Nat) (hc : ∀ x, (f x).length = c) (l : List α) (i j : Nat) (hj : j < c) (x : α) (u : Value) (hi : l[i]? = some x) (x' : α) (hx : f x' = (f x).set j u) :
    (l.set i x').flatMap f = (l.flatMap f).set (i * c + j) u := by
  induction l generalizing i with
  | nil => simp at hi
  | cons y l ih =>
    cases i with
    | zero =>
      simp at hi
      subst hi
      rw [List.set_cons_zero, List.flatMap_cons, List.flatMap_cons, hx, List.set_append_left _ _ (by rw [hc]; omega)]
      simp
    | succ i =>
      simp at hi
      rw [List.set_cons_succ, List.flatMap_cons, List.flatMap_cons, ih i hi, List.set_append_right _ _ (by rw [hc, Nat.succ_mul]; omega), hc, show (i + 1) * c + j - c = i * c + j by rw [Nat.succ_mul]; omega]

/-- the one element that an append lays down first, behind a draw -/
theorem news_drewN (w : World) (cs : List Value) (t : TypeId) (n H : Nat) (hH : w.heap.size = H) : ∀ j u, cs[j]? = some u → ((w.drewN n).alloc (.cells cs.toArray t)).cell? ((⟨H, 0, none⟩ : Addr).add j) = some u := by
  subst hH
  exact news_new (w.drewN n) cs t

theorem hso {w : World} {b i k : Nat} {u : Value} (h : k ≠ b) : (w.setCell ⟨b, i, none⟩ u).heap[k]? = w.heap[k]? := Below.heap_setCell _ _ _ _ h

theorem off_setCell (w : World) (b i : Nat) (u : Value) : Off [b] w (w.setCell ⟨b, i, none⟩ u) :=
  ⟨rfl, rfl, rfl, by simp [World.setCell], fun k _ hF => Below.heap_setCell _ _ _ _ (by simpa using hF)⟩
theorem Off.mono {F G : List Nat} {w w' : World} (h : Off F w w') (hF : ∀ x ∈ F, x ∈ G) : Off G w w' :=
  ⟨h.os, h.tape, h.output, h.size, fun k hk hG => h.block k hk fun e => hG (hF k e)⟩
theorem Off.refl (F : List Nat) (w : World) : Off F w w := ⟨rfl, rfl, rfl, Nat.le_refl _, fun _ _ _ => rfl⟩
theorem off_grown {w w' : World} {row : Option Nat} (h : w.grownBy w' row) : Off row.toList w w' :=
  ⟨h.os, h.tape, h.output, h.size, fun k hk hF => h.block k hk fun e => hF (by simp [← e])⟩
theorem Off.drewN {F : List Nat} {w w' : World} (h : Off F w w') (n : Nat) : Off F w (w'.drewN n) := ⟨h.os, h.tape, h.output, h.size, h.block⟩
theorem Off.drew {F : List Nat} {w w' : World} (h : Off F w w') : Off F w w'.drew := ⟨h.os, h.tape, h.output, h.size, h.block⟩

end Go.Proofs.YtpmkjeihbddfpabDoor

/- OUR OWN. The number of an operation that tells none. -/
namespace Go.Proofs.YtpmkjeihbddfpabDoor
open Go.RowKit
set_option linter.unusedVariables false
set_option linter.unusedSimpArgs false

theorem ret_zero {a b c : Int} (h : a = b) : Ending.returned (.tuple #[.int .i64 a, .int .i64 c]) = .returned (.tuple #[.int .i64 b, .int .i64 c]) := by rw [h]
theorem push_zero (d : Int) (s : St) (v : Int × Int) : 0 = (pushA d s v).2.1 := rfl
theorem new_zero (c : Cf) (s : St) (n : Int) : 0 = (newS c s n).2.1 := by
  unfold newS
  by_cases h1 : n < 0 ∨ 4 < n
  · rw [if_pos h1]
  rw [if_neg h1]
  by_cases h2 : c.deep ≤ s.stack.length
  · rw [if_pos h2]
  rw [if_neg h2]
  cases free? (roomS c s) <;> rfl
theorem dup_zero (d : Int) (s : St) (n : Int) : 0 = (dupS d s n).2.1 := by
  unfold dupS
  by_cases h1 : n < 0 ∨ (s.stack.length : Int) ≤ n
  · rw [if_pos h1]
  · rw [if_neg h1]; rfl
theorem drop_zero (s : St) : 0 = (dropS s).2.1 := by
  unfold dropS
  by_cases h1 : s.stack.length < 1
  · rw [if_pos h1]
  · rw [if_neg h1]
theorem get_zero (d : Int) (s : St) (n : Int) : 0 = (getS d s n).2.1 := by
  unfold getS
  by_cases h1 : n < 0 ∨ (s.globals.length : Int) ≤ n
  · rw [if_pos h1]
  · rw [if_neg h1]; rfl
theorem set_zero (s : St) (n : Int) : 0 = (setS s n).2.1 := by
  unfold setS
  by_cases h1 : n < 0 ∨ (s.globals.length : Int) ≤ n
  · rw [if_pos h1]
  rw [if_neg h1]
  by_cases h2 : s.stack.length < 1
  · rw [if_pos h2]
  · rw [if_neg h2]
theorem load_zero (d : Int) (s : St) (n : Int) : 0 = (loadS d s n).2.1 := by
  unfold loadS
  by_cases h1 : s.stack.length < 1
  · rw [if_pos h1]
  rw [if_neg h1]
  by_cases h2 : objErr (s.down 0) ≠ 0
  · rw [if_pos h2]
  rw [if_neg h2]
  by_cases h3 : n < 0 ∨ ((s.fields (s.down 0).2).length : Int) ≤ n
  · rw [if_pos h3]
  · rw [if_neg h3]; rfl
theorem store_zero (c : Cf) (s : St) (n : Int) : 0 = (storeS c s n).2.1 := by
  unfold storeS
  by_cases h1 : s.stack.length < 2
  · rw [if_pos h1]
  rw [if_neg h1]
  by_cases h2 : objErr (s.down 1) ≠ 0
  · rw [if_pos h2]
  rw [if_neg h2]
  by_cases h3 : n < 0 ∨ ((s.fields (s.down 1).2).length : Int) ≤ n
  · rw [if_pos h3]
  · rw [if_neg h3]

end Go.Proofs.YtpmkjeihbddfpabDoor

/- OUR OWN. What a Dump writes, what a Gauge tells: without memory. -/
namespace Go.Proofs.YtpmkjeihbddfpabDoor
open Go.RowKit
set_option linter.unusedVariables false
set_option linter.unusedSimpArgs false

/-- bytes as a string's value -/
def str (l : List UInt8) : Value := .string ⟨l.toArray⟩
theorem ba_append (a b : List UInt8) : (⟨a.toArray⟩ ++ ⟨b.toArray⟩ : ByteArray) = ⟨(a ++ b).toArray⟩ := by
  simp [ByteArray.mk_append_mk]
def digF : Nat → Nat → List UInt8
  | 0, _ => []
  | f + 1, n => (if n / 10 = 0 then [] else digF f (n / 10)) ++ [48 + UInt8.ofNat (n % 10)]
theorem digF_last {f n : Nat} (hf : 1 ≤ f) (h : n / 10 = 0) : digF f n = [48 + UInt8.ofNat (n % 10)] := by
  obtain ⟨f, rfl⟩ : ∃ f', f = f' + 1 := ⟨f - 1, by omega⟩
  unfold digF; rw [if_pos h]; rfl
theorem digF_more {f n : Nat} (hf : 1 ≤ f) (h : ¬ n / 10 = 0) : digF f n = digF (f - 1) (n / 10) ++ [48 + UInt8.ofNat (n % 10)] := by
  obtain ⟨f, rfl⟩ : ∃ f', f = f' + 1 := ⟨f - 1, by omega⟩
  rw [digF, if_neg h]; rfl
theorem digF_fuel {f b : Nat} (hb : b < 10 ^ f) (h : ¬ b / 10 = 0) : 1 ≤ f - 1 ∧ b / 10 < 10 ^ (f - 1) := by
  have hf : 1 ≤ f := by
    rcases Nat.eq_zero_or_pos f with e | e
    · subst e; simp at hb; omega
    · exact e
  obtain ⟨g, rfl⟩ : ∃ g, f = g + 1 := ⟨f - 1, by omega⟩
  rw [Nat.pow_succ] at hb
  have h1 : b / 10 < 10 ^ g := by omega
  refine ⟨?_, by simpa using h1⟩
  rcases Nat.eq_zero_or_pos g with e | e
  · subst e; simp at h1; omega
  · omega
/-- a number, as it is written -/
def digits (n : Int) : List UInt8 := if n < 0 then 45 :: digF 20 n.natAbs else digF 20 n.natAbs
theorem digF_len (f n : Nat) : (digF f n).length ≤ f := by
  induction f generalizing n with
  | zero => simp [digF]
  | succ f ih =>
    unfold digF
    by_cases h : n / 10 = 0
    · rw [if_pos h]; simp
    · rw [if_neg h]; have := ih (n / 10); simp; omega
theorem digits_len (n : Int) : (digits n).length ≤ 21 := by
  unfold digits
  have := digF_len 20 n.natAbs
  by_cases h : n < 0
  · rw [if_pos h]; simp; omega
  · rw [if_neg h]; omega
def fitsV (v : Int × Int) : Prop := -9223372036854775808 ≤ v.2 ∧ v.2 ≤ 9223372036854775807
/-- a value -/
def writtenL (v : Int × Int) : List UInt8 := if v.1 = 0 then [110] else if v.1 = 1 then digits v.2 else 35 :: digits v.2
theorem written_len (v : Int × Int) : (writtenL v).length ≤ 22 := by
  unfold writtenL
  have := digits_len v.2
  by_cases h0 : v.1 = 0
  · rw [if_pos h0]; simp
  rw [if_neg h0]
  by_cases h1 : v.1 = 1
  · rw [if_pos h1]; omega
  · rw [if_neg h1]; simp; omega
/-- the first k values, with commas between -/
def listN (l : List (Int × Int)) : Nat → List UInt8
  | 0 => []
  | k + 1 => listN l k ++ (if k = 0 then [] else [44]) ++ writtenL (l.getD k (0, 0))
def listL (l : List (Int × Int)) : List UInt8 := listN l l.length
theorem listN_len (l : List (Int × Int)) (k : Nat) : (listN l k).length ≤ 23 * k := by
  induction k with
  | zero => simp [listN]
  | succ k ih =>
    have := written_len (l.getD k (0, 0))
    unfold listN
    by_cases h : k = 0
    · rw [if_pos h]; simp only [List.length_append, List.length_nil]; omega
    · rw [if_neg h]; simp only [List.length_append, List.length_singleton]; omega
/-- an object's letter and count -/
def letterL (s : St) (i : Nat) : List UInt8 :=
  if (s.ob i).queued then 113 :: digits (s.count i) else if (s.ob i).stuck then [115] else if s.waits i then 119 :: digits (s.count i) else 104 :: digits (s.count i)
def recordL (s : St) (i : Nat) : List UInt8 := if (s.ob i).here then letterL s i ++ [91] ++ listL (s.ob i).fs ++ [93, 59] else [46, 59]
theorem letter_len (s : St) (i : Nat) : (letterL s i).length ≤ 22 := by
  unfold letterL
  have := digits_len (s.count i)
  split
  · simp; omega
  · split
    · simp
    · split <;> simp <;> omega
theorem list_len (l : List (Int × Int)) : (listL l).length ≤ 23 * l.length := listN_len l _
theorem record_len (s : St) (i : Nat) (h : (s.ob i).fs.length ≤ 4) : (recordL s i).length ≤ 120 := by
  unfold recordL
  have h1 := letter_len s i
  have h2 := list_len (s.ob i).fs
  split
  · simp only [List.length_append, List.length_cons, List.length_nil]; omega
  · simp
def recsTo (s : St) : Nat → List UInt8
  | 0 => []
  | k + 1 => recsTo s k ++ recordL s (k + 1)
def queueN (q : List Int) : Nat → List UInt8
  | 0 => []
  | k + 1 => queueN q k ++ (if k = 0 then [] else [44]) ++ digits (q.getD k 0)
def dumpL (s : St) : List UInt8 := recsTo s s.N ++ [124] ++ queueN s.queue s.queue.length ++ [124] ++ listL s.stack ++ [124] ++ listL s.globals
/-- the numbers of a heap's values are numbers of Go -/
structure Fits (s : St) : Prop where
  stack : ∀ v ∈ s.stack, fitsV v
  globals : ∀ v ∈ s.globals, fitsV v
  fields : ∀ o ∈ s.objs, ∀ v ∈ o.fs, fitsV v
  queue : ∀ b ∈ s.queue, -9223372036854775808 ≤ b ∧ b ≤ 9223372036854775807
theorem Fits.ob {s : St} (f : Fits s) (i : Nat) : ∀ v ∈ (s.ob i).fs, fitsV v := by
  intro v hv
  rcases ob_mem s i with e | e
  · exact f.fields _ e v hv
  · rw [e] at hv; simp [Ob.free] at hv
theorem recs_len (s : St) (k : Nat) (h : ∀ i, (s.ob i).fs.length ≤ 4) : (recsTo s k).length ≤ 120 * k := by
  induction k with
  | zero => simp [recsTo]
  | succ k ih => have := record_len s (k + 1) (h _); simp only [recsTo, List.length_append]; omega
theorem queueN_len (q : List Int) (k : Nat) : (queueN q k).length ≤ 23 * k := by
  induction k with
  | zero => simp [queueN]
  | succ k ih =>
    have := digits_len (q.getD k 0)
    unfold queueN
    by_cases h : k = 0
    · rw [if_pos h]; simp only [List.length_append, List.length_nil]; omega
    · rw [if_neg h]; simp only [List.length_append, List.length_singleton]; omega
/-- free, waiting, queued, extras, stuck -/
def St.frees (s : St) (b : Nat) : Bool := !(s.ob b).here
def St.stucks (s : St) (b : Nat) : Bool := (s.ob b).here && (s.ob b).stuck
def gaugeS (s : St) : Nat × Nat × Nat × Nat × Nat := (countTo s.frees s.N, countTo s.waits s.N, s.queue.length, s.extras, countTo s.stucks s.N)

end Go.Proofs.YtpmkjeihbddfpabDoor

