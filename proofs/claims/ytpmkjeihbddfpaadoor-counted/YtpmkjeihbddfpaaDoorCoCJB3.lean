import Derived.Test.YtpmkjeihbddfpaaDoorCoCJB2
import Derived.WalkSmall
/- OUR OWN. Rows read by index; boxes; what the walks of both heaps share. -/
namespace Go.Proofs.YtpmkjeihbddfpaaDoor
open Go.RowKit
set_option linter.unusedVariables false
set_option linter.unusedSimpArgs false

theorem flat_get {α : Type} (f : α → List Value) (c : Nat) (hc : ∀ x, (f x).length = c) (l : List α) (i j : Nat) (hj : j < c) : (l.flatMap f)[i * c + j]? = (l[i]?).bind fun x => (f x)[j]? := by
  induction l generalizing i with
  | nil => simp
  | cons x l ih =>
    rw [List.flatMap_cons]
    cases i with
    | zero => rw [List.getElem?_append_left (by rw [hc]; omega)]; simp
    | succ i =>
      rw [List.getElem?_append_right (by rw [hc, Nat.succ_mul]; omega), hc, show (i + 1) * c + j - c = i * c + j by rw [Nat.succ_mul]; omega, ih]
      simp
theorem own_view {w : World} {e : TypeId} {size : Nat} {v : Value} {n : Nat} {xs : List Value} (h : w.ownsRow 0 e size v n xs) (hn : 0 < n) :
    ∃ g cap, v = .slice (some ⟨g, 0, none⟩) n cap ∧ g < w.heap.size ∧ v.ownBlock = some g ∧ n ≤ cap ∧ (∀ j u, xs[j]? = some u → w.cell? ⟨g, j, none⟩ = some u) ∧ ∀ j, w.frozen? ⟨g, j, none⟩ = false := by
  rcases h.2 with ⟨_, h0⟩ | ⟨g, cap, cur, rfl, _, hg, hnc, _, _, _⟩
  · omega
  · refine ⟨g, cap, rfl, lt_of_heap hg, rfl, hnc, fun j u hu => ?_, fun j => frozen_of_heap hg⟩
    have := h.cells (g := g) rfl j u hu
    rwa [show (⟨g, 0, none⟩ : Addr).add j = ⟨g, j, none⟩ by unfold Addr.add; split <;> simp_all] at this
theorem own_empty {w : World} {e : TypeId} {size : Nat} {v : Value} {xs : List Value} (h : w.ownsRow 0 e size v 0 xs) : ∃ ao cap, v = .slice ao 0 cap := by
  rcases h.2 with ⟨hv, _⟩ | ⟨g, cap, cur, hv, _⟩
  · exact ⟨_, _, hv⟩
  · exact ⟨_, _, hv⟩
theorem own_slice {w : World} {e : TypeId} {size : Nat} {v : Value} {n : Nat} {xs : List Value} (h : w.ownsRow 0 e size v n xs) : ∃ ao cap, v = .slice ao n cap := by
  rcases h.2 with ⟨hv, hn⟩ | ⟨g, cap, cur, hv, _⟩
  · exact ⟨none, 0, by rw [hv, hn]⟩
  · exact ⟨_, _, hv⟩
theorem refsN_snoc (l : List (Int × Int)) (v : Int × Int) (b : Int) : refsN (l ++ [v]) b = refsN l b + if v.1 = 2 ∧ v.2 = b then 1 else 0 := by
  unfold refsN
  rw [List.countP_append]
  by_cases h : v.1 = 2 ∧ v.2 = b
  · simp [List.countP_cons, h]
  · rw [if_neg h]
    simp [List.countP_cons]
    intro h1 h2
    exact h ⟨h1, h2⟩
theorem refsN_le (l : List (Int × Int)) (b : Int) : refsN l b ≤ l.length := List.countP_le_length
theorem take_snoc {α : Type} (l : List α) (k : Nat) (h : k < l.length) : l.take (k + 1) = l.take k ++ [l[k]] := List.take_succ_eq_append_getElem h
theorem map_set_same {α β : Type} (f : α → β) (l : List α) (i : Nat) (o o' : α) (h : l[i]? = some o) (hf : f o' = f o) : (l.set i o').map f = l.map f := by
  rw [List.map_set, hf]
  have : (l.map f)[i]? = some (f o) := by rw [List.getElem?_map, h]; rfl
  refine List.ext_getElem? fun j => ?_
  rw [List.getElem?_set]
  split
  · rename_i e
    subst e
    split
    · exact this.symm
    · rename_i hn
      rw [List.getElem?_eq_none (by simpa using hn)]
  · rfl
/-- a value more at the end: where there is room -/
theorem win_room {w : World} {e : TypeId} {g off n cap : Nat} {xs : List Value} (h : ownsWin w e (.slice (some ⟨g, off, none⟩) n cap) n xs) (hr : n < cap) (x : Value) :
    ownsWin (w.setCell ⟨g, off + n, none⟩ x) e (.slice (some ⟨g, off, none⟩) (n + 1) cap) (n + 1) (xs ++ [x]) ∧ (w.cell? ⟨g, off + n, none⟩).isSome = true ∧ w.frozen? ⟨g, off + n, none⟩ = false := by
  rcases h.2 with ⟨hv, _⟩ | ⟨g', off', cap', cur, hv, h1, h2, h3, h4, h5⟩
  · cases hv
  · simp at hv
    obtain ⟨⟨rfl, rfl⟩, rfl⟩ := hv
    have hlt : off + n < cur.size := by omega
    refine ⟨⟨by simp [h.1], .inr ⟨g, off, cap, cur.setIfInBounds (off + n) x, rfl, heap_setCell_at h1 x, by omega, h3, by simpa using h4, fun j u hu => ?_⟩⟩, ?_, frozen_of_heap h1⟩
    · rw [Array.getElem?_setIfInBounds]
      by_cases hj : j < xs.length
      · rw [List.getElem?_append_left hj] at hu
        have := h.1
        rw [if_neg (by omega)]
        exact h5 j u hu
      · have hjl : j < (xs ++ [x]).length := (List.getElem?_eq_some_iff.1 hu).1
        have hj2 : j = n := by have := h.1; simp at hjl; omega
        subst hj2
        rw [if_pos rfl, if_pos hlt]
        rw [List.getElem?_append_right (by have := h.1; omega)] at hu
        have := h.1
        rw [show j - xs.length = 0 by omega] at hu
        simpa using hu
    · rw [cell_of_heap h1 (Array.getElem?_eq_getElem hlt)]; rfl
theorem infoInt : (Tryd.prog.info? 3).map (fun i => (i.zero, i.size, i.bytes)) = some (some (.int .i64 0), 1, 8) := by kernel_rfl
theorem boxed' {w w1 : World} {cs : Array Value} {t : TypeId} (hb : Below (w.alloc (.cells cs t)).heap.size (w.alloc (.cells cs t)) w1) : w1.heap[w.heap.size]? = some (.cells cs t) := by
  rw [hb.block _ (by simp)]; exact heap_alloc_new w _
theorem flat_same {α : Type} (f : α → List Value) (l : List α) (i : Nat) (o o' : α) (h : l[i]? = some o) (hf : f o' = f o) : (l.set i o').flatMap f = l.flatMap f := by
  rw [List.flatMap_def, List.flatMap_def, map_set_same f l i o o' h hf]
theorem ref_of {N : Nat} {v : Int × Int} (h : okV N v) (he : objErr v = 0) : 1 ≤ v.2 ∧ v.2 ≤ N := by
  unfold objErr at he
  rcases h with h | h | h
  · rw [if_pos h] at he; omega
  · rw [if_neg (by omega), if_pos h] at he; omega
  · exact h

theorem wrapS {x : Int} (h1 : -9223372036854775808 ≤ x) (h2 : x ≤ 9223372036854775807) : IntKind.i64.wrap x = x := by
  rw [IntKind.wrap_i64]
  omega

end Go.Proofs.YtpmkjeihbddfpaaDoor

/- OUR OWN. Rows that lie apart: one is turned, the others stay. -/
namespace Go.Proofs.YtpmkjeihbddfpaaDoor
open Go.RowKit
set_option linter.unusedVariables false
set_option linter.unusedSimpArgs false

/-- a slice that is owned: element type, cells an element, value, length, cells -/
structure SRow where
  e : TypeId
  size : Nat
  v : Value
  n : Nat
  xs : List Value

def SRow.At (w : World) (r : SRow) : Prop := match r.size with
  | 1 => ownsWin w r.e r.v r.n r.xs
  | _ => w.ownsRow 0 r.e r.size r.v r.n r.xs
theorem SRow.At.carry {w w' : World} {r : SRow} (h : r.At w) (hb : ∀ g, r.v.ownBlock = some g → w'.heap[g]? = w.heap[g]?) : r.At w' := by
  unfold SRow.At at *
  split
  · rename_i h1; rw [h1] at h; exact win_carry h hb
  · rename_i h1
    split at h
    · rename_i h2; exact absurd h2 h1
    · exact own_carry h hb
theorem SRow.At.lt {w : World} {r : SRow} (h : r.At w) {g : Nat} (hg : r.v.ownBlock = some g) : g < w.heap.size := by
  unfold SRow.At at h
  split at h
  · exact win_lt h hg
  · exact (own_lt h hg).2
def SRow.ob (r : SRow) : Option Nat := r.v.ownBlock
def rfoot (rows : List SRow) : List Nat := rows.filterMap SRow.ob

/-- the rows of one thing whose head is block h -/
structure RowsAt (w : World) (h : Nat) (rows : List SRow) : Prop where
  all : ∀ r ∈ rows, r.At w
  apart : (h :: rfoot rows).Nodup
  head : h < w.heap.size

theorem filterMap_idx {α : Type} (f : α → Option Nat) (l : List α) (hn : (l.filterMap f).Nodup) : ∀ (i j : Nat) (a b : α) (x : Nat), l[i]? = some a → l[j]? = some b → f a = some x → f b = some x → i = j := by
  induction l with
  | nil => intro i j a b x h; simp at h
  | cons c l ih =>
    intro i j a b x hi hj ha hb
    have hl : (l.filterMap f).Nodup := by
      rw [List.filterMap_cons] at hn
      cases hc : f c with
      | none => rw [hc] at hn; exact hn
      | some y => rw [hc] at hn; exact (List.nodup_cons.1 hn).2
    cases i with
    | zero =>
      cases j with
      | zero => rfl
      | succ j =>
        exfalso
        simp at hi hj
        subst hi
        rw [List.filterMap_cons, ha] at hn
        exact (List.nodup_cons.1 hn).1 (List.mem_filterMap.2 ⟨b, List.mem_of_getElem? hj, hb⟩)
    | succ i =>
      cases j with
      | zero =>
        exfalso
        simp at hi hj
        subst hj
        rw [List.filterMap_cons, hb] at hn
        exact (List.nodup_cons.1 hn).1 (List.mem_filterMap.2 ⟨a, List.mem_of_getElem? hi, ha⟩)
      | succ j =>
        simp at hi hj
        rw [ih hl i j a b x hi hj ha hb]

theorem rows_lt {w : World} {h : Nat} {rows : List SRow} (R : RowsAt w h rows) : ∀ g ∈ h :: rfoot rows, g < w.heap.size := by
  intro g hg
  rcases List.mem_cons.1 hg with rfl | hg
  · exact R.head
  · obtain ⟨r, hr, hg⟩ := List.mem_filterMap.1 hg
    exact (R.all r hr).lt hg

theorem RowsAt.carry {w w' : World} {h : Nat} {rows : List SRow} (R : RowsAt w h rows) (hb : ∀ g ∈ h :: rfoot rows, w'.heap[g]? = w.heap[g]?) (hh : h < w'.heap.size) : RowsAt w' h rows :=
  ⟨fun r hr => (R.all r hr).carry fun g hg => hb g (List.mem_cons_of_mem _ (List.mem_filterMap.2 ⟨r, hr, hg⟩)), R.apart, hh⟩

theorem nodup_set {f : SRow → Option Nat} {n : Nat} (l : List SRow) (p : Nat) (r0 r1 : SRow) (hp : l[p]? = some r0) (hn : (l.filterMap f).Nodup) (hlt : ∀ x ∈ l.filterMap f, x < n)
    (hv : ∀ g, f r1 = some g → f r0 = some g ∨ n ≤ g) : ((l.set p r1).filterMap f).Nodup ∧ ∀ x ∈ (l.set p r1).filterMap f, x ∈ l.filterMap f ∨ (n ≤ x ∧ f r1 = some x) := by
  induction l generalizing p with
  | nil => simp at hp
  | cons c l ih =>
    cases p with
    | zero =>
      simp at hp
      subst hp
      rw [List.set_cons_zero]
      have hl : (l.filterMap f).Nodup := by
        rw [List.filterMap_cons] at hn
        cases hc : f c with
        | none => rw [hc] at hn; exact hn
        | some y => rw [hc] at hn; exact (List.nodup_cons.1 hn).2
      have hll : ∀ x ∈ l.filterMap f, x ∈ (c :: l).filterMap f := fun x hx => by
        rw [List.filterMap_cons]; split
        · exact hx
        · exact List.mem_cons_of_mem _ hx
      cases h1 : f r1 with
      | none =>
        rw [List.filterMap_cons, h1]
        exact ⟨hl, fun x hx => .inl (hll x hx)⟩
      | some y =>
        rw [List.filterMap_cons, h1]
        refine ⟨List.nodup_cons.2 ⟨fun hy => ?_, hl⟩, fun x hx => ?_⟩
        · rcases hv y h1 with e | e
          · rw [List.filterMap_cons, e] at hn
            exact (List.nodup_cons.1 hn).1 hy
          · have := hlt y (hll y hy); omega
        · rcases List.mem_cons.1 hx with rfl | hx
          · rcases hv x h1 with e | e
            · exact .inl (by rw [List.filterMap_cons, e]; exact List.mem_cons_self)
            · exact .inr ⟨e, rfl⟩
          · exact .inl (hll x hx)
    | succ p =>
      simp at hp
      rw [List.set_cons_succ]
      have hl : (l.filterMap f).Nodup := by
        rw [List.filterMap_cons] at hn
        cases hc : f c with
        | none => rw [hc] at hn; exact hn
        | some y => rw [hc] at hn; exact (List.nodup_cons.1 hn).2
      have hll : ∀ x ∈ l.filterMap f, x ∈ (c :: l).filterMap f := fun x hx => by
        rw [List.filterMap_cons]; split
        · exact hx
        · exact List.mem_cons_of_mem _ hx
      obtain ⟨g1, g2⟩ := ih p hp hl (fun x hx => hlt x (hll x hx))
      cases h1 : f c with
      | none =>
        rw [List.filterMap_cons, h1]
        refine ⟨g1, fun x hx => ?_⟩
        rcases g2 x hx with e | e
        · exact .inl (hll x e)
        · exact .inr e
      | some y =>
        rw [List.filterMap_cons, h1]
        refine ⟨List.nodup_cons.2 ⟨fun hy => ?_, g1⟩, fun x hx => ?_⟩
        · rcases g2 y hy with e | ⟨e, _⟩
          · rw [List.filterMap_cons, h1] at hn
            exact (List.nodup_cons.1 hn).1 e
          · have := hlt y (by rw [List.filterMap_cons, h1]; exact List.mem_cons_self); omega
        · rcases List.mem_cons.1 hx with rfl | hx
          · exact .inl (by rw [List.filterMap_cons, h1]; exact List.mem_cons_self)
          · rcases g2 x hx with e | e
            · exact .inl (hll x e)
            · exact .inr e

/-- ONE ROW IS TURNED: the others, and the head's place, stay apart. -/
theorem RowsAt.set {w w' : World} {h : Nat} {rows : List SRow} (R : RowsAt w h rows) {p : Nat} {r0 : SRow} (hp : rows[p]? = some r0) (r1 : SRow) (h1 : r1.At w')
    (hv : ∀ g, r1.ob = some g → r0.ob = some g ∨ w.heap.size ≤ g) (hk : ∀ k, k < w.heap.size → k ≠ h → r0.ob ≠ some k → w'.heap[k]? = w.heap[k]?) (hs : w.heap.size ≤ w'.heap.size) :
    RowsAt w' h (rows.set p r1) ∧ ∀ g ∈ rfoot (rows.set p r1), g ∈ rfoot rows ∨ w.heap.size ≤ g := by
  have hlt := rows_lt R
  have hap := List.nodup_cons.1 R.apart
  obtain ⟨g1, g2⟩ := nodup_set (f := SRow.ob) (n := w.heap.size) rows p r0 r1 hp hap.2 (fun x hx => hlt x (List.mem_cons_of_mem _ hx)) hv
  refine ⟨⟨fun r hr => ?_, List.nodup_cons.2 ⟨fun hy => ?_, g1⟩, by have := R.head; omega⟩, fun g hg => ?_⟩
  · obtain ⟨i, hi⟩ := List.getElem?_of_mem hr
    rw [List.getElem?_set] at hi
    split at hi
    · split at hi
      · cases hi; exact h1
      · cases hi
    · rename_i hne
      have hm := List.mem_of_getElem? hi
      refine (R.all r hm).carry fun g hg => hk g ?_ ?_ ?_
      · exact hlt g (List.mem_cons_of_mem _ (List.mem_filterMap.2 ⟨r, hm, hg⟩))
      · intro e; subst e; exact hap.1 (List.mem_filterMap.2 ⟨r, hm, hg⟩)
      · intro e; exact hne (filterMap_idx SRow.ob rows hap.2 p i r0 r g hp hi e hg)
  · rcases g2 h hy with e | ⟨e, _⟩
    · exact hap.1 e
    · have := R.head; omega
  · rcases g2 g hg with e | ⟨e, _⟩
    · exact .inl e
    · exact .inr e

/-! ### Stores into a row -/
theorem flat_set {α : Type} (f : α → List Value) (c : Nat) (hc : ∀ x, (f x).length = c) (l : List α) (i j : Nat) (hj : j < c) (x : α) (u : Value) (hi : l[i]? = some x) (x' : α) (hx : f x' = (f x).set j u) :
    (l.set i x').flatMap f = (l.flatMap f).set (i * c + j) u := by
  induction l generalizing i with
  | nil => simp at hi
  | cons y l ih =>
    cases i with
    | zero =>
      simp at hi
      subst hi
      rw [List.set_cons_zero, List.flatMap_cons, List.flatMap_cons, hx, List.set_append_left _ _ (by rw [hc]; omega)]
      simp
    | succ i =>
      simp at hi
      rw [List.set_cons_succ, List.flatMap_cons, List.flatMap_cons, ih i hi, List.set_append_right _ _ (by rw [hc, Nat.succ_mul]; omega), hc, show (i + 1) * c + j - c = i * c + j by rw [Nat.succ_mul]; omega]

/-- the one element that an append lays down first, behind a draw -/
theorem news_drewN (w : World) (cs : List Value) (t : TypeId) (n H : Nat) (hH : w.heap.size = H) : ∀ j u, cs[j]? = some u → ((w.drewN n).alloc (.cells cs.toArray t)).cell? ((⟨H, 0, none⟩ : Addr).add j) = some u := by
  subst hH
  exact news_new (w.drewN n) cs t

theorem hso {w : World} {b i k : Nat} {u : Value} (h : k ≠ b) : (w.setCell ⟨b, i, none⟩ u).heap[k]? = w.heap[k]? := Below.heap_setCell _ _ _ _ h

theorem off_setCell (w : World) (b i : Nat) (u : Value) : Off [b] w (w.setCell ⟨b, i, none⟩ u) :=
  ⟨rfl, rfl, rfl, by simp [World.setCell], fun k _ hF => Below.heap_setCell _ _ _ _ (by simpa using hF)⟩
theorem Off.mono {F G : List Nat} {w w' : World} (h : Off F w w') (hF : ∀ x ∈ F, x ∈ G) : Off G w w' :=
  ⟨h.os, h.tape, h.output, h.size, fun k hk hG => h.block k hk fun e => hG (hF k e)⟩
theorem Off.refl (F : List Nat) (w : World) : Off F w w := ⟨rfl, rfl, rfl, Nat.le_refl _, fun _ _ _ => rfl⟩
theorem off_grown {w w' : World} {row : Option Nat} (h : w.grownBy w' row) : Off row.toList w w' :=
  ⟨h.os, h.tape, h.output, h.size, fun k hk hF => h.block k hk fun e => hF (by simp [← e])⟩
theorem Off.drewN {F : List Nat} {w w' : World} (h : Off F w w') (n : Nat) : Off F w (w'.drewN n) := ⟨h.os, h.tape, h.output, h.size, h.block⟩
theorem Off.drew {F : List Nat} {w w' : World} (h : Off F w w') : Off F w w'.drew := ⟨h.os, h.tape, h.output, h.size, h.block⟩

end Go.Proofs.YtpmkjeihbddfpaaDoor

/- OUR OWN. The number of an operation that tells none. -/
namespace Go.Proofs.YtpmkjeihbddfpaaDoor
open Go.RowKit
set_option linter.unusedVariables false
set_option linter.unusedSimpArgs false

theorem ret_zero {a b c : Int} (h : a = b) : Ending.returned (.tuple #[.int .i64 a, .int .i64 c]) = .returned (.tuple #[.int .i64 b, .int .i64 c]) := by rw [h]
theorem push_zero (d : Int) (s : St) (v : Int × Int) : 0 = (pushA d s v).2.1 := rfl
theorem new_zero (c : Cf) (s : St) (n : Int) : 0 = (newS c s n).2.1 := by
  unfold newS
  by_cases h1 : n < 0 ∨ 4 < n
  · rw [if_pos h1]
  rw [if_neg h1]
  by_cases h2 : c.deep ≤ s.stack.length
  · rw [if_pos h2]
  rw [if_neg h2]
  cases free? (roomS c s) <;> rfl
theorem dup_zero (d : Int) (s : St) (n : Int) : 0 = (dupS d s n).2.1 := by
  unfold dupS
  by_cases h1 : n < 0 ∨ (s.stack.length : Int) ≤ n
  · rw [if_pos h1]
  · rw [if_neg h1]; rfl
theorem drop_zero (s : St) : 0 = (dropS s).2.1 := by
  unfold dropS
  by_cases h1 : s.stack.length < 1
  · rw [if_pos h1]
  · rw [if_neg h1]
theorem get_zero (d : Int) (s : St) (n : Int) : 0 = (getS d s n).2.1 := by
  unfold getS
  by_cases h1 : n < 0 ∨ (s.globals.length : Int) ≤ n
  · rw [if_pos h1]
  · rw [if_neg h1]; rfl
theorem set_zero (s : St) (n : Int) : 0 = (setS s n).2.1 := by
  unfold setS
  by_cases h1 : n < 0 ∨ (s.globals.length : Int) ≤ n
  · rw [if_pos h1]
  rw [if_neg h1]
  by_cases h2 : s.stack.length < 1
  · rw [if_pos h2]
  · rw [if_neg h2]
theorem load_zero (d : Int) (s : St) (n : Int) : 0 = (loadS d s n).2.1 := by
  unfold loadS
  by_cases h1 : s.stack.length < 1
  · rw [if_pos h1]
  rw [if_neg h1]
  by_cases h2 : objErr (s.down 0) ≠ 0
  · rw [if_pos h2]
  rw [if_neg h2]
  by_cases h3 : n < 0 ∨ ((s.fields (s.down 0).2).length : Int) ≤ n
  · rw [if_pos h3]
  · rw [if_neg h3]; rfl
theorem store_zero (c : Cf) (s : St) (n : Int) : 0 = (storeS c s n).2.1 := by
  unfold storeS
  by_cases h1 : s.stack.length < 2
  · rw [if_pos h1]
  rw [if_neg h1]
  by_cases h2 : objErr (s.down 1) ≠ 0
  · rw [if_pos h2]
  rw [if_neg h2]
  by_cases h3 : n < 0 ∨ ((s.fields (s.down 1).2).length : Int) ≤ n
  · rw [if_pos h3]
  · rw [if_neg h3]

end Go.Proofs.YtpmkjeihbddfpaaDoor

/- OUR OWN. What a Dump writes, what a Gauge tells: without memory. -/
namespace Go.Proofs.YtpmkjeihbddfpaaDoor
open Go.RowKit
set_option linter.unusedVariables false
set_option linter.unusedSimpArgs false

/-- bytes as a string's value -/
def str (l : List UInt8) : Value := .string ⟨l.toArray⟩
theorem ba_append (a b : List UInt8) : (⟨a.toArray⟩ ++ ⟨b.toArray⟩ : ByteArray) = ⟨(a ++ b).toArray⟩ := by
  simp [ByteArray.mk_append_mk]
def digF : Nat → Nat → List UInt8
  | 0, _ => []
  | f + 1, n => (if n / 10 = 0 then [] else digF f (n / 10)) ++ [48 + UInt8.ofNat (n % 10)]
theorem digF_last {f n : Nat} (hf : 1 ≤ f) (h : n / 10 = 0) : digF f n = [48 + UInt8.ofNat (n % 10)] := by
  obtain ⟨f, rfl⟩ : ∃ f', f = f' + 1 := ⟨f - 1, by omega⟩
  unfold digF; rw [if_pos h]; rfl
theorem digF_more {f n : Nat} (hf : 1 ≤ f) (h : ¬ n / 10 = 0) : digF f n = digF (f - 1) (n / 10) ++ [48 + UInt8.ofNat (n % 10)] := by
  obtain ⟨f, rfl⟩ : ∃ f', f = f' + 1 := ⟨f - 1, by omega⟩
  rw [digF, if_neg h]; rfl
theorem digF_fuel {f b : Nat} (hb : b < 10 ^ f) (h : ¬ b / 10 = 0) : 1 ≤ f - 1 ∧ b / 10 < 10 ^ (f - 1) := by
  have hf : 1 ≤ f := by
    rcases Nat.eq_zero_or_pos f with e | e
    · subst e; simp at hb; omega
    · exact e
  obtain ⟨g, rfl⟩ : ∃ g, f = g + 1 := ⟨f - 1, by omega⟩
  rw [Nat.pow_succ] at hb
  have h1 : b / 10 < 10 ^ g := by omega
  refine ⟨?_, by simpa using h1⟩
  rcases Nat.eq_zero_or_pos g with e | e
  · subst e; simp at h1; omega
  · omega
/-- a number, as it is written -/
def digits (n : Int) : List UInt8 := if n < 0 then 45 :: digF 20 n.natAbs else digF 20 n.natAbs
theorem digF_len (f n : Nat) : (digF f n).length ≤ f := by
  induction f generalizing n with
  | zero => simp [digF]
  | succ f ih =>
    unfold digF
    by_cases h : n / 10 = 0
    · rw [if_pos h]; simp
    · rw [if_neg h]; have := ih (n / 10); simp; omega
theorem digits_len (n : Int) : (digits n).length ≤ 21 := by
  unfold digits
  have := digF_len 20 n.natAbs
  by_cases h : n < 0
  · rw [if_pos h]; simp; omega
  · rw [if_neg h]; omega
def fitsV (v : Int × Int) : Prop := -9223372036854775808 ≤ v.2 ∧ v.2 ≤ 9223372036854775807
/-- a value -/
def writtenL (v : Int × Int) : List UInt8 := if v.1 = 0 then [110] else if v.1 = 1 then digits v.2 else 35 :: digits v.2
theorem written_len (v : Int × Int) : (writtenL v).length ≤ 22 := by
  unfold writtenL
  have := digits_len v.2
  by_cases h0 : v.1 = 0
  · rw [if_pos h0]; simp
  rw [if_neg h0]
  by_cases h1 : v.1 = 1
  · rw [if_pos h1]; omega
  · rw [if_neg h1]; simp; omega
/-- the first k values, with commas between -/
def listN (l : List (Int × Int)) : Nat → List UInt8
  | 0 => []
  | k + 1 => listN l k ++ (if k = 0 then [] else [44]) ++ writtenL (l.getD k (0, 0))
def listL (l : List (Int × Int)) : List UInt8 := listN l l.length
theorem listN_len (l : List (Int × Int)) (k : Nat) : (listN l k).length ≤ 23 * k := by
  induction k with
  | zero => simp [listN]
  | succ k ih =>
    have := written_len (l.getD k (0, 0))
    unfold listN
    by_cases h : k = 0
    · rw [if_pos h]; simp only [List.length_append, List.length_nil]; omega
    · rw [if_neg h]; simp only [List.length_append, List.length_singleton]; omega
/-- an object's letter and count -/
def letterL (s : St) (i : Nat) : List UInt8 :=
  if (s.ob i).queued then 113 :: digits (s.count i) else if (s.ob i).stuck then [115] else if s.waits i then 119 :: digits (s.count i) else 104 :: digits (s.count i)
def recordL (s : St) (i : Nat) : List UInt8 := if (s.ob i).here then letterL s i ++ [91] ++ listL (s.ob i).fs ++ [93, 59] else [46, 59]
theorem letter_len (s : St) (i : Nat) : (letterL s i).length ≤ 22 := by
  unfold letterL
  have := digits_len (s.count i)
  split
  · simp; omega
  · split
    · simp
    · split <;> simp <;> omega
theorem list_len (l : List (Int × Int)) : (listL l).length ≤ 23 * l.length := listN_len l _
theorem record_len (s : St) (i : Nat) (h : (s.ob i).fs.length ≤ 4) : (recordL s i).length ≤ 120 := by
  unfold recordL
  have h1 := letter_len s i
  have h2 := list_len (s.ob i).fs
  split
  · simp only [List.length_append, List.length_cons, List.length_nil]; omega
  · simp
def recsTo (s : St) : Nat → List UInt8
  | 0 => []
  | k + 1 => recsTo s k ++ recordL s (k + 1)
def queueN (q : List Int) : Nat → List UInt8
  | 0 => []
  | k + 1 => queueN q k ++ (if k = 0 then [] else [44]) ++ digits (q.getD k 0)
def dumpL (s : St) : List UInt8 := recsTo s s.N ++ [124] ++ queueN s.queue s.queue.length ++ [124] ++ listL s.stack ++ [124] ++ listL s.globals
/-- the numbers of a heap's values are numbers of Go -/
structure Fits (s : St) : Prop where
  stack : ∀ v ∈ s.stack, fitsV v
  globals : ∀ v ∈ s.globals, fitsV v
  fields : ∀ o ∈ s.objs, ∀ v ∈ o.fs, fitsV v
  queue : ∀ b ∈ s.queue, -9223372036854775808 ≤ b ∧ b ≤ 9223372036854775807
theorem Fits.ob {s : St} (f : Fits s) (i : Nat) : ∀ v ∈ (s.ob i).fs, fitsV v := by
  intro v hv
  rcases ob_mem s i with e | e
  · exact f.fields _ e v hv
  · rw [e] at hv; simp [Ob.free] at hv
theorem recs_len (s : St) (k : Nat) (h : ∀ i, (s.ob i).fs.length ≤ 4) : (recsTo s k).length ≤ 120 * k := by
  induction k with
  | zero => simp [recsTo]
  | succ k ih => have := record_len s (k + 1) (h _); simp only [recsTo, List.length_append]; omega
theorem queueN_len (q : List Int) (k : Nat) : (queueN q k).length ≤ 23 * k := by
  induction k with
  | zero => simp [queueN]
  | succ k ih =>
    have := digits_len (q.getD k 0)
    unfold queueN
    by_cases h : k = 0
    · rw [if_pos h]; simp only [List.length_append, List.length_nil]; omega
    · rw [if_neg h]; simp only [List.length_append, List.length_singleton]; omega
/-- free, waiting, queued, extras, stuck -/
def St.frees (s : St) (b : Nat) : Bool := !(s.ob b).here
def St.stucks (s : St) (b : Nat) : Bool := (s.ob b).here && (s.ob b).stuck
def gaugeS (s : St) : Nat × Nat × Nat × Nat × Nat := (countTo s.frees s.N, countTo s.waits s.N, s.queue.length, s.extras, countTo s.stucks s.N)

end Go.Proofs.YtpmkjeihbddfpaaDoor

/- OUR OWN. What a Dump shows: its text, read again. -/
namespace Go.Proofs.YtpmkjeihbddfpaaDoor
set_option linter.unusedVariables false
set_option linter.unusedSimpArgs false

/-! ### A text, cut at a byte -/
def splitGo (c : UInt8) : List UInt8 → List UInt8 → List (List UInt8)
  | cur, [] => [cur]
  | cur, x :: l => if x = c then cur :: splitGo c [] l else splitGo c (cur ++ [x]) l
def splitL (c : UInt8) (l : List UInt8) : List (List UInt8) := splitGo c [] l
theorem splitGo_plain {c : UInt8} (a : List UInt8) (cur : List UInt8) (h : ∀ x ∈ a, x ≠ c) : splitGo c cur a = [cur ++ a] := by
  induction a generalizing cur with
  | nil => simp [splitGo]
  | cons x a ih =>
    unfold splitGo
    rw [if_neg (h x (by simp)), ih _ (fun y hy => h y (List.mem_cons_of_mem _ hy))]
    simp
theorem splitGo_cut {c : UInt8} (a b : List UInt8) (cur : List UInt8) (h : ∀ x ∈ a, x ≠ c) : splitGo c cur (a ++ c :: b) = (cur ++ a) :: splitGo c [] b := by
  induction a generalizing cur with
  | nil => simp [splitGo]
  | cons x a ih =>
    have e : splitGo c cur (x :: (a ++ c :: b)) = splitGo c (cur ++ [x]) (a ++ c :: b) := by rw [splitGo, if_neg (h x (by simp))]
    rw [List.cons_append, e, ih _ (fun y hy => h y (List.mem_cons_of_mem _ hy))]
    simp
theorem splitL_plain {c : UInt8} {a : List UInt8} (h : ∀ x ∈ a, x ≠ c) : splitL c a = [a] := by unfold splitL; rw [splitGo_plain a [] h]; rfl
theorem splitL_cut {c : UInt8} {a b : List UInt8} (h : ∀ x ∈ a, x ≠ c) : splitL c (a ++ c :: b) = a :: splitL c b := by unfold splitL; rw [splitGo_cut a b [] h]; rfl

/-! ### The bytes of a number, of a value, of a list -/
def isDig (x : UInt8) : Bool := decide (48 ≤ x.toNat ∧ x.toNat ≤ 57)
theorem dig_byte (n : Nat) : isDig (48 + UInt8.ofNat (n % 10)) = true ∧ (48 + UInt8.ofNat (n % 10)).toNat = 48 + n % 10 := by
  have h : (48 + UInt8.ofNat (n % 10)).toNat = 48 + n % 10 := by
    rw [UInt8.toNat_add, UInt8.toNat_ofNat]
    show (48 + n % 10 % 256) % 256 = _
    omega
  refine ⟨?_, h⟩
  unfold isDig
  rw [h]; simp; omega
theorem digF_dig (f n : Nat) : ∀ x ∈ digF f n, isDig x = true := by
  induction f generalizing n with
  | zero => simp [digF]
  | succ f ih =>
    intro x hx
    unfold digF at hx
    rcases List.mem_append.1 hx with h | h
    · by_cases e : n / 10 = 0
      · rw [if_pos e] at h; cases h
      · rw [if_neg e] at h; exact ih _ x h
    · simp at h; rw [h]; exact (dig_byte n).1
theorem digF_ne (f n : Nat) (hf : 1 ≤ f) : digF f n ≠ [] := by
  obtain ⟨g, rfl⟩ : ∃ g, f = g + 1 := ⟨f - 1, by omega⟩
  unfold digF
  simp
theorem digits_bytes (n : Int) : ∀ x ∈ digits n, x = 45 ∨ isDig x = true := by
  intro x hx
  unfold digits at hx
  split at hx
  · rcases List.mem_cons.1 hx with h | h
    · exact .inl h
    · exact .inr (digF_dig _ _ x h)
  · exact .inr (digF_dig _ _ x hx)
theorem digits_ne (n : Int) : digits n ≠ [] := by
  unfold digits
  split
  · simp
  · exact digF_ne 20 _ (by decide)
theorem written_bytes (v : Int × Int) : ∀ x ∈ writtenL v, x = 110 ∨ x = 35 ∨ x = 45 ∨ isDig x = true := by
  intro x hx
  unfold writtenL at hx
  split at hx
  · simp at hx; exact .inl hx
  split at hx
  · exact .inr (.inr (digits_bytes _ x hx))
  · rcases List.mem_cons.1 hx with h | h
    · exact .inr (.inl h)
    · exact .inr (.inr (digits_bytes _ x h))
theorem written_ne (v : Int × Int) : writtenL v ≠ [] := by
  unfold writtenL
  split
  · simp
  split
  · exact digits_ne _
  · simp
theorem dig_not {x : UInt8} (h : isDig x = true) (c : UInt8) (hc : ¬ (48 ≤ c.toNat ∧ c.toNat ≤ 57)) : x ≠ c := fun e => by
  unfold isDig at h
  rw [e] at h
  exact hc (by simpa using h)
theorem written_no {v : Int × Int} (c : UInt8) (hc : c = 124 ∨ c = 59 ∨ c = 44 ∨ c = 91 ∨ c = 93) : ∀ x ∈ writtenL v, x ≠ c := fun x hx => by
  rcases written_bytes v x hx with h | h | h | h
  · rw [h]; rcases hc with e | e | e | e | e <;> rw [e] <;> decide
  · rw [h]; rcases hc with e | e | e | e | e <;> rw [e] <;> decide
  · rw [h]; rcases hc with e | e | e | e | e <;> rw [e] <;> decide
  · refine dig_not h c ?_
    rcases hc with e | e | e | e | e <;> rw [e] <;> decide

/-! ### A list of values -/
/-- the values' texts, with commas between -/
def joinL : List (List UInt8) → List UInt8
  | [] => []
  | [a] => a
  | a :: b :: l => a ++ 44 :: joinL (b :: l)
theorem join_snoc (l : List (List UInt8)) (a : List UInt8) : joinL (l ++ [a]) = joinL l ++ (if l = [] then [] else [44]) ++ a := by
  induction l with
  | nil => simp [joinL]
  | cons b l ih =>
    cases l with
    | nil => simp [joinL]
    | cons c l =>
      have e : joinL (b :: c :: l ++ [a]) = b ++ 44 :: joinL (c :: l ++ [a]) := rfl
      rw [e, ih]
      simp [joinL]
theorem split_join (l : List (List UInt8)) (hl : l ≠ []) (h : ∀ a ∈ l, ∀ x ∈ a, x ≠ 44) : splitL 44 (joinL l) = l := by
  induction l with
  | nil => exact absurd rfl hl
  | cons a l ih =>
    cases l with
    | nil => exact splitL_plain (h a (by simp))
    | cons b l =>
      show splitL 44 (a ++ 44 :: joinL (b :: l)) = _
      rw [splitL_cut (h a (by simp)), ih (by simp) (fun y hy => h y (List.mem_cons_of_mem _ hy))]
theorem join_ne (l : List (List UInt8)) (hl : l ≠ []) (h : ∀ a ∈ l, a ≠ []) : joinL l ≠ [] := by
  cases l with
  | nil => exact absurd rfl hl
  | cons a l =>
    cases l with
    | nil => exact h a (by simp)
    | cons b l => show a ++ 44 :: joinL (b :: l) ≠ []; simp
theorem join_no (l : List (List UInt8)) (c : UInt8) (hc : c ≠ 44) (h : ∀ a ∈ l, ∀ x ∈ a, x ≠ c) : ∀ x ∈ joinL l, x ≠ c := by
  induction l with
  | nil => intro x hx; cases hx
  | cons a l ih =>
    cases l with
    | nil => exact h a (by simp)
    | cons b l =>
      intro x hx
      have hx' : x ∈ a ++ 44 :: joinL (b :: l) := hx
      rcases List.mem_append.1 hx' with e | e
      · exact h a (by simp) x e
      · rcases List.mem_cons.1 e with e | e
        · rw [e]; exact fun e2 => hc e2.symm
        · exact ih (fun y hy => h y (List.mem_cons_of_mem _ hy)) x e
theorem listN_join (l : List (Int × Int)) (k : Nat) (hk : k ≤ l.length) : listN l k = joinL ((l.take k).map writtenL) := by
  induction k with
  | zero => rfl
  | succ k ih =>
    have hk' : k < l.length := by omega
    have e1 : listN l (k + 1) = listN l k ++ (if k = 0 then [] else [44]) ++ writtenL (l.getD k (0, 0)) := rfl
    have e2 : (if k = 0 then ([] : List UInt8) else [44]) = if (l.take k).map writtenL = [] then [] else [44] := by
      by_cases e : k = 0
      · subst e; simp
      · rw [if_neg e, if_neg]
        intro h
        have := congrArg List.length h
        rw [List.length_map, List.length_take] at this
        simp only [List.length_nil] at this
        omega
    rw [List.take_succ_eq_append_getElem hk', List.map_append, List.map_cons, List.map_nil, join_snoc, ← ih (by omega), e1, e2, List.getD_eq_getElem?_getD, List.getElem?_eq_getElem hk']
    rfl
theorem list_join (l : List (Int × Int)) : listL l = joinL (l.map writtenL) := by
  have := listN_join l l.length (Nat.le_refl _)
  rw [List.take_length] at this
  exact this
theorem list_no (l : List (Int × Int)) (c : UInt8) (hc : c = 124 ∨ c = 59 ∨ c = 91 ∨ c = 93) : ∀ x ∈ listL l, x ≠ c := by
  rw [list_join]
  refine join_no _ c (by rcases hc with e | e | e | e <;> rw [e] <;> decide) fun a ha => ?_
  obtain ⟨v, _, rfl⟩ := List.mem_map.1 ha
  exact written_no c (by rcases hc with e | e | e | e <;> rw [e] <;> simp)

/-! ### Numbers, values and lists, read again -/
def numL (l : List UInt8) : Nat := l.foldl (fun n x => 10 * n + (x.toNat - 48)) 0
def smallL (l : List UInt8) : Int := if l.all isDig && decide (1 ≤ l.length ∧ l.length ≤ 3) then (numL l : Int) else -1
theorem small_digits (n : Nat) (hn : n ≤ 999) : smallL (digits n) = n := by
  have e : digits (n : Int) = digF 20 n := by unfold digits; rw [if_neg (by omega)]; rfl
  have ha : (digF 20 n).all isDig = true := List.all_eq_true.2 (digF_dig 20 n)
  have hb : ∀ m : Nat, (48 + UInt8.ofNat (m % 10)).toNat - 48 = m % 10 := fun m => by rw [(dig_byte m).2]; omega
  rw [e]
  unfold smallL
  rw [ha]
  by_cases h1 : n / 10 = 0
  · have e1 := digF_last (f := 20) (n := n) (by decide) h1
    rw [e1]
    simp only [List.length_cons, List.length_nil, numL, List.foldl_cons, List.foldl_nil, hb]
    simp
    omega
  · have e1 := digF_more (f := 20) (n := n) (by decide) h1
    by_cases h2 : n / 10 / 10 = 0
    · have e2 := digF_last (f := 19) (n := n / 10) (by decide) h2
      rw [e1, show (20 - 1 : Nat) = 19 from rfl, e2]
      simp only [List.cons_append, List.nil_append, List.length_cons, List.length_nil, numL, List.foldl_cons, List.foldl_nil, hb]
      simp
      omega
    · have e2 := digF_more (f := 19) (n := n / 10) (by decide) h2
      have h3 : n / 10 / 10 / 10 = 0 := by omega
      have e3 := digF_last (f := 18) (n := n / 10 / 10) (by decide) h3
      rw [e1, show (20 - 1 : Nat) = 19 from rfl, e2, show (19 - 1 : Nat) = 18 from rfl, e3]
      simp only [List.cons_append, List.nil_append, List.length_cons, List.length_nil, numL, List.foldl_cons, List.foldl_nil, hb]
      simp
      omega
/-- 'n', '0' (a number) or '#', and the number -/
def readL (l : List UInt8) : UInt8 × Int := if l = [110] then (110, 0) else if 1 < l.length ∧ l.getD 0 0 = 35 then (35, smallL l.tail) else (48, 0)
def absV (v : Int × Int) : UInt8 × Int := if v.1 = 0 then (110, 0) else if v.1 = 1 then (48, 0) else (35, v.2)
theorem read_written {v : Int × Int} (h : v.1 = 0 ∨ v.1 = 1 ∨ (v.1 = 2 ∧ ∃ i : Nat, v.2 = i ∧ i ≤ 999)) : readL (writtenL v) = absV v := by
  unfold writtenL absV
  by_cases h0 : v.1 = 0
  · rw [if_pos h0, if_pos h0]; rfl
  rw [if_neg h0, if_neg h0]
  by_cases h1 : v.1 = 1
  · rw [if_pos h1, if_pos h1]
    unfold readL
    have hb := digits_bytes v.2
    have hx : ∀ x ∈ digits v.2, x ≠ 110 ∧ x ≠ 35 := fun x hx => by
      rcases hb x hx with e | e
      · rw [e]; exact ⟨by decide, by decide⟩
      · exact ⟨dig_not e 110 (by decide), dig_not e 35 (by decide)⟩
    rw [if_neg (fun e => (hx 110 (by rw [e]; simp)).1 rfl), if_neg]
    rintro ⟨h2, h3⟩
    cases e : digits v.2 with
    | nil => rw [e] at h2; simp at h2
    | cons a l =>
      rw [e] at h3
      have h3' : a = 35 := h3
      exact (hx a (by rw [e]; simp)).2 h3'
  · rw [if_neg h1, if_neg h1]
    obtain ⟨_, i, hi, hi9⟩ : v.1 = 2 ∧ ∃ i : Nat, v.2 = i ∧ i ≤ 999 := by
      rcases h with h | h | h
      · exact absurd h h0
      · exact absurd h h1
      · exact h
    unfold readL
    have hne := digits_ne v.2
    rw [if_neg (by intro e; simp at e), if_pos]
    · show ((35 : UInt8), smallL (digits v.2)) = _
      rw [hi, small_digits i hi9]
    · refine ⟨?_, rfl⟩
      cases e : digits v.2 with
      | nil => exact absurd e hne
      | cons a l => simp
def valuesL (l : List UInt8) : List (UInt8 × Int) := if l = [] then [] else (splitL 44 l).map readL
theorem values_list (l : List (Int × Int)) (h : ∀ v ∈ l, v.1 = 0 ∨ v.1 = 1 ∨ (v.1 = 2 ∧ ∃ i : Nat, v.2 = i ∧ i ≤ 999)) : valuesL (listL l) = l.map absV := by
  unfold valuesL
  rw [list_join]
  by_cases hl : l = []
  · subst hl; rfl
  · have h1 : l.map writtenL ≠ [] := by simpa using hl
    rw [if_neg (join_ne _ h1 fun a ha => by obtain ⟨v, _, rfl⟩ := List.mem_map.1 ha; exact written_ne v), split_join _ h1 fun a ha => by obtain ⟨v, _, rfl⟩ := List.mem_map.1 ha; exact written_no 44 (by simp)]
    rw [List.map_map]
    exact List.map_congr_left fun v hv => read_written (h v hv)
/-- of a heap that is as it should be, every value can be read -/
theorem St.Good.readable {s : St} {N : Nat} (g : s.Good N) (hN : N ≤ 99) {v : Int × Int} (h : s.leads v) : v.1 = 0 ∨ v.1 = 1 ∨ (v.1 = 2 ∧ ∃ i : Nat, v.2 = i ∧ i ≤ 999) := by
  rcases h with e | e | ⟨e, i, hi, ha⟩
  · rw [e]; exact .inl rfl
  · exact .inr (.inl e.1)
  · have := g.ne_zero ha.1
    exact .inr (.inr ⟨e, i, hi, by omega⟩)
theorem values_stack {s : St} {N : Nat} (g : s.Good N) (hN : N ≤ 99) : valuesL (listL s.stack) = s.stack.map absV := values_list _ fun v hv => g.readable hN (g.stack v hv)
theorem values_globals {s : St} {N : Nat} (g : s.Good N) (hN : N ≤ 99) : valuesL (listL s.globals) = s.globals.map absV := values_list _ fun v hv => g.readable hN (g.globals v hv)
theorem values_fields {s : St} {N : Nat} (g : s.Good N) (hN : N ≤ 99) (i : Nat) : valuesL (listL (s.ob i).fs) = (s.ob i).fs.map absV := values_list _ fun v hv => g.readable hN (g.fields i v hv)

end Go.Proofs.YtpmkjeihbddfpaaDoor

/- OUR OWN. What a Dump shows: its parts and its records, read again. -/
namespace Go.Proofs.YtpmkjeihbddfpaaDoor
set_option linter.unusedVariables false
set_option linter.unusedSimpArgs false

theorem digits_no (n : Int) (c : UInt8) (hc : c = 124 ∨ c = 59 ∨ c = 44 ∨ c = 91 ∨ c = 93) : ∀ x ∈ digits n, x ≠ c := fun x hx => by
  rcases digits_bytes n x hx with h | h
  · rw [h]; rcases hc with e | e | e | e | e <;> rw [e] <;> decide
  · refine dig_not h c ?_
    rcases hc with e | e | e | e | e <;> rw [e] <;> decide

/-! ### The queue -/
theorem queueN_join (q : List Int) (k : Nat) (hk : k ≤ q.length) : queueN q k = joinL ((q.take k).map digits) := by
  induction k with
  | zero => rfl
  | succ k ih =>
    have hk' : k < q.length := by omega
    have e1 : queueN q (k + 1) = queueN q k ++ (if k = 0 then [] else [44]) ++ digits (q.getD k 0) := rfl
    have e2 : (if k = 0 then ([] : List UInt8) else [44]) = if (q.take k).map digits = [] then [] else [44] := by
      by_cases e : k = 0
      · subst e; simp
      · rw [if_neg e, if_neg]
        intro h
        have := congrArg List.length h
        rw [List.length_map, List.length_take] at this
        simp only [List.length_nil] at this
        omega
    rw [List.take_succ_eq_append_getElem hk', List.map_append, List.map_cons, List.map_nil, join_snoc, ← ih (by omega), e1, e2, List.getD_eq_getElem?_getD, List.getElem?_eq_getElem hk']
    rfl
theorem queue_join (q : List Int) : queueN q q.length = joinL (q.map digits) := by
  have := queueN_join q q.length (Nat.le_refl _)
  rw [List.take_length] at this
  exact this
def numbersL (l : List UInt8) : List (UInt8 × Int) := if l = [] then [] else (splitL 44 l).map fun t => (35, smallL t)
theorem numbers_queue {s : St} {N : Nat} (g : s.Good N) (hN : N ≤ 99) : numbersL (queueN s.queue s.queue.length) = s.queue.map fun b => (35, b) := by
  have hb : ∀ b ∈ s.queue, ∃ i : Nat, b = i ∧ i ≤ 99 := fun b hb => by
    have h0 := g.nat b hb
    refine ⟨b.toNat, by omega, ?_⟩
    have := (g.inq b.toNat).1 (by rw [Int.toNat_of_nonneg h0]; exact hb)
    have := g.ne_zero (g.queued_here this)
    omega
  unfold numbersL
  rw [queue_join]
  by_cases hl : s.queue = []
  · rw [hl]; rfl
  · have h1 : s.queue.map digits ≠ [] := by simpa using hl
    rw [if_neg (join_ne _ h1 fun a ha => by obtain ⟨v, _, rfl⟩ := List.mem_map.1 ha; exact digits_ne v), split_join _ h1 fun a ha => by obtain ⟨v, _, rfl⟩ := List.mem_map.1 ha; exact digits_no v 44 (by simp)]
    rw [List.map_map]
    refine List.map_congr_left fun b hbm => ?_
    obtain ⟨i, rfl, hi⟩ := hb b hbm
    show ((35 : UInt8), smallL (digits (i : Int))) = _
    rw [small_digits i (by omega)]

/-! ### A record -/
/-- without its ';' -/
def bodyL (s : St) (i : Nat) : List UInt8 := if (s.ob i).here then letterL s i ++ 91 :: (listL (s.ob i).fs ++ [93]) else [46]
theorem record_body (s : St) (i : Nat) : recordL s i = bodyL s i ++ [59] := by
  unfold recordL bodyL
  split
  · simp
  · rfl
theorem letter_no (s : St) (i : Nat) (c : UInt8) (hc : c = 124 ∨ c = 59 ∨ c = 91 ∨ c = 93) : ∀ x ∈ letterL s i, x ≠ c := by
  have hd := digits_no (s.count i) c (by rcases hc with e | e | e | e <;> rw [e] <;> simp)
  have hl : ∀ y : UInt8, y = 113 ∨ y = 119 ∨ y = 104 ∨ y = 115 → y ≠ c := fun y hy => by
    rcases hc with e | e | e | e <;> rcases hy with f | f | f | f <;> rw [e, f] <;> decide
  intro x hx
  unfold letterL at hx
  split at hx
  · rcases List.mem_cons.1 hx with e | e
    · exact hl x (.inl e)
    · exact hd x e
  split at hx
  · simp at hx; exact hl x (.inr (.inr (.inr hx)))
  split at hx
  · rcases List.mem_cons.1 hx with e | e
    · exact hl x (.inr (.inl e))
    · exact hd x e
  · rcases List.mem_cons.1 hx with e | e
    · exact hl x (.inr (.inr (.inl e)))
    · exact hd x e
theorem body_no (s : St) (i : Nat) (c : UInt8) (hc : c = 124 ∨ c = 59) : ∀ x ∈ bodyL s i, x ≠ c := by
  intro x hx
  unfold bodyL at hx
  split at hx
  · rcases List.mem_append.1 hx with e | e
    · exact letter_no s i c (by rcases hc with h | h <;> rw [h] <;> simp) x e
    · rcases List.mem_cons.1 e with e | e
      · rw [e]; rcases hc with h | h <;> rw [h] <;> decide
      · rcases List.mem_append.1 e with e | e
        · exact list_no _ c (by rcases hc with h | h <;> rw [h] <;> simp) x e
        · simp at e; rw [e]; rcases hc with h | h <;> rw [h] <;> decide
  · simp at hx; rw [hx]; rcases hc with h | h <;> rw [h] <;> decide
theorem recs_eq (s : St) (k : Nat) : recsTo s k = ((List.range k).map fun i => bodyL s (i + 1) ++ [59]).flatten := by
  induction k with
  | zero => rfl
  | succ k ih =>
    show recsTo s k ++ recordL s (k + 1) = _
    rw [List.range_succ, List.map_append, List.flatten_append, ih, record_body]
    simp
theorem recs_no (s : St) (k : Nat) : ∀ x ∈ recsTo s k, x ≠ 124 := by
  rw [recs_eq]
  intro x hx
  obtain ⟨l, hl, hx⟩ := List.mem_flatten.1 hx
  obtain ⟨i, _, rfl⟩ := List.mem_map.1 hl
  rcases List.mem_append.1 hx with e | e
  · exact body_no s (i + 1) 124 (by simp) x e
  · simp at e; rw [e]; decide
theorem split_bodies (l : List (List UInt8)) (h : ∀ a ∈ l, ∀ x ∈ a, x ≠ 59) : splitL 59 ((l.map (· ++ [59])).flatten) = l ++ [[]] := by
  induction l with
  | nil => rfl
  | cons a l ih =>
    have e : ((a :: l).map (· ++ [59])).flatten = a ++ 59 :: (l.map (· ++ [59])).flatten := by simp
    rw [e, splitL_cut (h a (by simp)), ih fun y hy => h y (List.mem_cons_of_mem _ hy)]
    rfl
theorem split_recs (s : St) (k : Nat) : splitL 59 (recsTo s k) = ((List.range k).map fun i => bodyL s (i + 1)) ++ [[]] := by
  rw [recs_eq, show ((List.range k).map fun i => bodyL s (i + 1) ++ [59]) = ((List.range k).map fun i => bodyL s (i + 1)).map (· ++ [59]) by rw [List.map_map]; rfl]
  refine split_bodies _ fun a ha => ?_
  obtain ⟨i, _, rfl⟩ := List.mem_map.1 ha
  exact body_no s (i + 1) 59 (by simp)
/-- the four parts -/
theorem split_dump (s : St) : splitL 124 (dumpL s) = [recsTo s s.N, queueN s.queue s.queue.length, listL s.stack, listL s.globals] := by
  have hq : ∀ x ∈ queueN s.queue s.queue.length, x ≠ 124 := by
    rw [queue_join]
    refine join_no _ 124 (by decide) fun a ha => ?_
    obtain ⟨v, _, rfl⟩ := List.mem_map.1 ha
    exact digits_no v 124 (by simp)
  have e : dumpL s = recsTo s s.N ++ 124 :: (queueN s.queue s.queue.length ++ 124 :: (listL s.stack ++ 124 :: listL s.globals)) := by
    unfold dumpL
    simp
  rw [e, splitL_cut (recs_no s s.N), splitL_cut hq, splitL_cut (list_no _ 124 (by simp)), splitL_plain (list_no _ 124 (by simp))]

/-! ### A record, read again -/
structure Cell where
  letter : UInt8
  count : Int
  fields : List (UInt8 × Int)
/-- how many bytes ahead of the first '[' -/
def aheadL (l : List UInt8) : Nat := l.findIdx (· == 91)
def blockL (l : List UInt8) : Cell × Bool :=
  if l = [46] then (⟨46, 0, []⟩, true) else
  if aheadL l < 1 ∨ l.length ≤ aheadL l + 1 ∨ l.getD (l.length - 1) 0 ≠ 93 then (⟨0, 0, []⟩, false) else
  if l.getD 0 0 = 115 then (⟨115, 0, valuesL ((l.drop (aheadL l + 1)).take (l.length - 1 - (aheadL l + 1)))⟩, decide (aheadL l = 1)) else
  (⟨l.getD 0 0, smallL ((l.take (aheadL l)).drop 1), valuesL ((l.drop (aheadL l + 1)).take (l.length - 1 - (aheadL l + 1)))⟩, decide (l.getD 0 0 = 113 ∨ l.getD 0 0 = 119 ∨ l.getD 0 0 = 104) && decide (0 ≤ smallL ((l.take (aheadL l)).drop 1)))
/-- what a block shows -/
def cellOf (s : St) (i : Nat) : Cell :=
  if (s.ob i).here then
    (if (s.ob i).queued then ⟨113, s.count i, (s.ob i).fs.map absV⟩ else if (s.ob i).stuck then ⟨115, 0, (s.ob i).fs.map absV⟩ else if s.waits i then ⟨119, s.count i, (s.ob i).fs.map absV⟩ else ⟨104, s.count i, (s.ob i).fs.map absV⟩)
  else ⟨46, 0, []⟩
theorem ahead_eq {a b : List UInt8} (h : ∀ x ∈ a, x ≠ 91) : aheadL (a ++ 91 :: b) = a.length := by
  unfold aheadL
  rw [List.findIdx_append]
  have : a.findIdx (· == 91) = a.length := List.findIdx_eq_length.2 fun x hx => by simpa using h x hx
  rw [this, if_neg (Nat.lt_irrefl _), List.findIdx_cons]
  simp

theorem block_form {y : UInt8} {t f : List UInt8} (hy : y ≠ 91) (ht : ∀ x ∈ t, x ≠ 91) :
    aheadL ((y :: t) ++ 91 :: (f ++ [93])) = t.length + 1 ∧ ((y :: t) ++ 91 :: (f ++ [93])).length = t.length + f.length + 3 ∧ ((y :: t) ++ 91 :: (f ++ [93])).getD 0 0 = y ∧
    ((y :: t) ++ 91 :: (f ++ [93])).getD (((y :: t) ++ 91 :: (f ++ [93])).length - 1) 0 = 93 ∧ (((y :: t) ++ 91 :: (f ++ [93])).take (t.length + 1)).drop 1 = t ∧ (((y :: t) ++ 91 :: (f ++ [93])).drop (t.length + 1 + 1)).take (t.length + f.length + 3 - 1 - (t.length + 1 + 1)) = f := by
  have h1 : ∀ x ∈ y :: t, x ≠ 91 := fun x hx => by
    rcases List.mem_cons.1 hx with e | e
    · rw [e]; exact hy
    · exact ht x e
  have hlen : ((y :: t) ++ 91 :: (f ++ [93])).length = t.length + f.length + 3 := by simp; omega
  refine ⟨by rw [ahead_eq h1]; simp, hlen, rfl, ?_, ?_, ?_⟩
  · have e : (y :: t) ++ 91 :: (f ++ [93]) = ((y :: t) ++ 91 :: f) ++ [93] := by simp
    rw [e, List.getD_eq_getElem?_getD, List.length_append, List.length_singleton, Nat.add_sub_cancel, List.getElem?_append_right (Nat.le_refl _), Nat.sub_self]
    rfl
  · have e : (y :: t) ++ 91 :: (f ++ [93]) = (y :: t) ++ (91 :: (f ++ [93])) := rfl
    rw [e, show t.length + 1 = (y :: t).length by simp, List.take_left]
    rfl
  · have e : (y :: t) ++ 91 :: (f ++ [93]) = ((y :: t) ++ [91]) ++ (f ++ [93]) := by simp
    rw [e, show t.length + 1 + 1 = ((y :: t) ++ [91]).length by simp, List.drop_left]
    have : t.length + f.length + 3 - 1 - ((y :: t) ++ [91]).length = f.length := by rw [List.length_append, List.length_cons, List.length_singleton]; omega
    rw [this, List.take_left]
theorem block_body {s : St} {N : Nat} (g : s.Good N) (hN : N ≤ 99) (i : Nat) : blockL (bodyL s i) = (cellOf s i, true) := by
  have hf := values_fields g hN i
  have hc := g.count_le (i : Int)
  have hsm := small_digits (s.count i) (by omega)
  have hd := digits_no (s.count i) 91 (by simp)
  unfold bodyL cellOf
  by_cases hh : (s.ob i).here = true
  · rw [if_pos hh, if_pos hh]
    -- a letter with its count
    have key : ∀ y : UInt8, y = 113 ∨ y = 119 ∨ y = 104 → blockL ((y :: digits (s.count i)) ++ 91 :: (listL (s.ob i).fs ++ [93])) = (⟨y, s.count i, (s.ob i).fs.map absV⟩, true) := fun y hy => by
      obtain ⟨a1, a2, a3, a4, a5, a6⟩ := block_form (y := y) (t := digits (s.count i)) (f := listL (s.ob i).fs) (by rcases hy with e | e | e <;> rw [e] <;> decide) hd
      unfold blockL
      rw [if_neg (fun e => by have := congrArg List.length e; rw [a2] at this; simp at this), a1, a4, a2, a3, a5, a6, hf, hsm]
      rw [if_neg (by simp; omega), if_neg (by rcases hy with e | e | e <;> rw [e] <;> decide)]
      congr 1
      simp [hy]
    unfold letterL
    by_cases hq : (s.ob i).queued = true
    · rw [if_pos hq, if_pos hq]; exact key 113 (.inl rfl)
    rw [if_neg hq, if_neg hq]
    by_cases hs : (s.ob i).stuck = true
    · rw [if_pos hs, if_pos hs]
      obtain ⟨a1, a2, a3, a4, a5, a6⟩ := block_form (y := 115) (t := []) (f := listL (s.ob i).fs) (by decide) (by simp)
      unfold blockL
      rw [if_neg (fun e => by have := congrArg List.length e; rw [a2] at this; simp at this), a1, a4, a2, a3, a6, hf]
      rw [if_neg (by simp), if_pos rfl]
      simp
    rw [if_neg hs, if_neg hs]
    by_cases hw : s.waits i = true
    · rw [if_pos hw, if_pos hw]; exact key 119 (.inr (.inl rfl))
    · rw [if_neg hw, if_neg hw]; exact key 104 (.inr (.inr rfl))
  · rw [if_neg hh, if_neg hh]; rfl

end Go.Proofs.YtpmkjeihbddfpaaDoor

/- OUR OWN. What a Dump shows of a heap that is as it should be (Counted). -/
namespace Go.Proofs.YtpmkjeihbddfpaaDoor
set_option linter.unusedVariables false
set_option linter.unusedSimpArgs false

def refsP (l : List (UInt8 × Int)) (b : Int) : Nat := l.countP fun v => v.1 == 35 && v.2 == b
theorem refsP_abs {s : St} {N : Nat} (g : s.Good N) (hN : N ≤ 99) {l : List (Int × Int)} (h : ∀ v ∈ l, s.leads v) (b : Int) : refsP (l.map absV) b = refsN l b := by
  unfold refsP refsN
  rw [List.countP_map]
  refine List.countP_congr fun v hv => ?_
  have e : ((fun v : UInt8 × Int => v.1 == 35 && v.2 == b) ∘ absV) v = (v.1 == 2 && v.2 == b) := by
    show ((absV v).1 == 35 && (absV v).2 == b) = _
    rcases g.readable hN (h v hv) with e | e | ⟨e, _⟩
    · have : absV v = (110, 0) := by unfold absV; rw [if_pos e]
      rw [this, e]; rfl
    · have : absV v = (48, 0) := by unfold absV; rw [if_neg (by omega), if_pos e]
      rw [this, e]; rfl
    · have : absV v = (35, v.2) := by unfold absV; rw [if_neg (by omega), if_neg (by omega)]
      rw [this, e]; rfl
  rw [e]
theorem count_one {l : List Int} {x : Int} (h : l.Nodup) (hx : x ∈ l) : l.count x = 1 := by
  induction l with
  | nil => cases hx
  | cons a l ih =>
    obtain ⟨n1, n2⟩ := List.nodup_cons.1 h
    rw [List.count_cons]
    by_cases e : a = x
    · subst e
      rw [List.count_eq_zero.2 n1]; simp
    · have hx' : x ∈ l := by
        rcases List.mem_cons.1 hx with e2 | e2
        · exact absurd e2.symm e
        · exact e2
      rw [ih n2 hx']
      simp [e]
theorem refsP_queue {s : St} {N : Nat} (g : s.Good N) (i : Nat) : refsP (s.queue.map fun b => ((35 : UInt8), b)) i = if (s.ob i).queued then 1 else 0 := by
  have e : refsP (s.queue.map fun b => ((35 : UInt8), b)) i = s.queue.count (i : Int) := by
    unfold refsP
    rw [List.countP_map, List.count]
    refine List.countP_congr fun v _ => ?_
    show (((35 : UInt8) == 35 && v == (i : Int)) = true) ↔ _
    simp
  rw [e]
  cases hq : (s.ob i).queued with
  | true => rw [if_pos rfl]; exact count_one g.once ((g.inq i).2 hq)
  | false =>
    rw [if_neg (by simp)]
    exact List.count_eq_zero.2 fun hm => by have := (g.inq i).1 hm; rw [hq] at this; cases this
/-- all fields that are shown -/
theorem fields_sum {s : St} {N : Nat} (g : s.Good N) (hN : N ≤ 99) (b : Int) : ((List.range N).map fun i => refsP (cellOf s (i + 1)).fields b).sum = s.count b := by
  unfold St.count
  congr 1
  refine List.ext_getElem? fun i => ?_
  rw [List.getElem?_map, List.getElem?_map, List.getElem?_tail]
  by_cases hi : i < N
  · have hl : i + 1 < s.objs.length := by rw [g.len]; omega
    rw [List.getElem?_range hi, List.getElem?_eq_getElem hl]
    simp only [Option.map_some]
    congr 1
    have eo : s.ob (i + 1) = s.objs[i + 1] := ob_of (List.getElem?_eq_getElem hl)
    rw [← eo]
    unfold cellOf obCount
    have hf := refsP_abs g hN (g.fields (i + 1)) b
    by_cases hh : (s.ob (i + 1)).here = true
    · rw [if_pos hh, if_pos hh]
      split
      · exact hf
      · split
        · exact hf
        · split <;> exact hf
    · rw [if_neg hh, if_neg hh]; rfl
  · rw [List.getElem?_eq_none (by simp; omega), List.getElem?_eq_none (by rw [g.len]; omega)]; rfl
/-- what is in the queue no value has -/
theorem St.Good.queued_bare {s : St} {N : Nat} (g : s.Good N) {i : Nat} (h : (s.ob i).queued = true) : s.count i = 0 ∧ refsN s.stack i = 0 ∧ refsN s.globals i = 0 := by
  have na : ¬ s.alive i := fun ha => by have := ha.2; rw [h] at this; cases this
  have nr : ∀ l : List (Int × Int), (∀ v ∈ l, s.leads v) → refsN l i = 0 := fun l hl => by
    rcases Nat.eq_zero_or_pos (refsN l i) with e | e
    · exact e
    · obtain ⟨v, hv, h1, h2⟩ := refs_some e
      obtain ⟨j, hj, ha⟩ := leads_ref (hl v hv) h1
      have : j = i := by omega
      rw [this] at ha; exact absurd ha na
  exact ⟨g.count_gone na, nr _ g.stack, nr _ g.globals⟩
/-- the letter fits the count, the queue and the roots -/
def Exact (letter : UInt8) (count : Int) (q st gl n : Nat) : Prop :=
  (letter ≠ 115 → count = n) ∧ (letter = 46 ∨ letter = 115 → q = 0) ∧ (letter = 113 → q = 1 ∧ n = 0 ∧ st + gl = 0) ∧ (letter = 119 → q = 0 ∧ n = 0) ∧ (letter = 104 → q = 0 ∧ 0 < n) ∧ (letter = 46 ∨ letter = 115 ∨ letter = 113 ∨ letter = 119 ∨ letter = 104)
theorem exact_of {s : St} {N : Nat} (g : s.Good N) (hN : N ≤ 99) (i : Nat) :
    Exact (cellOf s i).letter (cellOf s i).count (refsP (s.queue.map fun b => ((35 : UInt8), b)) i) (refsP (s.stack.map absV) i) (refsP (s.globals.map absV) i) (s.count i) := by
  rw [refsP_queue g, refsP_abs g hN g.stack, refsP_abs g hN g.globals]
  unfold cellOf
  by_cases hh : (s.ob i).here = true
  · rw [if_pos hh]
    by_cases hq : (s.ob i).queued = true
    · obtain ⟨b1, b2, b3⟩ := g.queued_bare hq
      rw [if_pos hq, if_pos hq]
      exact ⟨fun _ => rfl, (fun h => by rcases h with h | h <;> simp at h), fun _ => ⟨rfl, b1, by rw [b2, b3]⟩, (fun h => by simp at h), (fun h => by simp at h), .inr (.inr (.inl rfl))⟩
    rw [if_neg hq, if_neg hq]
    by_cases hs : (s.ob i).stuck = true
    · rw [if_pos hs]
      exact ⟨fun h => absurd rfl h, fun _ => rfl, (fun h => by simp at h), (fun h => by simp at h), (fun h => by simp at h), .inr (.inl rfl)⟩
    rw [if_neg hs]
    by_cases hw : s.waits i = true
    · obtain ⟨_, _, hc⟩ := waits_iff.1 hw
      rw [if_pos hw]
      exact ⟨fun _ => rfl, (fun h => by rcases h with h | h <;> simp at h), (fun h => by simp at h), fun _ => ⟨rfl, hc⟩, (fun h => by simp at h), .inr (.inr (.inr (.inl rfl)))⟩
    · rw [if_neg hw]
      refine ⟨fun _ => rfl, (fun h => by rcases h with h | h <;> simp at h), (fun h => by simp at h), (fun h => by simp at h), fun _ => ⟨rfl, ?_⟩, .inr (.inr (.inr (.inr rfl)))⟩
      rcases Nat.eq_zero_or_pos (s.count i) with e | e
      · exact absurd (waits_iff.2 ⟨⟨hh, by simpa using hq⟩, by simpa using hs, e⟩) hw
      · exact e
  · rw [if_neg hh]
    have hf : (s.ob i).here = false := by simpa using hh
    have hq : (s.ob i).queued = false := by rw [g.gone i hf]; rfl
    have hc : s.count i = 0 := g.count_gone fun ha => hh ha.1
    rw [hq]
    exact ⟨fun _ => by rw [hc]; rfl, fun _ => rfl, (fun h => by simp at h), (fun h => by simp at h), (fun h => by simp at h), .inl rfl⟩

/-! ### How many blocks have a letter -/
def lettersP (s : St) (N : Nat) (c : UInt8) : Nat := countTo (fun b => (cellOf s b).letter == c) N
theorem letter_free {s : St} {N : Nat} (g : s.Good N) : lettersP s N 46 = countTo s.frees N := by
  refine countTo_congr fun b _ _ => ?_
  unfold cellOf St.frees
  cases hh : (s.ob b).here with
  | false => rfl
  | true =>
    rw [if_pos rfl]
    cases (s.ob b).queued with
    | true => rfl
    | false =>
      cases (s.ob b).stuck with
      | true => rfl
      | false => cases s.waits b <;> rfl
theorem letter_wait {s : St} {N : Nat} (g : s.Good N) : lettersP s N 119 = countTo s.waits N := by
  refine countTo_congr fun b _ _ => ?_
  unfold cellOf
  cases hw : s.waits b with
  | true =>
    obtain ⟨a, hs, _⟩ := waits_iff.1 hw
    rw [a.1, a.2, hs]; rfl
  | false =>
    cases (s.ob b).here with
    | false => rfl
    | true => cases (s.ob b).queued <;> cases (s.ob b).stuck <;> rfl
theorem letter_stuck {s : St} {N : Nat} (g : s.Good N) : lettersP s N 115 = countTo s.stucks N := by
  refine countTo_congr fun b _ _ => ?_
  unfold cellOf St.stucks
  cases hh : (s.ob b).here with
  | false => rfl
  | true =>
    cases hq : (s.ob b).queued with
    | true => rw [g.unstuck b hq]; rfl
    | false =>
      cases hs : (s.ob b).stuck with
      | true => rfl
      | false => cases s.waits b <;> rfl
theorem letter_queued {s : St} {N : Nat} (g : s.Good N) : lettersP s N 113 = s.queue.length := by
  have e : lettersP s N 113 = countTo (fun b => (s.ob b).queued) N := countTo_congr fun b _ _ => by
    unfold cellOf
    cases hq : (s.ob b).queued with
    | true => rw [g.queued_here hq]; rfl
    | false =>
      cases (s.ob b).here with
      | false => rfl
      | true => cases (s.ob b).stuck <;> cases s.waits b <;> rfl
  rw [e, countTo_filter]
  have n1 : (s.queue.map Int.toNat).Nodup := by
    rw [List.nodup_iff_pairwise_ne, List.pairwise_map]
    refine List.Pairwise.imp_of_mem (fun {a b} ha hb hne e => hne ?_) g.once
    have := g.nat a ha; have := g.nat b hb
    omega
  have n2 : (((List.range N).map (· + 1)).filter fun b => (s.ob b).queued).Nodup := by
    have nd : ((List.range N).map (· + 1)).Nodup := by
      rw [List.nodup_iff_pairwise_ne, List.pairwise_map]
      exact List.nodup_range.imp fun hne e => hne (by omega)
    exact nd.filter _
  have h1 := nodup_le n1 (l' := ((List.range N).map (· + 1)).filter fun b => (s.ob b).queued) fun x hx => by
    obtain ⟨b, hb, rfl⟩ := List.mem_map.1 hx
    have h0 := g.nat b hb
    have hq := (g.inq b.toNat).1 (by rw [Int.toNat_of_nonneg h0]; exact hb)
    have hz := g.ne_zero (g.queued_here hq)
    exact List.mem_filter.2 ⟨List.mem_map.2 ⟨b.toNat - 1, by simp; omega, by omega⟩, hq⟩
  have h2 := nodup_le n2 (l' := s.queue.map Int.toNat) fun x hx => by
    obtain ⟨_, hq⟩ := List.mem_filter.1 hx
    exact List.mem_map.2 ⟨(x : Int), (g.inq x).2 hq, by simp⟩
  rw [List.length_map] at h1 h2
  omega
theorem letter_extra {s : St} {N : Nat} (g : s.Good N) : countTo (fun b => (cellOf s b).letter == 104 && decide (7 < (cellOf s b).count)) N = countTo s.extra N := by
  refine countTo_congr fun b _ _ => ?_
  unfold cellOf St.extra
  cases hh : (s.ob b).here with
  | false => rfl
  | true =>
    rw [if_pos rfl]
    cases hq : (s.ob b).queued with
    | true =>
      have := (g.queued_bare hq).1
      rw [this]; simp
    | false =>
      rw [if_neg (by simp)]
      cases hs : (s.ob b).stuck with
      | true => rfl
      | false =>
        rw [if_neg (by simp)]
        cases hw : s.waits b with
        | true =>
          have := (waits_iff.1 hw).2.2
          rw [this]; simp
        | false =>
          rw [if_neg (by simp)]
          show (true && decide ((7 : Int) < (s.count b : Int))) = (true && true && decide (7 < s.count b))
          rw [show decide ((7 : Int) < (s.count b : Int)) = decide (7 < s.count b) from decide_eq_decide.2 (by omega)]
          simp
/-- Gauge is what the Dump shows -/
theorem gauge_shown {s : St} {N : Nat} (g : s.Good N) : gaugeS s = (lettersP s N 46, lettersP s N 119, lettersP s N 113, countTo (fun b => (cellOf s b).letter == 104 && decide (7 < (cellOf s b).count)) N, lettersP s N 115) := by
  unfold gaugeS St.extras
  rw [g.sN, letter_free g, letter_wait g, letter_queued g, letter_extra g, letter_stuck g]

end Go.Proofs.YtpmkjeihbddfpaaDoor

