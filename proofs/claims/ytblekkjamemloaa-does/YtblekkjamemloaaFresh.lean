/- OUR OWN. Fresh. -/
import Derived.Test.YtblekkjamemloaaBase
namespace Go.Proofs.Ytblekkjamemloaa
open Go.RowKit

theorem infoObject : (Try.prog.info? 81).map (fun i => (i.zero, i.size, i.bytes)) = some (some (.agg #[.bool false, .slice none 0 0, .bool false, .bool false]), 4, 40) := by kernel_rfl
theorem infoRValue : (Try.prog.info? 96).map (fun i => (i.zero, i.size, i.bytes)) = some (some (.agg #[.int .i64 0, .int .i64 0]), 2, 16) := by kernel_rfl

def freeCells (k : Nat) : List Value := (List.replicate k RObj.free).flatMap RObj.cells
theorem freeCells_succ (k : Nat) : freeCells (k + 1) = freeCells k ++ [.bool false, .slice none 0 0, .bool false, .bool false] := by
  simp [freeCells, List.replicate_succ', RObj.cells, RObj.free]
def nilCells (k : Nat) : List Value := (List.replicate k ((0, 0) : Int × Int)).flatMap valCells
theorem nilCells_succ (k : Nat) : nilCells (k + 1) = nilCells k ++ [.int .i64 0, .int .i64 0] := by
  simp [nilCells, List.replicate_succ', valCells]

/-- the heap's own block while it is being made -/
def mkHead (b s u z o : Int) (vB vG : Value) : Obj :=
  .cells #[.int .i64 b, .int .i64 s, .int .i64 u, .int .i64 z, .int .i64 o, vB, .slice none 0 0, .slice none 0 0, vG] 64

/-- what holds in the first loop, behind k rounds -/
structure Made1 (w wr : World) (b s u z o : Int) (vB : Value) (k : Nat) : Prop where
  head : wr.heap[w.heap.size]? = some (mkHead b s u z o vB (.slice none 0 0))
  row : wr.ownsRow (w.heap.size + 1) 81 4 vB k (freeCells k)
  below : Below w.heap.size w wr

structure Made2 (w wr : World) (b s u z o : Int) (vB vG : Value) (n k : Nat) : Prop where
  head : wr.heap[w.heap.size]? = some (mkHead b s u z o vB vG)
  row : wr.ownsRow (w.heap.size + 1) 81 4 vB n (freeCells n)
  rowG : wr.ownsRow (w.heap.size + 1) 96 2 vG k (nilCells k)
  apart : ∀ g, vB.ownBlock = some g → vG.ownBlock ≠ some g
  below : Below w.heap.size w wr

theorem Made1.start (w : World) (b s u z o : Int) : Made1 w (w.alloc (mkHead b s u z o (.slice none 0 0) (.slice none 0 0))) b s u z o (.slice none 0 0) 0 :=
  ⟨heap_alloc_new _ _, World.ownsRow_nil _ _ _ _, (Below.refl _ _).alloc (Nat.le_refl _) _⟩

theorem Made1.step {w wr w1 : World} {b s u z o : Int} {vB : Value} {k g cap : Nat} {ob : Obj} (h : Made1 w wr b s u z o vB k)
    (hown : w1.ownsRow (w.heap.size + 1) 81 4 (.slice (some ⟨g, 0, none⟩) (k + 1) cap) (k + 1) (freeCells k ++ [.bool false, .slice none 0 0, .bool false, .bool false]))
    (hgr : (wr.alloc ob).grownBy w1 vB.ownBlock) :
    Made1 w (w1.setCell ⟨w.heap.size, 5, none⟩ (.slice (some ⟨g, 0, none⟩) (k + 1) cap)) b s u z o (.slice (some ⟨g, 0, none⟩) (k + 1) cap) (k + 1) := by
  have hs := lt_of_heap h.head
  have hgb := own_lt hown (g := g) rfl
  have hne : some w.heap.size ≠ vB.ownBlock := fun e => by have := own_lt h.row e.symm; omega
  have hh : w1.heap[w.heap.size]? = some (mkHead b s u z o vB (.slice none 0 0)) := by
    rw [hgr.block _ (by simp; omega) hne, hao hs]; exact h.head
  refine ⟨?_, ?_, ?_⟩
  · rw [heap_setCell_at hh]; rfl
  · rw [freeCells_succ]
    exact ownsRow_setCell_below hown (by simp) _
  · refine ((h.below.alloc (by omega) ob).grown hgr (by simp; omega) (fun j hj => by have := own_lt h.row hj; omega)).setCell (by simp) _

theorem Made1.turn {w wr : World} {b s u z o : Int} {vB : Value} {n : Nat} (h : Made1 w wr b s u z o vB n) : Made2 w wr b s u z o vB (.slice none 0 0) n 0 :=
  ⟨h.head, h.row, World.ownsRow_nil _ _ _ _, fun _ _ => by simp [Value.ownBlock], h.below⟩

theorem Made2.step {w wr w1 : World} {b s u z o : Int} {vB vG : Value} {n k g cap : Nat} {ob : Obj} (h : Made2 w wr b s u z o vB vG n k)
    (hown : w1.ownsRow (w.heap.size + 1) 96 2 (.slice (some ⟨g, 0, none⟩) (k + 1) cap) (k + 1) (nilCells k ++ [.int .i64 0, .int .i64 0]))
    (hgr : (wr.alloc ob).grownBy w1 vG.ownBlock) (hat : vG.ownBlock = some g ∨ g = wr.heap.size + 1) :
    Made2 w (w1.setCell ⟨w.heap.size, 8, none⟩ (.slice (some ⟨g, 0, none⟩) (k + 1) cap)) b s u z o vB (.slice (some ⟨g, 0, none⟩) (k + 1) cap) n (k + 1) := by
  have hs := lt_of_heap h.head
  have hne : some w.heap.size ≠ vG.ownBlock := fun e => by have := own_lt h.rowG e.symm; omega
  have hh : w1.heap[w.heap.size]? = some (mkHead b s u z o vB vG) := by
    rw [hgr.block _ (by simp; omega) hne, hao hs]; exact h.head
  refine ⟨?_, ?_, ?_, ?_, ?_⟩
  · rw [heap_setCell_at hh]; rfl
  · refine ownsRow_setCell_below (own_carry h.row fun j hj => ?_) (by simp) _
    have hj1 := own_lt h.row hj
    rw [hgr.block _ (by simp; omega) (fun e => h.apart j hj e.symm), hao (by omega)]
  · rw [nilCells_succ]
    exact ownsRow_setCell_below hown (by simp) _
  · intro j hj e
    simp [Value.ownBlock] at e
    subst e
    have hj1 := own_lt h.row hj
    rcases hat with hat | hat
    · exact h.apart _ hj hat
    · omega
  · refine ((h.below.alloc (by omega) ob).grown hgr (by simp; omega) (fun j hj => by have := own_lt h.rowG hj; omega)).setCell (by simp) _

def freshM (b s g u z o : Nat) (vB vG : Value) : RefM :=
  { most := b, deep := s, budget := u, zero := z, over := o, vB := vB, vQ := .slice none 0 0, vS := .slice none 0 0, vG := vG, objs := List.replicate (b + 1) RObj.free, queue := [], stack := [], globals := List.replicate g (0, 0) }

theorem freshM_foot (b s g u z o : Nat) (vB vG : Value) : (freshM b s g u z o vB vG).foot = [vB, vG].filterMap Value.ownBlock := by
  have h : ∀ n, (List.replicate n (Value.slice none 0 0)).filterMap Value.ownBlock = [] := fun n => by
    induction n with
    | zero => rfl
    | succ n ih => rw [List.replicate_succ, List.filterMap_cons]; exact ih
  simp only [RefM.foot, freshM, List.filterMap_append, List.map_replicate, RObj.free, h, List.append_nil]
  simp only [List.filterMap_cons, List.filterMap_nil, Value.ownBlock]

theorem Made2.refAt {w wr : World} {b s g u z o : Nat} {vB vG : Value} (h : Made2 w wr b s u z o vB vG (b + 1) g) : RefAt wr w.heap.size (freshM b s g u z o vB vG) := by
  refine ⟨h.head, ?_, own_nil, own_nil, ?_, ?_, ?_⟩
  · have := own_base h.row (Nat.zero_le _)
    simpa [freshM, freeCells] using this
  · have := own_base h.rowG (Nat.zero_le _)
    simpa [freshM, nilCells] using this
  · intro x hx
    have : x = RObj.free := by simp [freshM] at hx; exact hx
    subst this
    exact own_nil
  · rw [freshM_foot]
    have hB : ∀ j, vB.ownBlock = some j → w.heap.size + 1 ≤ j := fun j hj => (own_lt h.row hj).1
    have hG : ∀ j, vG.ownBlock = some j → w.heap.size + 1 ≤ j := fun j hj => (own_lt h.rowG hj).1
    have hap := h.apart
    cases e1 : vB.ownBlock with
    | none =>
      cases e2 : vG.ownBlock with
      | none => simp [e1, e2]
      | some j2 => have := hG _ e2; simp [e1, e2]; omega
    | some j1 =>
      have := hB _ e1
      cases e2 : vG.ownBlock with
      | none => simp [e1, e2]; omega
      | some j2 => have := hG _ e2; have := hap _ e1; simp [e1, e2] at *; omega

theorem Made2.foot {w wr : World} {b s g u z o : Nat} {vB vG : Value} (h : Made2 w wr b s u z o vB vG (b + 1) g) : ∀ x ∈ w.heap.size :: (freshM b s g u z o vB vG).foot, w.heap.size ≤ x := by
  intro x hx
  rw [freshM_foot] at hx
  rcases List.mem_cons.1 hx with rfl | hx
  · exact Nat.le_refl _
  · obtain ⟨v, hv, hx'⟩ := List.mem_filterMap.1 hx
    simp at hv
    rcases hv with rfl | rfl
    · have := (own_lt h.row hx').1; omega
    · have := (own_lt h.rowG hx').1; omega

set_option maxHeartbeats 400000 in
theorem fresh_any (b s g u z o : Nat) (w : World) (hb : b ≤ 99) (hg : g ≤ 8) :
    Calls Try.prog 53 #[.int .i64 b, .int .i64 s, .int .i64 g, .int .i64 u, .int .i64 z, .int .i64 o] w
      fun e w' => e = .returned (.pointer (some ⟨w.heap.size, 0, none⟩)) ∧ ∃ vB vG, Made2 w w' b s u z o vB vG (b + 1) g := by
  obtain ⟨i0, hi, hz0, hz1, hz2⟩ := info_parts infoObject
  obtain ⟨i1, hi1, hy0, hy1, hy2⟩ := info_parts infoRValue
  go_enter Try.func53, Try.ntmps53
  go_wp2
  go_loopw [14] (fun i wr => ∃ k : Nat, k ≤ b + 1 ∧ i = .int .i64 k ∧ ∃ vB, Made1 w wr b s u z o vB k) (fun i _ => b + 1 - (intOf i).toNat)
  case atStart => exact ⟨0, by omega, rfl, _, Made1.start w b s u z o⟩
  case round =>
    obtain ⟨k, hk, rfl, vB, hm⟩ := hrel
    by_cases hlt : k ≤ b
    · have hcell : wr.cell? ⟨w.heap.size, 5, none⟩ = some vB := cell_of_heap hm.head rfl
      go_wp2_with (at_builtin; refine wpList_append_lies _ rfl (.tmp 32) (.tmp 34) 61 rfl (w.heap.size + 1) 81 i0 _ 4 40 Try.underlying61 hi hz0 hz1 hz2 rfl (by decide) _ _ _ rfl (hm.row.alloc _) ⟨wr.heap.size, 0, none⟩ 1 1 [.bool false, .slice none 0 0, .bool false, .bool false] rfl rfl ?c1 ?c2 (by decide) ?c3 ?c4 ?c5 (wr.heap.size + 1) (by simp) ?_)
      case c1 => exact news_new _ [.bool false, .slice none 0 0, .bool false, .bool false] _
      case c2 => intro u hu; simp at hu; rcases hu with rfl | rfl | rfl <;> rfl
      case c3 => unfold maxLen; omega
      case c4 => omega
      case c5 => have := lt_of_heap hm.head; simp; omega
      intro g' cap w1 hown hgr _ _
      have hm' := hm.step hown hgr
      have hf : w1.frozen? ⟨w.heap.size, 5, none⟩ = false := by
        have hs := lt_of_heap hm.head
        have hne : some w.heap.size ≠ vB.ownBlock := fun e => by have := own_lt hm.row e.symm; omega
        have hh : w1.heap[w.heap.size]? = some (mkHead b s u z o vB (.slice none 0 0)) := by
          rw [hgr.block _ (by simp; omega) hne, hao hs]; exact hm.head
        exact frozen_of_heap hh
      have hcell1 : w1.cell? ⟨w.heap.size, 5, none⟩ = some vB := by
        have hs := lt_of_heap hm.head
        have hne : some w.heap.size ≠ vB.ownBlock := fun e => by have := own_lt hm.row e.symm; omega
        have hh : w1.heap[w.heap.size]? = some (mkHead b s u z o vB (.slice none 0 0)) := by
          rw [hgr.block _ (by simp; omega) hne, hao hs]; exact hm.head
        exact cell_of_heap hh rfl
      clear hown hgr hcell hm
      go_wp2
      go_roundw
      case rel => exact ⟨k + 1, by omega, by go_num, _, hm'⟩
      case measure => simp [intOf]; omega
    · have hkb : k = b + 1 := by omega
      have hm2 : Made2 w wr b s u z o vB (.slice none 0 0) (b + 1) 0 := (hkb ▸ hm).turn
      clear hm hkb
      go_wp2
      go_loopw [15] (fun i wr => ∃ j : Nat, j ≤ g ∧ i = .int .i64 j ∧ ∃ vG, Made2 w wr b s u z o vB vG (b + 1) j) (fun i _ => g - (intOf i).toNat)
      case atStart => exact ⟨0, by omega, rfl, _, hm2⟩
      case round =>
        rename_i wr0 _ _ _
        clear hm2
        obtain ⟨j, hj, rfl, vG, hm⟩ := hrel
        by_cases hlt2 : j < g
        · have hcell : wr.cell? ⟨w.heap.size, 8, none⟩ = some vG := cell_of_heap hm.head rfl
          go_wp2_with (at_builtin; refine wpList_append_lies _ rfl (.tmp 47) (.tmp 49) 62 rfl (w.heap.size + 1) 96 i1 _ 2 16 Try.underlying62 hi1 hy0 hy1 hy2 rfl (by decide) _ _ _ rfl (hm.rowG.alloc _) ⟨wr.heap.size, 0, none⟩ 1 1 [.int .i64 0, .int .i64 0] rfl rfl ?c1 ?c2 (by decide) ?c3 ?c4 ?c5 (wr.heap.size + 1) (by simp) ?_)
          case c1 => exact news_new _ [.int .i64 0, .int .i64 0] _
          case c2 => intro u hu; simp at hu; subst hu; rfl
          case c3 => unfold maxLen; omega
          case c4 => omega
          case c5 => have := lt_of_heap hm.head; simp; omega
          intro g' cap w1 hown hgr hat _
          have hm' := hm.step hown hgr hat
          have hh : w1.heap[w.heap.size]? = some (mkHead b s u z o vB vG) := by
            have hs := lt_of_heap hm.head
            have hne : some w.heap.size ≠ vG.ownBlock := fun e => by have := own_lt hm.rowG e.symm; omega
            rw [hgr.block _ (by simp; omega) hne, hao hs]; exact hm.head
          have hf : w1.frozen? ⟨w.heap.size, 8, none⟩ = false := frozen_of_heap hh
          have hcell1 : w1.cell? ⟨w.heap.size, 8, none⟩ = some vG := cell_of_heap hh rfl
          clear hown hgr hcell hm hat hh
          go_wp2
          go_roundw
          case rel => exact ⟨j + 1, by omega, by go_num, _, hm'⟩
          case measure => simp [intOf]; omega
        · have hjg : j = g := by omega
          subst hjg
          go_wp2
          go_ret
          exact ⟨rfl, _, _, hm⟩
end Go.Proofs.Ytblekkjamemloaa
