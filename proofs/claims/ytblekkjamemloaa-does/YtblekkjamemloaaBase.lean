/- OUR OWN. What the walks share: small facts on worlds, closed facts of the program. -/
import Derived.Test.YtblekkjamemloaaRows
import Derived.WalkKit
import Derived.WalkSpells
import Derived.WalkLawsBesides
import Derived.Deep.QuietTactic
import Derived.BigQuiet
import Derived.Deep.AppendLies
namespace Go.Proofs.Ytblekkjamemloaa
open Go.RowKit

/-- What the document calls a configuration. -/
def cfgB (b s g u z o : Int) : Bool :=
  decide (1 ≤ b ∧ b ≤ 99 ∧ 1 ≤ s ∧ s ≤ 16 ∧ 0 ≤ g ∧ g ≤ 8 ∧ 1 ≤ u ∧ u ≤ 99 ∧ s + g < z ∧ z ≤ 99 ∧ 0 ≤ o ∧ o ≤ 9)

theorem ret_int {k : IntKind} {a b : Int} (h : a = b) : Ending.returned (.int k a) = .returned (.int k b) := by rw [h]
theorem ret_bool {a b : Bool} (h : a = b) : Ending.returned (.bool a) = .returned (.bool b) := by rw [h]

def inB (n l m : Int) : Bool := decide (l ≤ n ∧ n ≤ m)

theorem within_yes (n l m : Int) (w : World) (h : inB n l m = true) :
    Calls Try.prog 62 #[.int .i64 n, .int .i64 l, .int .i64 m] w fun e w' => e = .returned (.bool true) ∧ w' = w := by
  have ⟨h1, h2⟩ : l ≤ n ∧ n ≤ m := by simpa [inB] using h
  clear h
  go_enter Try.func62, Try.ntmps62
  go_wp2
  go_ret
  exact ⟨rfl, rfl⟩

theorem within_no (n l m : Int) (w : World) (h : inB n l m = false) :
    Calls Try.prog 62 #[.int .i64 n, .int .i64 l, .int .i64 m] w fun e w' => e = .returned (.bool false) ∧ w' = w := by
  have h0 : ¬ (l ≤ n ∧ n ≤ m) := by simpa [inB] using h
  clear h
  by_cases h1 : l ≤ n
  · have h2 : ¬ n ≤ m := fun h => h0 ⟨h1, h⟩
    clear h0
    go_enter Try.func62, Try.ntmps62
    go_wp2
    go_ret
    exact ⟨rfl, rfl⟩
  · clear h0
    go_enter Try.func62, Try.ntmps62
    go_wp2
    go_ret
    exact ⟨rfl, rfl⟩

/-! ### Blocks that are known whole -/
theorem heap_setCell_at {w : World} {b i : Nat} {c : Array Value} {e : TypeId} {fr : Nat × Nat} (h : w.heap[b]? = some (.cells c e fr)) (v : Value) :
    (w.setCell ⟨b, i, none⟩ v).heap[b]? = some (.cells (c.setIfInBounds i v) e fr) := by
  simp [World.setCell, Array.getElem?_modify, h]

theorem cell_of_heap {w : World} {b i : Nat} {c : Array Value} {e : TypeId} {fr : Nat × Nat} {v : Value} (h : w.heap[b]? = some (.cells c e fr)) (hi : c[i]? = some v) :
    w.cell? ⟨b, i, none⟩ = some v := by simp [World.cell?, h, hi]

theorem frozen_of_heap {w : World} {b i : Nat} {c : Array Value} {e : TypeId} (h : w.heap[b]? = some (.cells c e (0, 0))) : w.frozen? ⟨b, i, none⟩ = false := by
  simp [World.frozen?, h]

theorem lt_of_heap {w : World} {b : Nat} {o : Obj} (h : w.heap[b]? = some o) : b < w.heap.size := by
  rcases Nat.lt_or_ge b w.heap.size with h1 | h1
  · exact h1
  · rw [Array.getElem?_eq_none h1] at h; cases h

theorem hao {w : World} {o : Obj} {k : Nat} (h : k < w.heap.size) : (w.alloc o).heap[k]? = w.heap[k]? := Below.heap_alloc _ _ _ h

theorem news_new (w : World) (cs : List Value) (t : TypeId) : ∀ j u, cs[j]? = some u → (w.alloc (.cells cs.toArray t)).cell? ((⟨w.heap.size, 0, none⟩ : Addr).add j) = some u :=
  World.news_of_block (cs := cs.toArray) (fr := (0, 0)) (heap_alloc_new w _)

/-- nothing old has turned but the blocks of F -/
structure Off (F : List Nat) (w w' : World) : Prop where
  os : w'.os = w.os
  tape : w'.tape = w.tape
  output : w'.output = w.output
  size : w.heap.size ≤ w'.heap.size
  block : ∀ k, k < w.heap.size → k ∉ F → w'.heap[k]? = w.heap[k]?

theorem Off.of_below {F : List Nat} {w w' : World} (h : Below w.heap.size w w') : Off F w w' := ⟨h.os, h.tape, h.output, h.size, fun k hk _ => h.block k hk⟩
theorem Off.below {F : List Nat} {B : Nat} {w w' : World} (h : Off F w w') (hB : B ≤ w.heap.size) (hF : ∀ g ∈ F, B ≤ g) : Below B w w' :=
  ⟨h.os, h.tape, h.output, h.size, fun k hk => h.block k (by omega) fun e => by have := hF k e; omega⟩
theorem Off.trans {F : List Nat} {a b c : World} (h : Off F a b) (k : Off F b c) : Off F a c :=
  ⟨k.os.trans h.os, k.tape.trans h.tape, k.output.trans h.output, Nat.le_trans h.size k.size, fun i hi hF => (k.block i (Nat.lt_of_lt_of_le hi h.size) hF).trans (h.block i hi hF)⟩

theorem own_nil {w : World} {e : TypeId} {size : Nat} : w.ownsRow 0 e size (.slice none 0 0) 0 [] := World.ownsRow_nil _ _ _ _

/-- a row that is owned stays owned where its block stays -/
theorem own_carry {w w' : World} {base : Nat} {e : TypeId} {size : Nat} {v : Value} {n : Nat} {xs : List Value} (h : w.ownsRow base e size v n xs)
    (hb : ∀ g, v.ownBlock = some g → w'.heap[g]? = w.heap[g]?) : w'.ownsRow base e size v n xs := by
  refine ⟨h.1, ?_⟩
  rcases h.2 with hn | ⟨g, cap, cur, rfl, h1, h2, rest⟩
  · exact .inl hn
  · exact .inr ⟨g, cap, cur, rfl, h1, by rw [hb g rfl]; exact h2, rest⟩

theorem own_base {w : World} {base base' : Nat} {e : TypeId} {size : Nat} {v : Value} {n : Nat} {xs : List Value} (h : w.ownsRow base e size v n xs) (hb : base' ≤ base) : w.ownsRow base' e size v n xs := by
  refine ⟨h.1, ?_⟩
  rcases h.2 with hn | ⟨g, cap, cur, rfl, h1, rest⟩
  · exact .inl hn
  · exact .inr ⟨g, cap, cur, rfl, by omega, rest⟩

theorem own_lt {w : World} {base : Nat} {e : TypeId} {size : Nat} {v : Value} {n : Nat} {xs : List Value} (h : w.ownsRow base e size v n xs) {g : Nat} (hg : v.ownBlock = some g) : base ≤ g ∧ g < w.heap.size := h.lt g hg

/-! ### The document's heap, as it lies in memory -/
/-- a value: kind and number -/
def valCells (v : Int × Int) : List Value := [.int .i64 v.1, .int .i64 v.2]

/-- what a block has, and where its fields lie -/
structure RObj where
  here : Bool
  vF : Value
  fs : List (Int × Int)
  stuck : Bool
  queued : Bool

def RObj.cells (o : RObj) : List Value := [.bool o.here, o.vF, .bool o.stuck, .bool o.queued]
def RObj.free : RObj := ⟨false, .slice none 0 0, [], false, false⟩

structure RefM where
  most : Int
  deep : Int
  budget : Int
  zero : Int
  over : Int
  vB : Value
  vQ : Value
  vS : Value
  vG : Value
  objs : List RObj
  queue : List Int
  stack : List (Int × Int)
  globals : List (Int × Int)

def RefM.head (m : RefM) : Obj :=
  .cells #[.int .i64 m.most, .int .i64 m.deep, .int .i64 m.budget, .int .i64 m.zero, .int .i64 m.over, m.vB, m.vQ, m.vS, m.vG] 64

/-- the blocks in which its rows lie -/
def RefM.foot (m : RefM) : List Nat := ([m.vB, m.vQ, m.vS, m.vG] ++ m.objs.map RObj.vF).filterMap Value.ownBlock

structure RefAt (w : World) (h : Nat) (m : RefM) : Prop where
  head : w.heap[h]? = some m.head
  blocks : w.ownsRow 0 81 4 m.vB m.objs.length (m.objs.flatMap RObj.cells)
  queue : w.ownsRow 0 3 1 m.vQ m.queue.length (m.queue.map (Value.int .i64))
  stack : w.ownsRow 0 96 2 m.vS m.stack.length (m.stack.flatMap valCells)
  globals : w.ownsRow 0 96 2 m.vG m.globals.length (m.globals.flatMap valCells)
  fields : ∀ o ∈ m.objs, w.ownsRow 0 96 2 o.vF o.fs.length (o.fs.flatMap valCells)
  apart : (h :: m.foot).Nodup

theorem RefAt.carry {w w' : World} {h : Nat} {m : RefM} (r : RefAt w h m) (hb : ∀ g, g ∈ h :: m.foot → w'.heap[g]? = w.heap[g]?) : RefAt w' h m := by
  have hv : ∀ v ∈ [m.vB, m.vQ, m.vS, m.vG] ++ m.objs.map RObj.vF, ∀ g, v.ownBlock = some g → w'.heap[g]? = w.heap[g]? := fun v hv g hg =>
    hb g (List.mem_cons_of_mem _ (List.mem_filterMap.2 ⟨v, hv, hg⟩))
  exact ⟨by rw [hb h (by simp)]; exact r.head, own_carry r.blocks (hv _ (by simp)), own_carry r.queue (hv _ (by simp)), own_carry r.stack (hv _ (by simp)), own_carry r.globals (hv _ (by simp)),
    fun o ho => own_carry (r.fields o ho) (hv _ (List.mem_append_right _ (List.mem_map_of_mem ho))), r.apart⟩

theorem RefAt.lt {w : World} {h : Nat} {m : RefM} (r : RefAt w h m) : ∀ g ∈ h :: m.foot, g < w.heap.size := by
  intro g hg
  rcases List.mem_cons.1 hg with rfl | hg
  · exact lt_of_heap r.head
  · obtain ⟨v, hv, hg⟩ := List.mem_filterMap.1 hg
    rcases List.mem_append.1 hv with hv | hv
    · simp at hv
      rcases hv with rfl | rfl | rfl | rfl
      · exact (own_lt r.blocks hg).2
      · exact (own_lt r.queue hg).2
      · exact (own_lt r.stack hg).2
      · exact (own_lt r.globals hg).2
    · obtain ⟨o, ho, rfl⟩ := List.mem_map.1 hv
      exact (own_lt (r.fields o ho) hg).2

end Go.Proofs.Ytblekkjamemloaa
