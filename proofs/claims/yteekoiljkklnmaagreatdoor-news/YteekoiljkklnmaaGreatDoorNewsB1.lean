import Derived.Test.YteekoiljkklnmaaGreatDoorRows
import Derived.Test.YteekoiljkklnmaaGreatDoorTie
import Derived.Test.YteekoiljkklnmaaGreatDoorCards
import Derived.WalkKit
import Derived.WalkSpells
import Derived.WalkLawsBesides
import Derived.Deep.QuietTactic
import Derived.BigQuiet
import Derived.Deep.AppendLies
/- OUR OWN. What the walks share: small facts on worlds, closed facts of the program. -/
namespace Go.Proofs.YteekoiljkklnmaaGreatDoor
open Go.RowKit
set_option linter.unusedVariables false
set_option linter.unusedSimpArgs false

/-- What the document calls a configuration. -/
def cfgB (b s g u z o : Int) : Bool :=
  decide (1 ≤ b ∧ b ≤ 99 ∧ 1 ≤ s ∧ s ≤ 16 ∧ 0 ≤ g ∧ g ≤ 8 ∧ 1 ≤ u ∧ u ≤ 99 ∧ s + g < z ∧ z ≤ 99 ∧ 0 ≤ o ∧ o ≤ 9)

theorem ret_int {k : IntKind} {a b : Int} (h : a = b) : Ending.returned (.int k a) = .returned (.int k b) := by rw [h]
theorem ret_bool {a b : Bool} (h : a = b) : Ending.returned (.bool a) = .returned (.bool b) := by rw [h]

def inB (n l m : Int) : Bool := decide (l ≤ n ∧ n ≤ m)

theorem within_yes (n l m : Int) (w : World) (h : inB n l m = true) :
    Calls Tryz.prog 69 #[.int .i64 n, .int .i64 l, .int .i64 m] w fun e w' => e = .returned (.bool true) ∧ w' = w := by
  have ⟨h1, h2⟩ : l ≤ n ∧ n ≤ m := by simpa [inB] using h
  clear h
  go_enter Tryz.func69, Tryz.ntmps69
  go_wp2
  go_ret
  exact ⟨rfl, rfl⟩

theorem within_no (n l m : Int) (w : World) (h : inB n l m = false) :
    Calls Tryz.prog 69 #[.int .i64 n, .int .i64 l, .int .i64 m] w fun e w' => e = .returned (.bool false) ∧ w' = w := by
  have h0 : ¬ (l ≤ n ∧ n ≤ m) := by simpa [inB] using h
  clear h
  by_cases h1 : l ≤ n
  · have h2 : ¬ n ≤ m := fun h => h0 ⟨h1, h⟩
    clear h0
    go_enter Tryz.func69, Tryz.ntmps69
    go_wp2
    go_ret
    exact ⟨rfl, rfl⟩
  · clear h0
    go_enter Tryz.func69, Tryz.ntmps69
    go_wp2
    go_ret
    exact ⟨rfl, rfl⟩

/-! ### Blocks that are known whole -/
theorem heap_setCell_at {w : World} {b i : Nat} {c : Array Value} {e : TypeId} {fr : Nat × Nat} (h : w.heap[b]? = some (.cells c e fr)) (v : Value) :
    (w.setCell ⟨b, i, none⟩ v).heap[b]? = some (.cells (c.setIfInBounds i v) e fr) := by
  simp [World.setCell, Array.getElem?_modify, h]

theorem cell_of_heap {w : World} {b i : Nat} {c : Array Value} {e : TypeId} {fr : Nat × Nat} {v : Value} (h : w.heap[b]? = some (.cells c e fr)) (hi : c[i]? = some v) :
    w.cell? ⟨b, i, none⟩ = some v := by simp [World.cell?, h, hi]

theorem frozen_of_heap {w : World} {b i : Nat} {c : Array Value} {e : TypeId} (h : w.heap[b]? = some (.cells c e (0, 0))) : w.frozen? ⟨b, i, none⟩ = false := by
  simp [World.frozen?, h]

theorem lt_of_heap {w : World} {b : Nat} {o : Obj} (h : w.heap[b]? = some o) : b < w.heap.size := by
  rcases Nat.lt_or_ge b w.heap.size with h1 | h1
  · exact h1
  · rw [Array.getElem?_eq_none h1] at h; cases h

theorem hao {w : World} {o : Obj} {k : Nat} (h : k < w.heap.size) : (w.alloc o).heap[k]? = w.heap[k]? := Below.heap_alloc _ _ _ h

theorem news_new (w : World) (cs : List Value) (t : TypeId) : ∀ j u, cs[j]? = some u → (w.alloc (.cells cs.toArray t)).cell? ((⟨w.heap.size, 0, none⟩ : Addr).add j) = some u :=
  World.news_of_block (cs := cs.toArray) (fr := (0, 0)) (heap_alloc_new w _)

/-- nothing old has turned but the blocks of F -/
structure Off (F : List Nat) (w w' : World) : Prop where
  os : w'.os = w.os
  tape : w'.tape = w.tape
  output : w'.output = w.output
  size : w.heap.size ≤ w'.heap.size
  block : ∀ k, k < w.heap.size → k ∉ F → w'.heap[k]? = w.heap[k]?

theorem Off.of_below {F : List Nat} {w w' : World} (h : Below w.heap.size w w') : Off F w w' := ⟨h.os, h.tape, h.output, h.size, fun k hk _ => h.block k hk⟩
theorem Off.below {F : List Nat} {B : Nat} {w w' : World} (h : Off F w w') (hB : B ≤ w.heap.size) (hF : ∀ g ∈ F, B ≤ g) : Below B w w' :=
  ⟨h.os, h.tape, h.output, h.size, fun k hk => h.block k (by omega) fun e => by have := hF k e; omega⟩
theorem Off.trans {F : List Nat} {a b c : World} (h : Off F a b) (k : Off F b c) : Off F a c :=
  ⟨k.os.trans h.os, k.tape.trans h.tape, k.output.trans h.output, Nat.le_trans h.size k.size, fun i hi hF => (k.block i (Nat.lt_of_lt_of_le hi h.size) hF).trans (h.block i hi hF)⟩

theorem own_nil {w : World} {e : TypeId} {size : Nat} : w.ownsRow 0 e size (.slice none 0 0) 0 [] := World.ownsRow_nil _ _ _ _

/-- a row that is owned stays owned where its block stays -/
theorem own_carry {w w' : World} {base : Nat} {e : TypeId} {size : Nat} {v : Value} {n : Nat} {xs : List Value} (h : w.ownsRow base e size v n xs)
    (hb : ∀ g, v.ownBlock = some g → w'.heap[g]? = w.heap[g]?) : w'.ownsRow base e size v n xs := by
  refine ⟨h.1, ?_⟩
  rcases h.2 with hn | ⟨g, cap, cur, rfl, h1, h2, rest⟩
  · exact .inl hn
  · exact .inr ⟨g, cap, cur, rfl, h1, by rw [hb g rfl]; exact h2, rest⟩

theorem own_base {w : World} {base base' : Nat} {e : TypeId} {size : Nat} {v : Value} {n : Nat} {xs : List Value} (h : w.ownsRow base e size v n xs) (hb : base' ≤ base) : w.ownsRow base' e size v n xs := by
  refine ⟨h.1, ?_⟩
  rcases h.2 with hn | ⟨g, cap, cur, rfl, h1, rest⟩
  · exact .inl hn
  · exact .inr ⟨g, cap, cur, rfl, by omega, rest⟩

theorem own_lt {w : World} {base : Nat} {e : TypeId} {size : Nat} {v : Value} {n : Nat} {xs : List Value} (h : w.ownsRow base e size v n xs) {g : Nat} (hg : v.ownBlock = some g) : base ≤ g ∧ g < w.heap.size := h.lt g hg

/-! ### A slice that may be a window of its block (what q[1:] leaves); cells of one value -/
def ownsWin (w : World) (e : TypeId) (v : Value) (n : Nat) (xs : List Value) : Prop :=
  xs.length = n ∧ ((v = .slice none 0 0 ∧ n = 0) ∨
    ∃ g off cap cur, v = .slice (some ⟨g, off, none⟩) n cap ∧ w.heap[g]? = some (.cells cur e (0, 0)) ∧ n ≤ cap ∧ cap ≤ maxLen ∧ off + cap ≤ cur.size ∧ ∀ j u, xs[j]? = some u → cur[off + j]? = some u)

theorem win_nil {w : World} {e : TypeId} : ownsWin w e (.slice none 0 0) 0 [] := ⟨rfl, .inl ⟨rfl, rfl⟩⟩
theorem win_carry {w w' : World} {e : TypeId} {v : Value} {n : Nat} {xs : List Value} (h : ownsWin w e v n xs) (hb : ∀ g, v.ownBlock = some g → w'.heap[g]? = w.heap[g]?) : ownsWin w' e v n xs := by
  refine ⟨h.1, ?_⟩
  rcases h.2 with hn | ⟨g, off, cap, cur, rfl, h1, rest⟩
  · exact .inl hn
  · exact .inr ⟨g, off, cap, cur, rfl, by rw [hb g rfl]; exact h1, rest⟩
theorem win_lt {w : World} {e : TypeId} {v : Value} {n : Nat} {xs : List Value} (h : ownsWin w e v n xs) {g : Nat} (hg : v.ownBlock = some g) : g < w.heap.size := by
  rcases h.2 with ⟨rfl, _⟩ | ⟨g', off, cap, cur, rfl, h1, _⟩
  · cases hg
  · have : g' = g := by simpa [Value.ownBlock] using hg
    subst this
    exact lt_of_heap h1
theorem win_slice {w : World} {e : TypeId} {v : Value} {n : Nat} {xs : List Value} (h : ownsWin w e v n xs) : ∃ ao cap, v = .slice ao n cap := by
  rcases h.2 with ⟨hv, hn⟩ | ⟨g, off, cap, cur, hv, _⟩
  · exact ⟨none, 0, by rw [hv, hn]⟩
  · exact ⟨_, _, hv⟩
theorem win_view {w : World} {e : TypeId} {v : Value} {n : Nat} {xs : List Value} (h : ownsWin w e v n xs) (hn : 0 < n) :
    ∃ g off cap, v = .slice (some ⟨g, off, none⟩) n cap ∧ g < w.heap.size ∧ v.ownBlock = some g ∧ n ≤ cap ∧ (∀ j u, xs[j]? = some u → w.cell? ⟨g, off + j, none⟩ = some u) ∧ ∀ j, w.frozen? ⟨g, j, none⟩ = false := by
  rcases h.2 with ⟨_, h0⟩ | ⟨g, off, cap, cur, rfl, hg, hnc, _, _, hx⟩
  · omega
  · exact ⟨g, off, cap, rfl, lt_of_heap hg, rfl, hnc, fun j u hu => cell_of_heap hg (hx j u hu), fun j => frozen_of_heap hg⟩
theorem win_of_row {w : World} {base : Nat} {e : TypeId} {v : Value} {n : Nat} {xs : List Value} (h : w.ownsRow base e 1 v n xs) : ownsWin w e v n xs := by
  refine ⟨by rw [h.1, Nat.mul_one], ?_⟩
  rcases h.2 with hn | ⟨g, cap, cur, rfl, _, h1, h2, h3, h4, h5⟩
  · exact .inl hn
  · refine .inr ⟨g, 0, cap, cur, rfl, h1, h2, h3, by omega, fun j u hu => ?_⟩
    rw [← h5, Nat.mul_one, List.getElem?_take] at hu
    rw [Nat.zero_add]
    split at hu
    · simpa using hu
    · cases hu

/-! ### The document's heap, as it lies in memory -/
/-- a value: kind and number -/
def valCells (v : Int × Int) : List Value := [.int .i64 v.1, .int .i64 v.2]

/-- what a block has, and where its fields lie -/
structure RObj where
  here : Bool
  vF : Value
  fs : List (Int × Int)
  stuck : Bool
  queued : Bool

def RObj.cells (o : RObj) : List Value := [.bool o.here, o.vF, .bool o.stuck, .bool o.queued]
def RObj.free : RObj := ⟨false, .slice none 0 0, [], false, false⟩

structure RefM where
  most : Int
  deep : Int
  budget : Int
  zero : Int
  over : Int
  vB : Value
  vQ : Value
  vS : Value
  vG : Value
  objs : List RObj
  queue : List Int
  stack : List (Int × Int)
  globals : List (Int × Int)

def RefM.head (m : RefM) : Obj :=
  .cells #[.int .i64 m.most, .int .i64 m.deep, .int .i64 m.budget, .int .i64 m.zero, .int .i64 m.over, m.vB, m.vQ, m.vS, m.vG] 45

/-- the blocks in which its rows lie -/
def RefM.foot (m : RefM) : List Nat := ([m.vB, m.vQ, m.vS, m.vG] ++ m.objs.map RObj.vF).filterMap Value.ownBlock

structure RefAt (w : World) (h : Nat) (m : RefM) : Prop where
  head : w.heap[h]? = some m.head
  blocks : w.ownsRow 0 54 4 m.vB m.objs.length (m.objs.flatMap RObj.cells)
  queue : ownsWin w 3 m.vQ m.queue.length (m.queue.map (Value.int .i64))
  stack : w.ownsRow 0 78 2 m.vS m.stack.length (m.stack.flatMap valCells)
  globals : w.ownsRow 0 78 2 m.vG m.globals.length (m.globals.flatMap valCells)
  fields : ∀ o ∈ m.objs, w.ownsRow 0 78 2 o.vF o.fs.length (o.fs.flatMap valCells)
  apart : (h :: m.foot).Nodup

theorem RefAt.carry {w w' : World} {h : Nat} {m : RefM} (r : RefAt w h m) (hb : ∀ g, g ∈ h :: m.foot → w'.heap[g]? = w.heap[g]?) : RefAt w' h m := by
  have hv : ∀ v ∈ [m.vB, m.vQ, m.vS, m.vG] ++ m.objs.map RObj.vF, ∀ g, v.ownBlock = some g → w'.heap[g]? = w.heap[g]? := fun v hv g hg =>
    hb g (List.mem_cons_of_mem _ (List.mem_filterMap.2 ⟨v, hv, hg⟩))
  exact ⟨by rw [hb h (by simp)]; exact r.head, own_carry r.blocks (hv _ (by simp)), win_carry r.queue (hv _ (by simp)), own_carry r.stack (hv _ (by simp)), own_carry r.globals (hv _ (by simp)),
    fun o ho => own_carry (r.fields o ho) (hv _ (List.mem_append_right _ (List.mem_map_of_mem ho))), r.apart⟩

theorem RefAt.lt {w : World} {h : Nat} {m : RefM} (r : RefAt w h m) : ∀ g ∈ h :: m.foot, g < w.heap.size := by
  intro g hg
  rcases List.mem_cons.1 hg with rfl | hg
  · exact lt_of_heap r.head
  · obtain ⟨v, hv, hg⟩ := List.mem_filterMap.1 hg
    rcases List.mem_append.1 hv with hv | hv
    · simp at hv
      rcases hv with rfl | rfl | rfl | rfl
      · exact (own_lt r.blocks hg).2
      · exact win_lt r.queue hg
      · exact (own_lt r.stack hg).2
      · exact (own_lt r.globals hg).2
    · obtain ⟨o, ho, rfl⟩ := List.mem_map.1 hv
      exact (own_lt (r.fields o ho) hg).2

end Go.Proofs.YteekoiljkklnmaaGreatDoor

/- OUR OWN. isConfig, May, num, pick. -/
namespace Go.Proofs.YteekoiljkklnmaaGreatDoor
open Go.RowKit
set_option linter.unusedVariables false
set_option linter.unusedSimpArgs false

theorem cfg_parts {b s g u z o : Int} (h : cfgB b s g u z o = true) :
    inB b 1 99 = true ∧ inB s 1 16 = true ∧ inB g 0 8 = true ∧ inB u 1 99 = true ∧ inB o 0 9 = true ∧ inB z (s + g + 1) 99 = true := by
  simp [cfgB, inB] at h ⊢; omega

theorem cfg_not {b s g u z o : Int} (h1 : inB b 1 99 = true) (h2 : inB s 1 16 = true) (h3 : inB g 0 8 = true) (h4 : inB u 1 99 = true) (h5 : inB o 0 9 = true) (h : cfgB b s g u z o = false) :
    inB z (s + g + 1) 99 = false := by
  simp [cfgB, inB] at *; omega

set_option maxHeartbeats 400000 in
theorem isConfig_yes (b s g u z o : Int) (w : World) (h : cfgB b s g u z o = true) :
    Calls Tryz.prog 38 #[.agg #[.int .i64 b, .int .i64 s, .int .i64 g, .int .i64 u, .int .i64 z, .int .i64 o]] w
      fun e w' => e = .returned (.bool true) ∧ Below w.heap.size w w' := by
  have ⟨h1, h2, h3, h4, h5, h6⟩ := cfg_parts h
  have ⟨b1, b2⟩ : 0 ≤ s ∧ s ≤ 16 := by simp [inB] at h2; omega
  have ⟨b3, b4⟩ : 0 ≤ g ∧ g ≤ 8 := by simp [inB] at h3; omega
  clear h
  go_enter Tryz.func38, Tryz.ntmps38
  go_wp2_with (go_at_call 69; refine (within_yes _ _ _ _ (by assumption)).mono ?_; rintro e w' ⟨rfl, rfl⟩)
  go_ret
  exact ⟨rfl, (Below.refl _ _).alloc (Nat.le_refl _) _⟩

set_option maxHeartbeats 800000 in
theorem isConfig_no (b s g u z o : Int) (w : World) (h : cfgB b s g u z o = false) :
    Calls Tryz.prog 38 #[.agg #[.int .i64 b, .int .i64 s, .int .i64 g, .int .i64 u, .int .i64 z, .int .i64 o]] w
      fun e w' => e = .returned (.bool false) ∧ Below w.heap.size w w' := by
  have H : Hid (cfgB b s g u z o = false) := h
  clear h
  rcases h1 : inB b 1 99 with _ | _
  · go_enter Tryz.func38, Tryz.ntmps38
    go_wp2_with (first | (go_at_call 69; refine (within_yes _ _ _ _ (by assumption)).mono ?_; rintro e w' ⟨rfl, rfl⟩) | (go_at_call 69; refine (within_no _ _ _ _ (by assumption)).mono ?_; rintro e w' ⟨rfl, rfl⟩))
    go_ret
    exact ⟨rfl, (Below.refl _ _).alloc (Nat.le_refl _) _⟩
  rcases h2 : inB s 1 16 with _ | _
  · go_enter Tryz.func38, Tryz.ntmps38
    go_wp2_with (first | (go_at_call 69; refine (within_yes _ _ _ _ (by assumption)).mono ?_; rintro e w' ⟨rfl, rfl⟩) | (go_at_call 69; refine (within_no _ _ _ _ (by assumption)).mono ?_; rintro e w' ⟨rfl, rfl⟩))
    go_ret
    exact ⟨rfl, (Below.refl _ _).alloc (Nat.le_refl _) _⟩
  rcases h3 : inB g 0 8 with _ | _
  · go_enter Tryz.func38, Tryz.ntmps38
    go_wp2_with (first | (go_at_call 69; refine (within_yes _ _ _ _ (by assumption)).mono ?_; rintro e w' ⟨rfl, rfl⟩) | (go_at_call 69; refine (within_no _ _ _ _ (by assumption)).mono ?_; rintro e w' ⟨rfl, rfl⟩))
    go_ret
    exact ⟨rfl, (Below.refl _ _).alloc (Nat.le_refl _) _⟩
  rcases h4 : inB u 1 99 with _ | _
  · go_enter Tryz.func38, Tryz.ntmps38
    go_wp2_with (first | (go_at_call 69; refine (within_yes _ _ _ _ (by assumption)).mono ?_; rintro e w' ⟨rfl, rfl⟩) | (go_at_call 69; refine (within_no _ _ _ _ (by assumption)).mono ?_; rintro e w' ⟨rfl, rfl⟩))
    go_ret
    exact ⟨rfl, (Below.refl _ _).alloc (Nat.le_refl _) _⟩
  rcases h5 : inB o 0 9 with _ | _
  · go_enter Tryz.func38, Tryz.ntmps38
    go_wp2_with (first | (go_at_call 69; refine (within_yes _ _ _ _ (by assumption)).mono ?_; rintro e w' ⟨rfl, rfl⟩) | (go_at_call 69; refine (within_no _ _ _ _ (by assumption)).mono ?_; rintro e w' ⟨rfl, rfl⟩))
    go_ret
    exact ⟨rfl, (Below.refl _ _).alloc (Nat.le_refl _) _⟩
  have h6 := cfg_not h1 h2 h3 h4 h5 H.out
  have ⟨b1, b2⟩ : 0 ≤ s ∧ s ≤ 16 := by simp [inB] at h2; omega
  have ⟨b3, b4⟩ : 0 ≤ g ∧ g ≤ 8 := by simp [inB] at h3; omega
  go_enter Tryz.func38, Tryz.ntmps38
  go_wp2_with (first | (go_at_call 69; refine (within_yes _ _ _ _ (by assumption)).mono ?_; rintro e w' ⟨rfl, rfl⟩) | (go_at_call 69; refine (within_no _ _ _ _ (by assumption)).mono ?_; rintro e w' ⟨rfl, rfl⟩))
  go_ret
  exact ⟨rfl, (Below.refl _ _).alloc (Nat.le_refl _) _⟩

end Go.Proofs.YteekoiljkklnmaaGreatDoor

