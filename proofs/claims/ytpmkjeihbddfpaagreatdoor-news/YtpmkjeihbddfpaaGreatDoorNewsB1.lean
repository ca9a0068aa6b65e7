import Derived.Test.YtpmkjeihbddfpaaGreatDoorRows
import Derived.Test.YtpmkjeihbddfpaaGreatDoorCards
import Derived.Test.YtpmkjeihbddfpaaGreatDoorTie
import Derived.WalkKit
import Derived.WalkSpells
import Derived.WalkLawsBesides
import Derived.Deep.QuietTactic
import Derived.BigQuiet
import Derived.Deep.AppendLies
/- OUR OWN. What the walks share: small facts on worlds, closed facts of the program. -/
namespace Go.Proofs.YtpmkjeihbddfpaaGreatDoor
open Go.RowKit
set_option linter.unusedVariables false
set_option linter.unusedSimpArgs false

/-- What the document calls a configuration. -/
def cfgB (b s g u z o : Int) : Bool :=
  decide (1 ≤ b ∧ b ≤ 99 ∧ 1 ≤ s ∧ s ≤ 16 ∧ 0 ≤ g ∧ g ≤ 8 ∧ 1 ≤ u ∧ u ≤ 99 ∧ s + g < z ∧ z ≤ 99 ∧ 0 ≤ o ∧ o ≤ 9)

theorem ret_int {k : IntKind} {a b : Int} (h : a = b) : Ending.returned (.int k a) = .returned (.int k b) := by rw [h]
theorem ret_bool {a b : Bool} (h : a = b) : Ending.returned (.bool a) = .returned (.bool b) := by rw [h]

def inB (n l m : Int) : Bool := decide (l ≤ n ∧ n ≤ m)

theorem within_yes (n l m : Int) (w : World) (h : inB n l m = true) :
    Calls Tryz.prog 82 #[.int .i64 n, .int .i64 l, .int .i64 m] w fun e w' => e = .returned (.bool true) ∧ w' = w := by
  have ⟨h1, h2⟩ : l ≤ n ∧ n ≤ m := by simpa [inB] using h
  clear h
  go_enter Tryz.func82, Tryz.ntmps82
  go_wp2
  go_ret
  exact ⟨rfl, rfl⟩

theorem within_no (n l m : Int) (w : World) (h : inB n l m = false) :
    Calls Tryz.prog 82 #[.int .i64 n, .int .i64 l, .int .i64 m] w fun e w' => e = .returned (.bool false) ∧ w' = w := by
  have h0 : ¬ (l ≤ n ∧ n ≤ m) := by simpa [inB] using h
  clear h
  by_cases h1 : l ≤ n
  · have h2 : ¬ n ≤ m := fun h => h0 ⟨h1, h⟩
    clear h0
    go_enter Tryz.func82, Tryz.ntmps82
    go_wp2
    go_ret
    exact ⟨rfl, rfl⟩
  · clear h0
    go_enter Tryz.func82, Tryz.ntmps82
    go_wp2
    go_ret
    exact ⟨rfl, rfl⟩

/-! ### Blocks that are known whole -/
theorem heap_setCell_at {w : World} {b i : Nat} {c : Array Value} {e : TypeId} {fr : Nat × Nat} (h : w.heap[b]? = some (.cells c e fr)) (v : Value) :
    (w.setCell ⟨b, i, none⟩ v).heap[b]? = some (.cells (c.setIfInBounds i v) e fr) := by
  simp [World.setCell, Array.getElem?_modify, h]

theorem cell_of_heap {w : World} {b i : Nat} {c : Array Value} {e : TypeId} {fr : Nat × Nat} {v : Value} (h : w.heap[b]? = some (.cells c e fr)) (hi : c[i]? = some v) :
    w.cell? ⟨b, i, none⟩ = some v := by simp [World.cell?, h, hi]

theorem frozen_of_heap {w : World} {b i : Nat} {c : Array Value} {e : TypeId} (h : w.heap[b]? = some (.cells c e (0, 0))) : w.frozen? ⟨b, i, none⟩ = false := by
  simp [World.frozen?, h]

theorem lt_of_heap {w : World} {b : Nat} {o : Obj} (h : w.heap[b]? = some o) : b < w.heap.size := by
  rcases Nat.lt_or_ge b w.heap.size with h1 | h1
  · exact h1
  · rw [Array.getElem?_eq_none h1] at h; cases h

theorem hao {w : World} {o : Obj} {k : Nat} (h : k < w.heap.size) : (w.alloc o).heap[k]? = w.heap[k]? := Below.heap_alloc _ _ _ h

theorem news_new (w : World) (cs : List Value) (t : TypeId) : ∀ j u, cs[j]? = some u → (w.alloc (.cells cs.toArray t)).cell? ((⟨w.heap.size, 0, none⟩ : Addr).add j) = some u :=
  World.news_of_block (cs := cs.toArray) (fr := (0, 0)) (heap_alloc_new w _)

/-- nothing old has turned but the blocks of F -/
structure Off (F : List Nat) (w w' : World) : Prop where
  os : w'.os = w.os
  tape : w'.tape = w.tape
  output : w'.output = w.output
  size : w.heap.size ≤ w'.heap.size
  block : ∀ k, k < w.heap.size → k ∉ F → w'.heap[k]? = w.heap[k]?

theorem Off.of_below {F : List Nat} {w w' : World} (h : Below w.heap.size w w') : Off F w w' := ⟨h.os, h.tape, h.output, h.size, fun k hk _ => h.block k hk⟩
theorem Off.below {F : List Nat} {B : Nat} {w w' : World} (h : Off F w w') (hB : B ≤ w.heap.size) (hF : ∀ g ∈ F, B ≤ g) : Below B w w' :=
  ⟨h.os, h.tape, h.output, h.size, fun k hk => h.block k (by omega) fun e => by have := hF k e; omega⟩
theorem Off.trans {F : List Nat} {a b c : World} (h : Off F a b) (k : Off F b c) : Off F a c :=
  ⟨k.os.trans h.os, k.tape.trans h.tape, k.output.trans h.output, Nat.le_trans h.size k.size, fun i hi hF => (k.block i (Nat.lt_of_lt_of_le hi h.size) hF).trans (h.block i hi hF)⟩

theorem own_nil {w : World} {e : TypeId} {size : Nat} : w.ownsRow 0 e size (.slice none 0 0) 0 [] := World.ownsRow_nil _ _ _ _

/-- a row that is owned stays owned where its block stays -/
theorem own_carry {w w' : World} {base : Nat} {e : TypeId} {size : Nat} {v : Value} {n : Nat} {xs : List Value} (h : w.ownsRow base e size v n xs)
    (hb : ∀ g, v.ownBlock = some g → w'.heap[g]? = w.heap[g]?) : w'.ownsRow base e size v n xs := by
  refine ⟨h.1, ?_⟩
  rcases h.2 with hn | ⟨g, cap, cur, rfl, h1, h2, rest⟩
  · exact .inl hn
  · exact .inr ⟨g, cap, cur, rfl, h1, by rw [hb g rfl]; exact h2, rest⟩

theorem own_base {w : World} {base base' : Nat} {e : TypeId} {size : Nat} {v : Value} {n : Nat} {xs : List Value} (h : w.ownsRow base e size v n xs) (hb : base' ≤ base) : w.ownsRow base' e size v n xs := by
  refine ⟨h.1, ?_⟩
  rcases h.2 with hn | ⟨g, cap, cur, rfl, h1, rest⟩
  · exact .inl hn
  · exact .inr ⟨g, cap, cur, rfl, by omega, rest⟩

theorem own_lt {w : World} {base : Nat} {e : TypeId} {size : Nat} {v : Value} {n : Nat} {xs : List Value} (h : w.ownsRow base e size v n xs) {g : Nat} (hg : v.ownBlock = some g) : base ≤ g ∧ g < w.heap.size := h.lt g hg

/-! ### A slice that may be a window of its block (what q[1:] leaves); cells of one value -/
def ownsWin (w : World) (e : TypeId) (v : Value) (n : Nat) (xs : List Value) : Prop :=
  xs.length = n ∧ ((v = .slice none 0 0 ∧ n = 0) ∨
    ∃ g off cap cur, v = .slice (some ⟨g, off, none⟩) n cap ∧ w.heap[g]? = some (.cells cur e (0, 0)) ∧ n ≤ cap ∧ cap ≤ maxLen ∧ off + cap ≤ cur.size ∧ ∀ j u, xs[j]? = some u → cur[off + j]? = some u)

theorem win_nil {w : World} {e : TypeId} : ownsWin w e (.slice none 0 0) 0 [] := ⟨rfl, .inl ⟨rfl, rfl⟩⟩
theorem win_carry {w w' : World} {e : TypeId} {v : Value} {n : Nat} {xs : List Value} (h : ownsWin w e v n xs) (hb : ∀ g, v.ownBlock = some g → w'.heap[g]? = w.heap[g]?) : ownsWin w' e v n xs := by
  refine ⟨h.1, ?_⟩
  rcases h.2 with hn | ⟨g, off, cap, cur, rfl, h1, rest⟩
  · exact .inl hn
  · exact .inr ⟨g, off, cap, cur, rfl, by rw [hb g rfl]; exact h1, rest⟩
theorem win_lt {w : World} {e : TypeId} {v : Value} {n : Nat} {xs : List Value} (h : ownsWin w e v n xs) {g : Nat} (hg : v.ownBlock = some g) : g < w.heap.size := by
  rcases h.2 with ⟨rfl, _⟩ | ⟨g', off, cap, cur, rfl, h1, _⟩
  · cases hg
  · have : g' = g := by simpa [Value.ownBlock] using hg
    subst this
    exact lt_of_heap h1
theorem win_slice {w : World} {e : TypeId} {v : Value} {n : Nat} {xs : List Value} (h : ownsWin w e v n xs) : ∃ ao cap, v = .slice ao n cap := by
  rcases h.2 with ⟨hv, hn⟩ | ⟨g, off, cap, cur, hv, _⟩
  · exact ⟨none, 0, by rw [hv, hn]⟩
  · exact ⟨_, _, hv⟩
theorem win_view {w : World} {e : TypeId} {v : Value} {n : Nat} {xs : List Value} (h : ownsWin w e v n xs) (hn : 0 < n) :
    ∃ g off cap, v = .slice (some ⟨g, off, none⟩) n cap ∧ g < w.heap.size ∧ v.ownBlock = some g ∧ n ≤ cap ∧ (∀ j u, xs[j]? = some u → w.cell? ⟨g, off + j, none⟩ = some u) ∧ ∀ j, w.frozen? ⟨g, j, none⟩ = false := by
  rcases h.2 with ⟨_, h0⟩ | ⟨g, off, cap, cur, rfl, hg, hnc, _, _, hx⟩
  · omega
  · exact ⟨g, off, cap, rfl, lt_of_heap hg, rfl, hnc, fun j u hu => cell_of_heap hg (hx j u hu), fun j => frozen_of_heap hg⟩
theorem win_of_row {w : World} {base : Nat} {e : TypeId} {v : Value} {n : Nat} {xs : List Value} (h : w.ownsRow base e 1 v n xs) : ownsWin w e v n xs := by
  refine ⟨by rw [h.1, Nat.mul_one], ?_⟩
  rcases h.2 with hn | ⟨g, cap, cur, rfl, _, h1, h2, h3, h4, h5⟩
  · exact .inl hn
  · refine .inr ⟨g, 0, cap, cur, rfl, h1, h2, h3, by omega, fun j u hu => ?_⟩
    rw [← h5, Nat.mul_one, List.getElem?_take] at hu
    rw [Nat.zero_add]
    split at hu
    · simpa using hu
    · cases hu

/-- a value: kind and number -/
def valCells (v : Int × Int) : List Value := [.int .i64 v.1, .int .i64 v.2]

def fits (x : Int) : Prop := -9223372036854775808 ≤ x ∧ x ≤ 9223372036854775807

end Go.Proofs.YtpmkjeihbddfpaaGreatDoor

/- OUR OWN. The document's heap, as it lies in memory. -/
namespace Go.Proofs.YtpmkjeihbddfpaaGreatDoor
open Go.RowKit
set_option linter.unusedVariables false
set_option linter.unusedSimpArgs false

/-! ### The document's heap, as it lies in memory -/
/-- what a block has, and where its fields lie -/
structure RObj where
  here : Bool
  vF : Value
  fs : List (Int × Int)
  stuck : Bool
  queued : Bool

def RObj.cells (o : RObj) : List Value := [.bool o.here, o.vF, .bool o.stuck, .bool o.queued]
def RObj.free : RObj := ⟨false, .slice none 0 0, [], false, false⟩

structure RefM where
  most : Int
  deep : Int
  budget : Int
  zero : Int
  over : Int
  vB : Value
  vQ : Value
  vS : Value
  vG : Value
  objs : List RObj
  queue : List Int
  stack : List (Int × Int)
  globals : List (Int × Int)

def RefM.head (m : RefM) : Obj :=
  .cells #[.int .i64 m.most, .int .i64 m.deep, .int .i64 m.budget, .int .i64 m.zero, .int .i64 m.over, m.vB, m.vQ, m.vS, m.vG] 45

/-- the blocks in which its rows lie -/
def RefM.foot (m : RefM) : List Nat := ([m.vB, m.vQ, m.vS, m.vG] ++ m.objs.map RObj.vF).filterMap Value.ownBlock

structure RefAt (w : World) (h : Nat) (m : RefM) : Prop where
  head : w.heap[h]? = some m.head
  blocks : w.ownsRow 0 54 4 m.vB m.objs.length (m.objs.flatMap RObj.cells)
  queue : ownsWin w 3 m.vQ m.queue.length (m.queue.map (Value.int .i64))
  stack : w.ownsRow 0 79 2 m.vS m.stack.length (m.stack.flatMap valCells)
  globals : w.ownsRow 0 79 2 m.vG m.globals.length (m.globals.flatMap valCells)
  fields : ∀ o ∈ m.objs, w.ownsRow 0 79 2 o.vF o.fs.length (o.fs.flatMap valCells)
  apart : (h :: m.foot).Nodup

theorem RefAt.carry {w w' : World} {h : Nat} {m : RefM} (r : RefAt w h m) (hb : ∀ g, g ∈ h :: m.foot → w'.heap[g]? = w.heap[g]?) : RefAt w' h m := by
  have hv : ∀ v ∈ [m.vB, m.vQ, m.vS, m.vG] ++ m.objs.map RObj.vF, ∀ g, v.ownBlock = some g → w'.heap[g]? = w.heap[g]? := fun v hv g hg =>
    hb g (List.mem_cons_of_mem _ (List.mem_filterMap.2 ⟨v, hv, hg⟩))
  exact ⟨by rw [hb h (by simp)]; exact r.head, own_carry r.blocks (hv _ (by simp)), win_carry r.queue (hv _ (by simp)), own_carry r.stack (hv _ (by simp)), own_carry r.globals (hv _ (by simp)),
    fun o ho => own_carry (r.fields o ho) (hv _ (List.mem_append_right _ (List.mem_map_of_mem ho))), r.apart⟩

theorem RefAt.lt {w : World} {h : Nat} {m : RefM} (r : RefAt w h m) : ∀ g ∈ h :: m.foot, g < w.heap.size := by
  intro g hg
  rcases List.mem_cons.1 hg with rfl | hg
  · exact lt_of_heap r.head
  · obtain ⟨v, hv, hg⟩ := List.mem_filterMap.1 hg
    rcases List.mem_append.1 hv with hv | hv
    · simp at hv
      rcases hv with rfl | rfl | rfl | rfl
      · exact (own_lt r.blocks hg).2
      · exact win_lt r.queue hg
      · exact (own_lt r.stack hg).2
      · exact (own_lt r.globals hg).2
    · obtain ⟨o, ho, rfl⟩ := List.mem_map.1 hv
      exact (own_lt (r.fields o ho) hg).2

end Go.Proofs.YtpmkjeihbddfpaaGreatDoor

/- OUR OWN. isConfig, May, num, pick. -/
namespace Go.Proofs.YtpmkjeihbddfpaaGreatDoor
open Go.RowKit
set_option linter.unusedVariables false
set_option linter.unusedSimpArgs false

theorem cfg_parts {b s g u z o : Int} (h : cfgB b s g u z o = true) :
    inB b 1 99 = true ∧ inB s 1 16 = true ∧ inB g 0 8 = true ∧ inB u 1 99 = true ∧ inB o 0 9 = true ∧ inB z (s + g + 1) 99 = true := by
  simp [cfgB, inB] at h ⊢; omega

theorem cfg_not {b s g u z o : Int} (h1 : inB b 1 99 = true) (h2 : inB s 1 16 = true) (h3 : inB g 0 8 = true) (h4 : inB u 1 99 = true) (h5 : inB o 0 9 = true) (h : cfgB b s g u z o = false) :
    inB z (s + g + 1) 99 = false := by
  simp [cfgB, inB] at *; omega

set_option maxHeartbeats 400000 in
theorem isConfig_yes (b s g u z o : Int) (w : World) (h : cfgB b s g u z o = true) :
    Calls Tryz.prog 44 #[.agg #[.int .i64 b, .int .i64 s, .int .i64 g, .int .i64 u, .int .i64 z, .int .i64 o]] w
      fun e w' => e = .returned (.bool true) ∧ Below w.heap.size w w' := by
  have ⟨h1, h2, h3, h4, h5, h6⟩ := cfg_parts h
  have ⟨b1, b2⟩ : 0 ≤ s ∧ s ≤ 16 := by simp [inB] at h2; omega
  have ⟨b3, b4⟩ : 0 ≤ g ∧ g ≤ 8 := by simp [inB] at h3; omega
  clear h
  go_enter Tryz.func44, Tryz.ntmps44
  go_wp2_with (go_at_call 82; refine (within_yes _ _ _ _ (by assumption)).mono ?_; rintro e w' ⟨rfl, rfl⟩)
  go_ret
  exact ⟨rfl, (Below.refl _ _).alloc (Nat.le_refl _) _⟩

set_option maxHeartbeats 800000 in
theorem isConfig_no (b s g u z o : Int) (w : World) (h : cfgB b s g u z o = false) :
    Calls Tryz.prog 44 #[.agg #[.int .i64 b, .int .i64 s, .int .i64 g, .int .i64 u, .int .i64 z, .int .i64 o]] w
      fun e w' => e = .returned (.bool false) ∧ Below w.heap.size w w' := by
  have H : Hid (cfgB b s g u z o = false) := h
  clear h
  rcases h1 : inB b 1 99 with _ | _
  · go_enter Tryz.func44, Tryz.ntmps44
    go_wp2_with (first | (go_at_call 82; refine (within_yes _ _ _ _ (by assumption)).mono ?_; rintro e w' ⟨rfl, rfl⟩) | (go_at_call 82; refine (within_no _ _ _ _ (by assumption)).mono ?_; rintro e w' ⟨rfl, rfl⟩))
    go_ret
    exact ⟨rfl, (Below.refl _ _).alloc (Nat.le_refl _) _⟩
  rcases h2 : inB s 1 16 with _ | _
  · go_enter Tryz.func44, Tryz.ntmps44
    go_wp2_with (first | (go_at_call 82; refine (within_yes _ _ _ _ (by assumption)).mono ?_; rintro e w' ⟨rfl, rfl⟩) | (go_at_call 82; refine (within_no _ _ _ _ (by assumption)).mono ?_; rintro e w' ⟨rfl, rfl⟩))
    go_ret
    exact ⟨rfl, (Below.refl _ _).alloc (Nat.le_refl _) _⟩
  rcases h3 : inB g 0 8 with _ | _
  · go_enter Tryz.func44, Tryz.ntmps44
    go_wp2_with (first | (go_at_call 82; refine (within_yes _ _ _ _ (by assumption)).mono ?_; rintro e w' ⟨rfl, rfl⟩) | (go_at_call 82; refine (within_no _ _ _ _ (by assumption)).mono ?_; rintro e w' ⟨rfl, rfl⟩))
    go_ret
    exact ⟨rfl, (Below.refl _ _).alloc (Nat.le_refl _) _⟩
  rcases h4 : inB u 1 99 with _ | _
  · go_enter Tryz.func44, Tryz.ntmps44
    go_wp2_with (first | (go_at_call 82; refine (within_yes _ _ _ _ (by assumption)).mono ?_; rintro e w' ⟨rfl, rfl⟩) | (go_at_call 82; refine (within_no _ _ _ _ (by assumption)).mono ?_; rintro e w' ⟨rfl, rfl⟩))
    go_ret
    exact ⟨rfl, (Below.refl _ _).alloc (Nat.le_refl _) _⟩
  rcases h5 : inB o 0 9 with _ | _
  · go_enter Tryz.func44, Tryz.ntmps44
    go_wp2_with (first | (go_at_call 82; refine (within_yes _ _ _ _ (by assumption)).mono ?_; rintro e w' ⟨rfl, rfl⟩) | (go_at_call 82; refine (within_no _ _ _ _ (by assumption)).mono ?_; rintro e w' ⟨rfl, rfl⟩))
    go_ret
    exact ⟨rfl, (Below.refl _ _).alloc (Nat.le_refl _) _⟩
  have h6 := cfg_not h1 h2 h3 h4 h5 H.out
  have ⟨b1, b2⟩ : 0 ≤ s ∧ s ≤ 16 := by simp [inB] at h2; omega
  have ⟨b3, b4⟩ : 0 ≤ g ∧ g ≤ 8 := by simp [inB] at h3; omega
  go_enter Tryz.func44, Tryz.ntmps44
  go_wp2_with (first | (go_at_call 82; refine (within_yes _ _ _ _ (by assumption)).mono ?_; rintro e w' ⟨rfl, rfl⟩) | (go_at_call 82; refine (within_no _ _ _ _ (by assumption)).mono ?_; rintro e w' ⟨rfl, rfl⟩))
  go_ret
  exact ⟨rfl, (Below.refl _ _).alloc (Nat.le_refl _) _⟩

end Go.Proofs.YtpmkjeihbddfpaaGreatDoor

/- OUR OWN. Fresh. -/
namespace Go.Proofs.YtpmkjeihbddfpaaGreatDoor
open Go.RowKit
set_option linter.unusedVariables false
set_option linter.unusedSimpArgs false

theorem infoObject : (Tryz.prog.info? 54).map (fun i => (i.zero, i.size, i.bytes)) = some (some (.agg #[.bool false, .slice none 0 0, .bool false, .bool false]), 4, 40) := by kernel_rfl
theorem infoRValue : (Tryz.prog.info? 79).map (fun i => (i.zero, i.size, i.bytes)) = some (some (.agg #[.int .i64 0, .int .i64 0]), 2, 16) := by kernel_rfl

def freeCells (k : Nat) : List Value := (List.replicate k RObj.free).flatMap RObj.cells
theorem freeCells_succ (k : Nat) : freeCells (k + 1) = freeCells k ++ [.bool false, .slice none 0 0, .bool false, .bool false] := by
  simp [freeCells, List.replicate_succ', RObj.cells, RObj.free]
def nilCells (k : Nat) : List Value := (List.replicate k ((0, 0) : Int × Int)).flatMap valCells
theorem nilCells_succ (k : Nat) : nilCells (k + 1) = nilCells k ++ [.int .i64 0, .int .i64 0] := by
  simp [nilCells, List.replicate_succ', valCells]

/-- the heap's own block while it is being made -/
def mkHead (b s u z o : Int) (vB vG : Value) : Obj :=
  .cells #[.int .i64 b, .int .i64 s, .int .i64 u, .int .i64 z, .int .i64 o, vB, .slice none 0 0, .slice none 0 0, vG] 45

/-- what holds in the first loop, behind k rounds -/
structure Made1 (w wr : World) (b s u z o : Int) (vB : Value) (k : Nat) : Prop where
  head : wr.heap[w.heap.size]? = some (mkHead b s u z o vB (.slice none 0 0))
  row : wr.ownsRow (w.heap.size + 1) 54 4 vB k (freeCells k)
  below : Below w.heap.size w wr

structure Made2 (w wr : World) (b s u z o : Int) (vB vG : Value) (n k : Nat) : Prop where
  head : wr.heap[w.heap.size]? = some (mkHead b s u z o vB vG)
  row : wr.ownsRow (w.heap.size + 1) 54 4 vB n (freeCells n)
  rowG : wr.ownsRow (w.heap.size + 1) 79 2 vG k (nilCells k)
  apart : ∀ g, vB.ownBlock = some g → vG.ownBlock ≠ some g
  below : Below w.heap.size w wr

theorem Made1.start (w : World) (b s u z o : Int) : Made1 w (w.alloc (mkHead b s u z o (.slice none 0 0) (.slice none 0 0))) b s u z o (.slice none 0 0) 0 :=
  ⟨heap_alloc_new _ _, World.ownsRow_nil _ _ _ _, (Below.refl _ _).alloc (Nat.le_refl _) _⟩

theorem Made1.step {w wr w1 : World} {b s u z o : Int} {vB : Value} {k g cap : Nat} {ob : Obj} (h : Made1 w wr b s u z o vB k)
    (hown : w1.ownsRow (w.heap.size + 1) 54 4 (.slice (some ⟨g, 0, none⟩) (k + 1) cap) (k + 1) (freeCells k ++ [.bool false, .slice none 0 0, .bool false, .bool false]))
    (hgr : (wr.alloc ob).grownBy w1 vB.ownBlock) :
    Made1 w (w1.setCell ⟨w.heap.size, 5, none⟩ (.slice (some ⟨g, 0, none⟩) (k + 1) cap)) b s u z o (.slice (some ⟨g, 0, none⟩) (k + 1) cap) (k + 1) := by
  have hs := lt_of_heap h.head
  have hgb := own_lt hown (g := g) rfl
  have hne : some w.heap.size ≠ vB.ownBlock := fun e => by have := own_lt h.row e.symm; omega
  have hh : w1.heap[w.heap.size]? = some (mkHead b s u z o vB (.slice none 0 0)) := by
    rw [hgr.block _ (by simp; omega) hne, hao hs]; exact h.head
  refine ⟨?_, ?_, ?_⟩
  · rw [heap_setCell_at hh]; rfl
  · rw [freeCells_succ]
    exact ownsRow_setCell_below hown (by simp) _
  · refine ((h.below.alloc (by omega) ob).grown hgr (by simp; omega) (fun j hj => by have := own_lt h.row hj; omega)).setCell (by simp) _

theorem Made1.turn {w wr : World} {b s u z o : Int} {vB : Value} {n : Nat} (h : Made1 w wr b s u z o vB n) : Made2 w wr b s u z o vB (.slice none 0 0) n 0 :=
  ⟨h.head, h.row, World.ownsRow_nil _ _ _ _, fun _ _ => by simp [Value.ownBlock], h.below⟩

theorem Made2.step {w wr w1 : World} {b s u z o : Int} {vB vG : Value} {n k g cap : Nat} {ob : Obj} (h : Made2 w wr b s u z o vB vG n k)
    (hown : w1.ownsRow (w.heap.size + 1) 79 2 (.slice (some ⟨g, 0, none⟩) (k + 1) cap) (k + 1) (nilCells k ++ [.int .i64 0, .int .i64 0]))
    (hgr : (wr.alloc ob).grownBy w1 vG.ownBlock) (hat : vG.ownBlock = some g ∨ g = wr.heap.size + 1) :
    Made2 w (w1.setCell ⟨w.heap.size, 8, none⟩ (.slice (some ⟨g, 0, none⟩) (k + 1) cap)) b s u z o vB (.slice (some ⟨g, 0, none⟩) (k + 1) cap) n (k + 1) := by
  have hs := lt_of_heap h.head
  have hne : some w.heap.size ≠ vG.ownBlock := fun e => by have := own_lt h.rowG e.symm; omega
  have hh : w1.heap[w.heap.size]? = some (mkHead b s u z o vB vG) := by
    rw [hgr.block _ (by simp; omega) hne, hao hs]; exact h.head
  refine ⟨?_, ?_, ?_, ?_, ?_⟩
  · rw [heap_setCell_at hh]; rfl
  · refine ownsRow_setCell_below (own_carry h.row fun j hj => ?_) (by simp) _
    have hj1 := own_lt h.row hj
    rw [hgr.block _ (by simp; omega) (fun e => h.apart j hj e.symm), hao (by omega)]
  · rw [nilCells_succ]
    exact ownsRow_setCell_below hown (by simp) _
  · intro j hj e
    simp [Value.ownBlock] at e
    subst e
    have hj1 := own_lt h.row hj
    rcases hat with hat | hat
    · exact h.apart _ hj hat
    · omega
  · refine ((h.below.alloc (by omega) ob).grown hgr (by simp; omega) (fun j hj => by have := own_lt h.rowG hj; omega)).setCell (by simp) _

def freshM (b s g u z o : Nat) (vB vG : Value) : RefM :=
  { most := b, deep := s, budget := u, zero := z, over := o, vB := vB, vQ := .slice none 0 0, vS := .slice none 0 0, vG := vG, objs := List.replicate (b + 1) RObj.free, queue := [], stack := [], globals := List.replicate g (0, 0) }

theorem freshM_foot (b s g u z o : Nat) (vB vG : Value) : (freshM b s g u z o vB vG).foot = [vB, vG].filterMap Value.ownBlock := by
  have h : ∀ n, (List.replicate n (Value.slice none 0 0)).filterMap Value.ownBlock = [] := fun n => by
    induction n with
    | zero => rfl
    | succ n ih => rw [List.replicate_succ, List.filterMap_cons]; exact ih
  simp only [RefM.foot, freshM, List.filterMap_append, List.map_replicate, RObj.free, h, List.append_nil]
  simp only [List.filterMap_cons, List.filterMap_nil, Value.ownBlock]

theorem Made2.refAt {w wr : World} {b s g u z o : Nat} {vB vG : Value} (h : Made2 w wr b s u z o vB vG (b + 1) g) : RefAt wr w.heap.size (freshM b s g u z o vB vG) := by
  refine ⟨h.head, ?_, win_nil, own_nil, ?_, ?_, ?_⟩
  · have := own_base h.row (Nat.zero_le _)
    simpa [freshM, freeCells] using this
  · have := own_base h.rowG (Nat.zero_le _)
    simpa [freshM, nilCells] using this
  · intro x hx
    have : x = RObj.free := by simp [freshM] at hx; exact hx
    subst this
    exact own_nil
  · rw [freshM_foot]
    have hB : ∀ j, vB.ownBlock = some j → w.heap.size + 1 ≤ j := fun j hj => (own_lt h.row hj).1
    have hG : ∀ j, vG.ownBlock = some j → w.heap.size + 1 ≤ j := fun j hj => (own_lt h.rowG hj).1
    have hap := h.apart
    cases e1 : vB.ownBlock with
    | none =>
      cases e2 : vG.ownBlock with
      | none => simp [e1, e2]
      | some j2 => have := hG _ e2; simp [e1, e2]; omega
    | some j1 =>
      have := hB _ e1
      cases e2 : vG.ownBlock with
      | none => simp [e1, e2]; omega
      | some j2 => have := hG _ e2; have := hap _ e1; simp [e1, e2] at *; omega

theorem Made2.foot {w wr : World} {b s g u z o : Nat} {vB vG : Value} (h : Made2 w wr b s u z o vB vG (b + 1) g) : ∀ x ∈ w.heap.size :: (freshM b s g u z o vB vG).foot, w.heap.size ≤ x := by
  intro x hx
  rw [freshM_foot] at hx
  rcases List.mem_cons.1 hx with rfl | hx
  · exact Nat.le_refl _
  · obtain ⟨v, hv, hx'⟩ := List.mem_filterMap.1 hx
    simp at hv
    rcases hv with rfl | rfl
    · have := (own_lt h.row hx').1; omega
    · have := (own_lt h.rowG hx').1; omega

set_option maxHeartbeats 400000 in
theorem fresh_any (b s g u z o : Nat) (w : World) (hb : b ≤ 99) (hg : g ≤ 8) :
    Calls Tryz.prog 27 #[.int .i64 b, .int .i64 s, .int .i64 g, .int .i64 u, .int .i64 z, .int .i64 o] w
      fun e w' => e = .returned (.pointer (some ⟨w.heap.size, 0, none⟩)) ∧ ∃ vB vG, Made2 w w' b s u z o vB vG (b + 1) g := by
  obtain ⟨i0, hi, hz0, hz1, hz2⟩ := info_parts infoObject
  obtain ⟨i1, hi1, hy0, hy1, hy2⟩ := info_parts infoRValue
  go_enter Tryz.func27, Tryz.ntmps27
  go_wp2
  go_loopw [14] (fun i wr => ∃ k : Nat, k ≤ b + 1 ∧ i = .int .i64 k ∧ ∃ vB, Made1 w wr b s u z o vB k) (fun i _ => b + 1 - (intOf i).toNat)
  case atStart => exact ⟨0, by omega, rfl, _, Made1.start w b s u z o⟩
  case round =>
    obtain ⟨k, hk, rfl, vB, hm⟩ := hrel
    by_cases hlt : k ≤ b
    · have hcell : wr.cell? ⟨w.heap.size, 5, none⟩ = some vB := cell_of_heap hm.head rfl
      go_wp2_with (at_builtin; refine wpList_append_lies _ rfl (.tmp 32) (.tmp 34) 41 rfl (w.heap.size + 1) 54 i0 _ 4 40 Tryz.underlying41 hi hz0 hz1 hz2 rfl (by decide) _ _ _ rfl (hm.row.alloc _) ⟨wr.heap.size, 0, none⟩ 1 1 [.bool false, .slice none 0 0, .bool false, .bool false] rfl rfl ?c1 ?c2 (by decide) ?c3 ?c4 ?c5 (wr.heap.size + 1) (by simp) ?_)
      case c1 => exact news_new _ [.bool false, .slice none 0 0, .bool false, .bool false] _
      case c2 => intro u hu; simp at hu; rcases hu with rfl | rfl | rfl <;> rfl
      case c3 => unfold maxLen; omega
      case c4 => omega
      case c5 => have := lt_of_heap hm.head; simp; omega
      intro g' cap w1 hown hgr _ _
      have hm' := hm.step hown hgr
      have hf : w1.frozen? ⟨w.heap.size, 5, none⟩ = false := by
        have hs := lt_of_heap hm.head
        have hne : some w.heap.size ≠ vB.ownBlock := fun e => by have := own_lt hm.row e.symm; omega
        have hh : w1.heap[w.heap.size]? = some (mkHead b s u z o vB (.slice none 0 0)) := by
          rw [hgr.block _ (by simp; omega) hne, hao hs]; exact hm.head
        exact frozen_of_heap hh
      have hcell1 : w1.cell? ⟨w.heap.size, 5, none⟩ = some vB := by
        have hs := lt_of_heap hm.head
        have hne : some w.heap.size ≠ vB.ownBlock := fun e => by have := own_lt hm.row e.symm; omega
        have hh : w1.heap[w.heap.size]? = some (mkHead b s u z o vB (.slice none 0 0)) := by
          rw [hgr.block _ (by simp; omega) hne, hao hs]; exact hm.head
        exact cell_of_heap hh rfl
      clear hown hgr hcell hm
      go_wp2
      go_roundw
      case rel => exact ⟨k + 1, by omega, by go_num, _, hm'⟩
      case measure => simp [intOf]; omega
    · have hkb : k = b + 1 := by omega
      have hm2 : Made2 w wr b s u z o vB (.slice none 0 0) (b + 1) 0 := (hkb ▸ hm).turn
      clear hm hkb
      go_wp2
      go_loopw [15] (fun i wr => ∃ j : Nat, j ≤ g ∧ i = .int .i64 j ∧ ∃ vG, Made2 w wr b s u z o vB vG (b + 1) j) (fun i _ => g - (intOf i).toNat)
      case atStart => exact ⟨0, by omega, rfl, _, hm2⟩
      case round =>
        rename_i wr0 _ _ _
        clear hm2
        obtain ⟨j, hj, rfl, vG, hm⟩ := hrel
        by_cases hlt2 : j < g
        · have hcell : wr.cell? ⟨w.heap.size, 8, none⟩ = some vG := cell_of_heap hm.head rfl
          go_wp2_with (at_builtin; refine wpList_append_lies _ rfl (.tmp 47) (.tmp 49) 43 rfl (w.heap.size + 1) 79 i1 _ 2 16 Tryz.underlying43 hi1 hy0 hy1 hy2 rfl (by decide) _ _ _ rfl (hm.rowG.alloc _) ⟨wr.heap.size, 0, none⟩ 1 1 [.int .i64 0, .int .i64 0] rfl rfl ?c1 ?c2 (by decide) ?c3 ?c4 ?c5 (wr.heap.size + 1) (by simp) ?_)
          case c1 => exact news_new _ [.int .i64 0, .int .i64 0] _
          case c2 => intro u hu; simp at hu; subst hu; rfl
          case c3 => unfold maxLen; omega
          case c4 => omega
          case c5 => have := lt_of_heap hm.head; simp; omega
          intro g' cap w1 hown hgr hat _
          have hm' := hm.step hown hgr hat
          have hh : w1.heap[w.heap.size]? = some (mkHead b s u z o vB vG) := by
            have hs := lt_of_heap hm.head
            have hne : some w.heap.size ≠ vG.ownBlock := fun e => by have := own_lt hm.rowG e.symm; omega
            rw [hgr.block _ (by simp; omega) hne, hao hs]; exact hm.head
          have hf : w1.frozen? ⟨w.heap.size, 8, none⟩ = false := frozen_of_heap hh
          have hcell1 : w1.cell? ⟨w.heap.size, 8, none⟩ = some vG := cell_of_heap hh rfl
          clear hown hgr hcell hm hat hh
          go_wp2
          go_roundw
          case rel => exact ⟨j + 1, by omega, by go_num, _, hm'⟩
          case measure => simp [intOf]; omega
        · have hjg : j = g := by omega
          subst hjg
          go_wp2
          go_ret
          exact ⟨rfl, _, _, hm⟩
end Go.Proofs.YtpmkjeihbddfpaaGreatDoor

