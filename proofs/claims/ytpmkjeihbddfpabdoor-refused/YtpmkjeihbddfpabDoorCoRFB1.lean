import Derived.Test.YtpmkjeihbddfpabDoorRows
import Derived.Test.YtpmkjeihbddfpabDoorCards
import Derived.Test.YtpmkjeihbddfpabDoorTie
import Derived.WalkKit
import Derived.WalkSpells
import Derived.WalkLawsBesides
import Derived.Deep.QuietTactic
import Derived.BigQuiet
import Derived.Deep.AppendLies
/- OUR OWN. What the walks share: small facts on worlds, closed facts of the program. -/
namespace Go.Proofs.YtpmkjeihbddfpabDoor
open Go.RowKit
set_option linter.unusedVariables false
set_option linter.unusedSimpArgs false

/-- What the document calls a configuration. -/
def cfgB (b s g u z o : Int) : Bool :=
  decide (1 ≤ b ∧ b ≤ 99 ∧ 1 ≤ s ∧ s ≤ 16 ∧ 0 ≤ g ∧ g ≤ 8 ∧ 1 ≤ u ∧ u ≤ 99 ∧ s + g < z ∧ z ≤ 99 ∧ 0 ≤ o ∧ o ≤ 9)

theorem ret_int {k : IntKind} {a b : Int} (h : a = b) : Ending.returned (.int k a) = .returned (.int k b) := by rw [h]
theorem ret_bool {a b : Bool} (h : a = b) : Ending.returned (.bool a) = .returned (.bool b) := by rw [h]

def inB (n l m : Int) : Bool := decide (l ≤ n ∧ n ≤ m)

theorem within_yes (n l m : Int) (w : World) (h : inB n l m = true) :
    Calls Tryd.prog 74 #[.int .i64 n, .int .i64 l, .int .i64 m] w fun e w' => e = .returned (.bool true) ∧ w' = w := by
  have ⟨h1, h2⟩ : l ≤ n ∧ n ≤ m := by simpa [inB] using h
  clear h
  go_enter Tryd.func74, Tryd.ntmps74
  go_wp2
  go_ret
  exact ⟨rfl, rfl⟩

theorem within_no (n l m : Int) (w : World) (h : inB n l m = false) :
    Calls Tryd.prog 74 #[.int .i64 n, .int .i64 l, .int .i64 m] w fun e w' => e = .returned (.bool false) ∧ w' = w := by
  have h0 : ¬ (l ≤ n ∧ n ≤ m) := by simpa [inB] using h
  clear h
  by_cases h1 : l ≤ n
  · have h2 : ¬ n ≤ m := fun h => h0 ⟨h1, h⟩
    clear h0
    go_enter Tryd.func74, Tryd.ntmps74
    go_wp2
    go_ret
    exact ⟨rfl, rfl⟩
  · clear h0
    go_enter Tryd.func74, Tryd.ntmps74
    go_wp2
    go_ret
    exact ⟨rfl, rfl⟩

/-! ### Blocks that are known whole -/
theorem heap_setCell_at {w : World} {b i : Nat} {c : Array Value} {e : TypeId} {fr : Nat × Nat} (h : w.heap[b]? = some (.cells c e fr)) (v : Value) :
    (w.setCell ⟨b, i, none⟩ v).heap[b]? = some (.cells (c.setIfInBounds i v) e fr) := by
  simp [World.setCell, Array.getElem?_modify, h]

theorem cell_of_heap {w : World} {b i : Nat} {c : Array Value} {e : TypeId} {fr : Nat × Nat} {v : Value} (h : w.heap[b]? = some (.cells c e fr)) (hi : c[i]? = some v) :
    w.cell? ⟨b, i, none⟩ = some v := by simp [World.cell?, h, hi]

theorem frozen_of_heap {w : World} {b i : Nat} {c : Array Value} {e : TypeId} (h : w.heap[b]? = some (.cells c e (0, 0))) : w.frozen? ⟨b, i, none⟩ = false := by
  simp [World.frozen?, h]

theorem lt_of_heap {w : World} {b : Nat} {o : Obj} (h : w.heap[b]? = some o) : b < w.heap.size := by
  rcases Nat.lt_or_ge b w.heap.size with h1 | h1
  · exact h1
  · rw [Array.getElem?_eq_none h1] at h; cases h

theorem hao {w : World} {o : Obj} {k : Nat} (h : k < w.heap.size) : (w.alloc o).heap[k]? = w.heap[k]? := Below.heap_alloc _ _ _ h

theorem news_new (w : World) (cs : List Value) (t : TypeId) : ∀ j u, cs[j]? = some u → (w.alloc (.cells cs.toArray t)).cell? ((⟨w.heap.size, 0, none⟩ : Addr).add j) = some u :=
  World.news_of_block (cs := cs.toArray) (fr := (0, 0)) (heap_alloc_new w _)

/-- nothing old has turned but the blocks of F -/
structure Off (F : List Nat) (w w' : World) : Prop where
  os : w'.os = w.os
  tape : w'.tape = w.tape
  output : w'.output = w.output
  size : w.heap.size ≤ w'.heap.size
  block : ∀ k, k < w.heap.size → k ∉ F → w'.heap[k]? = w.heap[k]?

theorem Off.of_below {F : List Nat} {w w' : World} (h : Below w.heap.size w w') : Off F w w' := ⟨h.os, h.tape, h.output, h.size, fun k hk _ => h.block k hk⟩
theorem Off.below {F : List Nat} {B : Nat} {w w' : World} (h : Off F w w') (hB : B ≤ w.heap.size) (hF : ∀ g ∈ F, B ≤ g) : Below B w w' :=
  ⟨h.os, h.tape, h.output, h.size, fun k hk => h.block k (by omega) fun e => by have := hF k e; omega⟩
theorem Off.trans {F : List Nat} {a b c : World} (h : Off F a b) (k : Off F b c) : Off F a c :=
  ⟨k.os.trans h.os, k.tape.trans h.tape, k.output.trans h.output, Nat.le_trans h.size k.size, fun i hi hF => (k.block i (Nat.lt_of_lt_of_le hi h.size) hF).trans (h.block i hi hF)⟩

theorem own_nil {w : World} {e : TypeId} {size : Nat} : w.ownsRow 0 e size (.slice none 0 0) 0 [] := World.ownsRow_nil _ _ _ _

/-- a row that is owned stays owned where its block stays -/
theorem own_carry {w w' : World} {base : Nat} {e : TypeId} {size : Nat} {v : Value} {n : Nat} {xs : List Value} (h : w.ownsRow base e size v n xs)
    (hb : ∀ g, v.ownBlock = some g → w'.heap[g]? = w.heap[g]?) : w'.ownsRow base e size v n xs := by
  refine ⟨h.1, ?_⟩
  rcases h.2 with hn | ⟨g, cap, cur, rfl, h1, h2, rest⟩
  · exact .inl hn
  · exact .inr ⟨g, cap, cur, rfl, h1, by rw [hb g rfl]; exact h2, rest⟩

theorem own_base {w : World} {base base' : Nat} {e : TypeId} {size : Nat} {v : Value} {n : Nat} {xs : List Value} (h : w.ownsRow base e size v n xs) (hb : base' ≤ base) : w.ownsRow base' e size v n xs := by
  refine ⟨h.1, ?_⟩
  rcases h.2 with hn | ⟨g, cap, cur, rfl, h1, rest⟩
  · exact .inl hn
  · exact .inr ⟨g, cap, cur, rfl, by omega, rest⟩

theorem own_lt {w : World} {base : Nat} {e : TypeId} {size : Nat} {v : Value} {n : Nat} {xs : List Value} (h : w.ownsRow base e size v n xs) {g : Nat} (hg : v.ownBlock = some g) : base ≤ g ∧ g < w.heap.size := h.lt g hg

/-! ### A slice that may be a window of its block (what q[1:] leaves); cells of one value -/
def ownsWin (w : World) (e : TypeId) (v : Value) (n : Nat) (xs : List Value) : Prop :=
  xs.length = n ∧ ((v = .slice none 0 0 ∧ n = 0) ∨
    ∃ g off cap cur, v = .slice (some ⟨g, off, none⟩) n cap ∧ w.heap[g]? = some (.cells cur e (0, 0)) ∧ n ≤ cap ∧ cap ≤ maxLen ∧ off + cap ≤ cur.size ∧ ∀ j u, xs[j]? = some u → cur[off + j]? = some u)

theorem win_nil {w : World} {e : TypeId} : ownsWin w e (.slice none 0 0) 0 [] := ⟨rfl, .inl ⟨rfl, rfl⟩⟩
theorem win_carry {w w' : World} {e : TypeId} {v : Value} {n : Nat} {xs : List Value} (h : ownsWin w e v n xs) (hb : ∀ g, v.ownBlock = some g → w'.heap[g]? = w.heap[g]?) : ownsWin w' e v n xs := by
  refine ⟨h.1, ?_⟩
  rcases h.2 with hn | ⟨g, off, cap, cur, rfl, h1, rest⟩
  · exact .inl hn
  · exact .inr ⟨g, off, cap, cur, rfl, by rw [hb g rfl]; exact h1, rest⟩
theorem win_lt {w : World} {e : TypeId} {v : Value} {n : Nat} {xs : List Value} (h : ownsWin w e v n xs) {g : Nat} (hg : v.ownBlock = some g) : g < w.heap.size := by
  rcases h.2 with ⟨rfl, _⟩ | ⟨g', off, cap, cur, rfl, h1, _⟩
  · cases hg
  · have : g' = g := by simpa [Value.ownBlock] using hg
    subst this
    exact lt_of_heap h1
theorem win_slice {w : World} {e : TypeId} {v : Value} {n : Nat} {xs : List Value} (h : ownsWin w e v n xs) : ∃ ao cap, v = .slice ao n cap := by
  rcases h.2 with ⟨hv, hn⟩ | ⟨g, off, cap, cur, hv, _⟩
  · exact ⟨none, 0, by rw [hv, hn]⟩
  · exact ⟨_, _, hv⟩
theorem win_view {w : World} {e : TypeId} {v : Value} {n : Nat} {xs : List Value} (h : ownsWin w e v n xs) (hn : 0 < n) :
    ∃ g off cap, v = .slice (some ⟨g, off, none⟩) n cap ∧ g < w.heap.size ∧ v.ownBlock = some g ∧ n ≤ cap ∧ (∀ j u, xs[j]? = some u → w.cell? ⟨g, off + j, none⟩ = some u) ∧ ∀ j, w.frozen? ⟨g, j, none⟩ = false := by
  rcases h.2 with ⟨_, h0⟩ | ⟨g, off, cap, cur, rfl, hg, hnc, _, _, hx⟩
  · omega
  · exact ⟨g, off, cap, rfl, lt_of_heap hg, rfl, hnc, fun j u hu => cell_of_heap hg (hx j u hu), fun j => frozen_of_heap hg⟩
theorem win_of_row {w : World} {base : Nat} {e : TypeId} {v : Value} {n : Nat} {xs : List Value} (h : w.ownsRow base e 1 v n xs) : ownsWin w e v n xs := by
  refine ⟨by rw [h.1, Nat.mul_one], ?_⟩
  rcases h.2 with hn | ⟨g, cap, cur, rfl, _, h1, h2, h3, h4, h5⟩
  · exact .inl hn
  · refine .inr ⟨g, 0, cap, cur, rfl, h1, h2, h3, by omega, fun j u hu => ?_⟩
    rw [← h5, Nat.mul_one, List.getElem?_take] at hu
    rw [Nat.zero_add]
    split at hu
    · simpa using hu
    · cases hu

/-- a value: kind and number -/
def valCells (v : Int × Int) : List Value := [.int .i64 v.1, .int .i64 v.2]

def fits (x : Int) : Prop := -9223372036854775808 ≤ x ∧ x ≤ 9223372036854775807

end Go.Proofs.YtpmkjeihbddfpabDoor

/- OUR OWN. isConfig, May, num, pick. -/
namespace Go.Proofs.YtpmkjeihbddfpabDoor
open Go.RowKit
set_option linter.unusedVariables false
set_option linter.unusedSimpArgs false

theorem cfg_parts {b s g u z o : Int} (h : cfgB b s g u z o = true) :
    inB b 1 99 = true ∧ inB s 1 16 = true ∧ inB g 0 8 = true ∧ inB u 1 99 = true ∧ inB o 0 9 = true ∧ inB z (s + g + 1) 99 = true := by
  simp [cfgB, inB] at h ⊢; omega

theorem cfg_not {b s g u z o : Int} (h1 : inB b 1 99 = true) (h2 : inB s 1 16 = true) (h3 : inB g 0 8 = true) (h4 : inB u 1 99 = true) (h5 : inB o 0 9 = true) (h : cfgB b s g u z o = false) :
    inB z (s + g + 1) 99 = false := by
  simp [cfgB, inB] at *; omega

set_option maxHeartbeats 400000 in
theorem isConfig_yes (b s g u z o : Int) (w : World) (h : cfgB b s g u z o = true) :
    Calls Tryd.prog 51 #[.agg #[.int .i64 b, .int .i64 s, .int .i64 g, .int .i64 u, .int .i64 z, .int .i64 o]] w
      fun e w' => e = .returned (.bool true) ∧ Below w.heap.size w w' := by
  have ⟨h1, h2, h3, h4, h5, h6⟩ := cfg_parts h
  have ⟨b1, b2⟩ : 0 ≤ s ∧ s ≤ 16 := by simp [inB] at h2; omega
  have ⟨b3, b4⟩ : 0 ≤ g ∧ g ≤ 8 := by simp [inB] at h3; omega
  clear h
  go_enter Tryd.func51, Tryd.ntmps51
  go_wp2_with (go_at_call 74; refine (within_yes _ _ _ _ (by assumption)).mono ?_; rintro e w' ⟨rfl, rfl⟩)
  go_ret
  exact ⟨rfl, (Below.refl _ _).alloc (Nat.le_refl _) _⟩

set_option maxHeartbeats 800000 in
theorem isConfig_no (b s g u z o : Int) (w : World) (h : cfgB b s g u z o = false) :
    Calls Tryd.prog 51 #[.agg #[.int .i64 b, .int .i64 s, .int .i64 g, .int .i64 u, .int .i64 z, .int .i64 o]] w
      fun e w' => e = .returned (.bool false) ∧ Below w.heap.size w w' := by
  have H : Hid (cfgB b s g u z o = false) := h
  clear h
  rcases h1 : inB b 1 99 with _ | _
  · go_enter Tryd.func51, Tryd.ntmps51
    go_wp2_with (first | (go_at_call 74; refine (within_yes _ _ _ _ (by assumption)).mono ?_; rintro e w' ⟨rfl, rfl⟩) | (go_at_call 74; refine (within_no _ _ _ _ (by assumption)).mono ?_; rintro e w' ⟨rfl, rfl⟩))
    go_ret
    exact ⟨rfl, (Below.refl _ _).alloc (Nat.le_refl _) _⟩
  rcases h2 : inB s 1 16 with _ | _
  · go_enter Tryd.func51, Tryd.ntmps51
    go_wp2_with (first | (go_at_call 74; refine (within_yes _ _ _ _ (by assumption)).mono ?_; rintro e w' ⟨rfl, rfl⟩) | (go_at_call 74; refine (within_no _ _ _ _ (by assumption)).mono ?_; rintro e w' ⟨rfl, rfl⟩))
    go_ret
    exact ⟨rfl, (Below.refl _ _).alloc (Nat.le_refl _) _⟩
  rcases h3 : inB g 0 8 with _ | _
  · go_enter Tryd.func51, Tryd.ntmps51
    go_wp2_with (first | (go_at_call 74; refine (within_yes _ _ _ _ (by assumption)).mono ?_; rintro e w' ⟨rfl, rfl⟩) | (go_at_call 74; refine (within_no _ _ _ _ (by assumption)).mono ?_; rintro e w' ⟨rfl, rfl⟩))
    go_ret
    exact ⟨rfl, (Below.refl _ _).alloc (Nat.le_refl _) _⟩
  rcases h4 : inB u 1 99 with _ | _
  · go_enter Tryd.func51, Tryd.ntmps51
    go_wp2_with (first | (go_at_call 74; refine (within_yes _ _ _ _ (by assumption)).mono ?_; rintro e w' ⟨rfl, rfl⟩) | (go_at_call 74; refine (within_no _ _ _ _ (by assumption)).mono ?_; rintro e w' ⟨rfl, rfl⟩))
    go_ret
    exact ⟨rfl, (Below.refl _ _).alloc (Nat.le_refl _) _⟩
  rcases h5 : inB o 0 9 with _ | _
  · go_enter Tryd.func51, Tryd.ntmps51
    go_wp2_with (first | (go_at_call 74; refine (within_yes _ _ _ _ (by assumption)).mono ?_; rintro e w' ⟨rfl, rfl⟩) | (go_at_call 74; refine (within_no _ _ _ _ (by assumption)).mono ?_; rintro e w' ⟨rfl, rfl⟩))
    go_ret
    exact ⟨rfl, (Below.refl _ _).alloc (Nat.le_refl _) _⟩
  have h6 := cfg_not h1 h2 h3 h4 h5 H.out
  have ⟨b1, b2⟩ : 0 ≤ s ∧ s ≤ 16 := by simp [inB] at h2; omega
  have ⟨b3, b4⟩ : 0 ≤ g ∧ g ≤ 8 := by simp [inB] at h3; omega
  go_enter Tryd.func51, Tryd.ntmps51
  go_wp2_with (first | (go_at_call 74; refine (within_yes _ _ _ _ (by assumption)).mono ?_; rintro e w' ⟨rfl, rfl⟩) | (go_at_call 74; refine (within_no _ _ _ _ (by assumption)).mono ?_; rintro e w' ⟨rfl, rfl⟩))
  go_ret
  exact ⟨rfl, (Below.refl _ _).alloc (Nat.le_refl _) _⟩

end Go.Proofs.YtpmkjeihbddfpabDoor

/- OUR OWN. What an operation does, and answers, by the document: without memory. -/
namespace Go.Proofs.YtpmkjeihbddfpabDoor
set_option linter.unusedVariables false
set_option linter.unusedSimpArgs false

/-- what a block has -/
structure Ob where
  here : Bool
  fs : List (Int × Int)
  stuck : Bool
  queued : Bool
def Ob.free : Ob := ⟨false, [], false, false⟩

/-- of the configuration: what never changes -/
structure Cf where
  deep : Int
  budget : Int
  zero : Int
  over : Int

structure St where
  stack : List (Int × Int)
  globals : List (Int × Int)
  objs : List Ob
  queue : List Int

/-! ### What is counted -/
def refsN (l : List (Int × Int)) (b : Int) : Nat := l.countP fun v => v.1 == 2 && v.2 == b
/-- how many of the blocks 1 to k -/
def countTo (p : Nat → Bool) (k : Nat) : Nat := (List.range k).countP fun j => p (j + 1)
theorem countTo_succ (p : Nat → Bool) (k : Nat) : countTo p (k + 1) = countTo p k + if p (k + 1) then 1 else 0 := by
  unfold countTo
  rw [List.range_succ, List.countP_append, List.countP_cons, List.countP_nil]
  simp
theorem countTo_le (p : Nat → Bool) (k : Nat) : countTo p k ≤ k := by
  have := List.countP_le_length (p := fun j => p (j + 1)) (l := List.range k)
  simpa [countTo] using this

def obCount (b : Int) (o : Ob) : Nat := if o.here then refsN o.fs b else 0
def St.N (s : St) : Nat := s.objs.length - 1
def St.ob (s : St) (i : Nat) : Ob := s.objs.getD i Ob.free
def St.count (s : St) (b : Int) : Nat := (s.objs.tail.map (obCount b)).sum
def St.rooted (s : St) (b : Int) : Bool := decide (0 < refsN s.stack b + refsN s.globals b)
def St.waits (s : St) (i : Nat) : Bool := (s.ob i).here && !(s.ob i).stuck && !(s.ob i).queued && decide (s.count i = 0)
def St.extra (s : St) (i : Nat) : Bool := (s.ob i).here && !(s.ob i).stuck && decide (7 < s.count i)
def St.extras (s : St) : Nat := countTo s.extra s.N
def St.others (s : St) (but : Int) (k : Nat) : Bool := s.waits k && decide ((k : Int) ≠ but)
def St.sorts (s : St) (but : Int) (k : Nat) : Bool := s.waits k && !s.rooted k && decide ((k : Int) ≠ but)

/-! ### What is turned -/
def St.put (s : St) (i : Nat) (o : Ob) : St := { s with objs := s.objs.set i o }
def St.enq (s : St) (i : Nat) : St := { s with objs := s.objs.set i { s.ob i with queued := true }, queue := s.queue ++ [(i : Int)] }
def St.stick (s : St) (i : Nat) : St := s.put i { s.ob i with stuck := true }
def St.field (s : St) (i k : Nat) (v : Int × Int) : St := s.put i { s.ob i with fs := (s.ob i).fs.set k v }
def sortTo (but : Int) (s : St) : Nat → St
  | 0 => s
  | k + 1 => if (sortTo but s k).sorts but (k + 1) then (sortTo but s k).enq (k + 1) else sortTo but s k
def St.sort (s : St) (but : Int) : St := sortTo but s s.N
def St.enter (s : St) (zero : Int) (but : Int) : St := if zero ≤ countTo (s.others but) s.N then s.sort but else s

/-! ### Freeing the first of the queue -/
/-- field k of the object in block b becomes nil; what it had is let go -/
def letGo (zero : Int) (b k : Nat) (s : St) : St :=
  if ((s.ob b).fs.getD k (0, 0)).1 ≠ 2 then s.field b k (0, 0) else
  if 0 < (s.field b k (0, 0)).count ((s.ob b).fs.getD k (0, 0)).2 ∨ ((s.field b k (0, 0)).ob ((s.ob b).fs.getD k (0, 0)).2.toNat).stuck = true then s.field b k (0, 0) else
  if (s.field b k (0, 0)).rooted ((s.ob b).fs.getD k (0, 0)).2 = true then (s.field b k (0, 0)).enter zero ((s.ob b).fs.getD k (0, 0)).2 else
  (s.field b k (0, 0)).enq ((s.ob b).fs.getD k (0, 0)).2.toNat
def letTo (zero : Int) (b : Nat) (s : St) : Nat → St
  | 0 => s
  | k + 1 => letGo zero b k (letTo zero b s k)
/-- the object leaves the queue, its block is free -/
def St.leave (s : St) (b : Nat) : St := { s with objs := s.objs.set b Ob.free, queue := s.queue.tail }
def St.first (s : St) : Nat := (s.queue.headD 0).toNat
def St.free (s : St) (zero : Int) : St := (letTo zero s.first s (s.ob s.first).fs.length).leave s.first
def safeN (zero : Int) : Nat → St → St × Nat
  | 0, s => (s, 0)
  | k + 1, s => if s.queue.length = 0 then (s, 0) else ((safeN zero k (s.free zero)).1, (safeN zero k (s.free zero)).2 + 1)
def St.safe (s : St) (c : Cf) : St × Nat := safeN c.zero c.budget.toNat (s.sort 0)

/-! ### A collection -/
/-- reachable, by at most so many steps -/
def reachK (s : St) : Nat → Nat → Bool
  | 0, b => decide (1 ≤ b ∧ b ≤ s.N) && s.rooted b
  | k + 1, b => reachK s k b || (decide (1 ≤ b ∧ b ≤ s.N) && (List.range (s.N + 1)).any fun a => reachK s k a && decide (0 < refsN (s.ob a).fs b))
def St.reachB (s : St) (b : Nat) : Bool := reachK s s.N b
/-- without what is not reachable; none is stuck, none in the queue -/
def sweptOb (s : St) (i : Nat) (o : Ob) : Ob := if i = 0 then o else if o.here && !s.reachB i then Ob.free else { o with stuck := false, queued := false }
def St.swept (s : St) : St := { s with objs := s.objs.mapIdx (sweptOb s), queue := [] }
def St.over7 (s : St) (b : Nat) : Bool := decide (7 < s.count b)
def stuckOb (over : Int) (s : St) (i : Nat) (o : Ob) : Ob := if i ≠ 0 ∧ s.over7 i = true ∧ over ≤ countTo s.over7 (i - 1) then { o with stuck := true } else o
def St.restuck (s : St) (over : Int) : St := { s with objs := s.objs.mapIdx (stuckOb over s) }
def St.collect (s : St) (over : Int) : St := s.swept.restuck over
def St.gone (s : St) : Nat := countTo (fun b => (s.ob b).here && !s.reachB b) s.N

/-! ### The operations -/
def St.pop (s : St) (k : Nat) : St := { s with stack := s.stack.take (s.stack.length - k) }
def St.down (s : St) (k : Nat) : Int × Int := s.stack.getD (s.stack.length - 1 - k) (0, 0)
def St.fields (s : St) (b : Int) : List (Int × Int) := (s.ob b.toNat).fs
def pushS (deep : Int) (s : St) (v : Int × Int) : St × Int := if deep ≤ s.stack.length then (s, 7) else ({ s with stack := s.stack ++ [v] }, 0)
def objErr (v : Int × Int) : Int := if v.1 = 0 then 4 else if v.1 = 1 then 5 else 0
def pushA (deep : Int) (s : St) (v : Int × Int) : St × Int × Int := ((pushS deep s v).1, 0, (pushS deep s v).2)
def free? (s : St) : Option Nat := s.objs.tail.findIdx? (fun o => !o.here)

/-- what a heap does that has no free block -/
def roomS (c : Cf) (s : St) : St :=
  match free? s with
  | some _ => s
  | none => if 0 < s.queue.length then s.free c.zero else s.collect c.over
/-- a new object in block b, with n fields; then a reference to it is pushed -/
def layS (zero : Int) (s : St) (b : Nat) (n : Nat) : St :=
  { (s.put b ⟨true, List.replicate n (0, 0), false, false⟩).enter zero b with stack := s.stack ++ [(2, (b : Int))] }
def newS (c : Cf) (s : St) (n : Int) : St × Int × Int :=
  if n < 0 ∨ 4 < n then (s, 0, 6) else if c.deep ≤ s.stack.length then (s, 0, 7) else
  match free? (roomS c s) with
  | none => (roomS c s, 0, 8)
  | some k => (layS c.zero (roomS c s) (k + 1) n.toNat, 0, 0)

def loadS (deep : Int) (s : St) (n : Int) : St × Int × Int :=
  if s.stack.length < 1 then (s, 0, 3) else if objErr (s.down 0) ≠ 0 then (s, 0, objErr (s.down 0)) else
  if n < 0 ∨ ((s.fields (s.down 0).2).length : Int) ≤ n then (s, 0, 6) else pushA deep (s.pop 1) ((s.fields (s.down 0).2).getD n.toNat (0, 0))

/-- the new value's object counts the field -/
def stickS (over : Int) (s : St) (x : Int × Int) : St := if x.1 = 2 ∧ s.count x.2 = 7 ∧ over ≤ s.extras then s.stick x.2.toNat else s
/-- the old value's object counts the field no more -/
def dropS' (zero : Int) (s : St) (y : Int × Int) : St := if y.1 = 2 ∧ (s.ob y.2.toNat).stuck = false ∧ s.count y.2 = 0 then s.enter zero y.2 else s
def putS (c : Cf) (s : St) (i k : Nat) (x y : Int × Int) : St :=
  if x.1 = 2 ∧ y = x then s else dropS' c.zero ((stickS c.over s x).field i k x) y
def storeS (c : Cf) (s : St) (n : Int) : St × Int × Int :=
  if s.stack.length < 2 then (s, 0, 3) else if objErr (s.down 1) ≠ 0 then (s, 0, objErr (s.down 1)) else
  if n < 0 ∨ ((s.fields (s.down 1).2).length : Int) ≤ n then (s, 0, 6) else
  (putS c (s.pop 2) (s.down 1).2.toNat n.toNat (s.down 0) ((s.fields (s.down 1).2).getD n.toNat (0, 0)), 0, 0)

def dupS (deep : Int) (s : St) (n : Int) : St × Int × Int := if n < 0 ∨ (s.stack.length : Int) ≤ n then (s, 0, 6) else pushA deep s (s.down n.toNat)
def dropS (s : St) : St × Int × Int := if s.stack.length < 1 then (s, 0, 3) else (s.pop 1, 0, 0)
def getS (deep : Int) (s : St) (n : Int) : St × Int × Int := if n < 0 ∨ (s.globals.length : Int) ≤ n then (s, 0, 6) else pushA deep s (s.globals.getD n.toNat (0, 0))
def setS (s : St) (n : Int) : St × Int × Int :=
  if n < 0 ∨ (s.globals.length : Int) ≤ n then (s, 0, 6) else if s.stack.length < 1 then (s, 0, 3) else ({ s.pop 1 with globals := s.globals.set n.toNat (s.down 0) }, 0, 0)
def sameS (s : St) : St × Int × Int := if s.stack.length < 2 then (s, 0, 3) else if s.down 0 = s.down 1 then (s.pop 2, 1, 0) else (s.pop 2, 0, 0)
def takeS (s : St) : St × Int × Int := if s.stack.length < 1 then (s, 0, 3) else if (s.down 0).1 = 1 then (s.pop 1, (s.down 0).2, 0) else (s, 0, 5)
def sizeS (s : St) : St × Int × Int := if s.stack.length < 1 then (s, 0, 3) else if objErr (s.down 0) ≠ 0 then (s, 0, objErr (s.down 0)) else (s, (s.fields (s.down 0).2).length, 0)
def kindS (s : St) : St × Int × Int := if s.stack.length < 1 then (s, 0, 3) else (s, (s.down 0).1, 0)

def doS (c : Cf) (s : St) (op n : Int) : St × Int × Int :=
  if op = 0 then pushA c.deep s (0, 0) else if op = 1 then pushA c.deep s (1, n) else if op = 2 then newS c s n else if op = 3 then dupS c.deep s n else if op = 4 then dropS s else
  if op = 5 then getS c.deep s n else if op = 6 then setS s n else if op = 7 then loadS c.deep s n else if op = 8 then storeS c s n else if op = 9 then sameS s else if op = 10 then takeS s else
  if op = 11 then sizeS s else if op = 12 then kindS s else (s, 0, 2)

/-- an operation's answer, where it is not refused, by cases: one rule for whatever stays so -/
theorem doS_keeps (c : Cf) (s : St) (op n : Int) (P : St → Prop) (h : P s) (hpush : ∀ t v, P t → (t = s ∨ t = s.pop 1) → (v = (0, 0) ∨ v = (1, n) ∨ (∃ k, v = s.down k) ∨ (∃ k, v = s.globals.getD k (0, 0)) ∨ ∃ b k, v = (s.fields b).getD k (0, 0)) → (t.stack.length : Int) < c.deep → P { t with stack := t.stack ++ [v] })
    (hpop : ∀ k, P (s.pop k)) (hset : ∀ k, k < s.globals.length → P { s.pop 1 with globals := s.globals.set k (s.down 0) }) (hnew : P (newS c s n).1) (hstore : P (storeS c s n).1) : P (doS c s op n).1 := by
  have hp : ∀ t v, P t → (t = s ∨ t = s.pop 1) → (v = (0, 0) ∨ v = (1, n) ∨ (∃ k, v = s.down k) ∨ (∃ k, v = s.globals.getD k (0, 0)) ∨ ∃ b k, v = (s.fields b).getD k (0, 0)) → P (pushA c.deep t v).1 := fun t v ht hts hv => by
    unfold pushA pushS
    by_cases hd : c.deep ≤ (t.stack.length : Int)
    · rw [if_pos hd]; exact ht
    · rw [if_neg hd]; exact hpush t v ht hts hv (by omega)
  unfold doS
  by_cases h0 : op = 0
  · rw [if_pos h0]; exact hp s _ h (.inl rfl) (.inl rfl)
  rw [if_neg h0]
  by_cases h1 : op = 1
  · rw [if_pos h1]; exact hp s _ h (.inl rfl) (.inr (.inl rfl))
  rw [if_neg h1]
  by_cases h2 : op = 2
  · rw [if_pos h2]; exact hnew
  rw [if_neg h2]
  by_cases h3 : op = 3
  · rw [if_pos h3]; unfold dupS
    by_cases c1 : n < 0 ∨ (s.stack.length : Int) ≤ n
    · rw [if_pos c1]; exact h
    · rw [if_neg c1]; exact hp s _ h (.inl rfl) (.inr (.inr (.inl ⟨_, rfl⟩)))
  rw [if_neg h3]
  by_cases h4 : op = 4
  · rw [if_pos h4]; unfold dropS
    by_cases c1 : s.stack.length < 1
    · rw [if_pos c1]; exact h
    · rw [if_neg c1]; exact hpop 1
  rw [if_neg h4]
  by_cases h5 : op = 5
  · rw [if_pos h5]; unfold getS
    by_cases c1 : n < 0 ∨ (s.globals.length : Int) ≤ n
    · rw [if_pos c1]; exact h
    · rw [if_neg c1]; exact hp s _ h (.inl rfl) (.inr (.inr (.inr (.inl ⟨_, rfl⟩))))
  rw [if_neg h5]
  by_cases h6 : op = 6
  · rw [if_pos h6]; unfold setS
    by_cases c1 : n < 0 ∨ (s.globals.length : Int) ≤ n
    · rw [if_pos c1]; exact h
    rw [if_neg c1]
    by_cases c2 : s.stack.length < 1
    · rw [if_pos c2]; exact h
    · rw [if_neg c2]; exact hset _ (by omega)
  rw [if_neg h6]
  by_cases h7 : op = 7
  · rw [if_pos h7]; unfold loadS
    by_cases c1 : s.stack.length < 1
    · rw [if_pos c1]; exact h
    rw [if_neg c1]
    by_cases c2 : objErr (s.down 0) ≠ 0
    · rw [if_pos c2]; exact h
    rw [if_neg c2]
    by_cases c3 : n < 0 ∨ ((s.fields (s.down 0).2).length : Int) ≤ n
    · rw [if_pos c3]; exact h
    · rw [if_neg c3]; exact hp _ _ (hpop 1) (.inr rfl) (.inr (.inr (.inr (.inr ⟨_, _, rfl⟩))))
  rw [if_neg h7]
  by_cases h8 : op = 8
  · rw [if_pos h8]; exact hstore
  rw [if_neg h8]
  by_cases h9 : op = 9
  · rw [if_pos h9]; unfold sameS
    by_cases c1 : s.stack.length < 2
    · rw [if_pos c1]; exact h
    rw [if_neg c1]
    by_cases c2 : s.down 0 = s.down 1
    · rw [if_pos c2]; exact hpop 2
    · rw [if_neg c2]; exact hpop 2
  rw [if_neg h9]
  by_cases h10 : op = 10
  · rw [if_pos h10]; unfold takeS
    by_cases c1 : s.stack.length < 1
    · rw [if_pos c1]; exact h
    rw [if_neg c1]
    by_cases c2 : (s.down 0).1 = 1
    · rw [if_pos c2]; exact hpop 1
    · rw [if_neg c2]; exact h
  rw [if_neg h10]
  by_cases h11 : op = 11
  · rw [if_pos h11]; unfold sizeS
    by_cases c1 : s.stack.length < 1
    · rw [if_pos c1]; exact h
    rw [if_neg c1]
    by_cases c2 : objErr (s.down 0) ≠ 0
    · rw [if_pos c2]; exact h
    · rw [if_neg c2]; exact h
  rw [if_neg h11]
  by_cases h12 : op = 12
  · rw [if_pos h12]; unfold kindS
    by_cases c1 : s.stack.length < 1
    · rw [if_pos c1]; exact h
    · rw [if_neg c1]; exact h
  rw [if_neg h12]
  exact h

end Go.Proofs.YtpmkjeihbddfpabDoor

/- OUR OWN. The document's heap without memory: references keep to the blocks. -/
namespace Go.Proofs.YtpmkjeihbddfpabDoor
set_option linter.unusedVariables false
set_option linter.unusedSimpArgs false

/-- a value is nil, a number, or leads to a block -/
def okV (N : Nat) (v : Int × Int) : Prop := v.1 = 0 ∨ v.1 = 1 ∨ (1 ≤ v.2 ∧ v.2 ≤ N)

structure St.Inv (s : St) (N : Nat) : Prop where
  stack : ∀ v ∈ s.stack, okV N v
  globals : ∀ v ∈ s.globals, okV N v
  fields : ∀ o ∈ s.objs, ∀ v ∈ o.fs, okV N v
  len : s.objs.length = N + 1

theorem getD_ok {N : Nat} {l : List (Int × Int)} (h : ∀ v ∈ l, okV N v) (i : Nat) : okV N (l.getD i (0, 0)) := by
  rw [List.getD_eq_getElem?_getD]
  cases hi : l[i]? with
  | none => exact .inl rfl
  | some v => exact h v (List.mem_of_getElem? hi)

theorem ob_of {s : St} {i : Nat} {o : Ob} (h : s.objs[i]? = some o) : s.ob i = o := by unfold St.ob; rw [List.getD_eq_getElem?_getD, h]; rfl
theorem ob_mem (s : St) (i : Nat) : s.ob i ∈ s.objs ∨ s.ob i = Ob.free := by
  unfold St.ob
  rw [List.getD_eq_getElem?_getD]
  cases hi : s.objs[i]? with
  | none => exact .inr rfl
  | some v => exact .inl (List.mem_of_getElem? hi)
theorem St.Inv.ob {s : St} {N : Nat} (h : s.Inv N) (i : Nat) : ∀ v ∈ (s.ob i).fs, okV N v := by
  intro v hv
  rcases ob_mem s i with e | e
  · exact h.fields _ e v hv
  · rw [e] at hv; simp [Ob.free] at hv
theorem St.Inv.N {s : St} {N : Nat} (h : s.Inv N) : s.N = N := by unfold St.N; rw [h.len]; rfl

theorem St.Inv.down {s : St} {N : Nat} (i : s.Inv N) (k : Nat) : okV N (s.down k) := getD_ok i.stack _
theorem St.Inv.pop {s : St} {N : Nat} (i : s.Inv N) (k : Nat) : (s.pop k).Inv N := ⟨fun v hv => i.stack v (List.mem_of_mem_take hv), i.globals, i.fields, i.len⟩
theorem St.Inv.field {s : St} {N : Nat} (i : s.Inv N) (b : Int) : ∀ v ∈ s.fields b, okV N v := i.ob _
theorem St.Inv.pushed {s : St} {N : Nat} (i : s.Inv N) {v : Int × Int} (hv : okV N v) : ({ s with stack := s.stack ++ [v] } : St).Inv N :=
  ⟨fun x hx => by rcases List.mem_append.1 hx with e | e; · exact i.stack x e
                  · simp at e; subst e; exact hv, i.globals, i.fields, i.len⟩
theorem St.Inv.push {s : St} {N : Nat} (i : s.Inv N) (deep : Int) {v : Int × Int} (hv : okV N v) : (pushS deep s v).1.Inv N := by
  unfold pushS
  split
  · exact i
  · exact i.pushed hv
theorem inv_push {s : St} {N : Nat} (i : s.Inv N) (deep : Int) {v : Int × Int} (hv : okV N v) : (pushA deep s v).1.Inv N := i.push deep hv

theorem St.Inv.put {s : St} {N : Nat} (h : s.Inv N) (i : Nat) {o : Ob} (ho : ∀ v ∈ o.fs, okV N v) : (s.put i o).Inv N :=
  ⟨h.stack, h.globals, fun x hx => by rcases List.mem_or_eq_of_mem_set hx with e | e; · exact h.fields x e
                                      · subst e; exact ho, by simp [St.put, h.len]⟩
theorem St.Inv.queue {s : St} {N : Nat} (h : s.Inv N) (q : List Int) : ({ s with queue := q } : St).Inv N := ⟨h.stack, h.globals, h.fields, h.len⟩
theorem St.Inv.enq {s : St} {N : Nat} (h : s.Inv N) (i : Nat) : (s.enq i).Inv N := (h.put i (o := { s.ob i with queued := true }) (h.ob i)).queue _
theorem St.Inv.stick {s : St} {N : Nat} (h : s.Inv N) (i : Nat) : (s.stick i).Inv N := h.put i (h.ob i)
theorem St.Inv.setField {s : St} {N : Nat} (h : s.Inv N) (i k : Nat) {v : Int × Int} (hv : okV N v) : (s.field i k v).Inv N :=
  h.put i fun x hx => by rcases List.mem_or_eq_of_mem_set hx with e | e; · exact h.ob i x e
                         · subst e; exact hv
theorem St.Inv.sortTo {s : St} {N : Nat} (h : s.Inv N) (but : Int) (k : Nat) : (sortTo but s k).Inv N := by
  induction k with
  | zero => exact h
  | succ k ih =>
    unfold YtpmkjeihbddfpabDoor.sortTo
    split
    · exact ih.enq _
    · exact ih
theorem St.Inv.sort {s : St} {N : Nat} (h : s.Inv N) (but : Int) : (s.sort but).Inv N := h.sortTo but _
theorem St.Inv.enter {s : St} {N : Nat} (h : s.Inv N) (z but : Int) : (s.enter z but).Inv N := by
  unfold St.enter
  split
  · exact h.sort but
  · exact h
theorem St.Inv.letGo {s : St} {N : Nat} (h : s.Inv N) (z : Int) (b k : Nat) : (letGo z b k s).Inv N := by
  have h1 : (s.field b k (0, 0)).Inv N := h.setField b k (.inl rfl)
  unfold YtpmkjeihbddfpabDoor.letGo
  split
  · exact h1
  · split
    · exact h1
    · split
      · exact h1.enter _ _
      · exact h1.enq _
theorem St.Inv.letTo {s : St} {N : Nat} (h : s.Inv N) (z : Int) (b k : Nat) : (letTo z b s k).Inv N := by
  induction k with
  | zero => exact h
  | succ k ih => exact ih.letGo z b k
theorem St.Inv.leave {s : St} {N : Nat} (h : s.Inv N) (b : Nat) : (s.leave b).Inv N := (h.put b (o := Ob.free) (fun v hv => by simp [Ob.free] at hv)).queue _
theorem St.Inv.freed {s : St} {N : Nat} (h : s.Inv N) (z : Int) : (s.free z).Inv N := (h.letTo z _ _).leave _
theorem St.Inv.safeN {N : Nat} (z : Int) (k : Nat) : ∀ {s : St}, s.Inv N → (safeN z k s).1.Inv N := by
  induction k with
  | zero => intro s h; exact h
  | succ k ih =>
    intro s h
    unfold YtpmkjeihbddfpabDoor.safeN
    split
    · exact h
    · exact ih (h.freed z)
theorem St.Inv.safe {s : St} {N : Nat} (h : s.Inv N) (c : Cf) : (s.safe c).1.Inv N := St.Inv.safeN _ _ (h.sort 0)

theorem St.Inv.mapped {s : St} {N : Nat} (h : s.Inv N) (f : Nat → Ob → Ob) (hf : ∀ i o, ∀ v ∈ (f i o).fs, v ∈ o.fs) : ({ s with objs := s.objs.mapIdx f } : St).Inv N :=
  ⟨h.stack, h.globals, fun x hx v hv => by
    obtain ⟨i, hi, rfl⟩ := List.mem_mapIdx.1 hx
    exact h.fields _ (List.getElem_mem hi) v (hf _ _ v hv), by simp [h.len]⟩
theorem St.Inv.collect {s : St} {N : Nat} (h : s.Inv N) (over : Int) : (s.collect over).Inv N := by
  have h1 : s.swept.Inv N := by
    refine (h.mapped (sweptOb s) fun i o v hv => ?_).queue []
    unfold sweptOb at hv
    split at hv
    · exact hv
    · split at hv
      · simp [Ob.free] at hv
      · exact hv
  refine h1.mapped (stuckOb over s.swept) fun i o v hv => ?_
  unfold stuckOb at hv
  split at hv <;> exact hv

theorem free_lt {s : St} {k : Nat} {N : Nat} (hl : s.objs.length = N + 1) (h : free? s = some k) : k < N := by
  unfold free? at h
  have := (List.findIdx?_eq_some_iff_getElem.1 h).1
  rw [List.length_tail, hl] at this
  omega

theorem St.Inv.room {s : St} {N : Nat} (h : s.Inv N) (c : Cf) : (roomS c s).Inv N := by
  unfold roomS
  split
  · exact h
  · split
    · exact h.freed _
    · exact h.collect _
theorem St.Inv.lay {s : St} {N : Nat} (h : s.Inv N) (z : Int) (b n : Nat) (h1 : 1 ≤ b) (h2 : b ≤ N) : (layS z s b n).Inv N := by
  have h3 := (h.put b (o := ⟨true, List.replicate n (0, 0), false, false⟩) (fun v hv => by simp at hv; rw [hv.2]; exact .inl rfl)).enter z b
  exact ⟨fun v hv => by rcases List.mem_append.1 hv with e | e; · exact h.stack v e
                        · simp at e; subst e; exact .inr (.inr ⟨by show 1 ≤ (b : Int); omega, by show (b : Int) ≤ N; omega⟩), h3.globals, h3.fields, h3.len⟩
theorem inv_new {s : St} {N : Nat} (i : s.Inv N) (c : Cf) (n : Int) : (newS c s n).1.Inv N := by
  unfold newS
  by_cases h1 : n < 0 ∨ 4 < n
  · rw [if_pos h1]; exact i
  rw [if_neg h1]
  by_cases h2 : c.deep ≤ s.stack.length
  · rw [if_pos h2]; exact i
  rw [if_neg h2]
  cases hk : free? (roomS c s) with
  | none => exact i.room c
  | some k =>
    have hkN := free_lt (i.room c).len hk
    exact (i.room c).lay _ _ _ (by omega) (by omega)
theorem St.Inv.stickS {s : St} {N : Nat} (h : s.Inv N) (o : Int) (x : Int × Int) : (stickS o s x).Inv N := by
  unfold YtpmkjeihbddfpabDoor.stickS
  split
  · exact h.stick _
  · exact h
theorem inv_put {s : St} {N : Nat} (h : s.Inv N) (c : Cf) (i k : Nat) {x y : Int × Int} (hx : okV N x) : (putS c s i k x y).Inv N := by
  unfold putS
  split
  · exact h
  · unfold dropS'
    split
    · exact ((h.stickS _ x).setField i k hx).enter _ _
    · exact (h.stickS _ x).setField i k hx
theorem inv_store {s : St} {N : Nat} (i : s.Inv N) (c : Cf) (n : Int) : (storeS c s n).1.Inv N := by
  unfold storeS
  by_cases h1 : s.stack.length < 2
  · rw [if_pos h1]; exact i
  rw [if_neg h1]
  by_cases h2 : objErr (s.down 1) ≠ 0
  · rw [if_pos h2]; exact i
  rw [if_neg h2]
  by_cases h3 : n < 0 ∨ ((s.fields (s.down 1).2).length : Int) ≤ n
  · rw [if_pos h3]; exact i
  rw [if_neg h3]
  exact inv_put (i.pop 2) c _ _ (i.down 0)
theorem inv_do {s : St} {N : Nat} (i : s.Inv N) (c : Cf) (op n : Int) : (doS c s op n).1.Inv N := by
  refine doS_keeps c s op n (fun t => t.Inv N) i ?_ (fun k => i.pop k) ?_ (inv_new i c n) (inv_store i c n)
  · intro t v ht _ hv _
    refine ht.pushed ?_
    rcases hv with rfl | rfl | ⟨k, rfl⟩ | ⟨k, rfl⟩ | ⟨b, k, rfl⟩
    · exact .inl rfl
    · exact .inr (.inl rfl)
    · exact i.down k
    · exact getD_ok i.globals k
    · exact getD_ok (i.field b) k
  · intro k hk
    refine ⟨(i.pop 1).stack, fun v hv => ?_, i.fields, i.len⟩
    rcases List.mem_or_eq_of_mem_set hv with e | e
    · exact i.globals v e
    · subst e; exact i.down 0

/-- how many blocks have an object -/
def usedN (s : St) : Nat := s.objs.tail.countP (·.here)
theorem used_le {s : St} {N : Nat} (hl : s.objs.length = N + 1) (h : usedN s < N) : ∃ k, free? s = some k := by
  cases hf : free? s with
  | some k => exact ⟨k, rfl⟩
  | none =>
    exfalso
    unfold free? at hf
    rw [List.findIdx?_eq_none_iff] at hf
    have : usedN s = s.objs.tail.length := List.countP_eq_length.2 fun o ho => by simpa using hf o ho
    rw [List.length_tail, hl] at this
    omega
theorem room_of_free {c : Cf} {s : St} {k : Nat} (h : free? s = some k) : roomS c s = s := by unfold roomS; rw [h]

end Go.Proofs.YtpmkjeihbddfpabDoor

/- OUR OWN. The document's heap without memory: what holds behind every call. -/
namespace Go.Proofs.YtpmkjeihbddfpabDoor
set_option linter.unusedVariables false
set_option linter.unusedSimpArgs false

/-- an object is in the block, and not in the queue -/
def St.alive (s : St) (i : Nat) : Prop := (s.ob i).here = true ∧ (s.ob i).queued = false
/-- nil, a number of int, or a reference to such an object -/
def St.leads (s : St) (v : Int × Int) : Prop := v = (0, 0) ∨ (v.1 = 1 ∧ -9223372036854775808 ≤ v.2 ∧ v.2 ≤ 9223372036854775807) ∨ (v.1 = 2 ∧ ∃ i : Nat, v.2 = i ∧ s.alive i)

structure St.Good (s : St) (N : Nat) : Prop where
  len : s.objs.length = N + 1
  zero : s.ob 0 = Ob.free
  gone : ∀ i, (s.ob i).here = false → s.ob i = Ob.free
  four : ∀ i, (s.ob i).fs.length ≤ 4
  stack : ∀ v ∈ s.stack, s.leads v
  globals : ∀ v ∈ s.globals, s.leads v
  fields : ∀ i, ∀ v ∈ (s.ob i).fs, s.leads v
  inq : ∀ i : Nat, (i : Int) ∈ s.queue ↔ (s.ob i).queued = true
  nat : ∀ b ∈ s.queue, 0 ≤ b
  once : s.queue.Nodup
  unstuck : ∀ i, (s.ob i).queued = true → (s.ob i).stuck = false

theorem here_lt {s : St} {i : Nat} (h : (s.ob i).here = true) : i < s.objs.length := by
  unfold St.ob at h
  rw [List.getD_eq_getElem?_getD] at h
  by_cases hi : i < s.objs.length
  · exact hi
  · rw [List.getElem?_eq_none (by omega)] at h; simp [Ob.free] at h
theorem getD_set (l : List Ob) (i : Nat) (o : Ob) (j : Nat) (hi : i < l.length) : (l.set i o).getD j Ob.free = if j = i then o else l.getD j Ob.free := by
  rw [List.getD_eq_getElem?_getD, List.getD_eq_getElem?_getD]
  by_cases h : j = i
  · subst h; rw [if_pos rfl, List.getElem?_set_self hi]; rfl
  · rw [if_neg h, List.getElem?_set_ne (fun e => h e.symm)]
theorem ob_put {s : St} {i : Nat} (o : Ob) (j : Nat) (hi : i < s.objs.length) : (s.put i o).ob j = if j = i then o else s.ob j := getD_set _ _ _ _ hi
theorem ob_enq {s : St} {i : Nat} (j : Nat) (hi : i < s.objs.length) : (s.enq i).ob j = if j = i then { s.ob i with queued := true } else s.ob j := getD_set _ _ _ _ hi
theorem put_out {s : St} {i : Nat} (o : Ob) (hi : ¬ i < s.objs.length) : s.put i o = s := by
  unfold St.put; rw [List.set_eq_of_length_le (by omega)]

theorem leads_of {s t : St} {v : Int × Int} (h : ∀ i : Nat, (v.1 = 2 → v.2 = (i : Int)) → s.alive i → t.alive i) (hv : s.leads v) : t.leads v := by
  rcases hv with e | e | ⟨e, i, hi, ha⟩
  · exact .inl e
  · exact .inr (.inl e)
  · exact .inr (.inr ⟨e, i, hi, h i (fun _ => hi) ha⟩)

theorem refs_zero {l : List (Int × Int)} {b : Int} (h : refsN l b = 0) {v : Int × Int} (hv : v ∈ l) (h1 : v.1 = 2) : v.2 ≠ b := by
  intro e
  have := List.countP_eq_zero.1 h v hv
  simp [h1, e] at this
theorem refs_pos {l : List (Int × Int)} {b : Int} {v : Int × Int} (hv : v ∈ l) (h1 : v.1 = 2) (h2 : v.2 = b) : 0 < refsN l b := by
  have := refs_zero (l := l) (b := b)
  by_cases h : refsN l b = 0
  · exact absurd h2 (this h hv h1)
  · omega
theorem refs_some {l : List (Int × Int)} {b : Int} (h : 0 < refsN l b) : ∃ v ∈ l, v.1 = 2 ∧ v.2 = b := by
  obtain ⟨v, hv, hp⟩ := List.countP_pos_iff.1 h
  simp at hp
  exact ⟨v, hv, hp⟩
theorem le_sum {l : List Nat} {x : Nat} (h : x ∈ l) : x ≤ l.sum := by
  induction l with
  | nil => cases h
  | cons a l ih =>
    rw [List.sum_cons]
    rcases List.mem_cons.1 h with rfl | h
    · omega
    · have := ih h; omega
theorem sum_pos {l : List Nat} (h : 0 < l.sum) : ∃ x ∈ l, 0 < x := by
  induction l with
  | nil => simp at h
  | cons a l ih =>
    rw [List.sum_cons] at h
    by_cases ha : 0 < a
    · exact ⟨a, by simp, ha⟩
    · obtain ⟨x, hx, hp⟩ := ih (by omega)
      exact ⟨x, List.mem_cons_of_mem _ hx, hp⟩
theorem ob_tail {s : St} {o : Ob} : o ∈ s.objs.tail ↔ ∃ i, 1 ≤ i ∧ i < s.objs.length ∧ s.ob i = o := by
  constructor
  · intro h
    obtain ⟨j, hj, he⟩ := List.getElem_of_mem h
    rw [List.length_tail] at hj
    rw [List.getElem_tail] at he
    exact ⟨j + 1, by omega, by omega, by rw [← he]; exact ob_of (List.getElem?_eq_getElem _)⟩
  · rintro ⟨i, h1, h2, rfl⟩
    have e : s.ob i = s.objs[i] := ob_of (List.getElem?_eq_getElem h2)
    rw [e]
    have : s.objs[i] = s.objs.tail[i - 1]'(by rw [List.length_tail]; omega) := by rw [List.getElem_tail]; congr 1; omega
    rw [this]
    exact List.getElem_mem _

/-- a field counts -/
theorem St.Good.counts {s : St} {N : Nat} (g : s.Good N) {i : Nat} {v : Int × Int} (hv : v ∈ (s.ob i).fs) (h1 : v.1 = 2) : 0 < s.count v.2 := by
  have hh : (s.ob i).here = true := by
    cases e : (s.ob i).here with
    | true => rfl
    | false => rw [g.gone i e] at hv; simp [Ob.free] at hv
  have hi : 1 ≤ i := by
    by_cases e : i = 0
    · subst e; rw [g.zero] at hh; cases hh
    · omega
  have hp := refs_pos hv h1 rfl
  have := le_sum (l := s.objs.tail.map (obCount v.2)) (x := obCount v.2 (s.ob i)) (List.mem_map_of_mem (ob_tail.2 ⟨i, hi, here_lt hh, rfl⟩))
  unfold St.count
  unfold obCount at this
  rw [if_pos hh] at this
  have e2 : (s.objs.tail.map (obCount v.2)).sum = (s.objs.tail.map (fun o => if o.here then refsN o.fs v.2 else 0)).sum := rfl
  omega
/-- what is counted is a field -/
theorem count_some {s : St} {b : Int} (h : 0 < s.count b) : ∃ i, 1 ≤ i ∧ i < s.objs.length ∧ (s.ob i).here = true ∧ ∃ v ∈ (s.ob i).fs, v.1 = 2 ∧ v.2 = b := by
  obtain ⟨x, hx, hp⟩ := sum_pos h
  obtain ⟨o, ho, rfl⟩ := List.mem_map.1 hx
  obtain ⟨i, h1, h2, rfl⟩ := ob_tail.1 ho
  unfold obCount at hp
  cases e : (s.ob i).here with
  | true => rw [e, if_pos rfl] at hp; exact ⟨i, h1, h2, e, refs_some hp⟩
  | false => rw [e] at hp; simp at hp
theorem rooted_false {s : St} {b : Int} (h : s.rooted b = false) : refsN s.stack b = 0 ∧ refsN s.globals b = 0 := by
  unfold St.rooted at h
  simp at h
  omega
theorem rooted_true {s : St} {b : Int} : s.rooted b = true ↔ (∃ v ∈ s.stack, v.1 = 2 ∧ v.2 = b) ∨ ∃ v ∈ s.globals, v.1 = 2 ∧ v.2 = b := by
  constructor
  · intro h
    unfold St.rooted at h
    simp at h
    by_cases h1 : 0 < refsN s.stack b
    · exact .inl (refs_some h1)
    · exact .inr (refs_some (by omega))
  · rintro (⟨v, hv, h1, h2⟩ | ⟨v, hv, h1, h2⟩)
    · have := refs_pos hv h1 h2; unfold St.rooted; simp; omega
    · have := refs_pos hv h1 h2; unfold St.rooted; simp; omega

theorem St.Good.ne_zero {s : St} {N : Nat} (g : s.Good N) {i : Nat} (h : (s.ob i).here = true) : 1 ≤ i ∧ i ≤ N := by
  have h1 := here_lt h
  have := g.len
  by_cases e : i = 0
  · subst e; rw [g.zero] at h; cases h
  · omega

theorem St.Good.inv {s : St} {N : Nat} (g : s.Good N) : s.Inv N := by
  have hv : ∀ v, s.leads v → okV N v := by
    rintro v (e | e | ⟨_, i, e, ha⟩)
    · rw [e]; exact .inl rfl
    · exact .inr (.inl e.1)
    · have := g.ne_zero ha.1; exact .inr (.inr ⟨by omega, by omega⟩)
  refine ⟨fun v h => hv v (g.stack v h), fun v h => hv v (g.globals v h), fun o ho v h => hv v ?_, g.len⟩
  obtain ⟨i, hi, rfl⟩ := List.getElem_of_mem ho
  exact g.fields i v (by rw [ob_of (List.getElem?_eq_getElem hi)]; exact h)

/-! ### The roots -/
theorem St.Good.roots {s t : St} {N : Nat} (g : s.Good N) (ho : t.objs = s.objs) (hq : t.queue = s.queue) (h1 : ∀ v ∈ t.stack, s.leads v) (h2 : ∀ v ∈ t.globals, s.leads v) : t.Good N := by
  have e : ∀ i, t.ob i = s.ob i := fun i => by unfold St.ob; rw [ho]
  have l : ∀ v, s.leads v → t.leads v := fun v hv => leads_of (fun i _ ha => by unfold St.alive at *; rw [e]; exact ha) hv
  exact ⟨by rw [ho]; exact g.len, by rw [e]; exact g.zero, fun i => by rw [e]; exact g.gone i, fun i => by rw [e]; exact g.four i, fun v hv => l v (h1 v hv), fun v hv => l v (h2 v hv),
    fun i v hv => l v (g.fields i v (by rw [e] at hv; exact hv)), fun i => by rw [e, hq]; exact g.inq i, by rw [hq]; exact g.nat, by rw [hq]; exact g.once, fun i => by rw [e]; exact g.unstuck i⟩
theorem St.Good.pop {s : St} {N : Nat} (g : s.Good N) (k : Nat) : (s.pop k).Good N := g.roots rfl rfl (fun v hv => g.stack v (List.mem_of_mem_take hv)) g.globals
theorem leads_getD {s : St} {l : List (Int × Int)} (h : ∀ v ∈ l, s.leads v) (i : Nat) : s.leads (l.getD i (0, 0)) := by
  rw [List.getD_eq_getElem?_getD]
  cases hi : l[i]? with
  | none => exact .inl rfl
  | some v => exact h v (List.mem_of_getElem? hi)
theorem St.Good.down {s : St} {N : Nat} (g : s.Good N) (k : Nat) : s.leads (s.down k) := leads_getD g.stack _

/-! ### An object is turned -/
/-- an object is turned, in the same block: it is here as it was, in the queue as it was -/
theorem St.Good.turned {s : St} {N : Nat} (g : s.Good N) (i : Nat) (o : Ob) (hh : (s.ob i).here = true) (h1 : o.here = true) (h2 : o.queued = (s.ob i).queued) (h3 : o.fs.length ≤ 4) (h4 : ∀ v ∈ o.fs, s.leads v) (h5 : o.queued = true → o.stuck = false) : (s.put i o).Good N := by
  have hi := here_lt hh
  have e : ∀ j, (s.put i o).ob j = if j = i then o else s.ob j := fun j => ob_put o j hi
  have al : ∀ j, s.alive j → (s.put i o).alive j := fun j ha => by
    unfold St.alive at *
    rw [e]
    by_cases hj : j = i
    · subst hj; rw [if_pos rfl]; exact ⟨h1, by rw [h2]; exact ha.2⟩
    · rw [if_neg hj]; exact ha
  have l : ∀ v, s.leads v → (s.put i o).leads v := fun v hv => leads_of (fun j _ => al j) hv
  have hz := g.ne_zero hh
  refine ⟨by simp [St.put, g.len], ?_, fun j => ?_, fun j => ?_, fun v hv => l v (g.stack v hv), fun v hv => l v (g.globals v hv), fun j v hv => ?_, fun j => ?_, g.nat, g.once, fun j => ?_⟩
  · rw [e, if_neg (by omega)]; exact g.zero
  · rw [e]
    by_cases hj : j = i
    · rw [if_pos hj]; intro hn; rw [h1] at hn; cases hn
    · rw [if_neg hj]; exact g.gone j
  · rw [e]
    by_cases hj : j = i
    · rw [if_pos hj]; exact h3
    · rw [if_neg hj]; exact g.four j
  · rw [e] at hv
    by_cases hj : j = i
    · rw [if_pos hj] at hv; exact l v (h4 v hv)
    · rw [if_neg hj] at hv; exact l v (g.fields j v hv)
  · rw [e]
    show (j : Int) ∈ s.queue ↔ _
    by_cases hj : j = i
    · rw [if_pos hj, h2, hj]; exact g.inq i
    · rw [if_neg hj]; exact g.inq j
  · rw [e]
    by_cases hj : j = i
    · rw [if_pos hj]; exact h5
    · rw [if_neg hj]; exact g.unstuck j
theorem St.Good.setField {s : St} {N : Nat} (g : s.Good N) (i k : Nat) {v : Int × Int} (hv : s.leads v) : (s.field i k v).Good N := by
  cases hh : (s.ob i).here with
  | true =>
    refine g.turned i _ hh hh rfl (by simpa using g.four i) (fun x hx => ?_) (g.unstuck i)
    rcases List.mem_or_eq_of_mem_set hx with e | e
    · exact g.fields i x e
    · subst e; exact hv
  | false =>
    have e := g.gone i hh
    have : s.field i k v = s := by
      unfold St.field
      rw [e]
      by_cases hi : i < s.objs.length
      · unfold St.put
        have e2 : s.objs[i] = Ob.free := by rw [← e]; exact (ob_of (List.getElem?_eq_getElem hi)).symm
        have e3 : s.objs.set i { Ob.free with fs := Ob.free.fs.set k v } = s.objs := by
          have : ({ Ob.free with fs := Ob.free.fs.set k v } : Ob) = s.objs[i] := by rw [e2]; rfl
          rw [this, List.set_getElem_self]
        rw [e3]
      · exact put_out _ hi
    rw [this]; exact g
theorem St.Good.stick {s : St} {N : Nat} (g : s.Good N) (i : Nat) (ha : s.alive i) : (s.stick i).Good N :=
  g.turned i _ ha.1 ha.1 rfl (g.four i) (g.fields i) (fun h => by rw [show ({ s.ob i with stuck := true } : Ob).queued = (s.ob i).queued from rfl, ha.2] at h; cases h)

/-! ### The queue -/
theorem St.Good.enq {s : St} {N : Nat} (g : s.Good N) (i : Nat) (ha : s.alive i) (hs : (s.ob i).stuck = false) (hc : s.count i = 0) (hr : s.rooted i = false) : (s.enq i).Good N := by
  have hi := here_lt ha.1
  have hz := g.ne_zero ha.1
  have e : ∀ j, (s.enq i).ob j = if j = i then { s.ob i with queued := true } else s.ob j := fun j => ob_enq j hi
  have l : ∀ v : Int × Int, (v.1 = 2 → v.2 ≠ (i : Int)) → s.leads v → (s.enq i).leads v := fun v hn hv => by
    rcases hv with h | h | ⟨h1, j, h2, h3⟩
    · exact .inl h
    · exact .inr (.inl h)
    · refine .inr (.inr ⟨h1, j, h2, ?_⟩)
      have hj : j ≠ i := fun e1 => hn h1 (by rw [h2, e1])
      unfold St.alive
      rw [e, if_neg hj]; exact h3
  obtain ⟨r1, r2⟩ := rooted_false hr
  refine ⟨by simp [St.enq, g.len], ?_, fun j => ?_, fun j => ?_, fun v hv => l v (refs_zero r1 hv) (g.stack v hv), fun v hv => l v (refs_zero r2 hv) (g.globals v hv), fun j v hv => ?_, fun j => ?_, ?_, ?_, fun j => ?_⟩
  · rw [e, if_neg (by omega)]; exact g.zero
  · rw [e]
    by_cases hj : j = i
    · rw [if_pos hj]; intro hn; rw [show ({ s.ob i with queued := true } : Ob).here = (s.ob i).here from rfl, ha.1] at hn; cases hn
    · rw [if_neg hj]; exact g.gone j
  · rw [e]
    by_cases hj : j = i
    · rw [if_pos hj]; exact g.four i
    · rw [if_neg hj]; exact g.four j
  · have hv' : v ∈ (s.ob j).fs := by
      rw [e] at hv
      by_cases hj : j = i
      · rw [if_pos hj] at hv; rw [hj]; exact hv
      · rw [if_neg hj] at hv; exact hv
    exact l v (fun h1 h2 => by have := g.counts hv' h1; rw [h2] at this; omega) (g.fields j v hv')
  · rw [e]
    show (j : Int) ∈ s.queue ++ [(i : Int)] ↔ _
    rw [List.mem_append, List.mem_singleton]
    by_cases hj : j = i
    · rw [if_pos hj]; simp [hj]
    · rw [if_neg hj, ← g.inq j]
      constructor
      · rintro (h | h)
        · exact h
        · omega
      · exact .inl
  · intro b hb
    rcases List.mem_append.1 hb with h | h
    · exact g.nat b h
    · simp at h; omega
  · show (s.queue ++ [(i : Int)]).Nodup
    rw [List.nodup_append]
    refine ⟨g.once, by simp, fun a h1 b h2 => ?_⟩
    simp at h2
    subst h2
    rintro rfl
    have := (g.inq i).1 h1
    rw [ha.2] at this; cases this
  · rw [e]
    by_cases hj : j = i
    · rw [if_pos hj]; intro _; exact hs
    · rw [if_neg hj]; exact g.unstuck j

theorem waits_iff {s : St} {i : Nat} : s.waits i = true ↔ s.alive i ∧ (s.ob i).stuck = false ∧ s.count i = 0 := by
  unfold St.waits St.alive
  simp
  constructor
  · rintro ⟨⟨⟨a, b⟩, c⟩, d⟩; exact ⟨⟨a, c⟩, b, d⟩
  · rintro ⟨⟨a, c⟩, b, d⟩; exact ⟨⟨⟨a, b⟩, c⟩, d⟩
theorem sorts_iff {s : St} {but : Int} {i : Nat} : s.sorts but i = true ↔ s.waits i = true ∧ s.rooted i = false ∧ (i : Int) ≠ but := by
  unfold St.sorts
  simp
  exact and_assoc
theorem St.Good.sortTo {s : St} {N : Nat} (g : s.Good N) (but : Int) (k : Nat) : (sortTo but s k).Good N := by
  induction k with
  | zero => exact g
  | succ k ih =>
    unfold YtpmkjeihbddfpabDoor.sortTo
    split
    · rename_i h
      obtain ⟨h1, h2, _⟩ := sorts_iff.1 h
      obtain ⟨h3, h4, h5⟩ := waits_iff.1 h1
      exact ih.enq _ h3 h4 h5 h2
    · exact ih
theorem St.Good.sort {s : St} {N : Nat} (g : s.Good N) (but : Int) : (s.sort but).Good N := g.sortTo but _
theorem St.Good.enter {s : St} {N : Nat} (g : s.Good N) (z but : Int) : (s.enter z but).Good N := by
  unfold St.enter
  split
  · exact g.sort but
  · exact g
/-- a sorting leaves roots as they are, and the queue's first ones -/
theorem sortTo_same (but : Int) (s : St) (k : Nat) : (sortTo but s k).stack = s.stack ∧ (sortTo but s k).globals = s.globals ∧ (sortTo but s k).objs.length = s.objs.length ∧ ∃ q, (sortTo but s k).queue = s.queue ++ q := by
  induction k with
  | zero => exact ⟨rfl, rfl, rfl, [], by simp [sortTo]⟩
  | succ k ih =>
    unfold sortTo
    split
    · obtain ⟨h1, h2, h3, q, h4⟩ := ih
      refine ⟨h1, h2, by simp [St.enq, h3], q ++ [((k + 1 : Nat) : Int)], ?_⟩
      show (sortTo but s k).queue ++ [((k + 1 : Nat) : Int)] = _
      rw [h4, List.append_assoc]
    · exact ih
theorem enter_same (z but : Int) (s : St) : (s.enter z but).stack = s.stack ∧ (s.enter z but).globals = s.globals ∧ (s.enter z but).objs.length = s.objs.length ∧ ∃ q, (s.enter z but).queue = s.queue ++ q := by
  unfold St.enter
  split
  · exact sortTo_same but s _
  · exact ⟨rfl, rfl, rfl, [], by simp⟩
/-- what a sorting passes by -/
theorem sortTo_but {but : Int} {s : St} {j : Nat} (hj : (j : Int) = but) (k : Nat) : (sortTo but s k).ob j = s.ob j := by
  induction k with
  | zero => rfl
  | succ k ih =>
    unfold sortTo
    split
    · rename_i h
      obtain ⟨h1, _, h3⟩ := sorts_iff.1 h
      have h4 := here_lt (waits_iff.1 h1).1.1
      rw [ob_enq j h4, if_neg (by omega)]; exact ih
    · exact ih
theorem enter_but {z but : Int} {s : St} {j : Nat} (hj : (j : Int) = but) : (s.enter z but).ob j = s.ob j := by
  unfold St.enter
  split
  · exact sortTo_but hj _
  · rfl

end Go.Proofs.YtpmkjeihbddfpabDoor

/- OUR OWN. The document's heap without memory: freeing, a collection and the operations keep what holds. -/
namespace Go.Proofs.YtpmkjeihbddfpabDoor
set_option linter.unusedVariables false
set_option linter.unusedSimpArgs false

theorem alive_put {s : St} {i : Nat} {o : Ob} (h1 : o.here = (s.ob i).here) (h2 : o.queued = (s.ob i).queued) (j : Nat) : (s.put i o).alive j ↔ s.alive j := by
  by_cases hi : i < s.objs.length
  · unfold St.alive
    rw [ob_put o j hi]
    by_cases hj : j = i
    · rw [if_pos hj, h1, h2, hj]
    · rw [if_neg hj]
  · rw [put_out o hi]
theorem leads_put {s : St} {i : Nat} {o : Ob} (h1 : o.here = (s.ob i).here) (h2 : o.queued = (s.ob i).queued) {v : Int × Int} (hv : s.leads v) : (s.put i o).leads v := leads_of (fun j _ h => (alive_put h1 h2 j).2 h) hv
theorem leads_ref {s : St} {v : Int × Int} (h : s.leads v) (h1 : v.1 = 2) : ∃ i : Nat, v.2 = i ∧ s.alive i := by
  rcases h with e | e | e
  · rw [e] at h1; cases h1
  · rw [h1] at e; cases e.1
  · exact e.2

/-! ### Freeing -/
theorem St.Good.letGo {s : St} {N : Nat} (g : s.Good N) (z : Int) (b k : Nat) : (letGo z b k s).Good N := by
  have g1 : (s.field b k (0, 0)).Good N := g.setField b k (.inl rfl)
  have hv := leads_getD (g.fields b) k
  unfold YtpmkjeihbddfpabDoor.letGo
  split
  · exact g1
  · rename_i hk
    obtain ⟨i, hi, ha⟩ := leads_ref (leads_put (s := s) (i := b) (o := { s.ob b with fs := (s.ob b).fs.set k (0, 0) }) rfl rfl hv) (by omega)
    split
    · exact g1
    · rename_i hc
      split
      · exact g1.enter _ _
      · rename_i hr
        rw [hi] at hc hr ⊢
        rw [Int.toNat_natCast] at hc ⊢
        exact g1.enq i ha (by cases e : ((s.field b k (0, 0)).ob i).stuck with | true => exact absurd (.inr e) hc | false => rfl) (by omega) (by simpa using hr)
theorem letGo_same (z : Int) (b k : Nat) (s : St) : (letGo z b k s).stack = s.stack ∧ (letGo z b k s).globals = s.globals ∧ (letGo z b k s).objs.length = s.objs.length ∧ ∃ q, (letGo z b k s).queue = s.queue ++ q := by
  have h1 : (s.field b k (0, 0)).objs.length = s.objs.length := by simp [St.field, St.put]
  unfold letGo
  split
  · exact ⟨rfl, rfl, h1, [], by simp [St.field, St.put]⟩
  · split
    · exact ⟨rfl, rfl, h1, [], by simp [St.field, St.put]⟩
    · split
      · obtain ⟨e1, e2, e3, q, e4⟩ := enter_same z ((s.ob b).fs.getD k (0, 0)).2 (s.field b k (0, 0))
        exact ⟨e1, e2, e3.trans h1, q, e4⟩
      · exact ⟨rfl, rfl, by simp [St.enq, h1], _, rfl⟩
theorem St.Good.letTo {s : St} {N : Nat} (g : s.Good N) (z : Int) (b k : Nat) : (letTo z b s k).Good N := by
  induction k with
  | zero => exact g
  | succ k ih => exact ih.letGo z b k
theorem letTo_same (z : Int) (b : Nat) (s : St) (k : Nat) : (letTo z b s k).stack = s.stack ∧ (letTo z b s k).globals = s.globals ∧ (letTo z b s k).objs.length = s.objs.length ∧ ∃ q, (letTo z b s k).queue = s.queue ++ q := by
  induction k with
  | zero => exact ⟨rfl, rfl, rfl, [], by simp [letTo]⟩
  | succ k ih =>
    obtain ⟨a1, a2, a3, q, a4⟩ := ih
    obtain ⟨b1, b2, b3, q', b4⟩ := letGo_same z b k (letTo z b s k)
    exact ⟨b1.trans a1, b2.trans a2, b3.trans a3, q ++ q', by show (letGo z b k (letTo z b s k)).queue = _; rw [b4, a4, List.append_assoc]⟩
theorem St.Good.leave {s : St} {N : Nat} (g : s.Good N) {b : Nat} {q : List Int} (hq : s.queue = (b : Int) :: q) : (s.leave b).Good N := by
  have hb : (s.ob b).queued = true := (g.inq b).1 (by rw [hq]; simp)
  have hh : (s.ob b).here = true := by
    cases e : (s.ob b).here with
    | true => rfl
    | false => rw [g.gone b e] at hb; cases hb
  have hi := here_lt hh
  have hz := g.ne_zero hh
  have e : ∀ j, (s.leave b).ob j = if j = b then Ob.free else s.ob j := fun j => getD_set _ _ _ _ hi
  have l : ∀ v, s.leads v → (s.leave b).leads v := fun v hv => leads_of (fun j _ ha => by
    have hj : j ≠ b := fun h => by subst h; rw [ha.2] at hb; cases hb
    unfold St.alive
    rw [e, if_neg hj]; exact ha) hv
  have hqe : (s.leave b).queue = q := by show s.queue.tail = q; rw [hq]; rfl
  have hn := g.once
  rw [hq] at hn
  have hn' := List.nodup_cons.1 hn
  refine ⟨by simp [St.leave, g.len], ?_, fun j => ?_, fun j => ?_, fun v hv => l v (g.stack v hv), fun v hv => l v (g.globals v hv), fun j v hv => ?_, fun j => ?_, ?_, ?_, fun j => ?_⟩
  · rw [e, if_neg (by omega)]; exact g.zero
  · rw [e]
    by_cases hj : j = b
    · rw [if_pos hj]; intro _; rfl
    · rw [if_neg hj]; exact g.gone j
  · rw [e]
    by_cases hj : j = b
    · rw [if_pos hj]; simp [Ob.free]
    · rw [if_neg hj]; exact g.four j
  · rw [e] at hv
    by_cases hj : j = b
    · rw [if_pos hj] at hv; simp [Ob.free] at hv
    · rw [if_neg hj] at hv; exact l v (g.fields j v hv)
  · rw [e, hqe]
    by_cases hj : j = b
    · rw [if_pos hj, hj]
      constructor
      · intro h; exact absurd h hn'.1
      · intro h; cases h
    · rw [if_neg hj, ← g.inq j, hq, List.mem_cons]
      constructor
      · exact .inr
      · rintro (h | h)
        · omega
        · exact h
  · rw [hqe]; intro x hx; exact g.nat x (by rw [hq]; exact List.mem_cons_of_mem _ hx)
  · rw [hqe]; exact hn'.2
  · rw [e]
    by_cases hj : j = b
    · rw [if_pos hj]; intro h; cases h
    · rw [if_neg hj]; exact g.unstuck j
theorem St.Good.first {s : St} {N : Nat} (g : s.Good N) (hq : s.queue.length ≠ 0) : ∃ q, s.queue = (s.first : Int) :: q := by
  cases e : s.queue with
  | nil => rw [e] at hq; simp at hq
  | cons b q =>
    have := g.nat b (by rw [e]; simp)
    refine ⟨q, ?_⟩
    unfold St.first
    rw [e]
    show b :: q = ((b.toNat : Nat) : Int) :: q
    rw [Int.toNat_of_nonneg this]
theorem St.Good.freed {s : St} {N : Nat} (g : s.Good N) (z : Int) (hq : s.queue.length ≠ 0) : (s.free z).Good N := by
  obtain ⟨q, e⟩ := g.first hq
  obtain ⟨_, _, _, q', e'⟩ := letTo_same z s.first s (s.ob s.first).fs.length
  exact (g.letTo z s.first _).leave (q := q ++ q') (by rw [e', e]; simp)
theorem St.Good.safeN {N : Nat} (z : Int) (k : Nat) : ∀ {s : St}, s.Good N → (safeN z k s).1.Good N := by
  induction k with
  | zero => intro s g; exact g
  | succ k ih =>
    intro s g
    unfold YtpmkjeihbddfpabDoor.safeN
    split
    · exact g
    · rename_i hq; exact ih (g.freed z hq)
theorem St.Good.safe {s : St} {N : Nat} (g : s.Good N) (c : Cf) : (s.safe c).1.Good N := St.Good.safeN _ _ (g.sort 0)

/-! ### What is reachable -/
theorem countTo_mono {p q : Nat → Bool} (h : ∀ j, p j = true → q j = true) (k : Nat) : countTo p k ≤ countTo q k := by
  induction k with
  | zero => simp [countTo]
  | succ k ih =>
    rw [countTo_succ, countTo_succ]
    cases e : p (k + 1) with
    | true => rw [h _ e]; simpa using ih
    | false => simp; omega
theorem countTo_lt {p q : Nat → Bool} (h : ∀ j, p j = true → q j = true) {b k : Nat} (h1 : 1 ≤ b) (h2 : b ≤ k) (hp : p b = false) (hq : q b = true) : countTo p k < countTo q k := by
  induction k with
  | zero => omega
  | succ k ih =>
    rw [countTo_succ, countTo_succ]
    by_cases hb : b = k + 1
    · subst hb
      rw [hp, hq]
      have := countTo_mono h k
      simp; omega
    · have := ih (by omega)
      cases e : p (k + 1) with
      | true => rw [h _ e]; simpa using this
      | false => simp; omega

theorem reach_mono (s : St) (k b : Nat) (h : reachK s k b = true) : reachK s (k + 1) b = true := by
  show (reachK s k b || _) = true
  rw [h]; rfl
theorem reach_range (s : St) (k b : Nat) (h : reachK s k b = true) : 1 ≤ b ∧ b ≤ s.N := by
  induction k with
  | zero =>
    unfold reachK at h
    simp at h
    exact h.1
  | succ k ih =>
    unfold reachK at h
    simp at h
    rcases h with h | h
    · exact ih h
    · exact h.1
def StableK (s : St) (k : Nat) : Prop := reachK s (k + 1) = reachK s k
theorem stable_succ {s : St} {k : Nat} (h : StableK s k) : StableK s (k + 1) := by
  unfold StableK at *
  funext b
  show (reachK s (k + 1) b || (decide (1 ≤ b ∧ b ≤ s.N) && (List.range (s.N + 1)).any fun a => reachK s (k + 1) a && decide (0 < refsN (s.ob a).fs b))) = reachK s (k + 1) b
  rw [h]
  exact congrFun h b
theorem stable_or (s : St) (k : Nat) : StableK s k ∨ k + 1 ≤ countTo (reachK s k) s.N := by
  have grow : ∀ k, ¬ StableK s k → countTo (reachK s k) s.N < countTo (reachK s (k + 1)) s.N := fun k hk => by
    have : ∃ b, reachK s (k + 1) b ≠ reachK s k b := Classical.byContradiction fun hn => hk (funext fun b => Classical.byContradiction fun hb => hn ⟨b, hb⟩)
    obtain ⟨b, hb⟩ := this
    have h0 : reachK s k b = false := by
      cases e : reachK s k b with
      | false => rfl
      | true => rw [e, reach_mono s k b e] at hb; exact absurd rfl hb
    have h1 : reachK s (k + 1) b = true := by
      cases e : reachK s (k + 1) b with
      | true => rfl
      | false => rw [e, h0] at hb; exact absurd rfl hb
    have := reach_range s _ b h1
    exact countTo_lt (fun j => reach_mono s k j) this.1 this.2 h0 h1
  have base : ∀ k, (∀ b, reachK s k b = false) → StableK s k := fun k h => by
    funext b
    show (reachK s k b || (decide (1 ≤ b ∧ b ≤ s.N) && (List.range (s.N + 1)).any fun a => reachK s k a && decide (0 < refsN (s.ob a).fs b))) = reachK s k b
    have : reachK s k = fun _ => false := funext h
    rw [this]
    simp
  induction k with
  | zero =>
    by_cases h : ∀ b, reachK s 0 b = false
    · exact .inl (base 0 h)
    · have : ∃ b, reachK s 0 b = true := Classical.byContradiction fun hn => h fun b => by
        cases e : reachK s 0 b with
        | false => rfl
        | true => exact absurd ⟨b, e⟩ hn
      obtain ⟨b, hb⟩ := this
      have hr := reach_range s 0 b hb
      have := countTo_lt (p := fun _ => false) (q := reachK s 0) (fun j hj => by cases hj) hr.1 hr.2 rfl hb
      exact .inr (by omega)
  | succ k ih =>
    rcases ih with h | h
    · exact .inl (stable_succ h)
    · by_cases hs : StableK s k
      · exact .inl (stable_succ hs)
      · have := grow k hs; exact .inr (by omega)
theorem reach_stable (s : St) : reachK s (s.N + 1) = reachK s s.N := by
  rcases stable_or s s.N with h | h
  · exact h
  · have := countTo_le (reachK s s.N) s.N; omega
/-- what a reachable object's field has is reachable -/
theorem reach_closed {s : St} {a b : Nat} (ha : s.reachB a = true) (h1 : 1 ≤ b) (h2 : b ≤ s.N) (hr : 0 < refsN (s.ob a).fs b) : s.reachB b = true := by
  unfold St.reachB at *
  rw [← reach_stable]
  have hra := reach_range s _ a ha
  show (reachK s s.N b || (decide (1 ≤ b ∧ b ≤ s.N) && (List.range (s.N + 1)).any fun a => reachK s s.N a && decide (0 < refsN (s.ob a).fs b))) = true
  rw [Bool.or_eq_true, Bool.and_eq_true]
  refine .inr ⟨by simp; omega, List.any_eq_true.2 ⟨a, by simp; omega, ?_⟩⟩
  rw [ha]; simpa using hr
theorem reach_rooted {s : St} {b : Nat} (h1 : 1 ≤ b) (h2 : b ≤ s.N) (hr : s.rooted b = true) : s.reachB b = true := by
  have h0 : reachK s 0 b = true := by unfold reachK; rw [hr]; simp; omega
  have : ∀ k, reachK s k b = true := fun k => by
    induction k with
    | zero => exact h0
    | succ k ih => exact reach_mono s k b ih
  exact this _
/-- the least such -/
theorem reach_least {s : St} {P : Nat → Prop} (h0 : ∀ b, 1 ≤ b → b ≤ s.N → s.rooted b = true → P b) (h1 : ∀ a b, P a → 1 ≤ a → a ≤ s.N → 1 ≤ b → b ≤ s.N → 0 < refsN (s.ob a).fs b → P b) {b : Nat} (h : s.reachB b = true) : P b := by
  unfold St.reachB at h
  have : ∀ k b, reachK s k b = true → P b := fun k => by
    induction k with
    | zero =>
      intro b hb
      unfold reachK at hb
      simp at hb
      exact h0 b hb.1.1 hb.1.2 hb.2
    | succ k ih =>
      intro b hb
      unfold reachK at hb
      rw [Bool.or_eq_true, Bool.and_eq_true] at hb
      rcases hb with hb | ⟨hb, ha⟩
      · exact ih b hb
      · obtain ⟨a, _, ha⟩ := List.any_eq_true.1 ha
        simp at ha hb
        have := reach_range s k a ha.1
        exact h1 a b (ih a ha.1) this.1 this.2 hb.1 hb.2 ha.2
  exact this _ b h
theorem St.Good.sN {s : St} {N : Nat} (g : s.Good N) : s.N = N := by unfold St.N; rw [g.len]; rfl
theorem St.Good.reach_alive {s : St} {N : Nat} (g : s.Good N) {b : Nat} (h : s.reachB b = true) : s.alive b := by
  refine reach_least (P := s.alive) (fun b _ _ hr => ?_) (fun a b _ _ _ _ _ hr => ?_) h
  · rcases rooted_true.1 hr with ⟨v, hv, h1, h2⟩ | ⟨v, hv, h1, h2⟩
    · obtain ⟨i, hi, ha⟩ := leads_ref (g.stack v hv) h1
      have : i = b := by omega
      rw [← this]; exact ha
    · obtain ⟨i, hi, ha⟩ := leads_ref (g.globals v hv) h1
      have : i = b := by omega
      rw [← this]; exact ha
  · obtain ⟨v, hv, h1, h2⟩ := refs_some hr
    obtain ⟨i, hi, ha⟩ := leads_ref (g.fields a v hv) h1
    have : i = b := by omega
    rw [← this]; exact ha

/-! ### A collection -/
theorem getD_mapIdx (l : List Ob) (f : Nat → Ob → Ob) (i : Nat) : (l.mapIdx f).getD i Ob.free = if i < l.length then f i (l.getD i Ob.free) else Ob.free := by
  rw [List.getD_eq_getElem?_getD, List.getD_eq_getElem?_getD, List.getElem?_mapIdx]
  by_cases h : i < l.length
  · rw [if_pos h, List.getElem?_eq_getElem h]; rfl
  · rw [if_neg h, List.getElem?_eq_none (by omega)]; rfl
theorem ob_swept {s : St} {N : Nat} (g : s.Good N) (i : Nat) : s.swept.ob i = if s.reachB i = true then { s.ob i with stuck := false, queued := false } else Ob.free := by
  have e : s.swept.ob i = if i < s.objs.length then sweptOb s i (s.ob i) else Ob.free := getD_mapIdx _ _ _
  rw [e]
  by_cases hi : i < s.objs.length
  · rw [if_pos hi]
    unfold sweptOb
    by_cases h0 : i = 0
    · subst h0
      rw [if_pos rfl, g.zero]
      have : ¬ s.reachB 0 = true := fun h => by have := reach_range s _ 0 h; omega
      rw [if_neg this]
    · rw [if_neg h0]
      by_cases hr : s.reachB i = true
      · rw [if_pos hr, if_neg (by simp [hr])]
      · rw [if_neg hr]
        cases hh : (s.ob i).here with
        | true => rw [if_pos (by simpa using hr)]
        | false => rw [if_neg (by simp), g.gone i hh]; rfl
  · have : ¬ s.reachB i = true := fun h => hi (here_lt (g.reach_alive h).1)
    rw [if_neg hi, if_neg this]
theorem St.Good.swept {s : St} {N : Nat} (g : s.Good N) : s.swept.Good N := by
  have e := ob_swept g
  have al : ∀ i, s.reachB i = true → s.swept.alive i := fun i h => by
    unfold St.alive
    rw [e, if_pos h]; exact ⟨(g.reach_alive h).1, rfl⟩
  have hN := g.sN
  have l : ∀ v, (∀ i : Nat, v.1 = 2 → v.2 = (i : Int) → s.alive i → s.reachB i = true) → s.leads v → s.swept.leads v := fun v h hv => by
    rcases hv with h1 | h1 | ⟨h1, i, h2, h3⟩
    · exact .inl h1
    · exact .inr (.inl h1)
    · exact .inr (.inr ⟨h1, i, h2, al i (h i h1 h2 h3)⟩)
  refine ⟨by simp [St.swept, g.len], ?_, fun j => ?_, fun j => ?_, fun v hv => ?_, fun v hv => ?_, fun j v hv => ?_, fun j => ?_, ?_, ?_, fun j => ?_⟩
  · rw [e, if_neg (fun h => by have := reach_range s _ 0 h; omega)]
  · rw [e]
    by_cases h : s.reachB j = true
    · rw [if_pos h]; intro hn; rw [show ({ s.ob j with stuck := false, queued := false } : Ob).here = (s.ob j).here from rfl, (g.reach_alive h).1] at hn; cases hn
    · rw [if_neg h]; intro _; rfl
  · rw [e]
    by_cases h : s.reachB j = true
    · rw [if_pos h]; exact g.four j
    · rw [if_neg h]; simp [Ob.free]
  · refine l v (fun i h1 h2 ha => ?_) (g.stack v hv)
    have := g.ne_zero ha.1
    exact reach_rooted this.1 (by omega) (rooted_true.2 (.inl ⟨v, hv, h1, h2⟩))
  · refine l v (fun i h1 h2 ha => ?_) (g.globals v hv)
    have := g.ne_zero ha.1
    exact reach_rooted this.1 (by omega) (rooted_true.2 (.inr ⟨v, hv, h1, h2⟩))
  · rw [e] at hv
    by_cases h : s.reachB j = true
    · rw [if_pos h] at hv
      refine l v (fun i h1 h2 ha => ?_) (g.fields j v hv)
      have := g.ne_zero ha.1
      exact reach_closed h this.1 (by omega) (refs_pos hv h1 h2)
    · rw [if_neg h] at hv; simp [Ob.free] at hv
  · rw [e]
    show (j : Int) ∈ ([] : List Int) ↔ _
    by_cases h : s.reachB j = true
    · rw [if_pos h]; simp
    · rw [if_neg h]; simp [Ob.free]
  · intro b hb; cases hb
  · exact List.nodup_nil
  · rw [e]
    by_cases h : s.reachB j = true
    · rw [if_pos h]; intro _; rfl
    · rw [if_neg h]; intro _; rfl
theorem ob_restuck (s : St) (over : Int) (i : Nat) : (s.restuck over).ob i = if i < s.objs.length then stuckOb over s i (s.ob i) else Ob.free := getD_mapIdx _ _ _
theorem St.Good.restuck {s : St} {N : Nat} (g : s.Good N) (over : Int) (hq : s.queue = []) : (s.restuck over).Good N := by
  have hn : ∀ i, (s.ob i).queued = false := fun i => by
    cases e : (s.ob i).queued with
    | false => rfl
    | true => have := (g.inq i).2 e; rw [hq] at this; cases this
  have hh : ∀ i, s.over7 i = true → (s.ob i).here = true := fun i h => by
    unfold St.over7 at h
    simp at h
    obtain ⟨a, _, _, _, v, hv, h1, h2⟩ := count_some (s := s) (b := (i : Int)) (by omega)
    obtain ⟨j, hj, ha⟩ := leads_ref (g.fields a v hv) h1
    have : j = i := by omega
    rw [← this]; exact ha.1
  have e : ∀ i, ∃ b, (s.restuck over).ob i = { s.ob i with stuck := b } ∧ (b = (s.ob i).stuck ∨ (b = true ∧ (s.ob i).here = true)) := fun i => by
    rw [ob_restuck]
    by_cases hi : i < s.objs.length
    · rw [if_pos hi]
      unfold stuckOb
      by_cases h : i ≠ 0 ∧ s.over7 i = true ∧ over ≤ countTo s.over7 (i - 1)
      · rw [if_pos h]; exact ⟨true, rfl, .inr ⟨rfl, hh i h.2.1⟩⟩
      · rw [if_neg h]; exact ⟨_, rfl, .inl rfl⟩
    · rw [if_neg hi]
      refine ⟨false, ?_, .inl ?_⟩
      · cases h : (s.ob i).here with
        | true => exact absurd (here_lt h) hi
        | false => rw [g.gone i h]; rfl
      · cases h : (s.ob i).here with
        | true => exact absurd (here_lt h) hi
        | false => rw [g.gone i h]; rfl
  have l : ∀ v, s.leads v → (s.restuck over).leads v := fun v hv => leads_of (fun j _ ha => by
    obtain ⟨b, hb, _⟩ := e j
    unfold St.alive
    rw [hb]; exact ha) hv
  have gone : ∀ i, (s.ob i).here = false → (s.restuck over).ob i = Ob.free := fun i h => by
    obtain ⟨b, hb, hb2⟩ := e i
    rw [hb]
    rcases hb2 with h2 | h2
    · rw [h2]; exact g.gone i h
    · rw [h] at h2; cases h2.2
  refine ⟨by simp [St.restuck, g.len], ?_, fun j => ?_, fun j => ?_, fun v hv => l v (g.stack v hv), fun v hv => l v (g.globals v hv), fun j v hv => ?_, fun j => ?_, g.nat, g.once, fun j => ?_⟩
  · exact gone 0 (by rw [g.zero]; rfl)
  · intro h
    obtain ⟨b, hb, _⟩ := e j
    rw [hb] at h
    exact gone j h
  · obtain ⟨b, hb, _⟩ := e j
    rw [hb]; exact g.four j
  · obtain ⟨b, hb, _⟩ := e j
    rw [hb] at hv; exact l v (g.fields j v hv)
  · obtain ⟨b, hb, _⟩ := e j
    rw [hb]; exact g.inq j
  · obtain ⟨b, hb, _⟩ := e j
    rw [hb]; intro h
    rw [show ({ s.ob j with stuck := b } : Ob).queued = (s.ob j).queued from rfl, hn j] at h; cases h
theorem St.Good.collect {s : St} {N : Nat} (g : s.Good N) (over : Int) : (s.collect over).Good N := g.swept.restuck over rfl

/-! ### The operations -/
theorem St.Good.room {s : St} {N : Nat} (g : s.Good N) (c : Cf) : (roomS c s).Good N := by
  unfold roomS
  split
  · exact g
  · split
    · rename_i h; exact g.freed _ (by omega)
    · exact g.collect _
theorem free_here {s : St} {k : Nat} (h : free? s = some k) : (s.ob (k + 1)).here = false ∧ k + 1 < s.objs.length := by
  unfold free? at h
  obtain ⟨h1, h2, _⟩ := List.findIdx?_eq_some_iff_getElem.1 h
  rw [List.length_tail] at h1
  rw [List.getElem_tail] at h2
  rw [ob_of (List.getElem?_eq_getElem (by omega : k + 1 < s.objs.length))]
  exact ⟨by simpa using h2, by omega⟩
theorem St.Good.laid {s : St} {N : Nat} (g : s.Good N) {b n : Nat} (hb : (s.ob b).here = false) (hl : b < s.objs.length) (h1 : 1 ≤ b) (hn : n ≤ 4) : (s.put b ⟨true, List.replicate n (0, 0), false, false⟩).Good N := by
  have e : ∀ j, (s.put b ⟨true, List.replicate n (0, 0), false, false⟩).ob j = if j = b then ⟨true, List.replicate n (0, 0), false, false⟩ else s.ob j := fun j => ob_put _ j hl
  have l : ∀ v, s.leads v → (s.put b ⟨true, List.replicate n (0, 0), false, false⟩).leads v := fun v hv => leads_of (fun j _ ha => by
    have hj : j ≠ b := fun h => by subst h; rw [ha.1] at hb; cases hb
    unfold St.alive
    rw [e, if_neg hj]; exact ha) hv
  refine ⟨by simp [St.put, g.len], ?_, fun j => ?_, fun j => ?_, fun v hv => l v (g.stack v hv), fun v hv => l v (g.globals v hv), fun j v hv => ?_, fun j => ?_, g.nat, g.once, fun j => ?_⟩
  · rw [e, if_neg (by omega)]; exact g.zero
  · rw [e]
    by_cases hj : j = b
    · rw [if_pos hj]; intro h; cases h
    · rw [if_neg hj]; exact g.gone j
  · rw [e]
    by_cases hj : j = b
    · rw [if_pos hj]; simpa using hn
    · rw [if_neg hj]; exact g.four j
  · rw [e] at hv
    by_cases hj : j = b
    · rw [if_pos hj] at hv; simp at hv; exact .inl hv.2
    · rw [if_neg hj] at hv; exact l v (g.fields j v hv)
  · rw [e]
    show (j : Int) ∈ s.queue ↔ _
    by_cases hj : j = b
    · rw [if_pos hj, hj, g.inq b, g.gone b hb]
      simp [Ob.free]
    · rw [if_neg hj]; exact g.inq j
  · rw [e]
    by_cases hj : j = b
    · rw [if_pos hj]; intro h; cases h
    · rw [if_neg hj]; exact g.unstuck j
theorem St.Good.lay {s : St} {N : Nat} (g : s.Good N) (z : Int) {b n : Nat} (hb : (s.ob b).here = false) (hl : b < s.objs.length) (h1 : 1 ≤ b) (hn : n ≤ 4) : (layS z s b n).Good N := by
  have g1 := (g.laid hb hl h1 hn).enter z b
  obtain ⟨e1, e2, _, _⟩ := enter_same z b (s.put b ⟨true, List.replicate n (0, 0), false, false⟩)
  have eb : ((s.put b ⟨true, List.replicate n (0, 0), false, false⟩).enter z b).ob b = ⟨true, List.replicate n (0, 0), false, false⟩ := by
    rw [enter_but rfl, ob_put _ b hl, if_pos rfl]
  refine g1.roots rfl rfl (fun v hv => ?_) (fun v hv => g1.globals v hv)
  rcases List.mem_append.1 hv with h | h
  · exact g1.stack v (by rw [e1]; exact h)
  · simp at h
    subst h
    exact .inr (.inr ⟨rfl, b, rfl, by unfold St.alive; rw [eb]; exact ⟨rfl, rfl⟩⟩)
theorem St.Good.new {s : St} {N : Nat} (g : s.Good N) (c : Cf) (n : Int) : (newS c s n).1.Good N := by
  unfold newS
  by_cases h1 : n < 0 ∨ 4 < n
  · rw [if_pos h1]; exact g
  rw [if_neg h1]
  by_cases h2 : c.deep ≤ s.stack.length
  · rw [if_pos h2]; exact g
  rw [if_neg h2]
  cases hk : free? (roomS c s) with
  | none => exact g.room c
  | some k =>
    obtain ⟨h3, h4⟩ := free_here hk
    exact (g.room c).lay _ h3 h4 (by omega) (by omega)
theorem St.Good.stickS {s : St} {N : Nat} (g : s.Good N) (o : Int) {x : Int × Int} (hx : s.leads x) : (stickS o s x).Good N ∧ ∀ v, s.leads v → (stickS o s x).leads v := by
  unfold YtpmkjeihbddfpabDoor.stickS
  split
  · rename_i h
    obtain ⟨i, hi, ha⟩ := leads_ref hx h.1
    have e : x.2.toNat = i := by omega
    rw [e]
    exact ⟨g.stick i ha, fun v hv => leads_put (i := i) (o := { s.ob i with stuck := true }) rfl rfl hv⟩
  · exact ⟨g, fun v hv => hv⟩
theorem St.Good.store {s : St} {N : Nat} (g : s.Good N) (c : Cf) (n : Int) : (storeS c s n).1.Good N := by
  unfold storeS
  split
  · exact g
  split
  · exact g
  split
  · exact g
  unfold putS
  split
  · exact g.pop 2
  have hx : (s.pop 2).leads (s.down 0) := g.down 0
  obtain ⟨g1, l1⟩ := (g.pop 2).stickS c.over hx
  have g2 := g1.setField (s.down 1).2.toNat n.toNat (l1 _ hx)
  unfold dropS'
  split
  · exact g2.enter _ _
  · exact g2
theorem St.Good.did {s : St} {N : Nat} (g : s.Good N) (c : Cf) (op n : Int) (hn : -9223372036854775808 ≤ n ∧ n ≤ 9223372036854775807) : (doS c s op n).1.Good N := by
  refine doS_keeps c s op n (fun t => t.Good N) g (fun t v ht hts hv _ => ?_) (fun k => g.pop k) (fun k hk => ?_) (g.new c n) (g.store c n)
  · have ht' : ∀ v, s.leads v → t.leads v := fun v h => by
      rcases hts with rfl | rfl
      · exact h
      · exact h
    have hl : s.leads v := by
      rcases hv with rfl | rfl | ⟨k, rfl⟩ | ⟨k, rfl⟩ | ⟨b, k, rfl⟩
      · exact .inl rfl
      · exact .inr (.inl ⟨rfl, hn⟩)
      · exact g.down k
      · exact leads_getD g.globals k
      · exact leads_getD (g.fields _) k
    refine ht.roots rfl rfl (fun x hx => ?_) ht.globals
    rcases List.mem_append.1 hx with h | h
    · exact ht.stack x h
    · simp at h; subst h; exact ht' _ hl
  · refine g.roots rfl rfl (fun v hv => g.stack v (List.mem_of_mem_take hv)) (fun v hv => ?_)
    rcases List.mem_or_eq_of_mem_set hv with h | h
    · exact g.globals v h
    · subst h; exact g.down 0

/-- a new heap -/
theorem good_new (N G : Nat) : (⟨[], List.replicate G (0, 0), List.replicate (N + 1) Ob.free, []⟩ : St).Good N := by
  have e : ∀ i, (⟨[], List.replicate G (0, 0), List.replicate (N + 1) Ob.free, []⟩ : St).ob i = Ob.free := fun i => by
    unfold St.ob
    rw [List.getD_eq_getElem?_getD, List.getElem?_replicate]
    split <;> rfl
  refine ⟨by simp, e 0, fun i _ => e i, fun i => by rw [e]; simp [Ob.free], (fun v hv => by cases hv), fun v hv => .inl (by simp at hv; exact hv.2), fun i v hv => by rw [e] at hv; simp [Ob.free] at hv, fun i => by rw [e]; simp [Ob.free], (fun b hb => by cases hb), List.nodup_nil, fun i h => by rw [e]; rfl⟩

end Go.Proofs.YtpmkjeihbddfpabDoor

/- OUR OWN. The document's heap without memory: what a safepoint and a collection leave. -/
namespace Go.Proofs.YtpmkjeihbddfpabDoor
set_option linter.unusedVariables false
set_option linter.unusedSimpArgs false

/-! ### The reachable objects stay as they are -/
/-- as many blocks, the same roots, and the reachable objects have the same fields -/
structure Same (s t : St) : Prop where
  N : t.N = s.N
  stack : t.stack = s.stack
  globals : t.globals = s.globals
  fs : ∀ a, s.reachB a = true → (t.ob a).fs = (s.ob a).fs
theorem Same.rooted {s t : St} (h : Same s t) (b : Int) : t.rooted b = s.rooted b := by unfold St.rooted; rw [h.stack, h.globals]
theorem Same.reach {s t : St} (h : Same s t) (b : Nat) : t.reachB b = s.reachB b := by
  have h1 : ∀ b, s.reachB b = true → t.reachB b = true := fun b hb => by
    refine (reach_least (s := s) (P := fun b => t.reachB b = true ∧ s.reachB b = true) (fun b b1 b2 hr => ⟨reach_rooted b1 (by rw [h.N]; exact b2) (by rw [h.rooted]; exact hr), reach_rooted b1 b2 hr⟩) (fun a b ha a1 a2 b1 b2 hr => ⟨?_, reach_closed ha.2 b1 b2 hr⟩) hb).1
    exact reach_closed ha.1 b1 (by rw [h.N]; exact b2) (by rw [h.fs a ha.2]; exact hr)
  have h2 : ∀ b, t.reachB b = true → s.reachB b = true := fun b hb => by
    refine reach_least (s := t) (P := fun b => s.reachB b = true) (fun b b1 b2 hr => reach_rooted b1 (by rw [← h.N]; exact b2) (by rw [← h.rooted]; exact hr)) (fun a b ha a1 a2 b1 b2 hr => ?_) hb
    exact reach_closed ha b1 (by rw [← h.N]; exact b2) (by rw [← h.fs a ha]; exact hr)
  cases e : s.reachB b with
  | true => exact h1 b e
  | false =>
    cases e2 : t.reachB b with
    | false => rfl
    | true => rw [h2 b e2] at e; cases e
theorem Same.refl (s : St) : Same s s := ⟨rfl, rfl, rfl, fun _ _ => rfl⟩
theorem Same.trans {s t u : St} (h : Same s t) (k : Same t u) : Same s u :=
  ⟨k.N.trans h.N, k.stack.trans h.stack, k.globals.trans h.globals, fun a ha => (k.fs a (by rw [h.reach]; exact ha)).trans (h.fs a ha)⟩

theorem put_N (s : St) (i : Nat) (o : Ob) : (s.put i o).N = s.N := by simp [St.N, St.put]
theorem same_put {s : St} {i : Nat} {o : Ob} (h : s.reachB i = true → o.fs = (s.ob i).fs) : Same s (s.put i o) := by
  refine ⟨put_N s i o, rfl, rfl, fun a ha => ?_⟩
  by_cases hi : i < s.objs.length
  · rw [ob_put o a hi]
    by_cases e : a = i
    · rw [if_pos e, e]; exact h (by rw [← e]; exact ha)
    · rw [if_neg e]
  · rw [put_out o hi]
theorem same_queue {s t : St} (h : Same s t) (q : List Int) : Same s { t with queue := q } := ⟨h.N, h.stack, h.globals, h.fs⟩
theorem same_enq (s : St) (i : Nat) : Same s (s.enq i) := same_queue (same_put (s := s) (i := i) (o := { s.ob i with queued := true }) fun _ => rfl) _
theorem same_sortTo (but : Int) (s : St) (k : Nat) : Same s (sortTo but s k) := by
  induction k with
  | zero => exact .refl s
  | succ k ih =>
    unfold sortTo
    split
    · exact ih.trans (same_enq _ _)
    · exact ih
theorem same_sort (but : Int) (s : St) : Same s (s.sort but) := same_sortTo but s _
theorem same_enter (z but : Int) (s : St) : Same s (s.enter z but) := by
  unfold St.enter
  split
  · exact same_sort but s
  · exact .refl s
/-- what is in the queue is not reachable -/
theorem St.Good.queued_not {s : St} {N : Nat} (g : s.Good N) {b : Nat} (h : (s.ob b).queued = true) : s.reachB b = false := by
  cases e : s.reachB b with
  | false => rfl
  | true => have := (g.reach_alive e).2; rw [h] at this; cases this
theorem same_letGo {s : St} (z : Int) {b : Nat} (k : Nat) (h : s.reachB b = false) : Same s (letGo z b k s) := by
  have h1 : Same s (s.field b k (0, 0)) := same_put fun e => by rw [h] at e; cases e
  unfold letGo
  split
  · exact h1
  · split
    · exact h1
    · split
      · exact h1.trans (same_enter _ _ _)
      · exact h1.trans (same_enq _ _)
theorem same_letTo {s : St} (z : Int) {b : Nat} (k : Nat) (h : s.reachB b = false) : Same s (letTo z b s k) := by
  induction k with
  | zero => exact .refl s
  | succ k ih => exact ih.trans (same_letGo z k (by rw [ih.reach]; exact h))
theorem St.Good.first_queued {s : St} {N : Nat} (g : s.Good N) (hq : s.queue.length ≠ 0) : (s.ob s.first).queued = true := by
  obtain ⟨q, e⟩ := g.first hq
  exact (g.inq s.first).1 (by rw [e]; simp)
theorem same_free {s : St} {N : Nat} (g : s.Good N) (z : Int) (hq : s.queue.length ≠ 0) : Same s (s.free z) := by
  have h := g.queued_not (g.first_queued hq)
  have h1 := same_letTo z (s.ob s.first).fs.length h
  exact h1.trans (same_queue (same_put (s := letTo z s.first s (s.ob s.first).fs.length) (i := s.first) (o := Ob.free) fun e => by rw [h1.reach, h] at e; cases e) _)
theorem same_safeN {N : Nat} (z : Int) (k : Nat) : ∀ {s : St}, s.Good N → Same s (safeN z k s).1 := by
  induction k with
  | zero => intro s g; exact .refl s
  | succ k ih =>
    intro s g
    unfold safeN
    split
    · exact .refl s
    · rename_i hq
      exact (same_free g z hq).trans (ih (g.freed z hq))
theorem same_safe {s : St} {N : Nat} (g : s.Good N) (c : Cf) : Same s (s.safe c).1 := (same_sort 0 s).trans (same_safeN _ _ (g.sort 0))
theorem same_swept {s : St} {N : Nat} (g : s.Good N) : Same s s.swept :=
  ⟨by simp [St.N, St.swept], rfl, rfl, fun a ha => by rw [ob_swept g, if_pos ha]⟩
theorem same_restuck (s : St) (over : Int) : Same s (s.restuck over) := by
  refine ⟨by simp [St.N, St.restuck], rfl, rfl, fun a ha => ?_⟩
  rw [ob_restuck]
  by_cases hi : a < s.objs.length
  · rw [if_pos hi]; unfold stuckOb; split <;> rfl
  · rw [if_neg hi]
    cases e : s.objs[a]? with
    | some o => exact absurd (List.getElem?_eq_some_iff.1 e).1 hi
    | none => unfold St.ob; rw [List.getD_eq_getElem?_getD, e]; rfl
theorem same_collect {s : St} {N : Nat} (g : s.Good N) (over : Int) : Same s (s.collect over) := (same_swept g).trans (same_restuck _ _)

/-! ### How many blocks are free -/
def freeN (s : St) : Nat := countTo (fun b => !(s.ob b).here) s.N
def reachN (s : St) : Nat := countTo s.reachB s.N
theorem countTo_congr {p q : Nat → Bool} {k : Nat} (h : ∀ b, 1 ≤ b → b ≤ k → p b = q b) : countTo p k = countTo q k := by
  induction k with
  | zero => simp [countTo]
  | succ k ih => rw [countTo_succ, countTo_succ, ih (fun b h1 hb => h b h1 (by omega)), h (k + 1) (by omega) (by omega)]
theorem countTo_not (p : Nat → Bool) (k : Nat) : countTo (fun b => !p b) k + countTo p k = k := by
  induction k with
  | zero => simp [countTo]
  | succ k ih =>
    rw [countTo_succ, countTo_succ]
    cases p (k + 1) with
    | true => simp; omega
    | false => simp; omega
theorem countTo_add {p q r : Nat → Bool} {k : Nat} (h : ∀ b, (if p b then 1 else 0) + (if q b then 1 else 0) = (if r b then 1 else 0)) : countTo p k + countTo q k = countTo r k := by
  induction k with
  | zero => simp [countTo]
  | succ k ih =>
    rw [countTo_succ, countTo_succ, countTo_succ]
    have := h (k + 1)
    omega
theorem Same.reachN {s t : St} (h : Same s t) : reachN t = reachN s := by
  unfold YtpmkjeihbddfpabDoor.reachN
  rw [h.N]
  exact countTo_congr fun b _ _ => h.reach b
/-- one block more is free -/
theorem countTo_one {p q : Nat → Bool} {b k : Nat} (h1 : 1 ≤ b) (h2 : b ≤ k) (hp : p b = false) (hq : q b = true) (h : ∀ j, j ≠ b → p j = q j) : countTo q k = countTo p k + 1 := by
  induction k with
  | zero => omega
  | succ k ih =>
    rw [countTo_succ, countTo_succ]
    by_cases hb : b = k + 1
    · subst hb
      rw [hp, hq, countTo_congr (p := q) (q := p) fun j _ hj => (h j (by omega)).symm]
      simp
    · rw [ih (by omega), h (k + 1) (by omega)]; omega

/-- nothing but the queue and the flags -/
def sameHere (s t : St) : Prop := t.N = s.N ∧ ∀ b, (t.ob b).here = (s.ob b).here
theorem sameHere.refl (s : St) : sameHere s s := ⟨rfl, fun _ => rfl⟩
theorem sameHere.trans {s t u : St} (h : sameHere s t) (k : sameHere t u) : sameHere s u := ⟨k.1.trans h.1, fun b => (k.2 b).trans (h.2 b)⟩
theorem sh_put {s : St} {i : Nat} {o : Ob} (h : o.here = (s.ob i).here) : sameHere s (s.put i o) := by
  refine ⟨put_N s i o, fun b => ?_⟩
  by_cases hi : i < s.objs.length
  · rw [ob_put o b hi]
    by_cases e : b = i
    · rw [if_pos e, e]; exact h
    · rw [if_neg e]
  · rw [put_out o hi]
theorem sh_queue {s t : St} (h : sameHere s t) (q : List Int) : sameHere s { t with queue := q } := h
theorem sh_enq (s : St) (i : Nat) : sameHere s (s.enq i) := sh_queue (sh_put (s := s) (i := i) (o := { s.ob i with queued := true }) rfl) _
theorem sh_field (s : St) (i k : Nat) (v : Int × Int) : sameHere s (s.field i k v) := sh_put rfl
theorem sh_sortTo (but : Int) (s : St) (k : Nat) : sameHere s (sortTo but s k) := by
  induction k with
  | zero => exact .refl s
  | succ k ih =>
    unfold sortTo
    split
    · exact ih.trans (sh_enq _ _)
    · exact ih
theorem sh_enter (z but : Int) (s : St) : sameHere s (s.enter z but) := by
  unfold St.enter
  split
  · exact sh_sortTo but s _
  · exact .refl s
theorem sh_letGo (z : Int) (b k : Nat) (s : St) : sameHere s (letGo z b k s) := by
  unfold letGo
  split
  · exact sh_field _ _ _ _
  · split
    · exact sh_field _ _ _ _
    · split
      · exact (sh_field _ _ _ _).trans (sh_enter _ _ _)
      · exact (sh_field _ _ _ _).trans (sh_enq _ _)
theorem sh_letTo (z : Int) (b : Nat) (s : St) (k : Nat) : sameHere s (letTo z b s k) := by
  induction k with
  | zero => exact .refl s
  | succ k ih => exact ih.trans (sh_letGo z b k _)
theorem sameHere.freeN {s t : St} (h : sameHere s t) : freeN t = freeN s := by
  unfold YtpmkjeihbddfpabDoor.freeN
  rw [h.1]
  exact countTo_congr fun b _ _ => by rw [h.2 b]
theorem St.Good.queued_here {s : St} {N : Nat} (g : s.Good N) {b : Nat} (h : (s.ob b).queued = true) : (s.ob b).here = true := by
  cases e : (s.ob b).here with
  | true => rfl
  | false => rw [g.gone b e] at h; cases h
theorem freeN_free {s : St} {N : Nat} (g : s.Good N) (z : Int) (hq : s.queue.length ≠ 0) : freeN (s.free z) = freeN s + 1 := by
  have hh := g.queued_here (g.first_queued hq)
  have hz := g.ne_zero hh
  have h1 := sh_letTo z s.first s (s.ob s.first).fs.length
  have g1 := g.letTo z s.first (s.ob s.first).fs.length
  have hl : s.first < (letTo z s.first s (s.ob s.first).fs.length).objs.length := by rw [g1.len]; omega
  have e : ∀ j, (s.free z).ob j = if j = s.first then Ob.free else (letTo z s.first s (s.ob s.first).fs.length).ob j := fun j => getD_set _ _ _ _ hl
  have eN : (s.free z).N = s.N := by rw [(g.freed z hq).sN, g.sN]
  unfold freeN
  rw [eN, g.sN]
  refine countTo_one (b := s.first) hz.1 hz.2 (by rw [hh]; rfl) (by rw [e, if_pos rfl]; rfl) fun j hj => ?_
  rw [e, if_neg hj, h1.2 j]
theorem freeN_safeN {N : Nat} (z : Int) (k : Nat) : ∀ {s : St}, s.Good N → freeN (safeN z k s).1 = freeN s + (safeN z k s).2 ∧ (safeN z k s).2 ≤ k ∧ ((safeN z k s).2 < k → (safeN z k s).1.queue.length = 0) := by
  induction k with
  | zero => intro s g; exact ⟨rfl, Nat.le_refl _, fun h => absurd h (by simp [safeN])⟩
  | succ k ih =>
    intro s g
    unfold safeN
    split
    · rename_i hq; exact ⟨rfl, Nat.zero_le _, fun _ => hq⟩
    · rename_i hq
      obtain ⟨h1, h2, h3⟩ := ih (g.freed z hq)
      have := freeN_free g z hq
      refine ⟨?_, ?_, fun h => h3 ?_⟩
      · show freeN (safeN z k (s.free z)).1 = freeN s + ((safeN z k (s.free z)).2 + 1)
        omega
      · show (safeN z k (s.free z)).2 + 1 ≤ k + 1
        omega
      · have : (safeN z k (s.free z)).2 + 1 < k + 1 := h
        omega
theorem freeN_safe {s : St} {N : Nat} (g : s.Good N) (c : Cf) : freeN (s.safe c).1 = freeN s + (s.safe c).2 ∧ (s.safe c).2 ≤ c.budget.toNat ∧ ((s.safe c).2 < c.budget.toNat → (s.safe c).1.queue.length = 0) := by
  obtain ⟨h1, h2, h3⟩ := freeN_safeN c.zero c.budget.toNat (g.sort 0)
  refine ⟨?_, h2, h3⟩
  have e : freeN (s.sort 0) = freeN s := (sh_sortTo 0 s _).freeN
  rw [← e]; exact h1
theorem collect_here {s : St} {N : Nat} (g : s.Good N) (over : Int) (b : Nat) : ((s.collect over).ob b).here = s.reachB b := by
  have gs := g.swept
  have e : ((s.collect over).ob b).here = (s.swept.ob b).here := by
    show ((s.swept.restuck over).ob b).here = _
    rw [ob_restuck]
    by_cases hi : b < s.swept.objs.length
    · rw [if_pos hi]; unfold stuckOb; split <;> rfl
    · rw [if_neg hi]
      cases e : (s.swept.ob b).here with
      | true => exact absurd (here_lt e) hi
      | false => rfl
  rw [e, ob_swept g]
  cases hr : s.reachB b with
  | true => rw [if_pos rfl]; exact (g.reach_alive hr).1
  | false => rw [if_neg (by simp)]; rfl
theorem freeN_collect {s : St} {N : Nat} (g : s.Good N) (over : Int) : freeN (s.collect over) + reachN s = N ∧ freeN (s.collect over) = freeN s + s.gone := by
  have eN : (s.collect over).N = N := (g.collect over).sN
  have e1 : freeN (s.collect over) = countTo (fun b => !s.reachB b) N := by
    unfold freeN
    rw [eN]
    exact countTo_congr fun b _ _ => by rw [collect_here g]
  refine ⟨?_, ?_⟩
  · rw [e1]; unfold reachN; rw [g.sN]; exact countTo_not _ _
  · rw [e1]
    unfold freeN St.gone
    rw [g.sN]
    refine (countTo_add fun b => ?_).symm
    cases hr : s.reachB b with
    | true => rw [(g.reach_alive hr).1]; rfl
    | false => cases (s.ob b).here <;> rfl

end Go.Proofs.YtpmkjeihbddfpabDoor

/- OUR OWN. The document's heap without memory: how the counts go; how many wait, how many have extras. -/
namespace Go.Proofs.YtpmkjeihbddfpabDoor
set_option linter.unusedVariables false
set_option linter.unusedSimpArgs false

/-! ### The counts -/
def isRef (v : Int × Int) (b : Int) : Nat := if v.1 = 2 ∧ v.2 = b then 1 else 0
theorem refs_cons (v : Int × Int) (l : List (Int × Int)) (b : Int) : refsN (v :: l) b = refsN l b + isRef v b := by
  unfold refsN isRef
  rw [List.countP_cons]
  congr 1
  by_cases h : v.1 = 2 ∧ v.2 = b
  · rw [if_pos h]; simp [h.1, h.2]
  · rw [if_neg h]
    refine if_neg fun e => h ?_
    simpa using e
theorem refs_set {l : List (Int × Int)} {k : Nat} (hk : k < l.length) (v : Int × Int) (b : Int) : refsN (l.set k v) b + isRef (l.getD k (0, 0)) b = refsN l b + isRef v b := by
  induction l generalizing k with
  | nil => simp at hk
  | cons a l ih =>
    cases k with
    | zero => rw [List.set_cons_zero, refs_cons, refs_cons]; simp; omega
    | succ k =>
      rw [List.set_cons_succ, refs_cons, refs_cons]
      have := ih (k := k) (by simpa using hk)
      simp only [List.getD_cons_succ]
      omega
theorem sum_set {l : List Nat} {i : Nat} (hi : i < l.length) (x : Nat) : (l.set i x).sum + l.getD i 0 = l.sum + x := by
  induction l generalizing i with
  | nil => simp at hi
  | cons a l ih =>
    cases i with
    | zero => rw [List.set_cons_zero, List.sum_cons, List.sum_cons]; simp; omega
    | succ i =>
      rw [List.set_cons_succ, List.sum_cons, List.sum_cons]
      have := ih (i := i) (by simpa using hi)
      simp only [List.getD_cons_succ]
      omega
theorem count_put {s : St} {i : Nat} (h1 : 1 ≤ i) (hi : i < s.objs.length) (o : Ob) (b : Int) : (s.put i o).count b + obCount b (s.ob i) = s.count b + obCount b o := by
  unfold St.count St.put
  have e1 : (s.objs.set i o).tail = s.objs.tail.set (i - 1) o := by
    cases e : s.objs with
    | nil => rfl
    | cons a l =>
      obtain ⟨j, rfl⟩ : ∃ j, i = j + 1 := ⟨i - 1, by omega⟩
      rw [List.set_cons_succ]; rfl
  have hl : i - 1 < (s.objs.tail.map (obCount b)).length := by rw [List.length_map, List.length_tail]; omega
  have := sum_set hl (obCount b o)
  have e2 : (s.objs.tail.map (obCount b)).getD (i - 1) 0 = obCount b (s.ob i) := by
    rw [List.getD_eq_getElem?_getD, List.getElem?_map, List.getElem?_tail, show i - 1 + 1 = i by omega, List.getElem?_eq_getElem hi, ob_of (List.getElem?_eq_getElem hi)]; rfl
  rw [e2] at this
  rw [e1, List.map_set]
  exact this
theorem count_zero_put {s : St} {o : Ob} (b : Int) : (s.put 0 o).count b = s.count b := by
  unfold St.count St.put
  cases s.objs with
  | nil => rfl
  | cons a l => rfl
/-- a flag does not count -/
theorem count_flag {s : St} {i : Nat} {o : Ob} (h1 : o.here = (s.ob i).here) (h2 : o.fs = (s.ob i).fs) (b : Int) : (s.put i o).count b = s.count b := by
  by_cases hi : i < s.objs.length
  · by_cases h0 : i = 0
    · subst h0; exact count_zero_put b
    · have := count_put (s := s) (i := i) (by omega) hi o b
      have e : obCount b o = obCount b (s.ob i) := by unfold obCount; rw [h1, h2]
      omega
  · rw [put_out o hi]
theorem count_queue (s : St) (q : List Int) (b : Int) : ({ s with queue := q } : St).count b = s.count b := rfl
theorem count_enq (s : St) (i : Nat) (b : Int) : (s.enq i).count b = s.count b := count_flag (s := s) (i := i) (o := { s.ob i with queued := true }) rfl rfl b
theorem count_stick (s : St) (i : Nat) (b : Int) : (s.stick i).count b = s.count b := count_flag (s := s) (i := i) (o := { s.ob i with stuck := true }) rfl rfl b
theorem count_sortTo (but : Int) (s : St) (k : Nat) (b : Int) : (sortTo but s k).count b = s.count b := by
  induction k with
  | zero => rfl
  | succ k ih =>
    unfold sortTo
    split
    · rw [count_enq]; exact ih
    · exact ih
theorem count_sort (but : Int) (s : St) (b : Int) : (s.sort but).count b = s.count b := count_sortTo but s _ b
theorem count_enter (z but : Int) (s : St) (b : Int) : (s.enter z but).count b = s.count b := by
  unfold St.enter
  split
  · exact count_sort but s b
  · rfl
/-- a field is turned -/
theorem count_field {s : St} {N : Nat} (g : s.Good N) {i k : Nat} (hk : k < (s.ob i).fs.length) (v : Int × Int) (b : Int) : (s.field i k v).count b + isRef ((s.ob i).fs.getD k (0, 0)) b = s.count b + isRef v b := by
  have hh : (s.ob i).here = true := by
    cases e : (s.ob i).here with
    | true => rfl
    | false => rw [g.gone i e] at hk; simp [Ob.free] at hk
  have hz := g.ne_zero hh
  have := count_put (s := s) hz.1 (here_lt hh) { s.ob i with fs := (s.ob i).fs.set k v } b
  have e1 : obCount b (s.ob i) = refsN (s.ob i).fs b := by unfold obCount; rw [if_pos hh]
  have e2 : obCount b { s.ob i with fs := (s.ob i).fs.set k v } = refsN ((s.ob i).fs.set k v) b := by
    unfold obCount
    exact if_pos hh
  have := refs_set hk v b
  unfold St.field
  omega
theorem isRef_nil (b : Int) : isRef (0, 0) b = 0 := by unfold isRef; simp
/-- a free block has no fields that count, and gets none -/
theorem count_lay {s : St} {N : Nat} (g : s.Good N) {b n : Nat} (hb : (s.ob b).here = false) (hl : b < s.objs.length) (h1 : 1 ≤ b) (x : Int) : (s.put b ⟨true, List.replicate n (0, 0), false, false⟩).count x = s.count x := by
  have := count_put (s := s) h1 hl ⟨true, List.replicate n (0, 0), false, false⟩ x
  have e1 : obCount x (s.ob b) = 0 := by unfold obCount; rw [hb]; rfl
  have e2 : obCount x ⟨true, List.replicate n (0, 0), false, false⟩ = 0 := by
    unfold obCount
    refine (if_pos rfl).trans ?_
    refine List.countP_eq_zero.2 fun v hv => ?_
    simp at hv
    rw [hv.2]; simp
  omega
/-- no value leads to a block that has no object -/
theorem St.Good.count_gone {s : St} {N : Nat} (g : s.Good N) {b : Nat} (hb : ¬ s.alive b) : s.count b = 0 := by
  rcases Nat.eq_zero_or_pos (s.count b) with e | e
  · exact e
  · obtain ⟨i, _, _, _, v, hv, h1, h2⟩ := count_some e
    obtain ⟨j, hj, ha⟩ := leads_ref (g.fields i v hv) h1
    have : j = b := by omega
    rw [this] at ha; exact absurd ha hb
/-- the fields of the object that is freed -/
theorem letGo_ob {z : Int} {b k : Nat} {s : St} {N : Nat} (g : s.Good N) (hq : (s.ob b).queued = true) : ((letGo z b k s).ob b).fs = (s.ob b).fs.set k (0, 0) ∧ ((letGo z b k s).ob b).queued = true := by
  have hh := g.queued_here hq
  have hi := here_lt hh
  have e1 : (s.field b k (0, 0)).ob b = { s.ob b with fs := (s.ob b).fs.set k (0, 0) } := by unfold St.field; rw [ob_put _ b hi, if_pos rfl]
  have hq1 : ((s.field b k (0, 0)).ob b).queued = true := by rw [e1]; exact hq
  have so : ∀ (but : Int) (t : St) (j : Nat), (t.ob b).queued = true → (sortTo but t j).ob b = t.ob b := fun but t j ht => by
    induction j with
    | zero => rfl
    | succ j ih =>
      unfold sortTo
      split
      · rename_i h
        obtain ⟨w1, _, _⟩ := sorts_iff.1 h
        obtain ⟨w2, _, _⟩ := waits_iff.1 w1
        have hl := here_lt w2.1
        rw [ob_enq b hl]
        by_cases e : b = j + 1
        · have := w2.2; rw [← e, ih, ht] at this; cases this
        · rw [if_neg e]; exact ih
      · exact ih
  have en : ∀ (but : Int) (t : St), (t.ob b).queued = true → (t.enter z but).ob b = t.ob b := fun but t ht => by
    unfold St.enter
    split
    · exact so but t _ ht
    · rfl
  unfold letGo
  split
  · rw [e1]; exact ⟨rfl, hq⟩
  · rename_i hk
    split
    · rw [e1]; exact ⟨rfl, hq⟩
    · split
      · rw [en _ _ hq1, e1]; exact ⟨rfl, hq⟩
      · -- the object that is queued is another one
        obtain ⟨j, hj, ha⟩ := leads_ref (leads_put (s := s) (i := b) (o := { s.ob b with fs := (s.ob b).fs.set k (0, 0) }) rfl rfl (leads_getD (g.fields b) k)) (by omega)
        rw [hj, Int.toNat_natCast]
        have hne : b ≠ j := fun e => by
          have h2 := ha.2
          rw [← e] at h2
          have : ((s.field b k (0, 0)).ob b).queued = false := h2
          rw [hq1] at this; cases this
        have hl : j < (s.field b k (0, 0)).objs.length := here_lt ha.1
        rw [ob_enq b hl, if_neg hne, e1]; exact ⟨rfl, hq⟩
theorem letTo_ob {z : Int} {b : Nat} {s : St} {N : Nat} (g : s.Good N) (hq : (s.ob b).queued = true) (k : Nat) :
    ((letTo z b s k).ob b).queued = true ∧ ((letTo z b s k).ob b).fs.length = (s.ob b).fs.length ∧ (∀ j, j < k → j < (s.ob b).fs.length → ((letTo z b s k).ob b).fs[j]? = some (0, 0)) ∧ ∀ j, k ≤ j → ((letTo z b s k).ob b).fs[j]? = (s.ob b).fs[j]? := by
  induction k with
  | zero => exact ⟨hq, rfl, fun j hj => absurd hj (by omega), fun j _ => rfl⟩
  | succ k ih =>
    obtain ⟨h1, h2, h3, h4⟩ := ih
    obtain ⟨e1, e2⟩ := letGo_ob (z := z) (k := k) (g.letTo z b k) h1
    have ef : ((letTo z b s (k + 1)).ob b).fs = ((letTo z b s k).ob b).fs.set k (0, 0) := e1
    refine ⟨e2, by rw [ef, List.length_set]; exact h2, fun j hj hl => ?_, fun j hj => ?_⟩
    · rw [ef]
      by_cases e : j = k
      · subst e; rw [List.getElem?_set_self (by omega)]
      · rw [List.getElem?_set_ne (fun x => e x.symm)]; exact h3 j (by omega) hl
    · rw [ef, List.getElem?_set_ne (by omega)]; exact h4 j (by omega)
/-- when it leaves, all its fields are nil: nothing is counted less -/
theorem count_free {z : Int} {s : St} {N : Nat} (g : s.Good N) (hq : s.queue.length ≠ 0) (x : Int) : (s.free z).count x = (letTo z s.first s (s.ob s.first).fs.length).count x := by
  have hqd := g.first_queued hq
  have hh := g.queued_here hqd
  have hz := g.ne_zero hh
  have g1 := g.letTo z s.first (s.ob s.first).fs.length
  obtain ⟨_, h2, h3, _⟩ := letTo_ob (z := z) g hqd (s.ob s.first).fs.length
  have hl : s.first < (letTo z s.first s (s.ob s.first).fs.length).objs.length := by rw [g1.len]; omega
  have := count_put (s := letTo z s.first s (s.ob s.first).fs.length) hz.1 hl Ob.free x
  have e1 : obCount x ((letTo z s.first s (s.ob s.first).fs.length).ob s.first) = 0 := by
    unfold obCount
    split
    · refine List.countP_eq_zero.2 fun v hv => ?_
      obtain ⟨j, hj, he⟩ := List.getElem_of_mem hv
      have := h3 j (by omega) (by omega)
      rw [List.getElem?_eq_getElem hj, he] at this
      simp at this
      rw [this]; simp
    · rfl
  have e2 : obCount x Ob.free = 0 := rfl
  have e3 : (s.free z).count x = ((letTo z s.first s (s.ob s.first).fs.length).put s.first Ob.free).count x := rfl
  omega

end Go.Proofs.YtpmkjeihbddfpabDoor

/- OUR OWN. The document's heap without memory: no more wait than may, no more have extras. -/
namespace Go.Proofs.YtpmkjeihbddfpabDoor
set_option linter.unusedVariables false
set_option linter.unusedSimpArgs false

def waitN (s : St) : Nat := countTo s.waits s.N
/-- within the configuration; the roots are fewer than may wait -/
structure Bound (c : Cf) (s : St) : Prop where
  waits : (waitN s : Int) ≤ c.zero
  extras : (s.extras : Int) ≤ c.over
  roots : (s.stack.length : Int) ≤ c.deep
  zero : c.deep + s.globals.length < c.zero

/-! ### What waits, behind a sorting -/
theorem waits_congr {s t : St} {b : Nat} (h : t.ob b = s.ob b) (hc : t.count b = s.count b) : t.waits b = s.waits b := by unfold St.waits; rw [h, hc]
theorem waits_enq {s : St} {i : Nat} (hi : i < s.objs.length) (b : Nat) : (s.enq i).waits b = if b = i then false else s.waits b := by
  by_cases e : b = i
  · rw [if_pos e]
    unfold St.waits
    rw [ob_enq b hi, if_pos e]; simp
  · rw [if_neg e]
    exact waits_congr (by rw [ob_enq b hi, if_neg e]) (count_enq s i b)
theorem sort_N (but : Int) (s : St) (k : Nat) : (sortTo but s k).N = s.N := (sh_sortTo but s k).1
theorem sortTo_root (but : Int) (s : St) (k : Nat) (b : Int) : (sortTo but s k).rooted b = s.rooted b := by
  obtain ⟨e1, e2, _⟩ := sortTo_same but s k
  unfold St.rooted; rw [e1, e2]
theorem sortTo_waits (but : Int) (s : St) (k b : Nat) : (sortTo but s k).waits b = (s.waits b && (decide (k < b) || decide (b = 0) || s.rooted b || decide ((b : Int) = but))) := by
  induction k with
  | zero =>
    have : (decide (0 < b) || decide (b = 0)) = true := by simp; omega
    show s.waits b = _
    rw [this]; simp
  | succ k ih =>
    unfold sortTo
    split
    · rename_i h
      obtain ⟨w1, w2, w3⟩ := sorts_iff.1 h
      have hl := here_lt (waits_iff.1 w1).1.1
      rw [waits_enq hl]
      by_cases e : b = k + 1
      · rw [if_pos e]
        subst e
        rw [sortTo_root] at w2
        rw [w2]
        have : decide (((k + 1 : Nat) : Int) = but) = false := by simpa using w3
        rw [this]; simp
      · rw [if_neg e, ih]
        have : decide (k + 1 < b) = decide (k < b) := decide_eq_decide.2 (by omega)
        rw [this]
    · rename_i h
      rw [ih]
      by_cases e : b = k + 1
      · subst e
        have hs : (sortTo but s k).waits (k + 1) = s.waits (k + 1) := by rw [ih]; simp
        have h' : ¬ ((sortTo but s k).waits (k + 1) = true ∧ (sortTo but s k).rooted ((k + 1 : Nat) : Int) = false ∧ ((k + 1 : Nat) : Int) ≠ but) := fun hh => h (sorts_iff.2 hh)
        rw [hs, sortTo_root] at h'
        cases ew : s.waits (k + 1) with
        | false => rfl
        | true =>
          cases er : s.rooted ((k + 1 : Nat) : Int) with
          | true => simp
          | false =>
            have : ((k + 1 : Nat) : Int) = but := Classical.byContradiction fun hb => h' ⟨ew, er, hb⟩
            simp [this]
      · have : decide (k + 1 < b) = decide (k < b) := decide_eq_decide.2 (by omega)
        rw [this]
theorem sort_waits {but : Int} {s : St} {b : Nat} (h1 : 1 ≤ b) (h2 : b ≤ s.N) : (s.sort but).waits b = (s.waits b && (s.rooted b || decide ((b : Int) = but))) := by
  unfold St.sort
  rw [sortTo_waits]
  have e1 : decide (s.N < b) = false := by simp; omega
  have e2 : decide (b = 0) = false := by simp; omega
  rw [e1, e2]; simp

/-! ### The roots are few -/
theorem countTo_or {p q r : Nat → Bool} {k : Nat} (h : ∀ b, p b = true → q b = true ∨ r b = true) : countTo p k ≤ countTo q k + countTo r k := by
  induction k with
  | zero => simp [countTo]
  | succ k ih =>
    rw [countTo_succ, countTo_succ, countTo_succ]
    cases e : p (k + 1) with
    | false => simp; omega
    | true =>
      rcases h _ e with e2 | e2
      · rw [e2]; simp; omega
      · rw [e2]; simp; omega
theorem countTo_eq_le (x : Int) (k : Nat) : countTo (fun b => decide ((b : Int) = x)) k ≤ 1 := by
  have : ∀ k, countTo (fun b => decide ((b : Int) = x)) k ≤ if (k : Int) < x then 0 else 1 := fun k => by
    induction k with
    | zero => simp [countTo]
    | succ k ih =>
      rw [countTo_succ]
      by_cases e : ((k + 1 : Nat) : Int) = x
      · rw [if_pos (by simpa using e), if_neg (by omega)]
        rw [if_pos (by omega)] at ih
        omega
      · rw [if_neg (by simpa using e)]
        by_cases h : ((k + 1 : Nat) : Int) < x
        · rw [if_pos h]; rw [if_pos (by omega)] at ih; omega
        · rw [if_neg h]; have : (if (k : Int) < x then 0 else 1) ≤ 1 := by split <;> omega
          omega
  have h := this k
  have : (if (k : Int) < x then 0 else 1) ≤ 1 := by split <;> omega
  omega
theorem countTo_refs (l : List (Int × Int)) (k : Nat) : countTo (fun b => decide (0 < refsN l b)) k ≤ l.length := by
  induction l with
  | nil =>
    have : countTo (fun b => decide (0 < refsN ([] : List (Int × Int)) b)) k = 0 := by
      unfold countTo
      exact List.countP_eq_zero.2 fun j _ => by simp [refsN]
    omega
  | cons v l ih =>
    have := countTo_or (p := fun b : Nat => decide (0 < refsN (v :: l) b)) (q := fun b : Nat => decide (0 < refsN l b)) (r := fun b : Nat => decide ((b : Int) = v.2)) (k := k) (fun b hb => by
      simp only [decide_eq_true_eq] at hb ⊢
      rw [refs_cons] at hb
      by_cases e : 0 < refsN l b
      · exact .inl e
      · right
        have : isRef v b ≠ 0 := by omega
        unfold isRef at this
        have hh : v.1 = 2 ∧ v.2 = (b : Int) := Classical.byContradiction fun hn => this (if_neg hn)
        exact hh.2.symm)
    have h2 := countTo_eq_le v.2 k
    rw [List.length_cons]
    omega
theorem countTo_rooted (s : St) (k : Nat) : countTo (fun b => s.rooted b) k ≤ s.stack.length + s.globals.length := by
  have := countTo_or (p := fun b : Nat => s.rooted b) (q := fun b : Nat => decide (0 < refsN s.stack b)) (r := fun b : Nat => decide (0 < refsN s.globals b)) (k := k) (fun b hb => by
    unfold St.rooted at hb
    simp only [decide_eq_true_eq] at hb ⊢
    omega)
  have h1 := countTo_refs s.stack k
  have h2 := countTo_refs s.globals k
  omega
theorem waitN_sort (but : Int) (s : St) : waitN (s.sort but) ≤ s.stack.length + s.globals.length + 1 := by
  unfold waitN
  have eN : (s.sort but).N = s.N := sort_N but s s.N
  rw [eN]
  have e : countTo (s.sort but).waits s.N = countTo (fun b => s.waits b && (s.rooted b || decide ((b : Int) = but))) s.N := countTo_congr fun b h1 h2 => sort_waits h1 h2
  have := countTo_or (p := fun b : Nat => s.waits b && (s.rooted b || decide ((b : Int) = but))) (q := fun b : Nat => s.rooted b) (r := fun b : Nat => decide ((b : Int) = but)) (k := s.N) (fun b hb => by
    simp only [Bool.and_eq_true, Bool.or_eq_true] at hb
    exact hb.2)
  have h1 := countTo_rooted s s.N
  have h2 := countTo_eq_le but s.N
  omega
theorem waitN_sort0 (s : St) : waitN (s.sort 0) ≤ s.stack.length + s.globals.length := by
  unfold waitN
  have eN : (s.sort 0).N = s.N := sort_N 0 s s.N
  rw [eN]
  have e : countTo (s.sort 0).waits s.N = countTo (fun b => s.waits b && s.rooted b) s.N := countTo_congr fun b h1 h2 => by
    rw [sort_waits h1 h2]
    have : decide ((b : Int) = 0) = false := by simp; omega
    rw [this]; simp
  have := countTo_mono (p := fun b : Nat => s.waits b && s.rooted b) (q := fun b : Nat => s.rooted b) (fun b hb => by simp only [Bool.and_eq_true] at hb; exact hb.2) s.N
  have h1 := countTo_rooted s s.N
  omega
/-- an object is to wait: behind it no more wait than may -/
theorem waitN_enter (z but : Int) (s : St) (hz : (s.stack.length : Int) + s.globals.length < z) : (waitN (s.enter z but) : Int) ≤ z := by
  unfold St.enter
  split
  · have := waitN_sort but s; omega
  · rename_i h
    have h1 := countTo_or (p := s.waits) (q := s.others but) (r := fun b => decide ((b : Int) = but)) (k := s.N) (fun b hb => by
      unfold St.others
      by_cases e : (b : Int) = but
      · right; simpa using e
      · left; rw [hb]; simpa using e)
    have h2 := countTo_eq_le but s.N
    unfold waitN
    omega

end Go.Proofs.YtpmkjeihbddfpabDoor

/- OUR OWN. The document's heap without memory: the configuration's bounds hold behind every call. -/
namespace Go.Proofs.YtpmkjeihbddfpabDoor
set_option linter.unusedVariables false
set_option linter.unusedSimpArgs false

theorem waitN_le {s t : St} (hN : t.N = s.N) (h : ∀ b, 1 ≤ b → b ≤ s.N → t.waits b = true → s.waits b = true) : waitN t ≤ waitN s := by
  unfold waitN
  rw [hN, countTo_congr (p := t.waits) (q := fun b => t.waits b && s.waits b) (fun b h1 h2 => by
    cases e : t.waits b with
    | false => rfl
    | true => rw [h b h1 h2 e]; rfl)]
  exact countTo_mono (fun b hb => by simp only [Bool.and_eq_true] at hb; exact hb.2) _
theorem extras_le {s t : St} (hN : t.N = s.N) (h : ∀ b, 1 ≤ b → b ≤ s.N → t.extra b = true → s.extra b = true) : t.extras ≤ s.extras := by
  unfold St.extras
  rw [hN, countTo_congr (p := t.extra) (q := fun b => t.extra b && s.extra b) (fun b h1 h2 => by
    cases e : t.extra b with
    | false => rfl
    | true => rw [h b h1 h2 e]; rfl)]
  exact countTo_mono (fun b hb => by simp only [Bool.and_eq_true] at hb; exact hb.2) _
theorem extra_iff {s : St} {b : Nat} : s.extra b = true ↔ (s.ob b).here = true ∧ (s.ob b).stuck = false ∧ 7 < s.count b := by
  unfold St.extra
  simp
  exact and_assoc
/-- but for the queue's flags the objects are the same -/
def alikeO (o o' : Ob) : Prop := o'.here = o.here ∧ o'.stuck = o.stuck
theorem enq_alike (s : St) (i b : Nat) : alikeO (s.ob b) ((s.enq i).ob b) := by
  by_cases hi : i < s.objs.length
  · rw [ob_enq b hi]
    by_cases e : b = i
    · rw [if_pos e, e]; exact ⟨rfl, rfl⟩
    · rw [if_neg e]; exact ⟨rfl, rfl⟩
  · have : (s.enq i).ob b = s.ob b := by
      show (s.put i { s.ob i with queued := true }).ob b = s.ob b
      rw [put_out _ hi]
    rw [this]; exact ⟨rfl, rfl⟩
theorem sortTo_alike (but : Int) (s : St) (k b : Nat) : alikeO (s.ob b) ((sortTo but s k).ob b) := by
  induction k with
  | zero => exact ⟨rfl, rfl⟩
  | succ k ih =>
    unfold sortTo
    split
    · have := enq_alike (sortTo but s k) (k + 1) b
      exact ⟨this.1.trans ih.1, this.2.trans ih.2⟩
    · exact ih
theorem extras_sortTo (but : Int) (s : St) (k : Nat) : (sortTo but s k).extras ≤ s.extras :=
  extras_le (sort_N but s k) fun b _ _ hb => by
    obtain ⟨h1, h2, h3⟩ := extra_iff.1 hb
    obtain ⟨e1, e2⟩ := sortTo_alike but s k b
    rw [count_sortTo] at h3
    exact extra_iff.2 ⟨by rw [← e1]; exact h1, by rw [← e2]; exact h2, h3⟩
theorem extras_enter (z but : Int) (s : St) : (s.enter z but).extras ≤ s.extras := by
  unfold St.enter
  split
  · exact extras_sortTo but s _
  · exact Nat.le_refl _
theorem enter_roots (z but : Int) (s : St) : (s.enter z but).stack = s.stack ∧ (s.enter z but).globals = s.globals := ⟨(enter_same z but s).1, (enter_same z but s).2.1⟩
/-- only roots are turned -/
theorem Bound.roots' {c : Cf} {s t : St} (h : Bound c s) (ho : t.objs = s.objs) (h1 : (t.stack.length : Int) ≤ c.deep) (h2 : t.globals.length = s.globals.length) : Bound c t := by
  have eo : ∀ b, t.ob b = s.ob b := fun b => by unfold St.ob; rw [ho]
  have ec : ∀ b, t.count b = s.count b := fun b => by unfold St.count; rw [ho]
  have eN : t.N = s.N := by unfold St.N; rw [ho]
  have e1 : waitN t ≤ waitN s := waitN_le eN fun b _ _ hb => by rw [← waits_congr (eo b) (ec b)]; exact hb
  have e2 : t.extras ≤ s.extras := extras_le eN fun b _ _ hb => by
    obtain ⟨a1, a2, a3⟩ := extra_iff.1 hb
    rw [eo] at a1 a2; rw [ec] at a3
    exact extra_iff.2 ⟨a1, a2, a3⟩
  have := h.waits; have := h.extras
  exact ⟨by omega, by omega, h1, by rw [h2]; exact h.zero⟩
theorem Bound.slack {c : Cf} {s : St} (h : Bound c s) : (s.stack.length : Int) + s.globals.length < c.zero := by have := h.roots; have := h.zero; omega

/-- the old value of a field that becomes v: what may wait now is what waited, or the old value's object -/
theorem field_waits {s : St} {N : Nat} (g : s.Good N) {i k : Nat} (hk : k < (s.ob i).fs.length) (v : Int × Int) {b : Nat} (hb : (s.field i k v).waits b = true) :
    s.waits b = true ∨ (((s.ob i).fs.getD k (0, 0)).1 = 2 ∧ ((s.ob i).fs.getD k (0, 0)).2 = b) := by
  obtain ⟨h1, h2, h3⟩ := waits_iff.1 hb
  have hc := count_field g hk v b
  by_cases e : ((s.ob i).fs.getD k (0, 0)).1 = 2 ∧ ((s.ob i).fs.getD k (0, 0)).2 = b
  · exact .inr e
  · have e0 : isRef ((s.ob i).fs.getD k (0, 0)) b = 0 := if_neg e
    left
    have ha : s.alive b := (alive_put (s := s) (i := i) (o := { s.ob i with fs := (s.ob i).fs.set k v }) rfl rfl b).1 h1
    refine waits_iff.2 ⟨ha, ?_, by omega⟩
    have hl : i < s.objs.length := by
      by_cases hi : i < s.objs.length
      · exact hi
      · exfalso
        cases eh : (s.ob i).here with
        | true => exact hi (here_lt eh)
        | false => rw [g.gone i eh] at hk; simp [Ob.free] at hk
    have : ((s.field i k v).ob b).stuck = (s.ob b).stuck := by
      unfold St.field
      rw [ob_put _ b hl]
      by_cases e2 : b = i
      · rw [if_pos e2, e2]
      · rw [if_neg e2]
    rw [← this]; exact h2
theorem field_ob {s : St} {i k : Nat} {v : Int × Int} (b : Nat) : ((s.field i k v).ob b).here = (s.ob b).here ∧ ((s.field i k v).ob b).stuck = (s.ob b).stuck ∧ ((s.field i k v).ob b).queued = (s.ob b).queued := by
  by_cases hi : i < s.objs.length
  · unfold St.field
    rw [ob_put _ b hi]
    by_cases e : b = i
    · rw [if_pos e, e]; exact ⟨rfl, rfl, rfl⟩
    · rw [if_neg e]; exact ⟨rfl, rfl, rfl⟩
  · unfold St.field
    rw [put_out _ hi]; exact ⟨rfl, rfl, rfl⟩
theorem field_N (s : St) (i k : Nat) (v : Int × Int) : (s.field i k v).N = s.N := put_N s i _
/-- a field becomes nil: no extra more -/
theorem nil_extras {s : St} {N : Nat} (g : s.Good N) {i k : Nat} (hk : k < (s.ob i).fs.length) : (s.field i k (0, 0)).extras ≤ s.extras :=
  extras_le (field_N s i k _) fun b _ _ hb => by
    obtain ⟨h1, h2, h3⟩ := extra_iff.1 hb
    obtain ⟨e1, e2, _⟩ := field_ob (s := s) (i := i) (k := k) (v := (0, 0)) b
    have hc := count_field g hk (0, 0) b
    rw [isRef_nil] at hc
    exact extra_iff.2 ⟨by rw [← e1]; exact h1, by rw [← e2]; exact h2, by omega⟩

theorem Bound.letGo {c : Cf} {s : St} {N : Nat} (h : Bound c s) (g : s.Good N) {b k : Nat} (hk : k < (s.ob b).fs.length) : Bound c (letGo c.zero b k s) := by
  have g1 : (s.field b k (0, 0)).Good N := g.setField b k (.inl rfl)
  have hx := nil_extras g hk
  have hz := h.slack
  have hw := h.waits
  have he := h.extras
  -- nothing more waits, if the old value's object does not
  have W : ((s.field b k (0, 0)).waits ((s.ob b).fs.getD k (0, 0)).2.toNat = true → ((s.ob b).fs.getD k (0, 0)).1 = 2 → False) → waitN (s.field b k (0, 0)) ≤ waitN s := fun hn => waitN_le (field_N s b k _) fun x _ _ hxw => by
    rcases field_waits g hk (0, 0) hxw with e | ⟨e1, e2⟩
    · exact e
    · exact absurd hxw (fun hh => hn (by rw [e2, Int.toNat_natCast]; exact hh) e1)
  unfold YtpmkjeihbddfpabDoor.letGo
  split
  · rename_i hr
    have := W fun _ e => hr e
    exact ⟨by omega, by omega, h.roots, h.zero⟩
  · rename_i hr
    have hr2 : ((s.ob b).fs.getD k (0, 0)).1 = 2 := by omega
    obtain ⟨j, hj, ha⟩ := leads_ref (leads_put (s := s) (i := b) (o := { s.ob b with fs := (s.ob b).fs.set k (0, 0) }) rfl rfl (leads_getD (g.fields b) k)) hr2
    split
    · rename_i hc
      rw [hj, Int.toNat_natCast] at hc
      have := W fun hw2 _ => by
        rw [hj, Int.toNat_natCast] at hw2
        obtain ⟨_, w2, w3⟩ := waits_iff.1 hw2
        rcases hc with hc | hc
        · omega
        · rw [w2] at hc; cases hc
      exact ⟨by omega, by omega, h.roots, h.zero⟩
    · split
      · have h1 := waitN_enter c.zero ((s.ob b).fs.getD k (0, 0)).2 (s.field b k (0, 0)) hz
        have h2 := extras_enter c.zero ((s.ob b).fs.getD k (0, 0)).2 (s.field b k (0, 0))
        obtain ⟨r1, r2⟩ := enter_roots c.zero ((s.ob b).fs.getD k (0, 0)).2 (s.field b k (0, 0))
        exact ⟨h1, by omega, by rw [r1]; exact h.roots, by rw [r2]; exact h.zero⟩
      · rw [hj, Int.toNat_natCast]
        have hl : j < (s.field b k (0, 0)).objs.length := here_lt ha.1
        have h1 : waitN ((s.field b k (0, 0)).enq j) ≤ waitN s := waitN_le ((sh_enq _ j).1.trans (field_N s b k _)) fun x _ _ hxw => by
          rw [waits_enq hl] at hxw
          by_cases e : x = j
          · rw [if_pos e] at hxw; cases hxw
          · rw [if_neg e] at hxw
            rcases field_waits g hk (0, 0) hxw with e2 | ⟨_, e2⟩
            · exact e2
            · exact absurd (by omega : x = j) e
        have h2 : ((s.field b k (0, 0)).enq j).extras ≤ (s.field b k (0, 0)).extras := extras_le (sh_enq _ j).1 fun x _ _ hxe => by
          obtain ⟨a1, a2, a3⟩ := extra_iff.1 hxe
          obtain ⟨e1, e2⟩ := enq_alike (s.field b k (0, 0)) j x
          rw [count_enq] at a3
          exact extra_iff.2 ⟨by rw [← e1]; exact a1, by rw [← e2]; exact a2, a3⟩
        exact ⟨by omega, by omega, h.roots, h.zero⟩
theorem Bound.letTo {c : Cf} {s : St} {N : Nat} (h : Bound c s) (g : s.Good N) {b : Nat} (hq : (s.ob b).queued = true) (k : Nat) (hk : k ≤ (s.ob b).fs.length) : Bound c (letTo c.zero b s k) := by
  induction k with
  | zero => exact h
  | succ k ih =>
    have := ih (by omega)
    obtain ⟨_, h2, _, _⟩ := letTo_ob (z := c.zero) g hq k
    exact this.letGo (g.letTo c.zero b k) (by rw [h2]; omega)
theorem Bound.freed {c : Cf} {s : St} {N : Nat} (h : Bound c s) (g : s.Good N) (hq : s.queue.length ≠ 0) : Bound c (s.free c.zero) := by
  have hqd := g.first_queued hq
  have hz := g.ne_zero (g.queued_here hqd)
  have b1 := h.letTo g hqd (s.ob s.first).fs.length (Nat.le_refl _)
  have g1 := g.letTo c.zero s.first (s.ob s.first).fs.length
  have hl : s.first < (YtpmkjeihbddfpabDoor.letTo c.zero s.first s (s.ob s.first).fs.length).objs.length := by rw [g1.len]; omega
  have eo : ∀ x, (s.free c.zero).ob x = if x = s.first then Ob.free else (YtpmkjeihbddfpabDoor.letTo c.zero s.first s (s.ob s.first).fs.length).ob x := fun x => getD_set _ _ _ _ hl
  have ec := count_free (z := c.zero) g hq
  have eN : (s.free c.zero).N = (YtpmkjeihbddfpabDoor.letTo c.zero s.first s (s.ob s.first).fs.length).N := by rw [(g.freed c.zero hq).sN, g1.sN]
  have e1 : waitN (s.free c.zero) ≤ waitN (YtpmkjeihbddfpabDoor.letTo c.zero s.first s (s.ob s.first).fs.length) := waitN_le eN fun x _ _ hx => by
    obtain ⟨a1, a2, a3⟩ := waits_iff.1 hx
    unfold St.alive at a1
    rw [eo] at a1 a2
    by_cases e : x = s.first
    · rw [if_pos e] at a1; cases a1.1
    · rw [if_neg e] at a1 a2
      rw [ec] at a3
      exact waits_iff.2 ⟨a1, a2, a3⟩
  have e2 : (s.free c.zero).extras ≤ (YtpmkjeihbddfpabDoor.letTo c.zero s.first s (s.ob s.first).fs.length).extras := extras_le eN fun x _ _ hx => by
    obtain ⟨a1, a2, a3⟩ := extra_iff.1 hx
    rw [eo] at a1 a2
    by_cases e : x = s.first
    · rw [if_pos e] at a1; cases a1
    · rw [if_neg e] at a1 a2
      rw [ec] at a3
      exact extra_iff.2 ⟨a1, a2, a3⟩
  have := b1.waits; have := b1.extras
  exact ⟨by omega, by omega, b1.roots, b1.zero⟩
theorem Bound.sorted {c : Cf} {s : St} (h : Bound c s) (but : Int) : Bound c (s.sort but) := by
  have h1 := waitN_sort but s
  have h2 := extras_sortTo but s s.N
  have hz := h.slack
  have he := h.extras
  obtain ⟨r1, r2, _⟩ := sortTo_same but s s.N
  exact ⟨by omega, by show ((sortTo but s s.N).extras : Int) ≤ c.over; omega, by show ((sortTo but s s.N).stack.length : Int) ≤ c.deep; rw [r1]; exact h.roots, by show c.deep + ((sortTo but s s.N).globals.length : Int) < c.zero; rw [r2]; exact h.zero⟩
theorem Bound.safeN {c : Cf} {N : Nat} (k : Nat) : ∀ {s : St}, Bound c s → s.Good N → Bound c (safeN c.zero k s).1 := by
  induction k with
  | zero => intro s h g; exact h
  | succ k ih =>
    intro s h g
    unfold YtpmkjeihbddfpabDoor.safeN
    split
    · exact h
    · rename_i hq; exact ih (h.freed g hq) (g.freed c.zero hq)
theorem Bound.safe {c : Cf} {s : St} {N : Nat} (h : Bound c s) (g : s.Good N) : Bound c (s.safe c).1 := Bound.safeN _ (h.sorted 0) (g.sort 0)

end Go.Proofs.YtpmkjeihbddfpabDoor

/- OUR OWN. The document's heap without memory: the configuration's bounds, behind a collection and behind an operation. -/
namespace Go.Proofs.YtpmkjeihbddfpabDoor
set_option linter.unusedVariables false
set_option linter.unusedSimpArgs false

/-! ### A collection -/
theorem count_map {s t : St} (h : t.objs.map (fun o => (o.here, o.fs)) = s.objs.map (fun o => (o.here, o.fs))) (b : Int) : t.count b = s.count b := by
  unfold St.count
  have e : ∀ l : List Ob, l.map (obCount b) = (l.map (fun o => (o.here, o.fs))).map (fun p => if p.1 then refsN p.2 b else 0) := fun l => by rw [List.map_map]; rfl
  rw [List.map_tail, List.map_tail, e, e, h]
theorem count_restuck (s : St) (over b : Int) : (s.restuck over).count b = s.count b := by
  refine count_map (List.ext_getElem? fun i => ?_) b
  unfold St.restuck
  rw [List.getElem?_map, List.getElem?_mapIdx, List.getElem?_map]
  cases s.objs[i]? with
  | none => rfl
  | some o =>
    simp only [Option.map_some]
    congr 1
    unfold stuckOb
    split <;> rfl
/-- a reachable object that no field has, a root has -/
theorem collect_root {s : St} {N : Nat} (g : s.Good N) (over : Int) {b : Nat} (hr : s.reachB b = true) (hc : (s.collect over).count b = 0) : s.rooted b = true := by
  have gc := g.collect over
  have sm := same_collect g over
  have := reach_least (s := s) (P := fun b => s.reachB b = true ∧ (s.rooted b = true ∨ 0 < (s.collect over).count b)) (fun b b1 b2 h => ⟨reach_rooted b1 b2 h, .inl h⟩) (fun a b ha a1 a2 b1 b2 h => ⟨reach_closed ha.1 b1 b2 h, .inr ?_⟩) hr
  · rcases this.2 with h | h
    · exact h
    · omega
  · obtain ⟨v, hv, h1, h2⟩ := refs_some h
    rw [← sm.fs a ha.1] at hv
    have := gc.counts hv h1
    rw [h2] at this; exact this
theorem countTo_first (p : Nat → Bool) (m : Nat) (k : Nat) : countTo (fun b => p b && decide (countTo p (b - 1) < m)) k = min (countTo p k) m := by
  induction k with
  | zero => simp [countTo]
  | succ k ih =>
    rw [countTo_succ, ih, countTo_succ]
    cases e : p (k + 1) with
    | false => simp
    | true =>
      by_cases h : countTo p k < m
      · simp [h]; omega
      · simp [h]; omega
theorem Bound.collected {c : Cf} {s : St} {N : Nat} (h : Bound c s) (g : s.Good N) (ho : 0 ≤ c.over) : Bound c (s.collect c.over) := by
  have gc := g.collect c.over
  have hz := h.slack
  have e1 : waitN (s.collect c.over) ≤ countTo (fun b => s.rooted b) N := by
    unfold waitN
    rw [gc.sN, countTo_congr (p := (s.collect c.over).waits) (q := fun b => (s.collect c.over).waits b && s.rooted b) (fun b b1 b2 => by
      cases e : (s.collect c.over).waits b with
      | false => rfl
      | true =>
        obtain ⟨a1, a2, a3⟩ := waits_iff.1 e
        have hr : s.reachB b = true := by rw [← collect_here g c.over]; exact a1.1
        rw [collect_root g c.over hr a3]; rfl)]
    exact countTo_mono (fun b hb => by simp only [Bool.and_eq_true] at hb; exact hb.2) _
  have e2 := countTo_rooted s N
  have e3 : (s.collect c.over).extras ≤ c.over.toNat := by
    unfold St.extras
    rw [gc.sN, countTo_congr (p := (s.collect c.over).extra) (q := fun b => (s.collect c.over).extra b && (s.swept.over7 b && decide (countTo s.swept.over7 (b - 1) < c.over.toNat))) (fun b b1 b2 => by
      cases e : (s.collect c.over).extra b with
      | false => rfl
      | true =>
        obtain ⟨a1, a2, a3⟩ := extra_iff.1 e
        have hl : b < s.swept.objs.length := by rw [g.swept.len]; omega
        have a3' : 7 < s.swept.count b := by
          have : (s.collect c.over).count b = s.swept.count b := count_restuck s.swept c.over b
          rw [this] at a3; exact a3
        have h7 : s.swept.over7 b = true := by unfold St.over7; simpa using a3'
        have hs : ((s.swept.restuck c.over).ob b).stuck = false := a2
        rw [ob_restuck, if_pos hl] at hs
        have hlt : countTo s.swept.over7 (b - 1) < c.over.toNat := by
          rcases Nat.lt_or_ge (countTo s.swept.over7 (b - 1)) c.over.toNat with hh | hh
          · exact hh
          · exfalso
            unfold stuckOb at hs
            rw [if_pos ⟨by omega, h7, by omega⟩] at hs
            cases hs
        rw [h7]; simp [hlt])]
    have := countTo_mono (p := fun b => (s.collect c.over).extra b && (s.swept.over7 b && decide (countTo s.swept.over7 (b - 1) < c.over.toNat))) (q := fun b => s.swept.over7 b && decide (countTo s.swept.over7 (b - 1) < c.over.toNat)) (fun b hb => by rw [Bool.and_eq_true] at hb; exact hb.2) N
    rw [countTo_first] at this
    omega
  exact ⟨by omega, by omega, h.roots, h.zero⟩

/-! ### The operations -/
theorem Bound.room {c : Cf} {s : St} {N : Nat} (h : Bound c s) (g : s.Good N) (ho : 0 ≤ c.over) : Bound c (roomS c s) := by
  unfold roomS
  split
  · exact h
  · split
    · exact h.freed g (by omega)
    · exact h.collected g ho
theorem room_stack (c : Cf) (s : St) : (roomS c s).stack = s.stack := by
  unfold roomS
  split
  · rfl
  · split
    · exact (letTo_same c.zero s.first s _).1
    · rfl
theorem Bound.lay {c : Cf} {s : St} {N : Nat} (h : Bound c s) (g : s.Good N) {b n : Nat} (hb : (s.ob b).here = false) (hl : b < s.objs.length) (h1 : 1 ≤ b) (hd : (s.stack.length : Int) < c.deep) : Bound c (layS c.zero s b n) := by
  have hz := h.slack
  have he := h.extras
  have w := waitN_enter c.zero b (s.put b ⟨true, List.replicate n (0, 0), false, false⟩) hz
  have x := extras_enter c.zero b (s.put b ⟨true, List.replicate n (0, 0), false, false⟩)
  have x2 : (s.put b ⟨true, List.replicate n (0, 0), false, false⟩).extras ≤ s.extras := extras_le (put_N s b _) fun y _ _ hy => by
    obtain ⟨a1, a2, a3⟩ := extra_iff.1 hy
    rw [count_lay g hb hl h1] at a3
    rw [ob_put _ y hl] at a1 a2
    by_cases e : y = b
    · subst e
      have : s.count y = 0 := g.count_gone fun ha => by have h0 := ha.1; rw [hb] at h0; cases h0
      omega
    · rw [if_neg e] at a1 a2
      exact extra_iff.2 ⟨a1, a2, a3⟩
  obtain ⟨r1, r2⟩ := enter_roots c.zero b (s.put b ⟨true, List.replicate n (0, 0), false, false⟩)
  refine ⟨w, ?_, ?_, ?_⟩
  · show (((s.put b ⟨true, List.replicate n (0, 0), false, false⟩).enter c.zero b).extras : Int) ≤ c.over
    omega
  · show ((s.stack ++ [(2, (b : Int))]).length : Int) ≤ c.deep
    simp; omega
  · show c.deep + (((s.put b ⟨true, List.replicate n (0, 0), false, false⟩).enter c.zero b).globals.length : Int) < c.zero
    rw [r2]; exact h.zero
theorem Bound.new {c : Cf} {s : St} {N : Nat} (h : Bound c s) (g : s.Good N) (ho : 0 ≤ c.over) (n : Int) : Bound c (newS c s n).1 := by
  unfold newS
  by_cases h1 : n < 0 ∨ 4 < n
  · rw [if_pos h1]; exact h
  rw [if_neg h1]
  by_cases h2 : c.deep ≤ s.stack.length
  · rw [if_pos h2]; exact h
  rw [if_neg h2]
  cases hk : free? (roomS c s) with
  | none => exact h.room g ho
  | some k =>
    obtain ⟨h3, h4⟩ := free_here hk
    exact (h.room g ho).lay (g.room c) h3 h4 (by omega) (by rw [room_stack]; omega)
theorem stick_ob {s : St} {o : Int} {x : Int × Int} (b : Nat) : ((stickS o s x).ob b).here = (s.ob b).here ∧ ((stickS o s x).ob b).fs = (s.ob b).fs ∧ ((stickS o s x).ob b).queued = (s.ob b).queued ∧ ((s.ob b).stuck = true → ((stickS o s x).ob b).stuck = true) := by
  unfold stickS
  split
  · unfold St.stick
    by_cases hi : x.2.toNat < s.objs.length
    · rw [ob_put _ b hi]
      by_cases e : b = x.2.toNat
      · rw [if_pos e, e]; exact ⟨rfl, rfl, rfl, fun _ => rfl⟩
      · rw [if_neg e]; exact ⟨rfl, rfl, rfl, fun h => h⟩
    · rw [put_out _ hi]; exact ⟨rfl, rfl, rfl, fun h => h⟩
  · exact ⟨rfl, rfl, rfl, fun h => h⟩
theorem count_stickS (s : St) (o : Int) (x : Int × Int) (b : Int) : (stickS o s x).count b = s.count b := by
  unfold stickS
  split
  · exact count_stick s _ b
  · rfl
theorem stickS_N (s : St) (o : Int) (x : Int × Int) : (stickS o s x).N = s.N := by
  unfold stickS
  split
  · exact put_N s _ _
  · rfl
theorem Bound.store {c : Cf} {s : St} {N : Nat} (h : Bound c s) (g : s.Good N) (n : Int) : Bound c (storeS c s n).1 := by
  unfold storeS
  split
  · exact h
  rename_i hl2
  split
  · exact h
  rename_i herr
  split
  · exact h
  rename_i hidx
  have hroots : (((s.pop 2).stack.length : Nat) : Int) ≤ c.deep := by
    have := h.roots
    show ((s.stack.take (s.stack.length - 2)).length : Int) ≤ c.deep
    rw [List.length_take]; omega
  have hp : Bound c (s.pop 2) := h.roots' rfl hroots rfl
  have gp := g.pop 2
  unfold putS
  split
  · exact hp
  rename_i hne
  have hx : (s.pop 2).leads (s.down 0) := g.down 0
  obtain ⟨g1, l1⟩ := gp.stickS c.over hx
  obtain ⟨A, hA⟩ : ∃ A, s.pop 2 = A := ⟨_, rfl⟩
  obtain ⟨x, hxe⟩ : ∃ x, s.down 0 = x := ⟨_, rfl⟩
  obtain ⟨i, hi⟩ : ∃ i, (s.down 1).2.toNat = i := ⟨_, rfl⟩
  have ey : (s.fields (s.down 1).2).getD n.toNat (0, 0) = (A.ob i).fs.getD n.toNat (0, 0) := by rw [← hA, ← hi]; rfl
  have hk : n.toNat < (A.ob i).fs.length := by
    have : (s.fields (s.down 1).2).length = (A.ob i).fs.length := by rw [← hA, ← hi]; rfl
    omega
  rw [hA] at hp gp hx g1 l1 ⊢
  rw [hxe] at hx g1 l1 hne ⊢
  rw [ey] at hne ⊢
  rw [hi]
  obtain ⟨y, hy⟩ : ∃ y, (A.ob i).fs.getD n.toNat (0, 0) = y := ⟨_, rfl⟩
  rw [hy] at hne ⊢
  obtain ⟨B, hB⟩ : ∃ B, stickS c.over A x = B := ⟨_, rfl⟩
  have sob : ∀ b, (B.ob b).here = (A.ob b).here ∧ (B.ob b).fs = (A.ob b).fs ∧ (B.ob b).queued = (A.ob b).queued ∧ ((A.ob b).stuck = true → (B.ob b).stuck = true) := fun b => by rw [← hB]; exact stick_ob b
  have sc : ∀ b, B.count b = A.count b := fun b => by rw [← hB]; exact count_stickS A c.over x b
  have sN : B.N = A.N := by rw [← hB]; exact stickS_N A c.over x
  rw [hB] at g1 l1 ⊢
  have hkB : n.toNat < (B.ob i).fs.length := by rw [(sob i).2.1]; exact hk
  have hyB : (B.ob i).fs.getD n.toNat (0, 0) = y := by rw [(sob i).2.1]; exact hy
  have hfc : ∀ b : Int, (B.field i n.toNat x).count b + isRef y b = A.count b + isRef x b := fun b => by
    have := count_field g1 hkB x b
    rw [hyB, sc] at this
    exact this
  have hz := hp.slack
  have hw := hp.waits
  have he := hp.extras
  -- the extras
  have EX : ((B.field i n.toNat x).extras : Int) ≤ c.over := by
    by_cases hc : x.1 = 2 ∧ A.count x.2 = 7 ∧ ¬ c.over ≤ A.extras
    · have := countTo_or (p := (B.field i n.toNat x).extra) (q := A.extra) (r := fun b => decide ((b : Int) = x.2)) (k := A.N) (fun b hb => by
        obtain ⟨a1, a2, a3⟩ := extra_iff.1 hb
        obtain ⟨f1, f2, _⟩ := field_ob (s := B) (i := i) (k := n.toNat) (v := x) b
        by_cases e : (b : Int) = x.2
        · right; simpa using e
        · left
          have e0 : isRef x b = 0 := if_neg fun hh => e hh.2.symm
          have := hfc b
          have st : (A.ob b).stuck = false := by
            cases e2 : (A.ob b).stuck with
            | false => rfl
            | true => have := (sob b).2.2.2 e2; rw [← f2, a2] at this; cases this
          exact extra_iff.2 ⟨by rw [← (sob b).1, ← f1]; exact a1, st, by omega⟩)
      have h2 := countTo_eq_le x.2 A.N
      have h3 := hc.2.2
      unfold St.extras at h3 ⊢
      rw [field_N, sN]
      omega
    · have : (B.field i n.toNat x).extras ≤ A.extras := extras_le ((field_N B i _ _).trans sN) fun b _ _ hb => by
        obtain ⟨a1, a2, a3⟩ := extra_iff.1 hb
        obtain ⟨f1, f2, _⟩ := field_ob (s := B) (i := i) (k := n.toNat) (v := x) b
        have st : (A.ob b).stuck = false := by
          cases e2 : (A.ob b).stuck with
          | false => rfl
          | true => have := (sob b).2.2.2 e2; rw [← f2, a2] at this; cases this
        have hf := hfc b
        refine extra_iff.2 ⟨by rw [← (sob b).1, ← f1]; exact a1, st, ?_⟩
        by_cases e : x.1 = 2 ∧ x.2 = b
        · -- the new value's object: it had more than seven already, or it is stuck
          have e1 : isRef x b = 1 := if_pos e
          rcases Nat.lt_or_ge 7 (A.count b) with h8 | h8
          · exact h8
          · exfalso
            have h7 : A.count b = 7 := by omega
            have hov : c.over ≤ A.extras := Classical.byContradiction fun hn => hc ⟨e.1, by rw [e.2]; exact h7, hn⟩
            have hst : B = A.stick b := by
              rw [← hB]
              unfold stickS
              rw [if_pos ⟨e.1, by rw [e.2]; exact h7, hov⟩, e.2, Int.toNat_natCast]
            have hl : b < A.objs.length := here_lt (by rw [← (sob b).1, ← f1]; exact a1)
            have : (B.ob b).stuck = true := by rw [hst]; unfold St.stick; rw [ob_put _ b hl, if_pos rfl]
            rw [← f2, a2] at this; cases this
        · have e1 : isRef x b = 0 := if_neg e
          omega
      omega
  -- what waits
  have WT : ((B.field i n.toNat x).waits y.2.toNat = true → y.1 = 2 → False) → waitN (B.field i n.toNat x) ≤ waitN A := fun hn => waitN_le ((field_N B i _ _).trans sN) fun b _ _ hb => by
    rcases field_waits g1 hkB x hb with e | ⟨e1, e2⟩
    · obtain ⟨a1, a2, a3⟩ := waits_iff.1 e
      rw [sc] at a3
      refine waits_iff.2 ⟨⟨by rw [← (sob b).1]; exact a1.1, by rw [← (sob b).2.2.1]; exact a1.2⟩, ?_, a3⟩
      cases e2 : (A.ob b).stuck with
      | false => rfl
      | true => have := (sob b).2.2.2 e2; rw [a2] at this; cases this
    · rw [hyB] at e1 e2
      exact absurd hb (fun hh => hn (by rw [e2, Int.toNat_natCast]; exact hh) e1)
  have gf : (B.field i n.toNat x).Good N := g1.setField i n.toNat (l1 _ hx)
  have hrB : (B.field i n.toNat x).stack = A.stack ∧ (B.field i n.toNat x).globals = A.globals := by
    rw [← hB]
    unfold stickS
    split <;> exact ⟨rfl, rfl⟩
  unfold dropS'
  split
  · have w := waitN_enter c.zero y.2 (B.field i n.toNat x) (by rw [hrB.1, hrB.2]; exact hz)
    have e := extras_enter c.zero y.2 (B.field i n.toNat x)
    obtain ⟨r1, r2⟩ := enter_roots c.zero y.2 (B.field i n.toNat x)
    show Bound c ((B.field i n.toNat x).enter c.zero y.2)
    exact ⟨w, by omega, by rw [r1, hrB.1]; exact hp.roots, by rw [r2, hrB.2]; exact hp.zero⟩
  · rename_i hcond
    have w := WT fun hw2 hy2 => by
      obtain ⟨a1, a2, a3⟩ := waits_iff.1 hw2
      refine hcond ⟨hy2, a2, ?_⟩
      have : (0 : Int) ≤ y.2 := by
        have hl := leads_getD (g1.fields i) n.toNat
        rw [hyB] at hl
        obtain ⟨j, hj, _⟩ := leads_ref hl hy2
        omega
      rw [Int.toNat_of_nonneg this] at a3
      exact a3
    show Bound c (B.field i n.toNat x)
    exact ⟨by omega, EX, by rw [hrB.1]; exact hp.roots, by rw [hrB.2]; exact hp.zero⟩
theorem Bound.did {c : Cf} {s : St} {N : Nat} (h : Bound c s) (g : s.Good N) (ho : 0 ≤ c.over) (op n : Int) : Bound c (doS c s op n).1 := by
  have hp : ∀ k, Bound c (s.pop k) := fun k => h.roots' rfl (by
    have := h.roots
    show ((s.stack.take (s.stack.length - k)).length : Int) ≤ c.deep
    rw [List.length_take]; omega) rfl
  refine doS_keeps c s op n (fun t => Bound c t) h (fun t v ht hts hv hd => ?_) hp (fun k hk => ?_) (h.new g ho n) (h.store g n)
  · exact ht.roots' rfl (by simp; omega) rfl
  · exact (hp 1).roots' rfl (hp 1).roots (by simp [St.pop])
theorem bound_new (c : Cf) (N G : Nat) (hd : 0 ≤ c.deep) (hz : c.deep + G < c.zero) (ho : 0 ≤ c.over) : Bound c ⟨[], List.replicate G (0, 0), List.replicate (N + 1) Ob.free, []⟩ := by
  have e : ∀ i, (⟨[], List.replicate G (0, 0), List.replicate (N + 1) Ob.free, []⟩ : St).ob i = Ob.free := fun i => by
    unfold St.ob
    rw [List.getD_eq_getElem?_getD, List.getElem?_replicate]
    split <;> rfl
  have e1 : waitN ⟨[], List.replicate G (0, 0), List.replicate (N + 1) Ob.free, []⟩ = 0 := by
    unfold waitN countTo
    refine List.countP_eq_zero.2 fun j _ => ?_
    unfold St.waits
    rw [e]; simp [Ob.free]
  have e2 : (⟨[], List.replicate G (0, 0), List.replicate (N + 1) Ob.free, []⟩ : St).extras = 0 := by
    unfold St.extras countTo
    refine List.countP_eq_zero.2 fun j _ => ?_
    unfold St.extra
    rw [e]; simp [Ob.free]
  exact ⟨by rw [e1]; simp; omega, by rw [e2]; simpa using ho, by simpa using hd, by simpa using hz⟩

end Go.Proofs.YtpmkjeihbddfpabDoor

/- OUR OWN. The document's heap without memory: a full heap; what an error leaves; a collection behind a collection. -/
namespace Go.Proofs.YtpmkjeihbddfpabDoor
set_option linter.unusedVariables false
set_option linter.unusedSimpArgs false

/-! ### A collection behind a collection -/
theorem ob_ext {s t : St} (hl : t.objs.length = s.objs.length) (h : ∀ i, t.ob i = s.ob i) : t.objs = s.objs := by
  refine List.ext_getElem? fun i => ?_
  by_cases hi : i < s.objs.length
  · rw [List.getElem?_eq_getElem hi, List.getElem?_eq_getElem (by omega : i < t.objs.length)]
    have := h i
    rw [ob_of (List.getElem?_eq_getElem hi), ob_of (List.getElem?_eq_getElem (by omega : i < t.objs.length))] at this
    rw [this]
  · rw [List.getElem?_eq_none (by omega), List.getElem?_eq_none (by omega)]
theorem collect_queue (s : St) (o : Int) : (s.collect o).queue = [] := rfl
theorem collect_swept {s : St} {N : Nat} (g : s.Good N) (o : Int) : (s.collect o).swept = s.swept := by
  have gc := g.collect o
  have sm := same_collect g o
  have e : ∀ i, (s.collect o).swept.ob i = s.swept.ob i := fun i => by
    rw [ob_swept gc, ob_swept g, sm.reach]
    by_cases hr : s.reachB i = true
    · rw [if_pos hr, if_pos hr]
      have hl : i < s.swept.objs.length := by rw [g.swept.len]; have := g.ne_zero (g.reach_alive hr).1; omega
      have e1 : (s.collect o).ob i = stuckOb o s.swept i (s.swept.ob i) := by
        show (s.swept.restuck o).ob i = _
        rw [ob_restuck, if_pos hl]
      have e2 : s.swept.ob i = { s.ob i with stuck := false, queued := false } := by rw [ob_swept g, if_pos hr]
      rw [e1, e2]
      unfold stuckOb
      split <;> rfl
    · rw [if_neg hr, if_neg hr]
  have eo : (s.collect o).swept.objs = s.swept.objs := ob_ext (by rw [gc.swept.len, g.swept.len]) e
  show (⟨s.stack, s.globals, (s.collect o).swept.objs, []⟩ : St) = ⟨s.stack, s.globals, s.swept.objs, []⟩
  rw [eo]
theorem collect_collect {s : St} {N : Nat} (g : s.Good N) (o : Int) : (s.collect o).collect o = s.collect o := by
  show (s.collect o).swept.restuck o = s.swept.restuck o
  rw [collect_swept g o]
theorem collect_gone {s : St} {N : Nat} (g : s.Good N) (o : Int) : (s.collect o).gone = 0 := by
  unfold St.gone countTo
  refine List.countP_eq_zero.2 fun j _ => ?_
  show ¬ (((s.collect o).ob (j + 1)).here && !(s.collect o).reachB (j + 1)) = true
  rw [collect_here g, (same_collect g o).reach]
  simp

/-! ### A full heap -/
theorem reach_le_here {s : St} {N : Nat} (g : s.Good N) {b : Nat} (h : (s.ob b).here = false) : s.reachB b = false := by
  cases e : s.reachB b with
  | false => rfl
  | true => have := (g.reach_alive e).1; rw [h] at this; cases this
theorem reachN_lt {s : St} {N : Nat} (g : s.Good N) {b : Nat} (h1 : 1 ≤ b) (h2 : b ≤ N) (h : s.reachB b = false) : reachN s < N := by
  have e : countTo (fun b => !s.reachB b) N + countTo s.reachB N = N := countTo_not _ _
  have : 0 < countTo (fun b => !s.reachB b) N := by
    have := countTo_lt (p := fun _ => false) (q := fun b => !s.reachB b) (k := N) (fun j hj => by cases hj) h1 h2 rfl (by rw [h]; rfl)
    omega
  unfold reachN
  rw [g.sN]
  omega
theorem free_exists' {s : St} {b : Nat} (h1 : 1 ≤ b) (h2 : b < s.objs.length) (hb : (s.ob b).here = false) : ∃ k, free? s = some k := by
  cases e : free? s with
  | some k => exact ⟨k, rfl⟩
  | none =>
    unfold free? at e
    rw [List.findIdx?_eq_none_iff] at e
    have := e (s.ob b) (ob_tail.2 ⟨b, h1, h2, rfl⟩)
    rw [hb] at this; cases this
theorem free_none_here {s : St} (h : free? s = none) {b : Nat} (h1 : 1 ≤ b) (h2 : b < s.objs.length) : (s.ob b).here = true := by
  cases e : (s.ob b).here with
  | true => rfl
  | false => obtain ⟨k, hk⟩ := free_exists' h1 h2 e; rw [h] at hk; cases hk
/-- a heap finds no room just if every block has a reachable object -/
theorem room_full {s : St} {N : Nat} (g : s.Good N) (c : Cf) : free? (roomS c s) = none ↔ reachN s = N := by
  have gr := g.room c
  constructor
  · intro h
    unfold roomS at h
    cases hf : free? s with
    | some k => rw [hf] at h; rw [hf] at h; cases h
    | none =>
      rw [hf] at h
      by_cases hq : 0 < s.queue.length
      · exfalso
        rw [show (if 0 < s.queue.length then s.free c.zero else s.collect c.over) = s.free c.zero from if_pos hq] at h
        have hq' : s.queue.length ≠ 0 := by omega
        have hqd := g.first_queued hq'
        have hz := g.ne_zero (g.queued_here hqd)
        have g1 := g.freed c.zero hq'
        have := free_none_here h hz.1 (by rw [g1.len]; omega)
        have hl : s.first < (letTo c.zero s.first s (s.ob s.first).fs.length).objs.length := by rw [(g.letTo c.zero s.first _).len]; omega
        have e : (s.free c.zero).ob s.first = if s.first = s.first then Ob.free else (letTo c.zero s.first s (s.ob s.first).fs.length).ob s.first := getD_set _ _ _ _ hl
        rw [e, if_pos rfl] at this
        cases this
      · rw [show (if 0 < s.queue.length then s.free c.zero else s.collect c.over) = s.collect c.over from if_neg hq] at h
        have gc := g.collect c.over
        unfold reachN
        rw [g.sN]
        have : countTo s.reachB N = countTo (fun _ => true) N := countTo_congr fun b h1 h2 => by
          rw [← collect_here g c.over]
          exact free_none_here h h1 (by rw [gc.len]; omega)
        rw [this]
        have h2 := countTo_not (fun _ => false) N
        have h3 : countTo (fun _ => false) N = 0 := by unfold countTo; exact List.countP_eq_zero.2 fun j _ => by simp
        simp only [Bool.not_false] at h2
        omega
  · intro h
    cases hf : free? (roomS c s) with
    | none => rfl
    | some k =>
      exfalso
      -- a free block, or one in the queue, or one that the collection freed, has no reachable object
      obtain ⟨h1, h2⟩ := free_here hf
      have hr : (roomS c s).reachB (k + 1) = false := reach_le_here gr h1
      have hsame : Same s (roomS c s) := by
        unfold roomS
        split
        · exact .refl s
        · split
          · exact same_free g c.zero (by omega)
          · exact same_collect g c.over
      rw [hsame.reach] at hr
      have := reachN_lt g (by omega : 1 ≤ k + 1) (by have := gr.len; omega) hr
      omega
/-- OpNew's answer -/
theorem new_answer {s : St} {N : Nat} (g : s.Good N) (c : Cf) (n : Int) : (newS c s n).2.2 = if n < 0 ∨ 4 < n then 6 else if c.deep ≤ s.stack.length then 7 else if reachN s = N then 8 else 0 := by
  unfold newS
  by_cases h1 : n < 0 ∨ 4 < n
  · rw [if_pos h1, if_pos h1]
  rw [if_neg h1, if_neg h1]
  by_cases h2 : c.deep ≤ s.stack.length
  · rw [if_pos h2, if_pos h2]
  rw [if_neg h2, if_neg h2]
  have := room_full g c
  cases hf : free? (roomS c s) with
  | none => rw [if_pos (this.1 hf)]
  | some k => rw [if_neg (fun e => by rw [this.2 e] at hf; cases hf)]
/-- OpNew's object -/
theorem new_object {s : St} {N : Nat} (g : s.Good N) (c : Cf) (n : Int) (h : (newS c s n).2.2 = 0) :
    ∃ b : Nat, 1 ≤ b ∧ b ≤ N ∧ (newS c s n).1.stack = s.stack ++ [(2, (b : Int))] ∧ (newS c s n).1.ob b = ⟨true, List.replicate n.toNat (0, 0), false, false⟩ ∧ (newS c s n).1.count b = 0 := by
  unfold newS at h ⊢
  by_cases h1 : n < 0 ∨ 4 < n
  · rw [if_pos h1] at h; cases h
  rw [if_neg h1] at h ⊢
  by_cases h2 : c.deep ≤ s.stack.length
  · rw [if_pos h2] at h; cases h
  rw [if_neg h2] at h ⊢
  cases hf : free? (roomS c s) with
  | none => rw [hf] at h; cases h
  | some k =>
    have gr := g.room c
    obtain ⟨h3, h4⟩ := free_here hf
    have hlen := gr.len
    refine ⟨k + 1, by omega, by omega, ?_, ?_, ?_⟩
    · show (roomS c s).stack ++ [(2, ((k + 1 : Nat) : Int))] = _
      rw [room_stack]
    · show (((roomS c s).put (k + 1) ⟨true, List.replicate n.toNat (0, 0), false, false⟩).enter c.zero ((k + 1 : Nat) : Int)).ob (k + 1) = _
      rw [enter_but rfl, ob_put _ _ h4, if_pos rfl]
    · show (((roomS c s).put (k + 1) ⟨true, List.replicate n.toNat (0, 0), false, false⟩).enter c.zero ((k + 1 : Nat) : Int)).count ((k + 1 : Nat) : Int) = 0
      rw [count_enter, count_lay gr h3 h4 (by omega)]
      exact gr.count_gone fun ha => by have h0 := ha.1; rw [h3] at h0; cases h0

/-! ### What an error leaves -/
theorem push_err {d : Int} {s : St} {v : Int × Int} (h : (pushA d s v).2.2 ≠ 0) : (pushA d s v).1 = s := by
  unfold pushA pushS at h ⊢
  by_cases e : d ≤ (s.stack.length : Int)
  · rw [if_pos e]
  · rw [if_neg e] at h; exact absurd rfl h
theorem do_err {c : Cf} {s : St} (hs : (s.stack.length : Int) ≤ c.deep) (op n : Int) (h0 : (doS c s op n).2.2 ≠ 0) (h8 : (doS c s op n).2.2 ≠ 8) : (doS c s op n).1 = s := by
  unfold doS at h0 h8 ⊢
  by_cases o0 : op = 0
  · rw [if_pos o0] at h0 ⊢; exact push_err h0
  rw [if_neg o0] at h0 h8 ⊢
  by_cases o1 : op = 1
  · rw [if_pos o1] at h0 ⊢; exact push_err h0
  rw [if_neg o1] at h0 h8 ⊢
  by_cases o2 : op = 2
  · rw [if_pos o2] at h0 h8 ⊢
    unfold newS at h0 h8 ⊢
    by_cases h1 : n < 0 ∨ 4 < n
    · rw [if_pos h1]
    rw [if_neg h1] at h0 h8 ⊢
    by_cases h2 : c.deep ≤ s.stack.length
    · rw [if_pos h2]
    rw [if_neg h2] at h0 h8 ⊢
    cases hf : free? (roomS c s) with
    | none => rw [hf] at h8; exact absurd rfl h8
    | some k => rw [hf] at h0; exact absurd rfl h0
  rw [if_neg o2] at h0 h8 ⊢
  by_cases o3 : op = 3
  · rw [if_pos o3] at h0 ⊢
    unfold dupS at h0 ⊢
    split
    · rfl
    · rename_i hc; rw [if_neg hc] at h0; exact push_err h0
  rw [if_neg o3] at h0 h8 ⊢
  by_cases o4 : op = 4
  · rw [if_pos o4] at h0 ⊢
    unfold dropS at h0 ⊢
    split
    · rfl
    · rename_i hc; rw [if_neg hc] at h0; exact absurd rfl h0
  rw [if_neg o4] at h0 h8 ⊢
  by_cases o5 : op = 5
  · rw [if_pos o5] at h0 ⊢
    unfold getS at h0 ⊢
    split
    · rfl
    · rename_i hc; rw [if_neg hc] at h0; exact push_err h0
  rw [if_neg o5] at h0 h8 ⊢
  by_cases o6 : op = 6
  · rw [if_pos o6] at h0 ⊢
    unfold setS at h0 ⊢
    split
    · rfl
    · rename_i hc
      rw [if_neg hc] at h0
      split
      · rfl
      · rename_i hc2; rw [if_neg hc2] at h0; exact absurd rfl h0
  rw [if_neg o6] at h0 h8 ⊢
  by_cases o7 : op = 7
  · rw [if_pos o7] at h0 ⊢
    unfold loadS at h0 ⊢
    split
    · rfl
    · rename_i hc
      rw [if_neg hc] at h0
      split
      · rfl
      · rename_i hc2
        rw [if_neg hc2] at h0
        split
        · rfl
        · rename_i hc3
          rw [if_neg hc3] at h0
          exfalso
          unfold pushA pushS at h0
          rw [if_neg (by
            show ¬ c.deep ≤ ((s.stack.take (s.stack.length - 1)).length : Int)
            rw [List.length_take]; omega)] at h0
          exact h0 rfl
  rw [if_neg o7] at h0 h8 ⊢
  by_cases o8 : op = 8
  · rw [if_pos o8] at h0 ⊢
    unfold storeS at h0 ⊢
    split
    · rfl
    · rename_i hc
      rw [if_neg hc] at h0
      split
      · rfl
      · rename_i hc2
        rw [if_neg hc2] at h0
        split
        · rfl
        · rename_i hc3; rw [if_neg hc3] at h0; exact absurd rfl h0
  rw [if_neg o8] at h0 h8 ⊢
  by_cases o9 : op = 9
  · rw [if_pos o9] at h0 ⊢
    unfold sameS at h0 ⊢
    split
    · rfl
    · rename_i hc
      rw [if_neg hc] at h0
      split at h0
      · exact absurd rfl h0
      · exact absurd rfl h0
  rw [if_neg o9] at h0 h8 ⊢
  by_cases o10 : op = 10
  · rw [if_pos o10] at h0 ⊢
    unfold takeS at h0 ⊢
    split
    · rfl
    · rename_i hc
      rw [if_neg hc] at h0
      split
      · rename_i hc2; rw [if_pos hc2] at h0; exact absurd rfl h0
      · rfl
  rw [if_neg o10] at h0 h8 ⊢
  by_cases o11 : op = 11
  · rw [if_pos o11] at h0 ⊢
    unfold sizeS
    split
    · rfl
    · split <;> rfl
  rw [if_neg o11] at h0 h8 ⊢
  by_cases o12 : op = 12
  · rw [if_pos o12] at h0 ⊢
    unfold kindS
    split <;> rfl
  rw [if_neg o12]

end Go.Proofs.YtpmkjeihbddfpabDoor

/- OUR OWN. The document's heap without memory: two heaps that the machine cannot tell apart. -/
namespace Go.Proofs.YtpmkjeihbddfpabDoor
set_option linter.unusedVariables false
set_option linter.unusedSimpArgs false

/-- values that are alike: m tells which block of the one stands for which of the other -/
def vr (m : Nat → Nat → Prop) (v w : Int × Int) : Prop := v.1 = w.1 ∧ ((v.1 ≠ 2 ∧ v.2 = w.2) ∨ (v.1 = 2 ∧ ∃ a b : Nat, v.2 = a ∧ w.2 = b ∧ m a b))
def All2 (m : Nat → Nat → Prop) (l l' : List (Int × Int)) : Prop := l.length = l'.length ∧ ∀ i, vr m (l.getD i (0, 0)) (l'.getD i (0, 0))
theorem vr_nil (m : Nat → Nat → Prop) : vr m (0, 0) (0, 0) := ⟨rfl, .inl ⟨by decide, rfl⟩⟩
theorem vr_int (m : Nat → Nat → Prop) (n : Int) : vr m (1, n) (1, n) := ⟨rfl, .inl ⟨by show (1 : Int) ≠ 2; decide, rfl⟩⟩
theorem vr_mono {m m' : Nat → Nat → Prop} {v w : Int × Int} (h : vr m v w) (hm : ∀ a b : Nat, v.1 = 2 → v.2 = a → w.2 = b → m a b → m' a b) : vr m' v w := by
  refine ⟨h.1, ?_⟩
  rcases h.2 with e | ⟨e, a, b, h1, h2, h3⟩
  · exact .inl e
  · exact .inr ⟨e, a, b, h1, h2, hm a b e h1 h2 h3⟩
theorem all2_nil (m : Nat → Nat → Prop) : All2 m [] [] := ⟨rfl, fun i => vr_nil m⟩
theorem All2.snoc {m : Nat → Nat → Prop} {l l' : List (Int × Int)} (h : All2 m l l') {v w : Int × Int} (hv : vr m v w) : All2 m (l ++ [v]) (l' ++ [w]) := by
  refine ⟨by simp [h.1], fun i => ?_⟩
  rw [List.getD_eq_getElem?_getD, List.getD_eq_getElem?_getD]
  rcases Nat.lt_trichotomy i l.length with e | e | e
  · rw [List.getElem?_append_left e, List.getElem?_append_left (by rw [← h.1]; exact e)]
    have := h.2 i
    rw [List.getD_eq_getElem?_getD, List.getD_eq_getElem?_getD] at this; exact this
  · subst e
    rw [List.getElem?_append_right (Nat.le_refl _), List.getElem?_append_right (by rw [h.1]; exact Nat.le_refl _)]
    rw [h.1]; simpa using hv
  · rw [List.getElem?_eq_none (by simp; omega), List.getElem?_eq_none (by simp; rw [← h.1]; omega)]
    exact vr_nil m
theorem getD_take (l : List (Int × Int)) (k i : Nat) : (l.take k).getD i (0, 0) = if i < k then l.getD i (0, 0) else (0, 0) := by
  rw [List.getD_eq_getElem?_getD, List.getElem?_take, List.getD_eq_getElem?_getD]
  split <;> rfl
theorem All2.take {m : Nat → Nat → Prop} {l l' : List (Int × Int)} (h : All2 m l l') (k : Nat) : All2 m (l.take k) (l'.take k) := by
  refine ⟨by simp [h.1], fun i => ?_⟩
  rw [getD_take, getD_take]
  split
  · exact h.2 i
  · exact vr_nil m
theorem getD_setv (l : List (Int × Int)) (k i : Nat) (v : Int × Int) : (l.set k v).getD i (0, 0) = if i = k ∧ k < l.length then v else l.getD i (0, 0) := by
  rw [List.getD_eq_getElem?_getD, List.getD_eq_getElem?_getD]
  by_cases e : i = k
  · subst e
    by_cases hk : i < l.length
    · rw [List.getElem?_set_self hk, if_pos ⟨rfl, hk⟩]; rfl
    · rw [if_neg (fun hh => hk hh.2), List.set_eq_of_length_le (by omega)]
  · rw [List.getElem?_set_ne (fun x => e x.symm), if_neg (fun hh => e hh.1)]
theorem All2.set {m : Nat → Nat → Prop} {l l' : List (Int × Int)} (h : All2 m l l') (k : Nat) {v w : Int × Int} (hv : vr m v w) : All2 m (l.set k v) (l'.set k w) := by
  refine ⟨by simp [h.1], fun i => ?_⟩
  rw [getD_setv, getD_setv, ← h.1]
  split
  · exact hv
  · exact h.2 i
theorem All2.rep (m : Nat → Nat → Prop) (n : Nat) : All2 m (List.replicate n (0, 0)) (List.replicate n (0, 0)) := by
  refine ⟨rfl, fun i => ?_⟩
  have : (List.replicate n ((0, 0) : Int × Int)).getD i (0, 0) = (0, 0) := by
    rw [List.getD_eq_getElem?_getD, List.getElem?_replicate]
    split <;> rfl
  rw [this]; exact vr_nil m
theorem mem_getD {l : List (Int × Int)} {v : Int × Int} (h : v ∈ l) : ∃ i, l.getD i (0, 0) = v := by
  obtain ⟨i, hi, e⟩ := List.getElem_of_mem h
  exact ⟨i, by rw [List.getD_eq_getElem?_getD, List.getElem?_eq_getElem hi, e]; rfl⟩
theorem All2.left {m : Nat → Nat → Prop} {l l' : List (Int × Int)} (h : All2 m l l') {a : Nat} (hr : ∃ v ∈ l, v.1 = 2 ∧ v.2 = (a : Int)) : ∃ b : Nat, m a b ∧ ∃ w ∈ l', w.1 = 2 ∧ w.2 = (b : Int) := by
  obtain ⟨v, hv, h1, h2⟩ := hr
  obtain ⟨i, hi, e⟩ := List.getElem_of_mem hv
  have := h.2 i
  rw [List.getD_eq_getElem?_getD, List.getElem?_eq_getElem hi, e, List.getD_eq_getElem?_getD, List.getElem?_eq_getElem (by rw [← h.1]; exact hi)] at this
  obtain ⟨k, hk⟩ := this
  rcases hk with hk | ⟨_, a', b, h3, h4, h5⟩
  · exact absurd h1 hk.1
  · have : a' = a := by simp at h3; omega
    subst this
    exact ⟨b, h5, _, List.getElem_mem (by rw [← h.1]; exact hi), by rw [← h1]; exact k.symm, h4⟩
theorem vr_swap {m : Nat → Nat → Prop} {v w : Int × Int} (h : vr m v w) : vr (fun b a => m a b) w v := by
  refine ⟨h.1.symm, ?_⟩
  rcases h.2 with e | ⟨e, a, b, h1, h2, h3⟩
  · exact .inl ⟨by rw [← h.1]; exact e.1, e.2.symm⟩
  · exact .inr ⟨by rw [← h.1]; exact e, b, a, h2, h1, h3⟩
theorem All2.swap {m : Nat → Nat → Prop} {l l' : List (Int × Int)} (h : All2 m l l') : All2 (fun b a => m a b) l' l := ⟨h.1.symm, fun i => vr_swap (h.2 i)⟩

/-- two heaps: the reachable objects of the one are those of the other, in other blocks -/
structure Bis (m : Nat → Nat → Prop) (s t : St) : Prop where
  stack : All2 m s.stack t.stack
  globals : All2 m s.globals t.globals
  fields : ∀ a b, m a b → All2 m (s.ob a).fs (t.ob b).fs
  left : ∀ a b b', m a b → m a b' → b = b'
  right : ∀ a a' b, m a b → m a' b → a = a'
  sr : ∀ a b, m a b → s.reachB a = true
  tr : ∀ a b, m a b → t.reachB b = true
theorem Bis.swap {m : Nat → Nat → Prop} {s t : St} (h : Bis m s t) : Bis (fun b a => m a b) t s :=
  ⟨h.stack.swap, h.globals.swap, fun b a hm => (h.fields a b hm).swap, fun b a a' h1 h2 => h.right a a' b h1 h2, fun b b' a h1 h2 => h.left a b b' h1 h2, fun b a hm => h.tr a b hm, fun b a hm => h.sr a b hm⟩
theorem all2_root {m : Nat → Nat → Prop} {s t : St} (h1 : All2 m s.stack t.stack) (h2 : All2 m s.globals t.globals) {a : Nat} (hr : s.rooted a = true) : ∃ b : Nat, m a b ∧ t.rooted b = true := by
  rcases rooted_true.1 hr with h | h
  · obtain ⟨b, hb, hw⟩ := h1.left h; exact ⟨b, hb, rooted_true.2 (.inl hw)⟩
  · obtain ⟨b, hb, hw⟩ := h2.left h; exact ⟨b, hb, rooted_true.2 (.inr hw)⟩
theorem Bis.total {m : Nat → Nat → Prop} {s t : St} (h : Bis m s t) {a : Nat} (hr : s.reachB a = true) : ∃ b, m a b := by
  refine reach_least (P := fun a => ∃ b, m a b) (fun a _ _ hroot => ?_) (fun a a2 ha _ _ _ _ href => ?_) hr
  · obtain ⟨b, hb, _⟩ := all2_root h.stack h.globals hroot
    exact ⟨b, hb⟩
  · obtain ⟨b, hb⟩ := ha
    obtain ⟨b2, hb2, _⟩ := (h.fields a b hb).left (refs_some href)
    exact ⟨b2, hb2⟩

/-! ### As many are reachable -/
theorem nodup_le {l l' : List Nat} (hn : l.Nodup) (h : ∀ x ∈ l, x ∈ l') : l.length ≤ l'.length := by
  induction l generalizing l' with
  | nil => simp
  | cons a l ih =>
    have ha := h a (by simp)
    obtain ⟨n1, n2⟩ := List.nodup_cons.1 hn
    have := ih (l' := l'.erase a) n2 (fun x hx => (List.mem_erase_of_ne (fun e => n1 (by rw [← e]; exact hx))).2 (h x (List.mem_cons_of_mem _ hx)))
    rw [List.length_erase_of_mem ha] at this
    have hp : 0 < l'.length := List.length_pos_of_mem ha
    simp
    omega
theorem countTo_filter (p : Nat → Bool) (k : Nat) : countTo p k = (((List.range k).map (· + 1)).filter p).length := by
  unfold countTo
  rw [List.countP_eq_length_filter, List.filter_map, List.length_map]
  rfl
theorem countTo_inj {p q : Nat → Bool} {k k' : Nat} {m : Nat → Nat → Prop} (ht : ∀ a, p a = true → ∃ b, m a b) (hr : ∀ a a' b, m a b → m a' b → a = a') (hq : ∀ a b, m a b → 1 ≤ b ∧ b ≤ k' ∧ q b = true) : countTo p k ≤ countTo q k' := by
  rw [countTo_filter, countTo_filter]
  have H : ∀ l : List Nat, l.Nodup → (∀ a ∈ l, p a = true) → ∃ l' : List Nat, l'.length = l.length ∧ l'.Nodup ∧ ∀ b ∈ l', ∃ a ∈ l, m a b := fun l => by
    induction l with
    | nil => intro _ _; exact ⟨[], rfl, List.nodup_nil, fun b hb => by cases hb⟩
    | cons a l ih =>
      intro hn hp
      obtain ⟨n1, n2⟩ := List.nodup_cons.1 hn
      obtain ⟨l', e1, e2, e3⟩ := ih n2 (fun x hx => hp x (List.mem_cons_of_mem _ hx))
      obtain ⟨b, hb⟩ := ht a (hp a (by simp))
      refine ⟨b :: l', by simp [e1], List.nodup_cons.2 ⟨fun hm => ?_, e2⟩, fun x hx => ?_⟩
      · obtain ⟨a', ha', hm'⟩ := e3 b hm
        have := hr a a' b hb hm'
        subst this; exact n1 ha'
      · rcases List.mem_cons.1 hx with rfl | hx
        · exact ⟨a, by simp, hb⟩
        · obtain ⟨a', h1, h2⟩ := e3 x hx
          exact ⟨a', List.mem_cons_of_mem _ h1, h2⟩
  have nd : ((List.range k).map (· + 1)).Nodup := by
    rw [List.nodup_iff_pairwise_ne, List.pairwise_map]
    exact List.nodup_range.imp fun hne e => hne (by omega)
  obtain ⟨l', e1, e2, e3⟩ := H (((List.range k).map (· + 1)).filter p) (nd.filter _) (fun a ha => (List.mem_filter.1 ha).2)
  rw [← e1]
  refine nodup_le e2 fun b hb => ?_
  obtain ⟨a, _, hm⟩ := e3 b hb
  obtain ⟨b1, b2, b3⟩ := hq a b hm
  exact List.mem_filter.2 ⟨List.mem_map.2 ⟨b - 1, by simp; omega, by omega⟩, b3⟩
theorem Bis.reachN {m : Nat → Nat → Prop} {s t : St} (h : Bis m s t) : reachN s = reachN t := by
  have h1 : ∀ {m : Nat → Nat → Prop} {s t : St}, Bis m s t → YtpmkjeihbddfpabDoor.reachN s ≤ YtpmkjeihbddfpabDoor.reachN t := fun {m s t} h => by
    unfold YtpmkjeihbddfpabDoor.reachN
    exact countTo_inj (fun a ha => h.total ha) h.right (fun a b hm => by have := reach_range t _ b (h.tr a b hm); exact ⟨this.1, this.2, h.tr a b hm⟩)
  exact Nat.le_antisymm (h1 h) (h1 h.swap)

/-! ### The reachable part of a likeness -/
theorem bis_cut {m : Nat → Nat → Prop} {s t : St} {N : Nat} (gs : s.Good N) (gt : t.Good N) (h1 : All2 m s.stack t.stack) (h2 : All2 m s.globals t.globals)
    (hf : ∀ a b, m a b → s.reachB a = true → t.reachB b = true → All2 m (s.ob a).fs (t.ob b).fs) (hl : ∀ a b b', m a b → m a b' → b = b') (hr : ∀ a a' b, m a b → m a' b → a = a') :
    Bis (fun a b => m a b ∧ s.reachB a = true ∧ t.reachB b = true) s t := by
  have hN : s.N = N := gs.sN
  have hN' : t.N = N := gt.sN
  -- a value that is alike, and leads to reachable objects on both sides
  have key : ∀ {l l' : List (Int × Int)}, All2 m l l' → (∀ v ∈ l, ∀ a : Nat, v.1 = 2 → v.2 = (a : Int) → s.reachB a = true) → (∀ v ∈ l', ∀ a : Nat, v.1 = 2 → v.2 = (a : Int) → t.reachB a = true) → All2 (fun a b => m a b ∧ s.reachB a = true ∧ t.reachB b = true) l l' := fun {l l'} hll hs ht => by
    refine ⟨hll.1, fun i => ?_⟩
    have := hll.2 i
    refine vr_mono this fun a b e ea eb hm => ⟨hm, ?_, ?_⟩
    · by_cases hi : i < l.length
      · exact hs _ (by rw [List.getD_eq_getElem?_getD, List.getElem?_eq_getElem hi]; exact List.getElem_mem hi) a e ea
      · exfalso
        rw [List.getD_eq_getElem?_getD, List.getElem?_eq_none (by omega)] at e; cases e
    · by_cases hi : i < l'.length
      · exact ht _ (by rw [List.getD_eq_getElem?_getD, List.getElem?_eq_getElem hi]; exact List.getElem_mem hi) b (by rw [← this.1]; exact e) eb
      · exfalso
        rw [List.getD_eq_getElem?_getD, List.getElem?_eq_none (by rw [hll.1]; omega)] at e; cases e
  have rs : ∀ {u : St}, u.Good N → ∀ v, v ∈ u.stack ∨ v ∈ u.globals → ∀ a : Nat, v.1 = 2 → v.2 = (a : Int) → u.reachB a = true := fun {u} gu v hv a e ea => by
    have hlead : u.leads v := by
      rcases hv with hv | hv
      · exact gu.stack v hv
      · exact gu.globals v hv
    obtain ⟨j, hj, ha⟩ := leads_ref hlead e
    have : j = a := by omega
    subst this
    have := gu.ne_zero ha.1
    refine reach_rooted this.1 (by rw [gu.sN]; exact this.2) (rooted_true.2 ?_)
    rcases hv with hv | hv
    · exact .inl ⟨v, hv, e, ea⟩
    · exact .inr ⟨v, hv, e, ea⟩
  have rf : ∀ {u : St}, u.Good N → ∀ x, u.reachB x = true → ∀ v ∈ (u.ob x).fs, ∀ a : Nat, v.1 = 2 → v.2 = (a : Int) → u.reachB a = true := fun {u} gu x hx v hv a e ea => by
    obtain ⟨j, hj, ha⟩ := leads_ref (gu.fields x v hv) e
    have : j = a := by omega
    subst this
    have := gu.ne_zero ha.1
    exact reach_closed hx this.1 (by rw [gu.sN]; exact this.2) (refs_pos hv e ea)
  exact ⟨key h1 (fun v hv => rs gs v (.inl hv)) (fun v hv => rs gt v (.inl hv)), key h2 (fun v hv => rs gs v (.inr hv)) (fun v hv => rs gt v (.inr hv)),
    fun a b hm => key (hf a b hm.1 hm.2.1 hm.2.2) (rf gs a hm.2.1) (rf gt b hm.2.2), fun a b b' x y => hl a b b' x.1 y.1, fun a a' b x y => hr a a' b x.1 y.1, fun a b hm => hm.2.1, fun a b hm => hm.2.2⟩

/-- what leaves the reachable objects as they are, of the one or of the other -/
theorem Bis.same {m : Nat → Nat → Prop} {s s' t t' : St} (h : Bis m s t) (hs : Same s s') (ht : Same t t') : Bis m s' t' :=
  ⟨by rw [hs.stack, ht.stack]; exact h.stack, by rw [hs.globals, ht.globals]; exact h.globals, fun a b hm => by rw [hs.fs a (h.sr a b hm), ht.fs b (h.tr a b hm)]; exact h.fields a b hm, h.left, h.right,
    fun a b hm => by rw [hs.reach]; exact h.sr a b hm, fun a b hm => by rw [ht.reach]; exact h.tr a b hm⟩

end Go.Proofs.YtpmkjeihbddfpabDoor

/- OUR OWN. The document's heap without memory: two heaps that are alike answer alike. -/
namespace Go.Proofs.YtpmkjeihbddfpabDoor
set_option linter.unusedVariables false
set_option linter.unusedSimpArgs false

theorem enq_fs (s : St) (i a : Nat) : ((s.enq i).ob a).fs = (s.ob a).fs := by
  by_cases hi : i < s.objs.length
  · rw [ob_enq a hi]
    by_cases e : a = i
    · rw [if_pos e, e]
    · rw [if_neg e]
  · have : (s.enq i).ob a = s.ob a := by
      show (s.put i { s.ob i with queued := true }).ob a = s.ob a
      rw [put_out _ hi]
    rw [this]
theorem sortTo_fs (but : Int) (s : St) (k a : Nat) : ((sortTo but s k).ob a).fs = (s.ob a).fs := by
  induction k with
  | zero => rfl
  | succ k ih =>
    unfold sortTo
    split
    · rw [enq_fs]; exact ih
    · exact ih
theorem enter_fs (z but : Int) (s : St) (a : Nat) : ((s.enter z but).ob a).fs = (s.ob a).fs := by
  unfold St.enter
  split
  · exact sortTo_fs but s _ a
  · rfl
/-- what OpStore does to the fields -/
theorem put_fs (c : Cf) (A : St) (i k : Nat) (x y : Int × Int) (hi : i < A.objs.length) (hy : y = (A.ob i).fs.getD k (0, 0)) (hk : k < (A.ob i).fs.length) :
    (putS c A i k x y).stack = A.stack ∧ (putS c A i k x y).globals = A.globals ∧ ∀ a, ((putS c A i k x y).ob a).fs = if a = i then (A.ob i).fs.set k x else (A.ob a).fs := by
  unfold putS
  by_cases h : x.1 = 2 ∧ y = x
  · rw [if_pos h]
    refine ⟨rfl, rfl, fun a => ?_⟩
    by_cases e : a = i
    · rw [if_pos e, e]
      have : (A.ob i).fs[k] = x := by
        rw [← h.2, hy, List.getD_eq_getElem?_getD, List.getElem?_eq_getElem hk]; rfl
      rw [← this, List.set_getElem_self]
    · rw [if_neg e]
  · rw [if_neg h]
    have hl : i < (stickS c.over A x).objs.length := by
      unfold stickS
      split
      · simpa [St.stick, St.put] using hi
      · exact hi
    have ef : ∀ a, (((stickS c.over A x).field i k x).ob a).fs = if a = i then (A.ob i).fs.set k x else (A.ob a).fs := fun a => by
      unfold St.field
      rw [ob_put _ a hl]
      by_cases e : a = i
      · rw [if_pos e, if_pos e, (stick_ob (s := A) (o := c.over) (x := x) i).2.1]
      · rw [if_neg e, if_neg e, (stick_ob (s := A) (o := c.over) (x := x) a).2.1]
    have er : (stickS c.over A x).stack = A.stack ∧ (stickS c.over A x).globals = A.globals := by
      unfold stickS
      split <;> exact ⟨rfl, rfl⟩
    unfold dropS'
    split
    · obtain ⟨r1, r2⟩ := enter_roots c.zero y.2 ((stickS c.over A x).field i k x)
      exact ⟨by rw [r1]; exact er.1, by rw [r2]; exact er.2, fun a => by rw [enter_fs]; exact ef a⟩
    · exact ⟨er.1, er.2, ef⟩
/-- what OpNew does to the heap -/
theorem new_state {s : St} {N : Nat} (g : s.Good N) (c : Cf) (n : Int) (h : (newS c s n).2.2 = 0) :
    ∃ k : Nat, s.reachB k = false ∧ (newS c s n).1.stack = s.stack ++ [(2, (k : Int))] ∧ (newS c s n).1.globals = s.globals ∧ ((newS c s n).1.ob k).fs = List.replicate n.toNat (0, 0) ∧ ∀ a, s.reachB a = true → ((newS c s n).1.ob a).fs = (s.ob a).fs := by
  have hsame : Same s (roomS c s) := by
    unfold roomS
    split
    · exact .refl s
    · split
      · exact same_free g c.zero (by omega)
      · exact same_collect g c.over
  have gr := g.room c
  unfold newS at h ⊢
  by_cases h1 : n < 0 ∨ 4 < n
  · rw [if_pos h1] at h; cases h
  rw [if_neg h1] at h ⊢
  by_cases h2 : c.deep ≤ s.stack.length
  · rw [if_pos h2] at h; cases h
  rw [if_neg h2] at h ⊢
  cases hf : free? (roomS c s) with
  | none => rw [hf] at h; cases h
  | some k =>
    obtain ⟨h3, h4⟩ := free_here hf
    have hnr : s.reachB (k + 1) = false := by rw [← hsame.reach]; exact reach_le_here gr h3
    refine ⟨k + 1, hnr, ?_, ?_, ?_, fun a ha => ?_⟩
    · show (roomS c s).stack ++ [(2, ((k + 1 : Nat) : Int))] = _
      rw [hsame.stack]
    · show (((roomS c s).put (k + 1) ⟨true, List.replicate n.toNat (0, 0), false, false⟩).enter c.zero ((k + 1 : Nat) : Int)).globals = _
      rw [(enter_roots _ _ _).2]; exact hsame.globals
    · show ((((roomS c s).put (k + 1) ⟨true, List.replicate n.toNat (0, 0), false, false⟩).enter c.zero ((k + 1 : Nat) : Int)).ob (k + 1)).fs = _
      rw [enter_fs, ob_put _ _ h4, if_pos rfl]
    · show ((((roomS c s).put (k + 1) ⟨true, List.replicate n.toNat (0, 0), false, false⟩).enter c.zero ((k + 1 : Nat) : Int)).ob a).fs = _
      have hne : a ≠ k + 1 := fun e => by rw [e, hnr] at ha; cases ha
      rw [enter_fs, ob_put _ _ h4, if_neg hne]
      exact hsame.fs a ha
theorem new_refused {s : St} {N : Nat} (g : s.Good N) (c : Cf) (n : Int) (h : (newS c s n).2.2 ≠ 0) : Same s (newS c s n).1 := by
  unfold newS at h ⊢
  by_cases h1 : n < 0 ∨ 4 < n
  · rw [if_pos h1]; exact .refl s
  rw [if_neg h1] at h ⊢
  by_cases h2 : c.deep ≤ s.stack.length
  · rw [if_pos h2]; exact .refl s
  rw [if_neg h2] at h ⊢
  cases hf : free? (roomS c s) with
  | some k => rw [hf] at h; exact absurd rfl h
  | none =>
    show Same s (roomS c s)
    unfold roomS
    split
    · exact .refl s
    · split
      · exact same_free g c.zero (by omega)
      · exact same_collect g c.over
theorem new_num (c : Cf) (s : St) (n : Int) : (newS c s n).2.1 = 0 := by
  unfold newS
  split
  · rfl
  split
  · rfl
  split <;> rfl

/-- alike, and what is asked of both heaps -/
structure Twin (m : Nat → Nat → Prop) (N : Nat) (s t : St) : Prop where
  b : Bis m s t
  gs : s.Good N
  gt : t.Good N
def TwinAns (N : Nat) (p q : St × Int × Int) : Prop := p.2 = q.2 ∧ ∃ m, Bis m p.1 q.1
theorem Twin.down {m : Nat → Nat → Prop} {N : Nat} {s t : St} (h : Twin m N s t) (k : Nat) : vr m (s.down k) (t.down k) := by
  unfold St.down
  rw [← h.b.stack.1]
  exact h.b.stack.2 _
/-- a reference leads to objects that are alike -/
theorem Twin.ref {m : Nat → Nat → Prop} {N : Nat} {s t : St} (h : Twin m N s t) {v w : Int × Int} (hv : vr m v w) (h2 : v.1 = 2) : ∃ a b : Nat, v.2 = a ∧ w.2 = b ∧ m a b ∧ All2 m (s.fields v.2) (t.fields w.2) := by
  rcases hv.2 with e | ⟨_, a, b, e1, e2, hm⟩
  · exact absurd h2 e.1
  · refine ⟨a, b, e1, e2, hm, ?_⟩
    unfold St.fields
    rw [e1, e2, Int.toNat_natCast, Int.toNat_natCast]
    exact h.b.fields a b hm
theorem objErr_eq {v w : Int × Int} (h : v.1 = w.1) : objErr v = objErr w := by unfold objErr; rw [h]
theorem objErr_ref {s : St} {v : Int × Int} (hl : s.leads v) (h : ¬ objErr v ≠ 0) : v.1 = 2 := by
  rcases hl with e | e | e
  · rw [e] at h; exact absurd (by decide) h
  · exact absurd (by unfold objErr; rw [if_neg (by omega), if_pos e.1]; decide) h
  · exact e.1
theorem vr_eq {m : Nat → Nat → Prop} {s t : St} (h : Bis m s t) {v w v' w' : Int × Int} (h1 : vr m v w) (h2 : vr m v' w') : v = v' ↔ w = w' := by
  have key : ∀ {m : Nat → Nat → Prop} {v w v' w' : Int × Int}, (∀ a b b', m a b → m a b' → b = b') → vr m v w → vr m v' w' → v = v' → w = w' := fun {m v w v' w'} hl h1 h2 e => by
    subst e
    refine Prod.ext (h1.1.symm.trans h2.1) ?_
    rcases h1.2 with e1 | ⟨e1, a, b, x1, x2, x3⟩
    · rcases h2.2 with e2 | ⟨e2, _⟩
      · exact e1.2.symm.trans e2.2
      · exact absurd e2 e1.1
    · rcases h2.2 with e2 | ⟨_, a', b', y1, y2, y3⟩
      · exact absurd e1 e2.1
      · have : a = a' := by omega
        subst this
        have := hl a b b' x3 y3
        omega
  exact ⟨key h.left h1 h2, fun e => key (m := fun b a => m a b) (fun b a a' p q => h.right a a' b p q) (vr_swap h1) (vr_swap h2) e⟩
/-- only roots are turned, alike -/
theorem Twin.roots {m : Nat → Nat → Prop} {N : Nat} {s t s' t' : St} (h : Twin m N s t) (gs' : s'.Good N) (gt' : t'.Good N) (os : s'.objs = s.objs) (ot : t'.objs = t.objs) (h1 : All2 m s'.stack t'.stack) (h2 : All2 m s'.globals t'.globals) : ∃ m', Bis m' s' t' := by
  refine ⟨_, bis_cut gs' gt' h1 h2 (fun a b hm _ _ => ?_) h.b.left h.b.right⟩
  have e1 : s'.ob a = s.ob a := by unfold St.ob; rw [os]
  have e2 : t'.ob b = t.ob b := by unfold St.ob; rw [ot]
  rw [e1, e2]; exact h.b.fields a b hm
theorem Twin.push {m : Nat → Nat → Prop} {N : Nat} {s t s0 t0 : St} (h : Twin m N s0 t0) {d : Int} {v w : Int × Int} (hv : vr m v w) (os : s.objs = s0.objs) (ot : t.objs = t0.objs) (hst : All2 m s.stack t.stack) (hgl : All2 m s.globals t.globals) (gs : (pushA d s v).1.Good N) (gt : (pushA d t w).1.Good N) : TwinAns N (pushA d s v) (pushA d t w) := by
  unfold pushA pushS at *
  rw [← hst.1] at gt ⊢
  by_cases e : d ≤ (s.stack.length : Int)
  · rw [if_pos e] at gs gt ⊢
    rw [if_pos e]
    exact ⟨rfl, h.roots gs gt os ot hst hgl⟩
  · rw [if_neg e] at gs gt ⊢
    rw [if_neg e]
    exact ⟨rfl, h.roots gs gt os ot (hst.snoc hv) hgl⟩

theorem twin_new {m : Nat → Nat → Prop} {N : Nat} {s t : St} (h : Twin m N s t) (c d : Cf) (hd : d.deep = c.deep) (n : Int) : TwinAns N (newS c s n) (newS d t n) := by
  have ea : (newS c s n).2.2 = (newS d t n).2.2 := by
    rw [new_answer h.gs, new_answer h.gt, hd, h.b.stack.1, h.b.reachN]
  refine ⟨Prod.ext ((new_num c s n).trans (new_num d t n).symm) ea, ?_⟩
  by_cases h0 : (newS c s n).2.2 = 0
  · obtain ⟨k, k1, k2, k3, k4, k5⟩ := new_state h.gs c n h0
    obtain ⟨k', l1, l2, l3, l4, l5⟩ := new_state h.gt d n (by rw [← ea]; exact h0)
    have mono : ∀ {l l' : List (Int × Int)}, All2 m l l' → All2 (fun a b => m a b ∨ (a = k ∧ b = k')) l l' := fun hl => ⟨hl.1, fun i => vr_mono (hl.2 i) fun a b _ _ _ hm => .inl hm⟩
    refine ⟨_, bis_cut (m := fun a b => m a b ∨ (a = k ∧ b = k')) (h.gs.new c n) (h.gt.new d n) ?_ ?_ (fun a b hm _ _ => ?_) (fun a b b' p q => ?_) (fun a a' b p q => ?_)⟩
    · rw [k2, l2]
      exact (mono h.b.stack).snoc ⟨rfl, .inr ⟨rfl, k, k', rfl, rfl, .inr ⟨rfl, rfl⟩⟩⟩
    · rw [k3, l3]; exact mono h.b.globals
    · rcases hm with hm | ⟨rfl, rfl⟩
      · rw [k5 a (h.b.sr a b hm), l5 b (h.b.tr a b hm)]; exact mono (h.b.fields a b hm)
      · rw [k4, l4]; exact All2.rep _ _
    · rcases p with p | ⟨rfl, rfl⟩
      · rcases q with q | ⟨rfl, rfl⟩
        · exact h.b.left a b b' p q
        · have := h.b.sr _ _ p; rw [k1] at this; cases this
      · rcases q with q | ⟨_, rfl⟩
        · have := h.b.sr _ _ q; rw [k1] at this; cases this
        · rfl
    · rcases p with p | ⟨rfl, rfl⟩
      · rcases q with q | ⟨rfl, rfl⟩
        · exact h.b.right a a' b p q
        · have := h.b.tr _ _ p; rw [l1] at this; cases this
      · rcases q with q | ⟨rfl, _⟩
        · have := h.b.tr _ _ q; rw [l1] at this; cases this
        · rfl
  · exact ⟨m, h.b.same (new_refused h.gs c n h0) (new_refused h.gt d n (by rw [← ea]; exact h0))⟩

theorem twin_load {m : Nat → Nat → Prop} {N : Nat} {s t : St} (h : Twin m N s t) (d : Int) (n : Int) (gs : (loadS d s n).1.Good N) (gt : (loadS d t n).1.Good N) : TwinAns N (loadS d s n) (loadS d t n) := by
  have hd := h.down 0
  unfold loadS at *
  rw [← h.b.stack.1, ← objErr_eq hd.1] at gt ⊢
  by_cases e1 : s.stack.length < 1
  · rw [if_pos e1, if_pos e1]; exact ⟨rfl, m, h.b⟩
  rw [if_neg e1] at gs gt ⊢
  rw [if_neg e1]
  by_cases e2 : objErr (s.down 0) ≠ 0
  · rw [if_pos e2, if_pos e2]; exact ⟨rfl, m, h.b⟩
  rw [if_neg e2] at gs gt ⊢
  rw [if_neg e2]
  obtain ⟨a, b, ha, hb, hm, hf⟩ := h.ref hd (objErr_ref (h.gs.down 0) e2)
  rw [← hf.1] at gt ⊢
  by_cases e3 : n < 0 ∨ ((s.fields (s.down 0).2).length : Int) ≤ n
  · rw [if_pos e3, if_pos e3]; exact ⟨rfl, m, h.b⟩
  rw [if_neg e3] at gs gt ⊢
  rw [if_neg e3]
  refine h.push (s := s.pop 1) (t := t.pop 1) (hf.2 n.toNat) rfl rfl ?_ h.b.globals gs gt
  show All2 m (s.stack.take (s.stack.length - 1)) (t.stack.take (t.stack.length - 1))
  rw [← h.b.stack.1]; exact h.b.stack.take _

theorem twin_store {m : Nat → Nat → Prop} {N : Nat} {s t : St} (h : Twin m N s t) (c d : Cf) (n : Int) : TwinAns N (storeS c s n) (storeS d t n) := by
  have gs := h.gs.store c n
  have gt := h.gt.store d n
  have h0 := h.down 0
  have h1 := h.down 1
  unfold storeS at *
  rw [← h.b.stack.1, ← objErr_eq h1.1] at gt ⊢
  by_cases e1 : s.stack.length < 2
  · rw [if_pos e1, if_pos e1]; exact ⟨rfl, m, h.b⟩
  rw [if_neg e1] at gs gt ⊢
  rw [if_neg e1]
  by_cases e2 : objErr (s.down 1) ≠ 0
  · rw [if_pos e2, if_pos e2]; exact ⟨rfl, m, h.b⟩
  rw [if_neg e2] at gs gt ⊢
  rw [if_neg e2]
  have hr := objErr_ref (h.gs.down 1) e2
  obtain ⟨a, b, ha, hb, hm, hf⟩ := h.ref h1 hr
  rw [← hf.1] at gt ⊢
  by_cases e3 : n < 0 ∨ ((s.fields (s.down 1).2).length : Int) ≤ n
  · rw [if_pos e3, if_pos e3]; exact ⟨rfl, m, h.b⟩
  rw [if_neg e3] at gs gt ⊢
  rw [if_neg e3]
  refine ⟨rfl, ?_⟩
  have eA : (s.down 1).2.toNat = a := by rw [ha, Int.toNat_natCast]
  have eB : (t.down 1).2.toNat = b := by rw [hb, Int.toNat_natCast]
  have fA : s.fields (s.down 1).2 = (s.ob a).fs := by unfold St.fields; rw [eA]
  have fB : t.fields (t.down 1).2 = (t.ob b).fs := by unfold St.fields; rw [eB]
  have hk : n.toNat < (s.ob a).fs.length := by rw [fA] at e3; omega
  have hkt : n.toNat < (t.ob b).fs.length := by rw [← fB, ← hf.1, fA]; exact hk
  have hal : a < s.objs.length := here_lt (h.gs.reach_alive (h.b.sr a b hm)).1
  have hbl : b < t.objs.length := here_lt (h.gt.reach_alive (h.b.tr a b hm)).1
  obtain ⟨s1, s2, s3⟩ := put_fs c (s.pop 2) a n.toNat (s.down 0) ((s.ob a).fs.getD n.toNat (0, 0)) hal rfl hk
  obtain ⟨t1, t2, t3⟩ := put_fs d (t.pop 2) b n.toNat (t.down 0) ((t.ob b).fs.getD n.toNat (0, 0)) hbl rfl hkt
  rw [eA, fA] at gs ⊢
  rw [eB, fB] at gt ⊢
  refine ⟨_, bis_cut (m := m) gs gt ?_ ?_ (fun a' b' hm' _ _ => ?_) h.b.left h.b.right⟩
  · rw [s1, t1]
    show All2 m (s.stack.take (s.stack.length - 2)) (t.stack.take (t.stack.length - 2))
    rw [← h.b.stack.1]; exact h.b.stack.take _
  · rw [s2, t2]; exact h.b.globals
  · rw [s3, t3]
    by_cases e : a' = a
    · subst e
      have : b' = b := h.b.left _ _ _ hm' hm
      subst this
      rw [if_pos rfl, if_pos rfl]
      exact (h.b.fields _ _ hm).set _ h0
    · have : b' ≠ b := fun eb => e (h.b.right _ _ _ hm' (by rw [eb]; exact hm))
      rw [if_neg e, if_neg this]
      exact h.b.fields _ _ hm'

/-- Two heaps that are alike answer alike, and are alike behind it. -/
theorem twin_do {m : Nat → Nat → Prop} {N : Nat} {s t : St} (h : Twin m N s t) (c d : Cf) (hd : d.deep = c.deep) (op n : Int) (hn : -9223372036854775808 ≤ n ∧ n ≤ 9223372036854775807) : TwinAns N (doS c s op n) (doS d t op n) := by
  have gs := h.gs.did c op n hn
  have gt := h.gt.did d op n hn
  have hst := h.b.stack
  have hgl := h.b.globals
  unfold doS at *
  rw [hd] at gt ⊢
  by_cases o0 : op = 0
  · rw [if_pos o0] at gs gt ⊢; rw [if_pos o0]; exact h.push (vr_nil m) rfl rfl hst hgl gs gt
  rw [if_neg o0] at gs gt ⊢; rw [if_neg o0]
  by_cases o1 : op = 1
  · rw [if_pos o1] at gs gt ⊢; rw [if_pos o1]; exact h.push (vr_int m n) rfl rfl hst hgl gs gt
  rw [if_neg o1] at gs gt ⊢; rw [if_neg o1]
  by_cases o2 : op = 2
  · rw [if_pos o2, if_pos o2]; exact twin_new h c d hd n
  rw [if_neg o2] at gs gt ⊢; rw [if_neg o2]
  by_cases o3 : op = 3
  · rw [if_pos o3] at gs gt ⊢; rw [if_pos o3]
    unfold dupS at *
    rw [← hst.1] at gt ⊢
    by_cases e : n < 0 ∨ (s.stack.length : Int) ≤ n
    · rw [if_pos e, if_pos e]; exact ⟨rfl, m, h.b⟩
    · rw [if_neg e] at gs gt ⊢; rw [if_neg e]; exact h.push (h.down _) rfl rfl hst hgl gs gt
  rw [if_neg o3] at gs gt ⊢; rw [if_neg o3]
  by_cases o4 : op = 4
  · rw [if_pos o4] at gs gt ⊢; rw [if_pos o4]
    unfold dropS at *
    rw [← hst.1] at gt ⊢
    by_cases e : s.stack.length < 1
    · rw [if_pos e, if_pos e]; exact ⟨rfl, m, h.b⟩
    · rw [if_neg e] at gs gt ⊢; rw [if_neg e]
      refine ⟨rfl, h.roots gs gt rfl rfl ?_ hgl⟩
      show All2 m (s.stack.take (s.stack.length - 1)) (t.stack.take (t.stack.length - 1))
      rw [← hst.1]; exact hst.take _
  rw [if_neg o4] at gs gt ⊢; rw [if_neg o4]
  by_cases o5 : op = 5
  · rw [if_pos o5] at gs gt ⊢; rw [if_pos o5]
    unfold getS at *
    rw [← hgl.1] at gt ⊢
    by_cases e : n < 0 ∨ (s.globals.length : Int) ≤ n
    · rw [if_pos e, if_pos e]; exact ⟨rfl, m, h.b⟩
    · rw [if_neg e] at gs gt ⊢; rw [if_neg e]; exact h.push (hgl.2 _) rfl rfl hst hgl gs gt
  rw [if_neg o5] at gs gt ⊢; rw [if_neg o5]
  by_cases o6 : op = 6
  · rw [if_pos o6] at gs gt ⊢; rw [if_pos o6]
    unfold setS at *
    rw [← hgl.1, ← hst.1] at gt ⊢
    by_cases e : n < 0 ∨ (s.globals.length : Int) ≤ n
    · rw [if_pos e, if_pos e]; exact ⟨rfl, m, h.b⟩
    rw [if_neg e] at gs gt ⊢; rw [if_neg e]
    by_cases e2 : s.stack.length < 1
    · rw [if_pos e2, if_pos e2]; exact ⟨rfl, m, h.b⟩
    · rw [if_neg e2] at gs gt ⊢; rw [if_neg e2]
      refine ⟨rfl, h.roots gs gt rfl rfl ?_ (hgl.set _ (h.down 0))⟩
      show All2 m (s.stack.take (s.stack.length - 1)) (t.stack.take (t.stack.length - 1))
      rw [← hst.1]; exact hst.take _
  rw [if_neg o6] at gs gt ⊢; rw [if_neg o6]
  by_cases o7 : op = 7
  · rw [if_pos o7] at gs gt ⊢; rw [if_pos o7]; exact twin_load h c.deep n gs gt
  rw [if_neg o7] at gs gt ⊢; rw [if_neg o7]
  by_cases o8 : op = 8
  · rw [if_pos o8, if_pos o8]; exact twin_store h c d n
  rw [if_neg o8] at gs gt ⊢; rw [if_neg o8]
  by_cases o9 : op = 9
  · rw [if_pos o9] at gs gt ⊢; rw [if_pos o9]
    unfold sameS at *
    rw [← hst.1] at gt ⊢
    by_cases e : s.stack.length < 2
    · rw [if_pos e, if_pos e]; exact ⟨rfl, m, h.b⟩
    rw [if_neg e] at gs gt ⊢; rw [if_neg e]
    have hv := vr_eq h.b (h.down 0) (h.down 1)
    have hstk : All2 m (s.pop 2).stack (t.pop 2).stack := by
      show All2 m (s.stack.take (s.stack.length - 2)) (t.stack.take (t.stack.length - 2))
      rw [← hst.1]; exact hst.take _
    by_cases e2 : s.down 0 = s.down 1
    · have e3 := hv.1 e2
      rw [if_pos e2, if_pos e3]
      exact ⟨rfl, h.roots (h.gs.pop 2) (h.gt.pop 2) rfl rfl hstk hgl⟩
    · have e3 : ¬ t.down 0 = t.down 1 := fun hh => e2 (hv.2 hh)
      rw [if_neg e2, if_neg e3]
      exact ⟨rfl, h.roots (h.gs.pop 2) (h.gt.pop 2) rfl rfl hstk hgl⟩
  rw [if_neg o9] at gs gt ⊢; rw [if_neg o9]
  by_cases o10 : op = 10
  · rw [if_pos o10, if_pos o10]
    unfold takeS
    rw [← hst.1]
    have h0 := h.down 0
    by_cases e : s.stack.length < 1
    · rw [if_pos e, if_pos e]; exact ⟨rfl, m, h.b⟩
    rw [if_neg e, if_neg e]
    by_cases e2 : (s.down 0).1 = 1
    · rw [if_pos e2, if_pos (by rw [← h0.1]; exact e2)]
      refine ⟨?_, h.roots (h.gs.pop 1) (h.gt.pop 1) rfl rfl ?_ hgl⟩
      · rcases h0.2 with x | x
        · exact Prod.ext x.2 rfl
        · rw [e2] at x; cases x.1
      · show All2 m (s.stack.take (s.stack.length - 1)) (t.stack.take (t.stack.length - 1))
        rw [← hst.1]; exact hst.take _
    · rw [if_neg e2, if_neg (by rw [← h0.1]; exact e2)]; exact ⟨rfl, m, h.b⟩
  rw [if_neg o10] at gs gt ⊢; rw [if_neg o10]
  by_cases o11 : op = 11
  · rw [if_pos o11, if_pos o11]
    unfold sizeS
    have h0 := h.down 0
    rw [← hst.1, ← objErr_eq h0.1]
    by_cases e : s.stack.length < 1
    · rw [if_pos e, if_pos e]; exact ⟨rfl, m, h.b⟩
    rw [if_neg e, if_neg e]
    by_cases e2 : objErr (s.down 0) ≠ 0
    · rw [if_pos e2, if_pos e2]; exact ⟨rfl, m, h.b⟩
    rw [if_neg e2, if_neg e2]
    obtain ⟨a, b, _, _, _, hf⟩ := h.ref h0 (objErr_ref (h.gs.down 0) e2)
    rw [hf.1]
    exact ⟨rfl, m, h.b⟩
  rw [if_neg o11] at gs gt ⊢; rw [if_neg o11]
  by_cases o12 : op = 12
  · rw [if_pos o12, if_pos o12]
    unfold kindS
    have h0 := h.down 0
    rw [← hst.1, h0.1]
    by_cases e : s.stack.length < 1
    · rw [if_pos e, if_pos e]; exact ⟨rfl, m, h.b⟩
    · rw [if_neg e, if_neg e]; exact ⟨rfl, m, h.b⟩
  rw [if_neg o12, if_neg o12]
  exact ⟨rfl, m, h.b⟩

end Go.Proofs.YtpmkjeihbddfpabDoor

/- OUR OWN. A search by breadth, without memory: what the program's mark finds. -/
namespace Go.Proofs.YtpmkjeihbddfpabDoor
set_option linter.unusedVariables false
set_option linter.unusedSimpArgs false

/-- one value is looked at -/
def stepM (t : List Nat) (v : Int × Int) : List Nat := if v.1 = 2 ∧ v.2.toNat ∉ t then t ++ [v.2.toNat] else t
def scanM (l : List (Int × Int)) (t : List Nat) : List Nat := l.foldl stepM t
theorem scanM_nil (t : List Nat) : scanM [] t = t := rfl
theorem scanM_snoc (l : List (Int × Int)) (v : Int × Int) (t : List Nat) : scanM (l ++ [v]) t = stepM (scanM l t) v := by
  unfold scanM; rw [List.foldl_append]; rfl
theorem stepM_pre (t : List Nat) (v : Int × Int) : ∃ x, stepM t v = t ++ x := by
  unfold stepM
  split
  · exact ⟨_, rfl⟩
  · exact ⟨[], by simp⟩
theorem scanM_pre (l : List (Int × Int)) : ∀ t : List Nat, ∃ x, scanM l t = t ++ x := by
  induction l with
  | nil => intro t; exact ⟨[], by simp [scanM]⟩
  | cons v l ih =>
    intro t
    obtain ⟨x, hx⟩ := stepM_pre t v
    obtain ⟨y, hy⟩ := ih (stepM t v)
    refine ⟨x ++ y, ?_⟩
    show scanM l (stepM t v) = _
    rw [hy, hx, List.append_assoc]
theorem stepM_nodup {t : List Nat} (h : t.Nodup) (v : Int × Int) : (stepM t v).Nodup := by
  unfold stepM
  split
  · rename_i hc
    rw [List.nodup_append]
    exact ⟨h, by simp, fun a ha b hb => by simp at hb; intro e; exact hc.2 (by rw [← hb, ← e]; exact ha)⟩
  · exact h
theorem scanM_nodup (l : List (Int × Int)) : ∀ {t : List Nat}, t.Nodup → (scanM l t).Nodup := by
  induction l with
  | nil => intro t h; exact h
  | cons v l ih => intro t h; exact ih (stepM_nodup h v)
theorem stepM_mem {t : List Nat} {v : Int × Int} {b : Nat} (h : b ∈ stepM t v) : b ∈ t ∨ (v.1 = 2 ∧ v.2.toNat = b) := by
  unfold stepM at h
  split at h
  · rename_i hc
    rcases List.mem_append.1 h with e | e
    · exact .inl e
    · simp at e; exact .inr ⟨hc.1, e.symm⟩
  · exact .inl h
theorem scanM_mem (l : List (Int × Int)) : ∀ {t : List Nat} {b : Nat}, b ∈ scanM l t → b ∈ t ∨ ∃ v ∈ l, v.1 = 2 ∧ v.2.toNat = b := by
  induction l with
  | nil => intro t b h; exact .inl h
  | cons v l ih =>
    intro t b h
    rcases ih (t := stepM t v) h with e | ⟨u, hu, e⟩
    · rcases stepM_mem e with e | e
      · exact .inl e
      · exact .inr ⟨v, List.mem_cons_self, e⟩
    · exact .inr ⟨u, List.mem_cons_of_mem _ hu, e⟩
theorem stepM_has (t : List Nat) (v : Int × Int) (h : v.1 = 2) : v.2.toNat ∈ stepM t v := by
  unfold stepM
  by_cases e : v.2.toNat ∈ t
  · rw [if_neg (fun x => x.2 e)]; exact e
  · rw [if_pos ⟨h, e⟩]; simp
theorem scanM_has (l : List (Int × Int)) : ∀ (t : List Nat), ∀ v ∈ l, v.1 = 2 → v.2.toNat ∈ scanM l t := by
  induction l with
  | nil => intro t v hv; cases hv
  | cons a l ih =>
    intro t v hv h
    rcases List.mem_cons.1 hv with e | e
    · obtain ⟨x, hx⟩ := scanM_pre l (stepM t a)
      show v.2.toNat ∈ scanM l (stepM t a)
      rw [hx, e]
      exact List.mem_append_left _ (stepM_has t a (by rw [← e]; exact h))
    · exact ih (stepM t a) v e h


theorem scanM_len (l : List (Int × Int)) : ∀ t : List Nat, (scanM l t).length ≤ t.length + l.length := by
  induction l with
  | nil => intro t; simp [scanM]
  | cons a l ih =>
    intro t
    have h1 := ih (stepM t a)
    have h2 : (stepM t a).length ≤ t.length + 1 := by unfold stepM; split <;> simp
    show (scanM l (stepM t a)).length ≤ _
    simp only [List.length_cons]; omega

/-- what is found when n of what was found have been looked at -/
structure FoundM (s : St) (n : Nat) (t : List Nat) : Prop where
  once : t.Nodup
  reach : ∀ b ∈ t, s.reachB b = true
  roots : ∀ b : Nat, s.rooted b = true → 1 ≤ b → b ≤ s.N → b ∈ t
  done : ∀ i, i < n → ∀ a, t[i]? = some a → ∀ b : Nat, 1 ≤ b → b ≤ s.N → 0 < refsN (s.ob a).fs b → b ∈ t
  le : n ≤ t.length

section
variable {s : St} {N : Nat}
/-- a reference leads to a block -/
theorem leadM (g : s.Good N) {v : Int × Int} (h : s.leads v) (h1 : v.1 = 2) : ∃ b : Nat, v.2 = (b : Int) ∧ 1 ≤ b ∧ b ≤ N := by
  rcases h with e | e | ⟨e, i, hi, ha⟩
  · rw [e] at h1; simp at h1
  · omega
  · exact ⟨i, hi, g.ne_zero ha.1⟩
theorem foundM_start (g : s.Good N) : FoundM s 0 (scanM s.globals (scanM s.stack [])) := by
  have hsN := g.sN
  refine ⟨scanM_nodup _ (scanM_nodup _ List.nodup_nil), fun b hb => ?_, fun b hr h1 h2 => ?_, fun i hi => absurd hi (Nat.not_lt_zero _), Nat.zero_le _⟩
  · have key : ∀ l : List (Int × Int), (∀ v ∈ l, s.leads v) → (∀ x : Int, 0 < refsN l x → s.rooted x = true) → ∀ v ∈ l, v.1 = 2 ∧ v.2.toNat = b → s.reachB b = true := fun l hl hro v hv ⟨e1, e2⟩ => by
      obtain ⟨i, hi, i1, i2⟩ := leadM g (hl v hv) e1
      have hib : i = b := by rw [hi, Int.toNat_natCast] at e2; exact e2
      subst hib
      exact reach_rooted i1 (by omega) (hro i (refs_pos hv e1 hi))
    have hs : ∀ x : Int, 0 < refsN s.stack x → s.rooted x = true := fun x hx => by unfold St.rooted; simp; omega
    have hg : ∀ x : Int, 0 < refsN s.globals x → s.rooted x = true := fun x hx => by unfold St.rooted; simp; omega
    rcases scanM_mem _ hb with e | ⟨v, hv, e⟩
    · rcases scanM_mem _ e with e | ⟨v, hv, e⟩
      · cases e
      · exact key _ g.stack hs v hv e
    · exact key _ g.globals hg v hv e
  · rcases rooted_true.1 hr with ⟨v, hv, e1, e2⟩ | ⟨v, hv, e1, e2⟩
    · obtain ⟨x, hx⟩ := scanM_pre s.globals (scanM s.stack [])
      rw [hx]
      have := scanM_has s.stack [] v hv e1
      rw [e2, Int.toNat_natCast] at this
      exact List.mem_append_left _ this
    · have := scanM_has s.globals (scanM s.stack []) v hv e1
      rw [e2, Int.toNat_natCast] at this
      exact this
theorem foundM_next (g : s.Good N) {n : Nat} {t : List Nat} (f : FoundM s n t) {a : Nat} (ha : t[n]? = some a) : FoundM s (n + 1) (scanM (s.ob a).fs t) := by
  have hsN := g.sN
  have har : s.reachB a = true := f.reach a (List.mem_of_getElem? ha)
  obtain ⟨x, hx⟩ := scanM_pre (s.ob a).fs t
  have hnl : n < t.length := (List.getElem?_eq_some_iff.1 ha).1
  refine ⟨scanM_nodup _ f.once, fun b hb => ?_, fun b hr h1 h2 => by rw [hx]; exact List.mem_append_left _ (f.roots b hr h1 h2), fun i hi a' ha' b h1 h2 hr => ?_, by rw [hx, List.length_append]; omega⟩
  · rcases scanM_mem _ hb with e | ⟨v, hv, e1, e2⟩
    · exact f.reach b e
    · obtain ⟨i, hi, i1, i2⟩ := leadM g (g.fields a v hv) e1
      have hib : i = b := by rw [hi, Int.toNat_natCast] at e2; exact e2
      subst hib
      exact reach_closed har i1 (by omega) (refs_pos hv e1 hi)
  · have hil : i < t.length := by omega
    have ha2 : t[i]? = some a' := by rw [hx, List.getElem?_append_left hil] at ha'; exact ha'
    by_cases e : i = n
    · subst e
      rw [ha] at ha2
      cases ha2
      obtain ⟨v, hv, e1, e2⟩ := refs_some hr
      have := scanM_has (s.ob a).fs t v hv e1
      rw [e2, Int.toNat_natCast] at this
      exact this
    · rw [hx]; exact List.mem_append_left _ (f.done i (by omega) a' ha2 b h1 h2 hr)
theorem foundM_end (g : s.Good N) {t : List Nat} (f : FoundM s t.length t) (b : Nat) : decide (b ∈ t) = s.reachB b := by
  cases e : s.reachB b with
  | true =>
    have : b ∈ t := by
      refine reach_least (P := fun b => b ∈ t) (fun b h1 h2 hr => f.roots b hr h1 h2) (fun a b ha _ _ h1 h2 hr => ?_) e
      obtain ⟨i, hi⟩ := List.getElem?_of_mem ha
      exact f.done i ((List.getElem?_eq_some_iff.1 hi).1) a hi b h1 h2 hr
    simpa using this
  | false =>
    have : b ∉ t := fun h => by have := f.reach b h; rw [e] at this; cases this
    simpa using this
theorem FoundM.small (g : s.Good N) {n : Nat} {t : List Nat} (f : FoundM s n t) : t.length ≤ N := by
  have := nodup_le (l' := (List.range N).map (· + 1)) f.once fun b hb => by
    have := reach_range s s.N b (f.reach b hb)
    rw [g.sN] at this
    exact List.mem_map.2 ⟨b - 1, List.mem_range.2 (by omega), by omega⟩
  simpa using this
theorem FoundM.range (g : s.Good N) {n : Nat} {t : List Nat} (f : FoundM s n t) {b : Nat} (hb : b ∈ t) : 1 ≤ b ∧ b ≤ N := by
  have := reach_range s s.N b (f.reach b hb)
  rw [g.sN] at this
  exact this
end

end Go.Proofs.YtpmkjeihbddfpabDoor

/- OUR OWN. A new object waits: sorted ahead of it or with it left out, it is the same. -/
namespace Go.Proofs.YtpmkjeihbddfpabDoor
set_option linter.unusedVariables false
set_option linter.unusedSimpArgs false

def newOb (n : Nat) : Ob := ⟨true, List.replicate n (0, 0), false, false⟩
theorem put_enq {s : St} {b k : Nat} (o : Ob) (hk : k ≠ b) (hl : b < s.objs.length) : (s.put b o).enq k = (s.enq k).put b o := by
  unfold St.enq
  rw [ob_put o k hl, if_neg hk]
  unfold St.put
  simp only
  rw [List.set_comm _ _ (fun e => hk e.symm)]
theorem lay_others {s : St} {N : Nat} (g : s.Good N) {b n : Nat} (hb : (s.ob b).here = false) (hl : b < s.objs.length) (h1 : 1 ≤ b) {k : Nat} (hk : 1 ≤ k) : (s.put b (newOb n)).others b k = s.others 0 k := by
  unfold St.others St.waits
  rw [ob_put _ k hl]
  have hc : (s.put b (newOb n)).count k = s.count k := count_lay g hb hl h1 k
  by_cases e : k = b
  · subst e; simp [hb]
  · rw [if_neg e, hc]
    have e1 : ((k : Int) ≠ (b : Int)) := by omega
    have e2 : ((k : Int) ≠ 0) := by omega
    rw [decide_eq_true e1, decide_eq_true e2]
theorem lay_sorts {s : St} {N : Nat} (g : s.Good N) {b n : Nat} (hb : (s.ob b).here = false) (hl : b < s.objs.length) (h1 : 1 ≤ b) {k : Nat} (hk : 1 ≤ k) : (s.put b (newOb n)).sorts b k = s.sorts 0 k := by
  have h := lay_others (n := n) g hb hl h1 hk
  unfold St.others at h
  unfold St.sorts
  have hr : (s.put b (newOb n)).rooted k = s.rooted k := rfl
  rw [hr]
  have e : ∀ x y z : Bool, (x && y && z) = (x && z && y) := by decide
  rw [e, h, e]
theorem lay_sortTo {s : St} {N : Nat} (g : s.Good N) {b n : Nat} (hb : (s.ob b).here = false) (hl : b < s.objs.length) (h1 : 1 ≤ b) (k : Nat) : sortTo b (s.put b (newOb n)) k = (sortTo 0 s k).put b (newOb n) := by
  induction k with
  | zero => rfl
  | succ k ih =>
    have gk := g.sortTo 0 k
    have hbk : ((sortTo 0 s k).ob b).here = false := by rw [(sh_sortTo 0 s k).2 b]; exact hb
    have hlk : b < (sortTo 0 s k).objs.length := by rw [(sortTo_same 0 s k).2.2.1]; exact hl
    unfold sortTo
    rw [ih, lay_sorts gk hbk hlk h1 (by omega)]
    split
    · rename_i h
      refine put_enq _ (fun e => ?_) hlk
      obtain ⟨hw, _⟩ := sorts_iff.1 h
      have := (waits_iff.1 hw).1.1
      rw [e, hbk] at this; cases this
    · rfl
theorem lay_enter {s : St} {N : Nat} (g : s.Good N) (z : Int) {b n : Nat} (hb : (s.ob b).here = false) (hl : b < s.objs.length) (h1 : 1 ≤ b) : (s.put b (newOb n)).enter z b = (s.enter z 0).put b (newOb n) := by
  unfold St.enter
  have hc : countTo ((s.put b (newOb n)).others b) (s.put b (newOb n)).N = countTo (s.others 0) s.N := by
    rw [put_N]
    exact countTo_congr fun k hk _ => lay_others g hb hl h1 hk
  rw [hc]
  split
  · unfold St.sort
    rw [put_N]
    exact lay_sortTo g hb hl h1 _
  · rfl

theorem sum_le {l : List Nat} {k : Nat} (h : ∀ x ∈ l, x ≤ k) : l.sum ≤ k * l.length := by
  induction l with
  | nil => simp
  | cons a l ih =>
    rw [List.sum_cons, List.length_cons, Nat.mul_succ]
    have := h a (by simp)
    have := ih fun x hx => h x (List.mem_cons_of_mem _ hx)
    omega
theorem St.Good.count_le {s : St} {N : Nat} (g : s.Good N) (b : Int) : s.count b ≤ 4 * N := by
  unfold St.count
  have h := sum_le (l := s.objs.tail.map (obCount b)) (k := 4) fun x hx => by
    obtain ⟨o, ho, rfl⟩ := List.mem_map.1 hx
    obtain ⟨i, _, _, rfl⟩ := ob_tail.1 ho
    have h4 := g.four i
    unfold obCount
    split
    · exact Nat.le_trans List.countP_le_length h4
    · omega
  have hl : (s.objs.tail.map (obCount b)).length = N := by rw [List.length_map, List.length_tail, g.len]; rfl
  rw [hl] at h
  exact h

end Go.Proofs.YtpmkjeihbddfpabDoor

/- OUR OWN. Freeing the first of the queue, by cases: without memory. -/
namespace Go.Proofs.YtpmkjeihbddfpabDoor
set_option linter.unusedVariables false
set_option linter.unusedSimpArgs false

theorem letGo_not {z : Int} {b k : Nat} {s : St} (h : ((s.ob b).fs.getD k (0, 0)).1 ≠ 2) : letGo z b k s = s.field b k (0, 0) := by unfold letGo; exact if_pos h
theorem letGo_held {z : Int} {b k : Nat} {s : St} {i : Nat} (h : (s.ob b).fs.getD k (0, 0) = (2, (i : Int))) (hc : 0 < (s.field b k (0, 0)).count i ∨ ((s.field b k (0, 0)).ob i).stuck = true) : letGo z b k s = s.field b k (0, 0) := by
  unfold letGo; rw [h]; exact (if_neg (by simp)).trans (if_pos hc)
theorem letGo_root {z : Int} {b k : Nat} {s : St} {i : Nat} (h : (s.ob b).fs.getD k (0, 0) = (2, (i : Int))) (hc : (s.field b k (0, 0)).count i = 0) (hs : ((s.field b k (0, 0)).ob i).stuck = false) (hr : (s.field b k (0, 0)).rooted i = true) :
    letGo z b k s = (s.field b k (0, 0)).enter z i := by
  unfold letGo; rw [h]
  refine (if_neg (by simp)).trans ((if_neg ?_).trans (if_pos hr))
  rintro (h1 | h1)
  · have h2 : 0 < (s.field b k (0, 0)).count i := h1
    omega
  · have h2 : ((s.field b k (0, 0)).ob i).stuck = true := h1
    rw [hs] at h2; cases h2
theorem letGo_queue {z : Int} {b k : Nat} {s : St} {i : Nat} (h : (s.ob b).fs.getD k (0, 0) = (2, (i : Int))) (hc : (s.field b k (0, 0)).count i = 0) (hs : ((s.field b k (0, 0)).ob i).stuck = false) (hr : (s.field b k (0, 0)).rooted i = false) :
    letGo z b k s = (s.field b k (0, 0)).enq i := by
  unfold letGo; rw [h]
  refine (if_neg (by simp)).trans ((if_neg ?_).trans ((if_neg ?_).trans ?_))
  · rintro (h1 | h1)
    · have h2 : 0 < (s.field b k (0, 0)).count i := h1
      omega
    · have h2 : ((s.field b k (0, 0)).ob i).stuck = true := h1
      rw [hs] at h2; cases h2
  · intro h1
    have h2 : (s.field b k (0, 0)).rooted i = true := h1
    rw [hr] at h2; cases h2
  · rfl

theorem free_iff {s : St} {k : Nat} (h : free? s = some k) : k + 1 < s.objs.length ∧ (s.ob (k + 1)).here = false ∧ ∀ j, j < k → (s.ob (j + 1)).here = true := by
  unfold free? at h
  obtain ⟨hk, h1, h2⟩ := List.findIdx?_eq_some_iff_getElem.1 h
  rw [List.length_tail] at hk
  refine ⟨by omega, ?_, fun j hj => ?_⟩
  · rw [ob_of (List.getElem?_eq_getElem (by omega))]
    simpa using h1
  · have := h2 j hj
    rw [ob_of (List.getElem?_eq_getElem (by omega))]
    simpa using this
theorem free_exists {s : St} {b : Nat} (h1 : 1 ≤ b) (h2 : b < s.objs.length) (hb : (s.ob b).here = false) : ∃ k, free? s = some k := by
  cases e : free? s with
  | some k => exact ⟨k, rfl⟩
  | none =>
    unfold free? at e
    rw [List.findIdx?_eq_none_iff] at e
    have := e (s.ob b) (ob_tail.2 ⟨b, h1, h2, rfl⟩)
    rw [hb] at this; cases this
theorem freed_room {s : St} {N : Nat} (g : s.Good N) (z : Int) (hq : s.queue.length ≠ 0) : ∃ k, free? (s.free z) = some k := by
  obtain ⟨q, e⟩ := g.first hq
  have hb : (s.ob s.first).queued = true := (g.inq s.first).1 (by rw [e]; simp)
  have hh : (s.ob s.first).here = true := by
    cases e2 : (s.ob s.first).here with
    | true => rfl
    | false => rw [g.gone _ e2] at hb; cases hb
  have hz := g.ne_zero hh
  have hl : s.first < (letTo z s.first s (s.ob s.first).fs.length).objs.length := by rw [(letTo_same z s.first s _).2.2.1]; exact here_lt hh
  refine free_exists hz.1 (by rw [(g.freed z hq).len]; omega) ?_
  have : (s.free z).ob s.first = if s.first = s.first then Ob.free else (letTo z s.first s (s.ob s.first).fs.length).ob s.first := getD_set _ _ _ _ hl
  rw [this, if_pos rfl]; rfl
theorem free_stack (s : St) (z : Int) : (s.free z).stack = s.stack := (letTo_same z s.first s _).1

end Go.Proofs.YtpmkjeihbddfpabDoor

