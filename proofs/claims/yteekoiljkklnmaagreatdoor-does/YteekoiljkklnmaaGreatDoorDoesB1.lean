import Derived.Test.YteekoiljkklnmaaGreatDoorRows
import Derived.Test.YteekoiljkklnmaaGreatDoorTie
import Derived.Test.YteekoiljkklnmaaGreatDoorCards
import Derived.WalkKit
import Derived.WalkSpells
import Derived.WalkLawsBesides
import Derived.Deep.QuietTactic
import Derived.BigQuiet
import Derived.Deep.AppendLies
/- OUR OWN. What the walks share: small facts on worlds, closed facts of the program. -/
namespace Go.Proofs.YteekoiljkklnmaaGreatDoor
open Go.RowKit
set_option linter.unusedVariables false
set_option linter.unusedSimpArgs false

/-- What the document calls a configuration. -/
def cfgB (b s g u z o : Int) : Bool :=
  decide (1 ≤ b ∧ b ≤ 99 ∧ 1 ≤ s ∧ s ≤ 16 ∧ 0 ≤ g ∧ g ≤ 8 ∧ 1 ≤ u ∧ u ≤ 99 ∧ s + g < z ∧ z ≤ 99 ∧ 0 ≤ o ∧ o ≤ 9)

theorem ret_int {k : IntKind} {a b : Int} (h : a = b) : Ending.returned (.int k a) = .returned (.int k b) := by rw [h]
theorem ret_bool {a b : Bool} (h : a = b) : Ending.returned (.bool a) = .returned (.bool b) := by rw [h]

def inB (n l m : Int) : Bool := decide (l ≤ n ∧ n ≤ m)

theorem within_yes (n l m : Int) (w : World) (h : inB n l m = true) :
    Calls Tryz.prog 69 #[.int .i64 n, .int .i64 l, .int .i64 m] w fun e w' => e = .returned (.bool true) ∧ w' = w := by
  have ⟨h1, h2⟩ : l ≤ n ∧ n ≤ m := by simpa [inB] using h
  clear h
  go_enter Tryz.func69, Tryz.ntmps69
  go_wp2
  go_ret
  exact ⟨rfl, rfl⟩

theorem within_no (n l m : Int) (w : World) (h : inB n l m = false) :
    Calls Tryz.prog 69 #[.int .i64 n, .int .i64 l, .int .i64 m] w fun e w' => e = .returned (.bool false) ∧ w' = w := by
  have h0 : ¬ (l ≤ n ∧ n ≤ m) := by simpa [inB] using h
  clear h
  by_cases h1 : l ≤ n
  · have h2 : ¬ n ≤ m := fun h => h0 ⟨h1, h⟩
    clear h0
    go_enter Tryz.func69, Tryz.ntmps69
    go_wp2
    go_ret
    exact ⟨rfl, rfl⟩
  · clear h0
    go_enter Tryz.func69, Tryz.ntmps69
    go_wp2
    go_ret
    exact ⟨rfl, rfl⟩

/-! ### Blocks that are known whole -/
theorem heap_setCell_at {w : World} {b i : Nat} {c : Array Value} {e : TypeId} {fr : Nat × Nat} (h : w.heap[b]? = some (.cells c e fr)) (v : Value) :
    (w.setCell ⟨b, i, none⟩ v).heap[b]? = some (.cells (c.setIfInBounds i v) e fr) := by
  simp [World.setCell, Array.getElem?_modify, h]

theorem cell_of_heap {w : World} {b i : Nat} {c : Array Value} {e : TypeId} {fr : Nat × Nat} {v : Value} (h : w.heap[b]? = some (.cells c e fr)) (hi : c[i]? = some v) :
    w.cell? ⟨b, i, none⟩ = some v := by simp [World.cell?, h, hi]

theorem frozen_of_heap {w : World} {b i : Nat} {c : Array Value} {e : TypeId} (h : w.heap[b]? = some (.cells c e (0, 0))) : w.frozen? ⟨b, i, none⟩ = false := by
  simp [World.frozen?, h]

theorem lt_of_heap {w : World} {b : Nat} {o : Obj} (h : w.heap[b]? = some o) : b < w.heap.size := by
  rcases Nat.lt_or_ge b w.heap.size with h1 | h1
  · exact h1
  · rw [Array.getElem?_eq_none h1] at h; cases h

theorem hao {w : World} {o : Obj} {k : Nat} (h : k < w.heap.size) : (w.alloc o).heap[k]? = w.heap[k]? := Below.heap_alloc _ _ _ h

theorem news_new (w : World) (cs : List Value) (t : TypeId) : ∀ j u, cs[j]? = some u → (w.alloc (.cells cs.toArray t)).cell? ((⟨w.heap.size, 0, none⟩ : Addr).add j) = some u :=
  World.news_of_block (cs := cs.toArray) (fr := (0, 0)) (heap_alloc_new w _)

/-- nothing old has turned but the blocks of F -/
structure Off (F : List Nat) (w w' : World) : Prop where
  os : w'.os = w.os
  tape : w'.tape = w.tape
  output : w'.output = w.output
  size : w.heap.size ≤ w'.heap.size
  block : ∀ k, k < w.heap.size → k ∉ F → w'.heap[k]? = w.heap[k]?

theorem Off.of_below {F : List Nat} {w w' : World} (h : Below w.heap.size w w') : Off F w w' := ⟨h.os, h.tape, h.output, h.size, fun k hk _ => h.block k hk⟩
theorem Off.below {F : List Nat} {B : Nat} {w w' : World} (h : Off F w w') (hB : B ≤ w.heap.size) (hF : ∀ g ∈ F, B ≤ g) : Below B w w' :=
  ⟨h.os, h.tape, h.output, h.size, fun k hk => h.block k (by omega) fun e => by have := hF k e; omega⟩
theorem Off.trans {F : List Nat} {a b c : World} (h : Off F a b) (k : Off F b c) : Off F a c :=
  ⟨k.os.trans h.os, k.tape.trans h.tape, k.output.trans h.output, Nat.le_trans h.size k.size, fun i hi hF => (k.block i (Nat.lt_of_lt_of_le hi h.size) hF).trans (h.block i hi hF)⟩

theorem own_nil {w : World} {e : TypeId} {size : Nat} : w.ownsRow 0 e size (.slice none 0 0) 0 [] := World.ownsRow_nil _ _ _ _

/-- a row that is owned stays owned where its block stays -/
theorem own_carry {w w' : World} {base : Nat} {e : TypeId} {size : Nat} {v : Value} {n : Nat} {xs : List Value} (h : w.ownsRow base e size v n xs)
    (hb : ∀ g, v.ownBlock = some g → w'.heap[g]? = w.heap[g]?) : w'.ownsRow base e size v n xs := by
  refine ⟨h.1, ?_⟩
  rcases h.2 with hn | ⟨g, cap, cur, rfl, h1, h2, rest⟩
  · exact .inl hn
  · exact .inr ⟨g, cap, cur, rfl, h1, by rw [hb g rfl]; exact h2, rest⟩

theorem own_base {w : World} {base base' : Nat} {e : TypeId} {size : Nat} {v : Value} {n : Nat} {xs : List Value} (h : w.ownsRow base e size v n xs) (hb : base' ≤ base) : w.ownsRow base' e size v n xs := by
  refine ⟨h.1, ?_⟩
  rcases h.2 with hn | ⟨g, cap, cur, rfl, h1, rest⟩
  · exact .inl hn
  · exact .inr ⟨g, cap, cur, rfl, by omega, rest⟩

theorem own_lt {w : World} {base : Nat} {e : TypeId} {size : Nat} {v : Value} {n : Nat} {xs : List Value} (h : w.ownsRow base e size v n xs) {g : Nat} (hg : v.ownBlock = some g) : base ≤ g ∧ g < w.heap.size := h.lt g hg

/-! ### A slice that may be a window of its block (what q[1:] leaves); cells of one value -/
def ownsWin (w : World) (e : TypeId) (v : Value) (n : Nat) (xs : List Value) : Prop :=
  xs.length = n ∧ ((v = .slice none 0 0 ∧ n = 0) ∨
    ∃ g off cap cur, v = .slice (some ⟨g, off, none⟩) n cap ∧ w.heap[g]? = some (.cells cur e (0, 0)) ∧ n ≤ cap ∧ cap ≤ maxLen ∧ off + cap ≤ cur.size ∧ ∀ j u, xs[j]? = some u → cur[off + j]? = some u)

theorem win_nil {w : World} {e : TypeId} : ownsWin w e (.slice none 0 0) 0 [] := ⟨rfl, .inl ⟨rfl, rfl⟩⟩
theorem win_carry {w w' : World} {e : TypeId} {v : Value} {n : Nat} {xs : List Value} (h : ownsWin w e v n xs) (hb : ∀ g, v.ownBlock = some g → w'.heap[g]? = w.heap[g]?) : ownsWin w' e v n xs := by
  refine ⟨h.1, ?_⟩
  rcases h.2 with hn | ⟨g, off, cap, cur, rfl, h1, rest⟩
  · exact .inl hn
  · exact .inr ⟨g, off, cap, cur, rfl, by rw [hb g rfl]; exact h1, rest⟩
theorem win_lt {w : World} {e : TypeId} {v : Value} {n : Nat} {xs : List Value} (h : ownsWin w e v n xs) {g : Nat} (hg : v.ownBlock = some g) : g < w.heap.size := by
  rcases h.2 with ⟨rfl, _⟩ | ⟨g', off, cap, cur, rfl, h1, _⟩
  · cases hg
  · have : g' = g := by simpa [Value.ownBlock] using hg
    subst this
    exact lt_of_heap h1
theorem win_slice {w : World} {e : TypeId} {v : Value} {n : Nat} {xs : List Value} (h : ownsWin w e v n xs) : ∃ ao cap, v = .slice ao n cap := by
  rcases h.2 with ⟨hv, hn⟩ | ⟨g, off, cap, cur, hv, _⟩
  · exact ⟨none, 0, by rw [hv, hn]⟩
  · exact ⟨_, _, hv⟩
theorem win_view {w : World} {e : TypeId} {v : Value} {n : Nat} {xs : List Value} (h : ownsWin w e v n xs) (hn : 0 < n) :
    ∃ g off cap, v = .slice (some ⟨g, off, none⟩) n cap ∧ g < w.heap.size ∧ v.ownBlock = some g ∧ n ≤ cap ∧ (∀ j u, xs[j]? = some u → w.cell? ⟨g, off + j, none⟩ = some u) ∧ ∀ j, w.frozen? ⟨g, j, none⟩ = false := by
  rcases h.2 with ⟨_, h0⟩ | ⟨g, off, cap, cur, rfl, hg, hnc, _, _, hx⟩
  · omega
  · exact ⟨g, off, cap, rfl, lt_of_heap hg, rfl, hnc, fun j u hu => cell_of_heap hg (hx j u hu), fun j => frozen_of_heap hg⟩
theorem win_of_row {w : World} {base : Nat} {e : TypeId} {v : Value} {n : Nat} {xs : List Value} (h : w.ownsRow base e 1 v n xs) : ownsWin w e v n xs := by
  refine ⟨by rw [h.1, Nat.mul_one], ?_⟩
  rcases h.2 with hn | ⟨g, cap, cur, rfl, _, h1, h2, h3, h4, h5⟩
  · exact .inl hn
  · refine .inr ⟨g, 0, cap, cur, rfl, h1, h2, h3, by omega, fun j u hu => ?_⟩
    rw [← h5, Nat.mul_one, List.getElem?_take] at hu
    rw [Nat.zero_add]
    split at hu
    · simpa using hu
    · cases hu

/-! ### The document's heap, as it lies in memory -/
/-- a value: kind and number -/
def valCells (v : Int × Int) : List Value := [.int .i64 v.1, .int .i64 v.2]

/-- what a block has, and where its fields lie -/
structure RObj where
  here : Bool
  vF : Value
  fs : List (Int × Int)
  stuck : Bool
  queued : Bool

def RObj.cells (o : RObj) : List Value := [.bool o.here, o.vF, .bool o.stuck, .bool o.queued]
def RObj.free : RObj := ⟨false, .slice none 0 0, [], false, false⟩

structure RefM where
  most : Int
  deep : Int
  budget : Int
  zero : Int
  over : Int
  vB : Value
  vQ : Value
  vS : Value
  vG : Value
  objs : List RObj
  queue : List Int
  stack : List (Int × Int)
  globals : List (Int × Int)

def RefM.head (m : RefM) : Obj :=
  .cells #[.int .i64 m.most, .int .i64 m.deep, .int .i64 m.budget, .int .i64 m.zero, .int .i64 m.over, m.vB, m.vQ, m.vS, m.vG] 45

/-- the blocks in which its rows lie -/
def RefM.foot (m : RefM) : List Nat := ([m.vB, m.vQ, m.vS, m.vG] ++ m.objs.map RObj.vF).filterMap Value.ownBlock

structure RefAt (w : World) (h : Nat) (m : RefM) : Prop where
  head : w.heap[h]? = some m.head
  blocks : w.ownsRow 0 54 4 m.vB m.objs.length (m.objs.flatMap RObj.cells)
  queue : ownsWin w 3 m.vQ m.queue.length (m.queue.map (Value.int .i64))
  stack : w.ownsRow 0 78 2 m.vS m.stack.length (m.stack.flatMap valCells)
  globals : w.ownsRow 0 78 2 m.vG m.globals.length (m.globals.flatMap valCells)
  fields : ∀ o ∈ m.objs, w.ownsRow 0 78 2 o.vF o.fs.length (o.fs.flatMap valCells)
  apart : (h :: m.foot).Nodup

theorem RefAt.carry {w w' : World} {h : Nat} {m : RefM} (r : RefAt w h m) (hb : ∀ g, g ∈ h :: m.foot → w'.heap[g]? = w.heap[g]?) : RefAt w' h m := by
  have hv : ∀ v ∈ [m.vB, m.vQ, m.vS, m.vG] ++ m.objs.map RObj.vF, ∀ g, v.ownBlock = some g → w'.heap[g]? = w.heap[g]? := fun v hv g hg =>
    hb g (List.mem_cons_of_mem _ (List.mem_filterMap.2 ⟨v, hv, hg⟩))
  exact ⟨by rw [hb h (by simp)]; exact r.head, own_carry r.blocks (hv _ (by simp)), win_carry r.queue (hv _ (by simp)), own_carry r.stack (hv _ (by simp)), own_carry r.globals (hv _ (by simp)),
    fun o ho => own_carry (r.fields o ho) (hv _ (List.mem_append_right _ (List.mem_map_of_mem ho))), r.apart⟩

theorem RefAt.lt {w : World} {h : Nat} {m : RefM} (r : RefAt w h m) : ∀ g ∈ h :: m.foot, g < w.heap.size := by
  intro g hg
  rcases List.mem_cons.1 hg with rfl | hg
  · exact lt_of_heap r.head
  · obtain ⟨v, hv, hg⟩ := List.mem_filterMap.1 hg
    rcases List.mem_append.1 hv with hv | hv
    · simp at hv
      rcases hv with rfl | rfl | rfl | rfl
      · exact (own_lt r.blocks hg).2
      · exact win_lt r.queue hg
      · exact (own_lt r.stack hg).2
      · exact (own_lt r.globals hg).2
    · obtain ⟨o, ho, rfl⟩ := List.mem_map.1 hv
      exact (own_lt (r.fields o ho) hg).2

end Go.Proofs.YteekoiljkklnmaaGreatDoor

/- OUR OWN. What an operation does, and answers, by the document: without memory. -/
namespace Go.Proofs.YteekoiljkklnmaaGreatDoor
set_option linter.unusedVariables false
set_option linter.unusedSimpArgs false

/-- what a block has -/
structure Ob where
  here : Bool
  fs : List (Int × Int)
  stuck : Bool
  queued : Bool
def Ob.free : Ob := ⟨false, [], false, false⟩

/-- of the configuration: what never changes -/
structure Cf where
  deep : Int
  budget : Int
  zero : Int
  over : Int

structure St where
  stack : List (Int × Int)
  globals : List (Int × Int)
  objs : List Ob
  queue : List Int

/-! ### What is counted -/
def refsN (l : List (Int × Int)) (b : Int) : Nat := l.countP fun v => v.1 == 2 && v.2 == b
/-- how many of the blocks 1 to k -/
def countTo (p : Nat → Bool) (k : Nat) : Nat := (List.range k).countP fun j => p (j + 1)
theorem countTo_succ (p : Nat → Bool) (k : Nat) : countTo p (k + 1) = countTo p k + if p (k + 1) then 1 else 0 := by
  unfold countTo
  rw [List.range_succ, List.countP_append, List.countP_cons, List.countP_nil]
  simp
theorem countTo_le (p : Nat → Bool) (k : Nat) : countTo p k ≤ k := by
  have := List.countP_le_length (p := fun j => p (j + 1)) (l := List.range k)
  simpa [countTo] using this

def obCount (b : Int) (o : Ob) : Nat := if o.here then refsN o.fs b else 0
def St.N (s : St) : Nat := s.objs.length - 1
def St.ob (s : St) (i : Nat) : Ob := s.objs.getD i Ob.free
def St.count (s : St) (b : Int) : Nat := (s.objs.tail.map (obCount b)).sum
def St.rooted (s : St) (b : Int) : Bool := decide (0 < refsN s.stack b + refsN s.globals b)
def St.waits (s : St) (i : Nat) : Bool := (s.ob i).here && !(s.ob i).stuck && !(s.ob i).queued && decide (s.count i = 0)
def St.extra (s : St) (i : Nat) : Bool := (s.ob i).here && !(s.ob i).stuck && decide (7 < s.count i)
def St.extras (s : St) : Nat := countTo s.extra s.N
def St.others (s : St) (but : Int) (k : Nat) : Bool := s.waits k && decide ((k : Int) ≠ but)
def St.sorts (s : St) (but : Int) (k : Nat) : Bool := s.waits k && !s.rooted k && decide ((k : Int) ≠ but)

/-! ### What is turned -/
def St.put (s : St) (i : Nat) (o : Ob) : St := { s with objs := s.objs.set i o }
def St.enq (s : St) (i : Nat) : St := { s with objs := s.objs.set i { s.ob i with queued := true }, queue := s.queue ++ [(i : Int)] }
def St.stick (s : St) (i : Nat) : St := s.put i { s.ob i with stuck := true }
def St.field (s : St) (i k : Nat) (v : Int × Int) : St := s.put i { s.ob i with fs := (s.ob i).fs.set k v }
def sortTo (but : Int) (s : St) : Nat → St
  | 0 => s
  | k + 1 => if (sortTo but s k).sorts but (k + 1) then (sortTo but s k).enq (k + 1) else sortTo but s k
def St.sort (s : St) (but : Int) : St := sortTo but s s.N
def St.enter (s : St) (zero : Int) (but : Int) : St := if zero ≤ countTo (s.others but) s.N then s.sort but else s

/-! ### Freeing the first of the queue -/
/-- field k of the object in block b becomes nil; what it had is let go -/
def letGo (zero : Int) (b k : Nat) (s : St) : St :=
  if ((s.ob b).fs.getD k (0, 0)).1 ≠ 2 then s.field b k (0, 0) else
  if 0 < (s.field b k (0, 0)).count ((s.ob b).fs.getD k (0, 0)).2 ∨ ((s.field b k (0, 0)).ob ((s.ob b).fs.getD k (0, 0)).2.toNat).stuck = true then s.field b k (0, 0) else
  if (s.field b k (0, 0)).rooted ((s.ob b).fs.getD k (0, 0)).2 = true then (s.field b k (0, 0)).enter zero ((s.ob b).fs.getD k (0, 0)).2 else
  (s.field b k (0, 0)).enq ((s.ob b).fs.getD k (0, 0)).2.toNat
def letTo (zero : Int) (b : Nat) (s : St) : Nat → St
  | 0 => s
  | k + 1 => letGo zero b k (letTo zero b s k)
/-- the object leaves the queue, its block is free -/
def St.leave (s : St) (b : Nat) : St := { s with objs := s.objs.set b Ob.free, queue := s.queue.tail }
def St.first (s : St) : Nat := (s.queue.headD 0).toNat
def St.free (s : St) (zero : Int) : St := (letTo zero s.first s (s.ob s.first).fs.length).leave s.first
def safeN (zero : Int) : Nat → St → St × Nat
  | 0, s => (s, 0)
  | k + 1, s => if s.queue.length = 0 then (s, 0) else ((safeN zero k (s.free zero)).1, (safeN zero k (s.free zero)).2 + 1)
def St.safe (s : St) (c : Cf) : St × Nat := safeN c.zero c.budget.toNat (s.sort 0)

/-! ### A collection -/
/-- reachable, by at most so many steps -/
def reachK (s : St) : Nat → Nat → Bool
  | 0, b => decide (1 ≤ b ∧ b ≤ s.N) && s.rooted b
  | k + 1, b => reachK s k b || (decide (1 ≤ b ∧ b ≤ s.N) && (List.range (s.N + 1)).any fun a => reachK s k a && decide (0 < refsN (s.ob a).fs b))
def St.reachB (s : St) (b : Nat) : Bool := reachK s s.N b
/-- without what is not reachable; none is stuck, none in the queue -/
def sweptOb (s : St) (i : Nat) (o : Ob) : Ob := if i = 0 then o else if o.here && !s.reachB i then Ob.free else { o with stuck := false, queued := false }
def St.swept (s : St) : St := { s with objs := s.objs.mapIdx (sweptOb s), queue := [] }
def St.over7 (s : St) (b : Nat) : Bool := decide (7 < s.count b)
def stuckOb (over : Int) (s : St) (i : Nat) (o : Ob) : Ob := if i ≠ 0 ∧ s.over7 i = true ∧ over ≤ countTo s.over7 (i - 1) then { o with stuck := true } else o
def St.restuck (s : St) (over : Int) : St := { s with objs := s.objs.mapIdx (stuckOb over s) }
def St.collect (s : St) (over : Int) : St := s.swept.restuck over
def St.gone (s : St) : Nat := countTo (fun b => (s.ob b).here && !s.reachB b) s.N

/-! ### The operations -/
def St.pop (s : St) (k : Nat) : St := { s with stack := s.stack.take (s.stack.length - k) }
def St.down (s : St) (k : Nat) : Int × Int := s.stack.getD (s.stack.length - 1 - k) (0, 0)
def St.fields (s : St) (b : Int) : List (Int × Int) := (s.ob b.toNat).fs
def pushS (deep : Int) (s : St) (v : Int × Int) : St × Int := if deep ≤ s.stack.length then (s, 7) else ({ s with stack := s.stack ++ [v] }, 0)
def objErr (v : Int × Int) : Int := if v.1 = 0 then 4 else if v.1 = 1 then 5 else 0
def pushA (deep : Int) (s : St) (v : Int × Int) : St × Int × Int := ((pushS deep s v).1, 0, (pushS deep s v).2)
def free? (s : St) : Option Nat := s.objs.tail.findIdx? (fun o => !o.here)

/-- what a heap does that has no free block -/
def roomS (c : Cf) (s : St) : St :=
  match free? s with
  | some _ => s
  | none => if 0 < s.queue.length then s.free c.zero else s.collect c.over
/-- a new object in block b, with n fields; then a reference to it is pushed -/
def layS (zero : Int) (s : St) (b : Nat) (n : Nat) : St :=
  { (s.put b ⟨true, List.replicate n (0, 0), false, false⟩).enter zero b with stack := s.stack ++ [(2, (b : Int))] }
def newS (c : Cf) (s : St) (n : Int) : St × Int × Int :=
  if n < 0 ∨ 4 < n then (s, 0, 6) else if c.deep ≤ s.stack.length then (s, 0, 7) else
  match free? (roomS c s) with
  | none => (roomS c s, 0, 8)
  | some k => (layS c.zero (roomS c s) (k + 1) n.toNat, 0, 0)

def loadS (deep : Int) (s : St) (n : Int) : St × Int × Int :=
  if s.stack.length < 1 then (s, 0, 3) else if objErr (s.down 0) ≠ 0 then (s, 0, objErr (s.down 0)) else
  if n < 0 ∨ ((s.fields (s.down 0).2).length : Int) ≤ n then (s, 0, 6) else pushA deep (s.pop 1) ((s.fields (s.down 0).2).getD n.toNat (0, 0))

/-- the new value's object counts the field -/
def stickS (over : Int) (s : St) (x : Int × Int) : St := if x.1 = 2 ∧ s.count x.2 = 7 ∧ over ≤ s.extras then s.stick x.2.toNat else s
/-- the old value's object counts the field no more -/
def dropS' (zero : Int) (s : St) (y : Int × Int) : St := if y.1 = 2 ∧ (s.ob y.2.toNat).stuck = false ∧ s.count y.2 = 0 then s.enter zero y.2 else s
def putS (c : Cf) (s : St) (i k : Nat) (x y : Int × Int) : St :=
  if x.1 = 2 ∧ y = x then s else dropS' c.zero ((stickS c.over s x).field i k x) y
def storeS (c : Cf) (s : St) (n : Int) : St × Int × Int :=
  if s.stack.length < 2 then (s, 0, 3) else if objErr (s.down 1) ≠ 0 then (s, 0, objErr (s.down 1)) else
  if n < 0 ∨ ((s.fields (s.down 1).2).length : Int) ≤ n then (s, 0, 6) else
  (putS c (s.pop 2) (s.down 1).2.toNat n.toNat (s.down 0) ((s.fields (s.down 1).2).getD n.toNat (0, 0)), 0, 0)

def dupS (deep : Int) (s : St) (n : Int) : St × Int × Int := if n < 0 ∨ (s.stack.length : Int) ≤ n then (s, 0, 6) else pushA deep s (s.down n.toNat)
def dropS (s : St) : St × Int × Int := if s.stack.length < 1 then (s, 0, 3) else (s.pop 1, 0, 0)
def getS (deep : Int) (s : St) (n : Int) : St × Int × Int := if n < 0 ∨ (s.globals.length : Int) ≤ n then (s, 0, 6) else pushA deep s (s.globals.getD n.toNat (0, 0))
def setS (s : St) (n : Int) : St × Int × Int :=
  if n < 0 ∨ (s.globals.length : Int) ≤ n then (s, 0, 6) else if s.stack.length < 1 then (s, 0, 3) else ({ s.pop 1 with globals := s.globals.set n.toNat (s.down 0) }, 0, 0)
def sameS (s : St) : St × Int × Int := if s.stack.length < 2 then (s, 0, 3) else if s.down 0 = s.down 1 then (s.pop 2, 1, 0) else (s.pop 2, 0, 0)
def takeS (s : St) : St × Int × Int := if s.stack.length < 1 then (s, 0, 3) else if (s.down 0).1 = 1 then (s.pop 1, (s.down 0).2, 0) else (s, 0, 5)
def sizeS (s : St) : St × Int × Int := if s.stack.length < 1 then (s, 0, 3) else if objErr (s.down 0) ≠ 0 then (s, 0, objErr (s.down 0)) else (s, (s.fields (s.down 0).2).length, 0)
def kindS (s : St) : St × Int × Int := if s.stack.length < 1 then (s, 0, 3) else (s, (s.down 0).1, 0)

def doS (c : Cf) (s : St) (op n : Int) : St × Int × Int :=
  if op = 0 then pushA c.deep s (0, 0) else if op = 1 then pushA c.deep s (1, n) else if op = 2 then newS c s n else if op = 3 then dupS c.deep s n else if op = 4 then dropS s else
  if op = 5 then getS c.deep s n else if op = 6 then setS s n else if op = 7 then loadS c.deep s n else if op = 8 then storeS c s n else if op = 9 then sameS s else if op = 10 then takeS s else
  if op = 11 then sizeS s else if op = 12 then kindS s else (s, 0, 2)

/-- an operation's answer, where it is not refused, by cases: one rule for whatever stays so -/
theorem doS_keeps (c : Cf) (s : St) (op n : Int) (P : St → Prop) (h : P s) (hpush : ∀ t v, P t → (t = s ∨ t = s.pop 1) → (v = (0, 0) ∨ v = (1, n) ∨ (∃ k, v = s.down k) ∨ (∃ k, v = s.globals.getD k (0, 0)) ∨ ∃ b k, v = (s.fields b).getD k (0, 0)) → (t.stack.length : Int) < c.deep → P { t with stack := t.stack ++ [v] })
    (hpop : ∀ k, P (s.pop k)) (hset : ∀ k, k < s.globals.length → P { s.pop 1 with globals := s.globals.set k (s.down 0) }) (hnew : P (newS c s n).1) (hstore : P (storeS c s n).1) : P (doS c s op n).1 := by
  have hp : ∀ t v, P t → (t = s ∨ t = s.pop 1) → (v = (0, 0) ∨ v = (1, n) ∨ (∃ k, v = s.down k) ∨ (∃ k, v = s.globals.getD k (0, 0)) ∨ ∃ b k, v = (s.fields b).getD k (0, 0)) → P (pushA c.deep t v).1 := fun t v ht hts hv => by
    unfold pushA pushS
    by_cases hd : c.deep ≤ (t.stack.length : Int)
    · rw [if_pos hd]; exact ht
    · rw [if_neg hd]; exact hpush t v ht hts hv (by omega)
  unfold doS
  by_cases h0 : op = 0
  · rw [if_pos h0]; exact hp s _ h (.inl rfl) (.inl rfl)
  rw [if_neg h0]
  by_cases h1 : op = 1
  · rw [if_pos h1]; exact hp s _ h (.inl rfl) (.inr (.inl rfl))
  rw [if_neg h1]
  by_cases h2 : op = 2
  · rw [if_pos h2]; exact hnew
  rw [if_neg h2]
  by_cases h3 : op = 3
  · rw [if_pos h3]; unfold dupS
    by_cases c1 : n < 0 ∨ (s.stack.length : Int) ≤ n
    · rw [if_pos c1]; exact h
    · rw [if_neg c1]; exact hp s _ h (.inl rfl) (.inr (.inr (.inl ⟨_, rfl⟩)))
  rw [if_neg h3]
  by_cases h4 : op = 4
  · rw [if_pos h4]; unfold dropS
    by_cases c1 : s.stack.length < 1
    · rw [if_pos c1]; exact h
    · rw [if_neg c1]; exact hpop 1
  rw [if_neg h4]
  by_cases h5 : op = 5
  · rw [if_pos h5]; unfold getS
    by_cases c1 : n < 0 ∨ (s.globals.length : Int) ≤ n
    · rw [if_pos c1]; exact h
    · rw [if_neg c1]; exact hp s _ h (.inl rfl) (.inr (.inr (.inr (.inl ⟨_, rfl⟩))))
  rw [if_neg h5]
  by_cases h6 : op = 6
  · rw [if_pos h6]; unfold setS
    by_cases c1 : n < 0 ∨ (s.globals.length : Int) ≤ n
    · rw [if_pos c1]; exact h
    rw [if_neg c1]
    by_cases c2 : s.stack.length < 1
    · rw [if_pos c2]; exact h
    · rw [if_neg c2]; exact hset _ (by omega)
  rw [if_neg h6]
  by_cases h7 : op = 7
  · rw [if_pos h7]; unfold loadS
    by_cases c1 : s.stack.length < 1
    · rw [if_pos c1]; exact h
    rw [if_neg c1]
    by_cases c2 : objErr (s.down 0) ≠ 0
    · rw [if_pos c2]; exact h
    rw [if_neg c2]
    by_cases c3 : n < 0 ∨ ((s.fields (s.down 0).2).length : Int) ≤ n
    · rw [if_pos c3]; exact h
    · rw [if_neg c3]; exact hp _ _ (hpop 1) (.inr rfl) (.inr (.inr (.inr (.inr ⟨_, _, rfl⟩))))
  rw [if_neg h7]
  by_cases h8 : op = 8
  · rw [if_pos h8]; exact hstore
  rw [if_neg h8]
  by_cases h9 : op = 9
  · rw [if_pos h9]; unfold sameS
    by_cases c1 : s.stack.length < 2
    · rw [if_pos c1]; exact h
    rw [if_neg c1]
    by_cases c2 : s.down 0 = s.down 1
    · rw [if_pos c2]; exact hpop 2
    · rw [if_neg c2]; exact hpop 2
  rw [if_neg h9]
  by_cases h10 : op = 10
  · rw [if_pos h10]; unfold takeS
    by_cases c1 : s.stack.length < 1
    · rw [if_pos c1]; exact h
    rw [if_neg c1]
    by_cases c2 : (s.down 0).1 = 1
    · rw [if_pos c2]; exact hpop 1
    · rw [if_neg c2]; exact h
  rw [if_neg h10]
  by_cases h11 : op = 11
  · rw [if_pos h11]; unfold sizeS
    by_cases c1 : s.stack.length < 1
    · rw [if_pos c1]; exact h
    rw [if_neg c1]
    by_cases c2 : objErr (s.down 0) ≠ 0
    · rw [if_pos c2]; exact h
    · rw [if_neg c2]; exact h
  rw [if_neg h11]
  by_cases h12 : op = 12
  · rw [if_pos h12]; unfold kindS
    by_cases c1 : s.stack.length < 1
    · rw [if_pos c1]; exact h
    · rw [if_neg c1]; exact h
  rw [if_neg h12]
  exact h

end Go.Proofs.YteekoiljkklnmaaGreatDoor

/- OUR OWN. The document's heap without memory: references keep to the blocks. -/
namespace Go.Proofs.YteekoiljkklnmaaGreatDoor
set_option linter.unusedVariables false
set_option linter.unusedSimpArgs false

/-- a value is nil, a number, or leads to a block -/
def okV (N : Nat) (v : Int × Int) : Prop := v.1 = 0 ∨ v.1 = 1 ∨ (1 ≤ v.2 ∧ v.2 ≤ N)

structure St.Inv (s : St) (N : Nat) : Prop where
  stack : ∀ v ∈ s.stack, okV N v
  globals : ∀ v ∈ s.globals, okV N v
  fields : ∀ o ∈ s.objs, ∀ v ∈ o.fs, okV N v
  len : s.objs.length = N + 1

theorem getD_ok {N : Nat} {l : List (Int × Int)} (h : ∀ v ∈ l, okV N v) (i : Nat) : okV N (l.getD i (0, 0)) := by
  rw [List.getD_eq_getElem?_getD]
  cases hi : l[i]? with
  | none => exact .inl rfl
  | some v => exact h v (List.mem_of_getElem? hi)

theorem ob_of {s : St} {i : Nat} {o : Ob} (h : s.objs[i]? = some o) : s.ob i = o := by unfold St.ob; rw [List.getD_eq_getElem?_getD, h]; rfl
theorem ob_mem (s : St) (i : Nat) : s.ob i ∈ s.objs ∨ s.ob i = Ob.free := by
  unfold St.ob
  rw [List.getD_eq_getElem?_getD]
  cases hi : s.objs[i]? with
  | none => exact .inr rfl
  | some v => exact .inl (List.mem_of_getElem? hi)
theorem St.Inv.ob {s : St} {N : Nat} (h : s.Inv N) (i : Nat) : ∀ v ∈ (s.ob i).fs, okV N v := by
  intro v hv
  rcases ob_mem s i with e | e
  · exact h.fields _ e v hv
  · rw [e] at hv; simp [Ob.free] at hv
theorem St.Inv.N {s : St} {N : Nat} (h : s.Inv N) : s.N = N := by unfold St.N; rw [h.len]; rfl

theorem St.Inv.down {s : St} {N : Nat} (i : s.Inv N) (k : Nat) : okV N (s.down k) := getD_ok i.stack _
theorem St.Inv.pop {s : St} {N : Nat} (i : s.Inv N) (k : Nat) : (s.pop k).Inv N := ⟨fun v hv => i.stack v (List.mem_of_mem_take hv), i.globals, i.fields, i.len⟩
theorem St.Inv.field {s : St} {N : Nat} (i : s.Inv N) (b : Int) : ∀ v ∈ s.fields b, okV N v := i.ob _
theorem St.Inv.pushed {s : St} {N : Nat} (i : s.Inv N) {v : Int × Int} (hv : okV N v) : ({ s with stack := s.stack ++ [v] } : St).Inv N :=
  ⟨fun x hx => by rcases List.mem_append.1 hx with e | e; · exact i.stack x e
                  · simp at e; subst e; exact hv, i.globals, i.fields, i.len⟩
theorem St.Inv.push {s : St} {N : Nat} (i : s.Inv N) (deep : Int) {v : Int × Int} (hv : okV N v) : (pushS deep s v).1.Inv N := by
  unfold pushS
  split
  · exact i
  · exact i.pushed hv
theorem inv_push {s : St} {N : Nat} (i : s.Inv N) (deep : Int) {v : Int × Int} (hv : okV N v) : (pushA deep s v).1.Inv N := i.push deep hv

theorem St.Inv.put {s : St} {N : Nat} (h : s.Inv N) (i : Nat) {o : Ob} (ho : ∀ v ∈ o.fs, okV N v) : (s.put i o).Inv N :=
  ⟨h.stack, h.globals, fun x hx => by rcases List.mem_or_eq_of_mem_set hx with e | e; · exact h.fields x e
                                      · subst e; exact ho, by simp [St.put, h.len]⟩
theorem St.Inv.queue {s : St} {N : Nat} (h : s.Inv N) (q : List Int) : ({ s with queue := q } : St).Inv N := ⟨h.stack, h.globals, h.fields, h.len⟩
theorem St.Inv.enq {s : St} {N : Nat} (h : s.Inv N) (i : Nat) : (s.enq i).Inv N := (h.put i (o := { s.ob i with queued := true }) (h.ob i)).queue _
theorem St.Inv.stick {s : St} {N : Nat} (h : s.Inv N) (i : Nat) : (s.stick i).Inv N := h.put i (h.ob i)
theorem St.Inv.setField {s : St} {N : Nat} (h : s.Inv N) (i k : Nat) {v : Int × Int} (hv : okV N v) : (s.field i k v).Inv N :=
  h.put i fun x hx => by rcases List.mem_or_eq_of_mem_set hx with e | e; · exact h.ob i x e
                         · subst e; exact hv
theorem St.Inv.sortTo {s : St} {N : Nat} (h : s.Inv N) (but : Int) (k : Nat) : (sortTo but s k).Inv N := by
  induction k with
  | zero => exact h
  | succ k ih =>
    unfold YteekoiljkklnmaaGreatDoor.sortTo
    split
    · exact ih.enq _
    · exact ih
theorem St.Inv.sort {s : St} {N : Nat} (h : s.Inv N) (but : Int) : (s.sort but).Inv N := h.sortTo but _
theorem St.Inv.enter {s : St} {N : Nat} (h : s.Inv N) (z but : Int) : (s.enter z but).Inv N := by
  unfold St.enter
  split
  · exact h.sort but
  · exact h
theorem St.Inv.letGo {s : St} {N : Nat} (h : s.Inv N) (z : Int) (b k : Nat) : (letGo z b k s).Inv N := by
  have h1 : (s.field b k (0, 0)).Inv N := h.setField b k (.inl rfl)
  unfold YteekoiljkklnmaaGreatDoor.letGo
  split
  · exact h1
  · split
    · exact h1
    · split
      · exact h1.enter _ _
      · exact h1.enq _
theorem St.Inv.letTo {s : St} {N : Nat} (h : s.Inv N) (z : Int) (b k : Nat) : (letTo z b s k).Inv N := by
  induction k with
  | zero => exact h
  | succ k ih => exact ih.letGo z b k
theorem St.Inv.leave {s : St} {N : Nat} (h : s.Inv N) (b : Nat) : (s.leave b).Inv N := (h.put b (o := Ob.free) (fun v hv => by simp [Ob.free] at hv)).queue _
theorem St.Inv.freed {s : St} {N : Nat} (h : s.Inv N) (z : Int) : (s.free z).Inv N := (h.letTo z _ _).leave _
theorem St.Inv.safeN {N : Nat} (z : Int) (k : Nat) : ∀ {s : St}, s.Inv N → (safeN z k s).1.Inv N := by
  induction k with
  | zero => intro s h; exact h
  | succ k ih =>
    intro s h
    unfold YteekoiljkklnmaaGreatDoor.safeN
    split
    · exact h
    · exact ih (h.freed z)
theorem St.Inv.safe {s : St} {N : Nat} (h : s.Inv N) (c : Cf) : (s.safe c).1.Inv N := St.Inv.safeN _ _ (h.sort 0)

theorem St.Inv.mapped {s : St} {N : Nat} (h : s.Inv N) (f : Nat → Ob → Ob) (hf : ∀ i o, ∀ v ∈ (f i o).fs, v ∈ o.fs) : ({ s with objs := s.objs.mapIdx f } : St).Inv N :=
  ⟨h.stack, h.globals, fun x hx v hv => by
    obtain ⟨i, hi, rfl⟩ := List.mem_mapIdx.1 hx
    exact h.fields _ (List.getElem_mem hi) v (hf _ _ v hv), by simp [h.len]⟩
theorem St.Inv.collect {s : St} {N : Nat} (h : s.Inv N) (over : Int) : (s.collect over).Inv N := by
  have h1 : s.swept.Inv N := by
    refine (h.mapped (sweptOb s) fun i o v hv => ?_).queue []
    unfold sweptOb at hv
    split at hv
    · exact hv
    · split at hv
      · simp [Ob.free] at hv
      · exact hv
  refine h1.mapped (stuckOb over s.swept) fun i o v hv => ?_
  unfold stuckOb at hv
  split at hv <;> exact hv

theorem free_lt {s : St} {k : Nat} {N : Nat} (hl : s.objs.length = N + 1) (h : free? s = some k) : k < N := by
  unfold free? at h
  have := (List.findIdx?_eq_some_iff_getElem.1 h).1
  rw [List.length_tail, hl] at this
  omega

theorem St.Inv.room {s : St} {N : Nat} (h : s.Inv N) (c : Cf) : (roomS c s).Inv N := by
  unfold roomS
  split
  · exact h
  · split
    · exact h.freed _
    · exact h.collect _
theorem St.Inv.lay {s : St} {N : Nat} (h : s.Inv N) (z : Int) (b n : Nat) (h1 : 1 ≤ b) (h2 : b ≤ N) : (layS z s b n).Inv N := by
  have h3 := (h.put b (o := ⟨true, List.replicate n (0, 0), false, false⟩) (fun v hv => by simp at hv; rw [hv.2]; exact .inl rfl)).enter z b
  exact ⟨fun v hv => by rcases List.mem_append.1 hv with e | e; · exact h.stack v e
                        · simp at e; subst e; exact .inr (.inr ⟨by show 1 ≤ (b : Int); omega, by show (b : Int) ≤ N; omega⟩), h3.globals, h3.fields, h3.len⟩
theorem inv_new {s : St} {N : Nat} (i : s.Inv N) (c : Cf) (n : Int) : (newS c s n).1.Inv N := by
  unfold newS
  by_cases h1 : n < 0 ∨ 4 < n
  · rw [if_pos h1]; exact i
  rw [if_neg h1]
  by_cases h2 : c.deep ≤ s.stack.length
  · rw [if_pos h2]; exact i
  rw [if_neg h2]
  cases hk : free? (roomS c s) with
  | none => exact i.room c
  | some k =>
    have hkN := free_lt (i.room c).len hk
    exact (i.room c).lay _ _ _ (by omega) (by omega)
theorem St.Inv.stickS {s : St} {N : Nat} (h : s.Inv N) (o : Int) (x : Int × Int) : (stickS o s x).Inv N := by
  unfold YteekoiljkklnmaaGreatDoor.stickS
  split
  · exact h.stick _
  · exact h
theorem inv_put {s : St} {N : Nat} (h : s.Inv N) (c : Cf) (i k : Nat) {x y : Int × Int} (hx : okV N x) : (putS c s i k x y).Inv N := by
  unfold putS
  split
  · exact h
  · unfold dropS'
    split
    · exact ((h.stickS _ x).setField i k hx).enter _ _
    · exact (h.stickS _ x).setField i k hx
theorem inv_store {s : St} {N : Nat} (i : s.Inv N) (c : Cf) (n : Int) : (storeS c s n).1.Inv N := by
  unfold storeS
  by_cases h1 : s.stack.length < 2
  · rw [if_pos h1]; exact i
  rw [if_neg h1]
  by_cases h2 : objErr (s.down 1) ≠ 0
  · rw [if_pos h2]; exact i
  rw [if_neg h2]
  by_cases h3 : n < 0 ∨ ((s.fields (s.down 1).2).length : Int) ≤ n
  · rw [if_pos h3]; exact i
  rw [if_neg h3]
  exact inv_put (i.pop 2) c _ _ (i.down 0)
theorem inv_do {s : St} {N : Nat} (i : s.Inv N) (c : Cf) (op n : Int) : (doS c s op n).1.Inv N := by
  refine doS_keeps c s op n (fun t => t.Inv N) i ?_ (fun k => i.pop k) ?_ (inv_new i c n) (inv_store i c n)
  · intro t v ht _ hv _
    refine ht.pushed ?_
    rcases hv with rfl | rfl | ⟨k, rfl⟩ | ⟨k, rfl⟩ | ⟨b, k, rfl⟩
    · exact .inl rfl
    · exact .inr (.inl rfl)
    · exact i.down k
    · exact getD_ok i.globals k
    · exact getD_ok (i.field b) k
  · intro k hk
    refine ⟨(i.pop 1).stack, fun v hv => ?_, i.fields, i.len⟩
    rcases List.mem_or_eq_of_mem_set hv with e | e
    · exact i.globals v e
    · subst e; exact i.down 0

/-- how many blocks have an object -/
def usedN (s : St) : Nat := s.objs.tail.countP (·.here)
theorem used_le {s : St} {N : Nat} (hl : s.objs.length = N + 1) (h : usedN s < N) : ∃ k, free? s = some k := by
  cases hf : free? s with
  | some k => exact ⟨k, rfl⟩
  | none =>
    exfalso
    unfold free? at hf
    rw [List.findIdx?_eq_none_iff] at hf
    have : usedN s = s.objs.tail.length := List.countP_eq_length.2 fun o ho => by simpa using hf o ho
    rw [List.length_tail, hl] at this
    omega
theorem room_of_free {c : Cf} {s : St} {k : Nat} (h : free? s = some k) : roomS c s = s := by unfold roomS; rw [h]

end Go.Proofs.YteekoiljkklnmaaGreatDoor

