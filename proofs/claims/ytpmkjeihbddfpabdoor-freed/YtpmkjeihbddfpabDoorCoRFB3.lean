import Derived.Test.YtpmkjeihbddfpabDoorCoRFB2
import Derived.Deep.OwnRows
/- OUR OWN. The program's heap as it lies in memory; New. -/
namespace Go.Proofs.YtpmkjeihbddfpabDoor
open Go.RowKit
set_option linter.unusedVariables false
set_option linter.unusedSimpArgs false

structure HObj where
  state : Int
  count : Int
  vF : Value
  fs : List (Int × Int)

def HObj.cells (o : HObj) : List Value := [.int .i64 o.state, .int .i64 o.count, o.vF]
def HObj.free : HObj := ⟨0, 0, .slice none 0 0, []⟩

structure HeapM where
  room : Int
  budget : Int
  zero : Int
  over : Int
  vS : Value
  vG : Value
  vB : Value
  vQ : Value
  stack : List (Int × Int)
  globals : List (Int × Int)
  blks : List HObj
  queue : List Int

def HeapM.head (m : HeapM) : Obj := .cells #[.int .i64 m.room, .int .i64 m.budget, .int .i64 m.zero, .int .i64 m.over, m.vS, m.vG, m.vB, m.vQ] 53
def HeapM.foot (m : HeapM) : List Nat := ([m.vS, m.vG, m.vB, m.vQ] ++ m.blks.map HObj.vF).filterMap Value.ownBlock

structure HeapAt (w : World) (x : Nat) (m : HeapM) : Prop where
  head : w.heap[x]? = some m.head
  stack : w.ownsRow 0 64 2 m.vS m.stack.length (m.stack.flatMap valCells)
  globals : w.ownsRow 0 64 2 m.vG m.globals.length (m.globals.flatMap valCells)
  blocks : w.ownsRow 0 56 3 m.vB m.blks.length (m.blks.flatMap HObj.cells)
  queue : ownsWin w 3 m.vQ m.queue.length (m.queue.map (Value.int .i64))
  fields : ∀ o ∈ m.blks, w.ownsRow 0 64 2 o.vF o.fs.length (o.fs.flatMap valCells)
  apart : (x :: m.foot).Nodup

theorem HeapAt.carry {w w' : World} {x : Nat} {m : HeapM} (r : HeapAt w x m) (hb : ∀ g, g ∈ x :: m.foot → w'.heap[g]? = w.heap[g]?) : HeapAt w' x m := by
  have hv : ∀ v ∈ [m.vS, m.vG, m.vB, m.vQ] ++ m.blks.map HObj.vF, ∀ g, v.ownBlock = some g → w'.heap[g]? = w.heap[g]? := fun v hv g hg =>
    hb g (List.mem_cons_of_mem _ (List.mem_filterMap.2 ⟨v, hv, hg⟩))
  exact ⟨by rw [hb x (by simp)]; exact r.head, own_carry r.stack (hv _ (by simp)), own_carry r.globals (hv _ (by simp)), own_carry r.blocks (hv _ (by simp)), win_carry r.queue (hv _ (by simp)),
    fun o ho => own_carry (r.fields o ho) (hv _ (List.mem_append_right _ (List.mem_map_of_mem ho))), r.apart⟩

theorem HeapAt.lt {w : World} {x : Nat} {m : HeapM} (r : HeapAt w x m) : ∀ g ∈ x :: m.foot, g < w.heap.size := by
  intro g hg
  rcases List.mem_cons.1 hg with rfl | hg
  · exact lt_of_heap r.head
  · obtain ⟨v, hv, hg⟩ := List.mem_filterMap.1 hg
    rcases List.mem_append.1 hv with hv | hv
    · simp at hv
      rcases hv with rfl | rfl | rfl | rfl
      · exact (own_lt r.stack hg).2
      · exact (own_lt r.globals hg).2
      · exact (own_lt r.blocks hg).2
      · exact win_lt r.queue hg
    · obtain ⟨o, ho, rfl⟩ := List.mem_map.1 hv
      exact (own_lt (r.fields o ho) hg).2

theorem infoValue : (Tryd.prog.info? 64).map (fun i => (i.zero, i.size, i.bytes)) = some (some (.agg #[.int .i64 0, .int .i64 0]), 2, 16) := by kernel_rfl
theorem infoBlock : (Tryd.prog.info? 56).map (fun i => (i.zero, i.size, i.bytes)) = some (some (.agg #[.int .i64 0, .int .i64 0, .slice none 0 0]), 3, 40) := by kernel_rfl

/-- 'make' of n elements of two cells -/
theorem run_make_two {P : Program} (t e : TypeId) (a b : Value) (bytes : Nat) (ht : P.underlying t = some (.slice e)) (hinfo : (P.info? e).map (fun i => (i.zero, i.size, i.bytes)) = some (some (.agg #[a, b]), 2, bytes))
    (kl kc : IntKind) (n : Nat) (hbytes : bytes * n ≤ 281474976710656) (h63 : n ≤ 9223372036854775807) (w : World) :
    (Instr.makeSlice t (.int kl (n : Int)) (.int kc (n : Int))).run P w = .ok (.slice (some ⟨w.heap.size, 0, none⟩) n n) (w.alloc (.cells (madeCells #[a, b] (n * 2)) e)) := by
  obtain ⟨i, hi, hz, hs, hby⟩ := info_parts hinfo
  have hb' : (i.bytes : Int) * (n : Int) ≤ 281474976710656 := by
    have h : ((i.bytes * n : Nat) : Int) ≤ 281474976710656 := by rw [hby]; omega
    rwa [Int.natCast_mul] at h
  have hr := run_make (P := P) w t e i _ ht hi hz kl kc n n (by omega) (Int.le_refl _) hb' (by omega)
  simp only [Int.toNat_natCast, hs] at hr
  exact hr

theorem made_two (a b : Value) (n : Nat) : (madeCells #[a, b] (n * 2)).toList = (List.replicate n [a, b]).flatten := by
  induction n with
  | zero => simp [madeCells]
  | succ n ih =>
    rw [List.replicate_succ', List.flatten_append, ← ih]
    simp [madeCells, Nat.add_mul, List.range_succ]

/-- 'make' of n elements of three cells -/
theorem run_make_three {P : Program} (t e : TypeId) (a b c : Value) (bytes : Nat) (ht : P.underlying t = some (.slice e)) (hinfo : (P.info? e).map (fun i => (i.zero, i.size, i.bytes)) = some (some (.agg #[a, b, c]), 3, bytes))
    (kl kc : IntKind) (n : Nat) (hbytes : bytes * n ≤ 281474976710656) (h63 : n ≤ 9223372036854775807) (w : World) :
    (Instr.makeSlice t (.int kl (n : Int)) (.int kc (n : Int))).run P w = .ok (.slice (some ⟨w.heap.size, 0, none⟩) n n) (w.alloc (.cells (madeCells #[a, b, c] (n * 3)) e)) := by
  obtain ⟨i, hi, hz, hs, hby⟩ := info_parts hinfo
  have hb' : (i.bytes : Int) * (n : Int) ≤ 281474976710656 := by
    have h : ((i.bytes * n : Nat) : Int) ≤ 281474976710656 := by rw [hby]; omega
    rwa [Int.natCast_mul] at h
  have hr := run_make (P := P) w t e i _ ht hi hz kl kc n n (by omega) (Int.le_refl _) hb' (by omega)
  simp only [Int.toNat_natCast, hs] at hr
  exact hr

theorem made_three (a b c : Value) (n : Nat) : (madeCells #[a, b, c] (n * 3)).toList = (List.replicate n [a, b, c]).flatten := by
  induction n with
  | zero => simp [madeCells]
  | succ n ih =>
    rw [List.replicate_succ', List.flatten_append, ← ih]
    simp [madeCells, Nat.add_mul, List.range_succ]

theorem own_made_two (w : World) (e : TypeId) (a b : Value) (n : Nat) (hn : n ≤ 1000) :
    (w.alloc (.cells (madeCells #[a, b] (n * 2)) e)).ownsRow 0 e 2 (.slice (some ⟨w.heap.size, 0, none⟩) n n) n (List.replicate n [a, b]).flatten := by
  have h := made_two a b n
  refine ⟨by simp [List.length_flatten, List.map_replicate, List.sum_replicate_nat], .inr ⟨w.heap.size, n, _, rfl, Nat.zero_le _, heap_alloc_new w _, Nat.le_refl _, by unfold maxLen; omega, by rw [size_madeCells], ?_⟩⟩
  rw [h, List.take_of_length_le (by simp [List.length_flatten, List.map_replicate, List.sum_replicate_nat])]

def newM (b s g u z o : Nat) (vG vB : Value) : HeapM :=
  { room := s, budget := u, zero := z, over := o, vS := .slice none 0 0, vG := vG, vB := vB, vQ := .slice none 0 0, stack := [], globals := List.replicate g (0, 0), blks := List.replicate (b + 1) HObj.free, queue := [] }

theorem nils_foot (n : Nat) : (List.replicate n (Value.slice none 0 0)).filterMap Value.ownBlock = [] := by
  induction n with
  | zero => rfl
  | succ n ih => rw [List.replicate_succ, List.filterMap_cons]; exact ih

theorem newM_foot (b s g u z o : Nat) (vG vB : Value) : (newM b s g u z o vG vB).foot = [vG, vB].filterMap Value.ownBlock := by
  simp only [HeapM.foot, newM, List.filterMap_append, List.map_replicate, HObj.free, nils_foot, List.append_nil]
  simp only [List.filterMap_cons, List.filterMap_nil, Value.ownBlock]

theorem flat_rep {α β : Type} (f : α → List β) (x : α) (n : Nat) : (List.replicate n x).flatMap f = (List.replicate n (f x)).flatten := by
  induction n with
  | zero => rfl
  | succ n ih => simp [List.replicate_succ, ih]

/-- New's memory, the two rows in either order. -/
theorem newM_at (w : World) (b s g u z o : Nat) (hb : b ≤ 99) (hg : g ≤ 8) (w' : World) (x p q : Nat) (hx : w.heap.size ≤ x) (hp : w.heap.size ≤ p) (hq : w.heap.size ≤ q) (hpq : p ≠ q) (hxp : x ≠ p) (hxq : x ≠ q)
    (h0 : w'.heap[x]? = some (.cells #[.int .i64 s, .int .i64 u, .int .i64 z, .int .i64 o, .slice none 0 0, .slice (some ⟨p, 0, none⟩) g g, .slice (some ⟨q, 0, none⟩) (b + 1) (b + 1), .slice none 0 0] 53))
    (h1 : w'.heap[p]? = some (.cells (madeCells #[.int .i64 0, .int .i64 0] (g * 2)) 64))
    (h2 : w'.heap[q]? = some (.cells (madeCells #[.int .i64 0, .int .i64 0, .slice none 0 0] ((b + 1) * 3)) 56)) :
    HeapAt w' x (newM b s g u z o (.slice (some ⟨p, 0, none⟩) g g) (.slice (some ⟨q, 0, none⟩) (b + 1) (b + 1))) ∧
      ∀ j ∈ x :: (newM b s g u z o (.slice (some ⟨p, 0, none⟩) g g) (.slice (some ⟨q, 0, none⟩) (b + 1) (b + 1))).foot, w.heap.size ≤ j := by
  have row : ∀ (r n : Nat) (a c : Value) (e : TypeId), n ≤ 1000 → w'.heap[r]? = some (.cells (madeCells #[a, c] (n * 2)) e) → w'.ownsRow 0 e 2 (.slice (some ⟨r, 0, none⟩) n n) n (List.replicate n [a, c]).flatten := by
    intro r n a c e hn h
    refine ⟨by simp [List.length_flatten, List.map_replicate, List.sum_replicate_nat], .inr ⟨r, n, _, rfl, Nat.zero_le _, h, Nat.le_refl _, by unfold maxLen; omega, by rw [size_madeCells], ?_⟩⟩
    rw [made_two, List.take_of_length_le (by simp [List.length_flatten, List.map_replicate, List.sum_replicate_nat])]
  have row3 : ∀ (r n : Nat) (a c d : Value) (e : TypeId), n ≤ 1000 → w'.heap[r]? = some (.cells (madeCells #[a, c, d] (n * 3)) e) → w'.ownsRow 0 e 3 (.slice (some ⟨r, 0, none⟩) n n) n (List.replicate n [a, c, d]).flatten := by
    intro r n a c d e hn h
    refine ⟨by simp [List.length_flatten, List.map_replicate, List.sum_replicate_nat], .inr ⟨r, n, _, rfl, Nat.zero_le _, h, Nat.le_refl _, by unfold maxLen; omega, by rw [size_madeCells], ?_⟩⟩
    rw [made_three, List.take_of_length_le (by simp [List.length_flatten, List.map_replicate, List.sum_replicate_nat])]
  refine ⟨⟨h0, own_nil, ?_, ?_, win_nil, ?_, ?_⟩, ?_⟩
  · have := row p g _ _ _ (by omega) h1
    simpa [newM, flat_rep, valCells] using this
  · have := row3 q (b + 1) _ _ _ _ (by omega) h2
    simpa [newM, flat_rep, HObj.cells, HObj.free] using this
  · intro o ho
    have : o = HObj.free := by simp [newM] at ho; exact ho
    subst this
    exact own_nil
  · rw [newM_foot]
    simp [Value.ownBlock]
    omega
  · rw [newM_foot]
    simp [Value.ownBlock]
    omega

theorem three (w : World) (A B C : Obj) : (((w.alloc A).alloc B).alloc C).heap[w.heap.size]? = some A ∧ (((w.alloc A).alloc B).alloc C).heap[w.heap.size + 1]? = some B ∧
    (((w.alloc A).alloc B).alloc C).heap[w.heap.size + 1 + 1]? = some C ∧ Below w.heap.size w (((w.alloc A).alloc B).alloc C) := by
  refine ⟨?_, ?_, ?_, (((Below.refl _ _).alloc (Nat.le_refl _) _).alloc (by simp) _).alloc (by simp; omega) _⟩
  · rw [hao (by simp; omega), hao (by simp)]; exact heap_alloc_new w A
  · rw [hao (by simp)]; simpa using heap_alloc_new (w.alloc A) B
  · simpa using heap_alloc_new ((w.alloc A).alloc B) C

set_option maxHeartbeats 400000 in
theorem new_no (b s g u z o : Int) (w : World) (h : cfgB b s g u z o = false) :
    Calls Tryd.prog 18 #[.agg #[.int .i64 b, .int .i64 s, .int .i64 g, .int .i64 u, .int .i64 z, .int .i64 o]] w
      fun e w' => e = .returned (.tuple #[.pointer none, .int .i64 1]) ∧ Below w.heap.size w w' := by
  go_enter Tryd.func18, Tryd.ntmps18
  go_wp2_with (go_at_call 51; refine (isConfig_no _ _ _ _ _ _ _ h).mono ?_; rintro e w' ⟨rfl, hbel⟩)
  go_ret2
  exact ⟨rfl, ((Below.refl _ _).alloc (Nat.le_refl _) _).trans (hbel.mono (by simp))⟩

set_option maxHeartbeats 800000 in
theorem new_yes (b s g u z o : Nat) (w : World) (h : cfgB b s g u z o = true) (hb : b ≤ 99) (hg : g ≤ 8) :
    Calls Tryd.prog 18 #[.agg #[.int .i64 b, .int .i64 s, .int .i64 g, .int .i64 u, .int .i64 z, .int .i64 o]] w
      fun e w' => ∃ x vG vB, e = .returned (.tuple #[.pointer (some ⟨x, 0, none⟩), .int .i64 0]) ∧ Below w.heap.size w w' ∧ HeapAt w' x (newM b s g u z o vG vB) ∧ (∀ j ∈ x :: (newM b s g u z o vG vB).foot, w.heap.size ≤ j) := by
  have mk1 := run_make_two (P := Tryd.prog) 49 64 (.int .i64 0) (.int .i64 0) 16 Tryd.underlying49 infoValue .i64 .i64 g (by omega) (by omega)
  have mk2 := run_make_three (P := Tryd.prog) 50 56 (.int .i64 0) (.int .i64 0) (.slice none 0 0) 40 Tryd.underlying50 infoBlock .i64 .i64 (b + 1) (by omega) (by omega)
  simp only [Int.natCast_add, Int.natCast_one] at mk2
  go_enter Tryd.func18, Tryd.ntmps18
  go_wp2_with (go_at_call 51; refine (isConfig_yes _ _ _ _ _ _ _ h).mono ?_; rintro e w1 ⟨rfl, hbel⟩)
  have hh : w1.heap[w.heap.size]? = some (.cells #[.int .i64 b, .int .i64 s, .int .i64 g, .int .i64 u, .int .i64 z, .int .i64 o] 23) := by
    rw [hbel.block _ (by simp)]; exact heap_alloc_new w _
  have hc0 : w1.cell? ⟨w.heap.size, 0, none⟩ = some (.int .i64 b) := cell_of_heap hh rfl
  have hc1 : w1.cell? ⟨w.heap.size, 1, none⟩ = some (.int .i64 s) := cell_of_heap hh rfl
  have hc2 : w1.cell? ⟨w.heap.size, 2, none⟩ = some (.int .i64 g) := cell_of_heap hh rfl
  have hc3 : w1.cell? ⟨w.heap.size, 3, none⟩ = some (.int .i64 u) := cell_of_heap hh rfl
  have hc4 : w1.cell? ⟨w.heap.size, 4, none⟩ = some (.int .i64 z) := cell_of_heap hh rfl
  have hc5 : w1.cell? ⟨w.heap.size, 5, none⟩ = some (.int .i64 o) := cell_of_heap hh rfl
  have hsz : w.heap.size + 1 ≤ w1.heap.size := by have := hbel.size; simp at this; omega
  have hal : ∀ (ob : Obj) (i : Nat), (w1.alloc ob).cell? ⟨w.heap.size, i, none⟩ = w1.cell? ⟨w.heap.size, i, none⟩ := fun ob i => World.cell?_of_block (hao (Nat.lt_of_succ_le hsz))
  have hal2 : ∀ (ob ob' : Obj) (i : Nat), ((w1.alloc ob).alloc ob').cell? ⟨w.heap.size, i, none⟩ = w1.cell? ⟨w.heap.size, i, none⟩ := fun ob ob' i => (World.cell?_of_block (hao (by simp; omega))).trans (hal ob i)
  clear hh h
  go_region
  all_goals go_wp2
  all_goals go_ret2
  all_goals
    first
    | (have t := three w1 (.cells (madeCells #[.int .i64 0, .int .i64 0, .slice none 0 0] ((b + 1) * 3)) 56) (.cells (madeCells #[.int .i64 0, .int .i64 0] (g * 2)) 64)
        (.cells #[.int .i64 s, .int .i64 u, .int .i64 z, .int .i64 o, .slice none 0 0, .slice (some ⟨w1.heap.size + 1, 0, none⟩) g g, .slice (some ⟨w1.heap.size, 0, none⟩) (b + 1) (b + 1), .slice none 0 0] 53)
       exact ⟨_, _, _, rfl, ((((Below.refl _ _).alloc (Nat.le_refl _) _).trans (hbel.mono (by simp))).trans (t.2.2.2.mono (by omega))).drew,
         newM_at w b s g u z o hb hg _ _ _ _ (by omega) (by omega) (by omega) (by omega) (by omega) (by omega) t.2.2.1 t.2.1 t.1⟩)
    | (have t := three w1 (.cells (madeCells #[.int .i64 0, .int .i64 0] (g * 2)) 64) (.cells (madeCells #[.int .i64 0, .int .i64 0, .slice none 0 0] ((b + 1) * 3)) 56)
        (.cells #[.int .i64 s, .int .i64 u, .int .i64 z, .int .i64 o, .slice none 0 0, .slice (some ⟨w1.heap.size, 0, none⟩) g g, .slice (some ⟨w1.heap.size + 1, 0, none⟩) (b + 1) (b + 1), .slice none 0 0] 53)
       exact ⟨_, _, _, rfl, ((((Below.refl _ _).alloc (Nat.le_refl _) _).trans (hbel.mono (by simp))).trans (t.2.2.2.mono (by omega))).drew,
         newM_at w b s g u z o hb hg _ _ _ _ (by omega) (by omega) (by omega) (by omega) (by omega) (by omega) t.2.2.1 t.1 t.2.1⟩)

/-- what New leaves: this is all that the law's texts know of it -/
def NewM (b s g u z o : Nat) (hm : HeapM) : Prop := ∃ vG vB, hm = newM b s g u z o vG vB
theorem new_says (b s g u z o : Nat) (w : World) (h : cfgB b s g u z o = true) :
    Calls Tryd.prog 18 #[.agg #[.int .i64 b, .int .i64 s, .int .i64 g, .int .i64 u, .int .i64 z, .int .i64 o]] w
      fun e w' => ∃ x hm, e = .returned (.tuple #[.pointer (some ⟨x, 0, none⟩), .int .i64 0]) ∧ Below w.heap.size w w' ∧ HeapAt w' x hm ∧ (∀ j ∈ x :: hm.foot, w.heap.size ≤ j) ∧ NewM b s g u z o hm := by
  have hcf : (b : Int) ≤ 99 ∧ (g : Int) ≤ 8 := by simp [cfgB] at h; omega
  refine (new_yes b s g u z o w h (by omega) (by omega)).mono ?_
  rintro e w' ⟨x, vG, vB, he, hb, ha, hf⟩
  exact ⟨x, newM b s g u z o vG vB, he, hb, ha, hf, vG, vB, rfl⟩

end Go.Proofs.YtpmkjeihbddfpabDoor

/- OUR OWN. The program's heap turned. -/
namespace Go.Proofs.YtpmkjeihbddfpabDoor
open Go.RowKit
set_option linter.unusedVariables false
set_option linter.unusedSimpArgs false

/-- the program's heap is turned: its own memory alone -/
structure HTurn (h : Nat) (w : World) (m : HeapM) (w' : World) (m' : HeapM) : Prop where
  here : HeapAt w' h m'
  foot : ∀ g ∈ m'.foot, g ∈ m.foot ∨ w.heap.size ≤ g
  off : Off (h :: m.foot) w w'

theorem HTurn.refl {h : Nat} {w : World} {m : HeapM} (r : HeapAt w h m) : HTurn h w m w m := ⟨r, fun _ hg => .inl hg, Off.refl _ _⟩
theorem HTurn.of_below {h : Nat} {w w' : World} {m : HeapM} (r : HeapAt w h m) (hb : Below w.heap.size w w') : HTurn h w m w' m :=
  ⟨r.carry fun x hx => hb.block x (r.lt x hx), fun _ hg => .inl hg, .of_below hb⟩
theorem HTurn.trans {h : Nat} {w w1 w2 : World} {m m1 m2 : HeapM} (a : HTurn h w m w1 m1) (b : HTurn h w1 m1 w2 m2) : HTurn h w m w2 m2 := by
  refine ⟨b.here, fun g hg => ?_, ⟨b.off.os.trans a.off.os, b.off.tape.trans a.off.tape, b.off.output.trans a.off.output, Nat.le_trans a.off.size b.off.size, fun k hk hF => ?_⟩⟩
  · rcases b.foot g hg with e | e
    · exact a.foot g e
    · have := a.off.size; exact .inr (by omega)
  · rw [b.off.block k (by have := a.off.size; omega) ?_, a.off.block k hk hF]
    intro e
    rcases List.mem_cons.1 e with e | e
    · exact hF (by rw [e]; exact List.mem_cons_self)
    · rcases a.foot k e with e | e
      · exact hF (List.mem_cons_of_mem _ e)
      · omega
theorem HTurn.after {h : Nat} {w w1 w2 : World} {m m1 : HeapM} (a : HTurn h w m w1 m1) (hb : Below w1.heap.size w1 w2) : HTurn h w m w2 m1 := a.trans (.of_below a.here hb)

/-- a configuration's numbers -/
structure CfOk (c : Cf) : Prop where
  deep : 1 ≤ c.deep ∧ c.deep ≤ 16
  budget : 1 ≤ c.budget ∧ c.budget ≤ 99
  over : 0 ≤ c.over ∧ c.over ≤ 9
  zero : c.deep < c.zero ∧ c.zero ≤ 99

end Go.Proofs.YtpmkjeihbddfpabDoor

