import Derived.Test.YteekoiljkklnmaaGreatDoorNewsB1
import Derived.Deep.OwnRows
/- OUR OWN. The program's heap as it lies in memory; New. -/
namespace Go.Proofs.YteekoiljkklnmaaGreatDoor
open Go.RowKit
set_option linter.unusedVariables false
set_option linter.unusedSimpArgs false

structure HObj where
  state : Int
  count : Int
  vF : Value
  fs : List (Int × Int)

def HObj.cells (o : HObj) : List Value := [.int .i64 o.state, .int .i64 o.count, o.vF]
def HObj.free : HObj := ⟨0, 0, .slice none 0 0, []⟩

structure HeapM where
  room : Int
  zero : Int
  over : Int
  vS : Value
  vG : Value
  vB : Value
  vQ : Value
  stack : List (Int × Int)
  globals : List (Int × Int)
  blks : List HObj
  queue : List Int

def HeapM.head (m : HeapM) : Obj := .cells #[.int .i64 m.room, .int .i64 m.zero, .int .i64 m.over, m.vS, m.vG, m.vB, m.vQ] 76
def HeapM.foot (m : HeapM) : List Nat := ([m.vS, m.vG, m.vB, m.vQ] ++ m.blks.map HObj.vF).filterMap Value.ownBlock

structure HeapAt (w : World) (x : Nat) (m : HeapM) : Prop where
  head : w.heap[x]? = some m.head
  stack : w.ownsRow 0 81 2 m.vS m.stack.length (m.stack.flatMap valCells)
  globals : w.ownsRow 0 81 2 m.vG m.globals.length (m.globals.flatMap valCells)
  blocks : w.ownsRow 0 88 3 m.vB m.blks.length (m.blks.flatMap HObj.cells)
  queue : ownsWin w 3 m.vQ m.queue.length (m.queue.map (Value.int .i64))
  fields : ∀ o ∈ m.blks, w.ownsRow 0 81 2 o.vF o.fs.length (o.fs.flatMap valCells)
  apart : (x :: m.foot).Nodup

theorem HeapAt.carry {w w' : World} {x : Nat} {m : HeapM} (r : HeapAt w x m) (hb : ∀ g, g ∈ x :: m.foot → w'.heap[g]? = w.heap[g]?) : HeapAt w' x m := by
  have hv : ∀ v ∈ [m.vS, m.vG, m.vB, m.vQ] ++ m.blks.map HObj.vF, ∀ g, v.ownBlock = some g → w'.heap[g]? = w.heap[g]? := fun v hv g hg =>
    hb g (List.mem_cons_of_mem _ (List.mem_filterMap.2 ⟨v, hv, hg⟩))
  exact ⟨by rw [hb x (by simp)]; exact r.head, own_carry r.stack (hv _ (by simp)), own_carry r.globals (hv _ (by simp)), own_carry r.blocks (hv _ (by simp)), win_carry r.queue (hv _ (by simp)),
    fun o ho => own_carry (r.fields o ho) (hv _ (List.mem_append_right _ (List.mem_map_of_mem ho))), r.apart⟩

theorem HeapAt.lt {w : World} {x : Nat} {m : HeapM} (r : HeapAt w x m) : ∀ g ∈ x :: m.foot, g < w.heap.size := by
  intro g hg
  rcases List.mem_cons.1 hg with rfl | hg
  · exact lt_of_heap r.head
  · obtain ⟨v, hv, hg⟩ := List.mem_filterMap.1 hg
    rcases List.mem_append.1 hv with hv | hv
    · simp at hv
      rcases hv with rfl | rfl | rfl | rfl
      · exact (own_lt r.stack hg).2
      · exact (own_lt r.globals hg).2
      · exact (own_lt r.blocks hg).2
      · exact win_lt r.queue hg
    · obtain ⟨o, ho, rfl⟩ := List.mem_map.1 hv
      exact (own_lt (r.fields o ho) hg).2

theorem infoValue : (Tryz.prog.info? 81).map (fun i => (i.zero, i.size, i.bytes)) = some (some (.agg #[.int .i64 0, .int .i64 0]), 2, 16) := by kernel_rfl
theorem infoBlock : (Tryz.prog.info? 88).map (fun i => (i.zero, i.size, i.bytes)) = some (some (.agg #[.int .i64 0, .int .i64 0, .slice none 0 0]), 3, 40) := by kernel_rfl

/-- 'make' of n elements of two cells -/
theorem run_make_two {P : Program} (t e : TypeId) (a b : Value) (bytes : Nat) (ht : P.underlying t = some (.slice e)) (hinfo : (P.info? e).map (fun i => (i.zero, i.size, i.bytes)) = some (some (.agg #[a, b]), 2, bytes))
    (kl kc : IntKind) (n : Nat) (hbytes : bytes * n ≤ 281474976710656) (h63 : n ≤ 9223372036854775807) (w : World) :
    (Instr.makeSlice t (.int kl (n : Int)) (.int kc (n : Int))).run P w = .ok (.slice (some ⟨w.heap.size, 0, none⟩) n n) (w.alloc (.cells (madeCells #[a, b] (n * 2)) e)) := by
  obtain ⟨i, hi, hz, hs, hby⟩ := info_parts hinfo
  have hb' : (i.bytes : Int) * (n : Int) ≤ 281474976710656 := by
    have h : ((i.bytes * n : Nat) : Int) ≤ 281474976710656 := by rw [hby]; omega
    rwa [Int.natCast_mul] at h
  have hr := run_make (P := P) w t e i _ ht hi hz kl kc n n (by omega) (Int.le_refl _) hb' (by omega)
  simp only [Int.toNat_natCast, hs] at hr
  exact hr

theorem made_two (a b : Value) (n : Nat) : (madeCells #[a, b] (n * 2)).toList = (List.replicate n [a, b]).flatten := by
  induction n with
  | zero => simp [madeCells]
  | succ n ih =>
    rw [List.replicate_succ', List.flatten_append, ← ih]
    simp [madeCells, Nat.add_mul, List.range_succ]

/-- 'make' of n elements of three cells -/
theorem run_make_three {P : Program} (t e : TypeId) (a b c : Value) (bytes : Nat) (ht : P.underlying t = some (.slice e)) (hinfo : (P.info? e).map (fun i => (i.zero, i.size, i.bytes)) = some (some (.agg #[a, b, c]), 3, bytes))
    (kl kc : IntKind) (n : Nat) (hbytes : bytes * n ≤ 281474976710656) (h63 : n ≤ 9223372036854775807) (w : World) :
    (Instr.makeSlice t (.int kl (n : Int)) (.int kc (n : Int))).run P w = .ok (.slice (some ⟨w.heap.size, 0, none⟩) n n) (w.alloc (.cells (madeCells #[a, b, c] (n * 3)) e)) := by
  obtain ⟨i, hi, hz, hs, hby⟩ := info_parts hinfo
  have hb' : (i.bytes : Int) * (n : Int) ≤ 281474976710656 := by
    have h : ((i.bytes * n : Nat) : Int) ≤ 281474976710656 := by rw [hby]; omega
    rwa [Int.natCast_mul] at h
  have hr := run_make (P := P) w t e i _ ht hi hz kl kc n n (by omega) (Int.le_refl _) hb' (by omega)
  simp only [Int.toNat_natCast, hs] at hr
  exact hr

theorem made_three (a b c : Value) (n : Nat) : (madeCells #[a, b, c] (n * 3)).toList = (List.replicate n [a, b, c]).flatten := by
  induction n with
  | zero => simp [madeCells]
  | succ n ih =>
    rw [List.replicate_succ', List.flatten_append, ← ih]
    simp [madeCells, Nat.add_mul, List.range_succ]

theorem own_made_two (w : World) (e : TypeId) (a b : Value) (n : Nat) (hn : n ≤ 1000) :
    (w.alloc (.cells (madeCells #[a, b] (n * 2)) e)).ownsRow 0 e 2 (.slice (some ⟨w.heap.size, 0, none⟩) n n) n (List.replicate n [a, b]).flatten := by
  have h := made_two a b n
  refine ⟨by simp [List.length_flatten, List.map_replicate, List.sum_replicate_nat], .inr ⟨w.heap.size, n, _, rfl, Nat.zero_le _, heap_alloc_new w _, Nat.le_refl _, by unfold maxLen; omega, by rw [size_madeCells], ?_⟩⟩
  rw [h, List.take_of_length_le (by simp [List.length_flatten, List.map_replicate, List.sum_replicate_nat])]

def newM (b s g z o : Nat) (vG vB : Value) : HeapM :=
  { room := s, zero := z, over := o, vS := .slice none 0 0, vG := vG, vB := vB, vQ := .slice none 0 0, stack := [], globals := List.replicate g (0, 0), blks := List.replicate (b + 1) HObj.free, queue := [] }

theorem nils_foot (n : Nat) : (List.replicate n (Value.slice none 0 0)).filterMap Value.ownBlock = [] := by
  induction n with
  | zero => rfl
  | succ n ih => rw [List.replicate_succ, List.filterMap_cons]; exact ih

theorem newM_foot (b s g z o : Nat) (vG vB : Value) : (newM b s g z o vG vB).foot = [vG, vB].filterMap Value.ownBlock := by
  simp only [HeapM.foot, newM, List.filterMap_append, List.map_replicate, HObj.free, nils_foot, List.append_nil]
  simp only [List.filterMap_cons, List.filterMap_nil, Value.ownBlock]

theorem flat_rep {α β : Type} (f : α → List β) (x : α) (n : Nat) : (List.replicate n x).flatMap f = (List.replicate n (f x)).flatten := by
  induction n with
  | zero => rfl
  | succ n ih => simp [List.replicate_succ, ih]

/-- New's memory, the two rows in either order. -/
theorem newM_at (w : World) (b s g z o : Nat) (hb : b ≤ 99) (hg : g ≤ 8) (w' : World) (x p q : Nat) (hx : w.heap.size ≤ x) (hp : w.heap.size ≤ p) (hq : w.heap.size ≤ q) (hpq : p ≠ q) (hxp : x ≠ p) (hxq : x ≠ q)
    (h0 : w'.heap[x]? = some (.cells #[.int .i64 s, .int .i64 z, .int .i64 o, .slice none 0 0, .slice (some ⟨p, 0, none⟩) g g, .slice (some ⟨q, 0, none⟩) (b + 1) (b + 1), .slice none 0 0] 76))
    (h1 : w'.heap[p]? = some (.cells (madeCells #[.int .i64 0, .int .i64 0] (g * 2)) 81))
    (h2 : w'.heap[q]? = some (.cells (madeCells #[.int .i64 0, .int .i64 0, .slice none 0 0] ((b + 1) * 3)) 88)) :
    HeapAt w' x (newM b s g z o (.slice (some ⟨p, 0, none⟩) g g) (.slice (some ⟨q, 0, none⟩) (b + 1) (b + 1))) ∧
      ∀ j ∈ x :: (newM b s g z o (.slice (some ⟨p, 0, none⟩) g g) (.slice (some ⟨q, 0, none⟩) (b + 1) (b + 1))).foot, w.heap.size ≤ j := by
  have row : ∀ (r n : Nat) (a c : Value) (e : TypeId), n ≤ 1000 → w'.heap[r]? = some (.cells (madeCells #[a, c] (n * 2)) e) → w'.ownsRow 0 e 2 (.slice (some ⟨r, 0, none⟩) n n) n (List.replicate n [a, c]).flatten := by
    intro r n a c e hn h
    refine ⟨by simp [List.length_flatten, List.map_replicate, List.sum_replicate_nat], .inr ⟨r, n, _, rfl, Nat.zero_le _, h, Nat.le_refl _, by unfold maxLen; omega, by rw [size_madeCells], ?_⟩⟩
    rw [made_two, List.take_of_length_le (by simp [List.length_flatten, List.map_replicate, List.sum_replicate_nat])]
  have row3 : ∀ (r n : Nat) (a c d : Value) (e : TypeId), n ≤ 1000 → w'.heap[r]? = some (.cells (madeCells #[a, c, d] (n * 3)) e) → w'.ownsRow 0 e 3 (.slice (some ⟨r, 0, none⟩) n n) n (List.replicate n [a, c, d]).flatten := by
    intro r n a c d e hn h
    refine ⟨by simp [List.length_flatten, List.map_replicate, List.sum_replicate_nat], .inr ⟨r, n, _, rfl, Nat.zero_le _, h, Nat.le_refl _, by unfold maxLen; omega, by rw [size_madeCells], ?_⟩⟩
    rw [made_three, List.take_of_length_le (by simp [List.length_flatten, List.map_replicate, List.sum_replicate_nat])]
  refine ⟨⟨h0, own_nil, ?_, ?_, win_nil, ?_, ?_⟩, ?_⟩
  · have := row p g _ _ _ (by omega) h1
    simpa [newM, flat_rep, valCells] using this
  · have := row3 q (b + 1) _ _ _ _ (by omega) h2
    simpa [newM, flat_rep, HObj.cells, HObj.free] using this
  · intro o ho
    have : o = HObj.free := by simp [newM] at ho; exact ho
    subst this
    exact own_nil
  · rw [newM_foot]
    simp [Value.ownBlock]
    omega
  · rw [newM_foot]
    simp [Value.ownBlock]
    omega

theorem three (w : World) (A B C : Obj) : (((w.alloc A).alloc B).alloc C).heap[w.heap.size]? = some A ∧ (((w.alloc A).alloc B).alloc C).heap[w.heap.size + 1]? = some B ∧
    (((w.alloc A).alloc B).alloc C).heap[w.heap.size + 1 + 1]? = some C ∧ Below w.heap.size w (((w.alloc A).alloc B).alloc C) := by
  refine ⟨?_, ?_, ?_, (((Below.refl _ _).alloc (Nat.le_refl _) _).alloc (by simp) _).alloc (by simp; omega) _⟩
  · rw [hao (by simp; omega), hao (by simp)]; exact heap_alloc_new w A
  · rw [hao (by simp)]; simpa using heap_alloc_new (w.alloc A) B
  · simpa using heap_alloc_new ((w.alloc A).alloc B) C

set_option maxHeartbeats 400000 in
theorem new_no (b s g u z o : Int) (w : World) (h : cfgB b s g u z o = false) :
    Calls Tryz.prog 24 #[.agg #[.int .i64 b, .int .i64 s, .int .i64 g, .int .i64 u, .int .i64 z, .int .i64 o]] w
      fun e w' => e = .returned (.tuple #[.pointer none, .int .i64 1]) ∧ Below w.heap.size w w' := by
  go_enter Tryz.func24, Tryz.ntmps24
  go_wp2_with (go_at_call 38; refine (isConfig_no _ _ _ _ _ _ _ h).mono ?_; rintro e w' ⟨rfl, hbel⟩)
  go_ret2
  exact ⟨rfl, ((Below.refl _ _).alloc (Nat.le_refl _) _).trans (hbel.mono (by simp))⟩

set_option maxHeartbeats 800000 in
theorem new_yes (b s g u z o : Nat) (w : World) (h : cfgB b s g u z o = true) (hb : b ≤ 99) (hg : g ≤ 8) :
    Calls Tryz.prog 24 #[.agg #[.int .i64 b, .int .i64 s, .int .i64 g, .int .i64 u, .int .i64 z, .int .i64 o]] w
      fun e w' => ∃ x vG vB, e = .returned (.tuple #[.pointer (some ⟨x, 0, none⟩), .int .i64 0]) ∧ Below w.heap.size w w' ∧ HeapAt w' x (newM b s g z o vG vB) ∧ (∀ j ∈ x :: (newM b s g z o vG vB).foot, w.heap.size ≤ j) := by
  have mk1 := run_make_two (P := Tryz.prog) 73 81 (.int .i64 0) (.int .i64 0) 16 Tryz.underlying73 infoValue .i64 .i64 g (by omega) (by omega)
  have mk2 := run_make_three (P := Tryz.prog) 74 88 (.int .i64 0) (.int .i64 0) (.slice none 0 0) 40 Tryz.underlying74 infoBlock .i64 .i64 (b + 1) (by omega) (by omega)
  simp only [Int.natCast_add, Int.natCast_one] at mk2
  go_enter Tryz.func24, Tryz.ntmps24
  go_wp2_with (go_at_call 38; refine (isConfig_yes _ _ _ _ _ _ _ h).mono ?_; rintro e w1 ⟨rfl, hbel⟩)
  have hh : w1.heap[w.heap.size]? = some (.cells #[.int .i64 b, .int .i64 s, .int .i64 g, .int .i64 u, .int .i64 z, .int .i64 o] 30) := by
    rw [hbel.block _ (by simp)]; exact heap_alloc_new w _
  have hc0 : w1.cell? ⟨w.heap.size, 0, none⟩ = some (.int .i64 b) := cell_of_heap hh rfl
  have hc1 : w1.cell? ⟨w.heap.size, 1, none⟩ = some (.int .i64 s) := cell_of_heap hh rfl
  have hc2 : w1.cell? ⟨w.heap.size, 2, none⟩ = some (.int .i64 g) := cell_of_heap hh rfl
  have hc4 : w1.cell? ⟨w.heap.size, 4, none⟩ = some (.int .i64 z) := cell_of_heap hh rfl
  have hc5 : w1.cell? ⟨w.heap.size, 5, none⟩ = some (.int .i64 o) := cell_of_heap hh rfl
  have hsz : w.heap.size + 1 ≤ w1.heap.size := by have := hbel.size; simp at this; omega
  have hal : ∀ (ob : Obj) (i : Nat), (w1.alloc ob).cell? ⟨w.heap.size, i, none⟩ = w1.cell? ⟨w.heap.size, i, none⟩ := fun ob i => World.cell?_of_block (hao (Nat.lt_of_succ_le hsz))
  have hal2 : ∀ (ob ob' : Obj) (i : Nat), ((w1.alloc ob).alloc ob').cell? ⟨w.heap.size, i, none⟩ = w1.cell? ⟨w.heap.size, i, none⟩ := fun ob ob' i => (World.cell?_of_block (hao (by simp; omega))).trans (hal ob i)
  clear hh h
  go_region
  all_goals go_wp2
  all_goals go_ret2
  all_goals
    first
    | (have t := three w1 (.cells (madeCells #[.int .i64 0, .int .i64 0, .slice none 0 0] ((b + 1) * 3)) 88) (.cells (madeCells #[.int .i64 0, .int .i64 0] (g * 2)) 81)
        (.cells #[.int .i64 s, .int .i64 z, .int .i64 o, .slice none 0 0, .slice (some ⟨w1.heap.size + 1, 0, none⟩) g g, .slice (some ⟨w1.heap.size, 0, none⟩) (b + 1) (b + 1), .slice none 0 0] 76)
       exact ⟨_, _, _, rfl, ((((Below.refl _ _).alloc (Nat.le_refl _) _).trans (hbel.mono (by simp))).trans (t.2.2.2.mono (by omega))).drew,
         newM_at w b s g z o hb hg _ _ _ _ (by omega) (by omega) (by omega) (by omega) (by omega) (by omega) t.2.2.1 t.2.1 t.1⟩)
    | (have t := three w1 (.cells (madeCells #[.int .i64 0, .int .i64 0] (g * 2)) 81) (.cells (madeCells #[.int .i64 0, .int .i64 0, .slice none 0 0] ((b + 1) * 3)) 88)
        (.cells #[.int .i64 s, .int .i64 z, .int .i64 o, .slice none 0 0, .slice (some ⟨w1.heap.size, 0, none⟩) g g, .slice (some ⟨w1.heap.size + 1, 0, none⟩) (b + 1) (b + 1), .slice none 0 0] 76)
       exact ⟨_, _, _, rfl, ((((Below.refl _ _).alloc (Nat.le_refl _) _).trans (hbel.mono (by simp))).trans (t.2.2.2.mono (by omega))).drew,
         newM_at w b s g z o hb hg _ _ _ _ (by omega) (by omega) (by omega) (by omega) (by omega) (by omega) t.2.2.1 t.1 t.2.1⟩)

/-- what New leaves: this is all that the law's texts know of it -/
def NewM (b s g u z o : Nat) (hm : HeapM) : Prop := ∃ vG vB, hm = newM b s g z o vG vB
theorem new_says (b s g u z o : Nat) (w : World) (h : cfgB b s g u z o = true) :
    Calls Tryz.prog 24 #[.agg #[.int .i64 b, .int .i64 s, .int .i64 g, .int .i64 u, .int .i64 z, .int .i64 o]] w
      fun e w' => ∃ x hm, e = .returned (.tuple #[.pointer (some ⟨x, 0, none⟩), .int .i64 0]) ∧ Below w.heap.size w w' ∧ HeapAt w' x hm ∧ (∀ j ∈ x :: hm.foot, w.heap.size ≤ j) ∧ NewM b s g u z o hm := by
  have hcf : (b : Int) ≤ 99 ∧ (g : Int) ≤ 8 := by simp [cfgB] at h; omega
  refine (new_yes b s g u z o w h (by omega) (by omega)).mono ?_
  rintro e w' ⟨x, vG, vB, he, hb, ha, hf⟩
  exact ⟨x, newM b s g z o vG vB, he, hb, ha, hf, vG, vB, rfl⟩

end Go.Proofs.YteekoiljkklnmaaGreatDoor

/- OUR OWN. May, num, pick. -/
namespace Go.Proofs.YteekoiljkklnmaaGreatDoor
open Go.RowKit
set_option linter.unusedVariables false
set_option linter.unusedSimpArgs false

theorem num_any (e : Int) (w : World) :
    Calls Tryz.prog 26 #[.int .i64 e] w fun r w' => r = .returned (.int .i64 e) ∧ w' = w := by
  go_enter Tryz.func26, Tryz.ntmps26
  go_wp2
  go_ret
  exact ⟨rfl, rfl⟩

/-- which of n things the raw number c speaks of -/
def pickN (c : Int) (n : Nat) : Nat := ((if c < 0 then -(c + 1) else c) % n).toNat

theorem pickN_lt (c : Int) (n : Nat) (h : 0 < n) : pickN c n < n := by
  unfold pickN
  have := Int.emod_lt_of_pos (if c < 0 then -(c + 1) else c) (show (0 : Int) < n by omega)
  omega

set_option maxHeartbeats 400000 in
theorem pick_any (c : Int) (n : Nat) (w : World) (hc : -9223372036854775808 ≤ c ∧ c ≤ 9223372036854775807) (hn : 0 < n) (hm : n ≤ 2000000000000) :
    Calls Tryz.prog 12 #[.int .i64 c, .int .i64 n] w fun r w' => r = .returned (.int .i64 (pickN c n)) ∧ w' = w := by
  obtain ⟨c1, c2⟩ := hc
  have hp : (0 : Int) < n := by omega
  have hne : ((n : Int) == 0) = false := by simp; omega
  by_cases h : c < 0
  · have e : (pickN c n : Int) = -((c + 1).tmod n) := by
      rw [← Int.neg_tmod, Int.tmod_eq_emod_of_nonneg (by omega)]
      unfold pickN; rw [if_pos h]; have := Int.emod_nonneg (-(c + 1)) (show (n : Int) ≠ 0 by omega); omega
    have E : Hid ((pickN c n : Int) = -((c + 1).tmod n)) := e
    clear e
    go_enter Tryz.func12, Tryz.ntmps12
    go_wp2
    go_ret
    rw [E.out]
    exact ⟨rfl, rfl⟩
  · have e : (pickN c n : Int) = c % n := by
      unfold pickN; rw [if_neg h]; have := Int.emod_nonneg c (show (n : Int) ≠ 0 by omega); omega
    have E : Hid ((pickN c n : Int) = c % n) := e
    clear e
    go_enter Tryz.func12, Tryz.ntmps12
    go_wp2
    go_ret
    rw [E.out]
    exact ⟨rfl, rfl⟩

set_option maxHeartbeats 800000 in
theorem may_yes (b s g u z o : Int) (w : World) (h : cfgB b s g u z o = true) :
    Calls Tryz.prog 25 #[.int .i64 b, .int .i64 s, .int .i64 g, .int .i64 u, .int .i64 z, .int .i64 o] w
      fun e w' => e = .returned (.bool true) ∧ w' = w := by
  have ⟨h1, h2, h3, h4, h5, h6, h7, h8, h9, h10, h11, h12⟩ : 1 ≤ b ∧ b ≤ 99 ∧ 1 ≤ s ∧ s ≤ 16 ∧ 0 ≤ g ∧ g ≤ 8 ∧ 1 ≤ u ∧ u ≤ 99 ∧ s + g < z ∧ z ≤ 99 ∧ 0 ≤ o ∧ o ≤ 9 := by simpa [cfgB] using h
  clear h
  go_enter Tryz.func25, Tryz.ntmps25
  go_wp2
  go_ret
  exact ⟨rfl, rfl⟩

theorem cfg_cases {b s g u z o : Int} (h : cfgB b s g u z o = false) :
    (b < 1) ∨
    (1 ≤ b ∧ 99 < b) ∨
    (1 ≤ b ∧ b ≤ 99 ∧ s < 1) ∨
    (1 ≤ b ∧ b ≤ 99 ∧ 1 ≤ s ∧ 16 < s) ∨
    (1 ≤ b ∧ b ≤ 99 ∧ 1 ≤ s ∧ s ≤ 16 ∧ g < 0) ∨
    (1 ≤ b ∧ b ≤ 99 ∧ 1 ≤ s ∧ s ≤ 16 ∧ 0 ≤ g ∧ 8 < g) ∨
    (1 ≤ b ∧ b ≤ 99 ∧ 1 ≤ s ∧ s ≤ 16 ∧ 0 ≤ g ∧ g ≤ 8 ∧ u < 1) ∨
    (1 ≤ b ∧ b ≤ 99 ∧ 1 ≤ s ∧ s ≤ 16 ∧ 0 ≤ g ∧ g ≤ 8 ∧ 1 ≤ u ∧ 99 < u) ∨
    (1 ≤ b ∧ b ≤ 99 ∧ 1 ≤ s ∧ s ≤ 16 ∧ 0 ≤ g ∧ g ≤ 8 ∧ 1 ≤ u ∧ u ≤ 99 ∧ z ≤ s + g) ∨
    (1 ≤ b ∧ b ≤ 99 ∧ 1 ≤ s ∧ s ≤ 16 ∧ 0 ≤ g ∧ g ≤ 8 ∧ 1 ≤ u ∧ u ≤ 99 ∧ s + g < z ∧ 99 < z) ∨
    (1 ≤ b ∧ b ≤ 99 ∧ 1 ≤ s ∧ s ≤ 16 ∧ 0 ≤ g ∧ g ≤ 8 ∧ 1 ≤ u ∧ u ≤ 99 ∧ s + g < z ∧ z ≤ 99 ∧ o < 0) ∨
    (1 ≤ b ∧ b ≤ 99 ∧ 1 ≤ s ∧ s ≤ 16 ∧ 0 ≤ g ∧ g ≤ 8 ∧ 1 ≤ u ∧ u ≤ 99 ∧ s + g < z ∧ z ≤ 99 ∧ 0 ≤ o ∧ 9 < o) := by
  by_cases a0 : b < 1
  · exact Or.inl a0
  by_cases a1 : 99 < b
  · exact Or.inr (Or.inl (⟨Int.not_lt.1 a0, a1⟩))
  by_cases a2 : s < 1
  · exact Or.inr (Or.inr (Or.inl (⟨Int.not_lt.1 a0, Int.not_lt.1 a1, a2⟩)))
  by_cases a3 : 16 < s
  · exact Or.inr (Or.inr (Or.inr (Or.inl (⟨Int.not_lt.1 a0, Int.not_lt.1 a1, Int.not_lt.1 a2, a3⟩))))
  by_cases a4 : g < 0
  · exact Or.inr (Or.inr (Or.inr (Or.inr (Or.inl (⟨Int.not_lt.1 a0, Int.not_lt.1 a1, Int.not_lt.1 a2, Int.not_lt.1 a3, a4⟩)))))
  by_cases a5 : 8 < g
  · exact Or.inr (Or.inr (Or.inr (Or.inr (Or.inr (Or.inl (⟨Int.not_lt.1 a0, Int.not_lt.1 a1, Int.not_lt.1 a2, Int.not_lt.1 a3, Int.not_lt.1 a4, a5⟩))))))
  by_cases a6 : u < 1
  · exact Or.inr (Or.inr (Or.inr (Or.inr (Or.inr (Or.inr (Or.inl (⟨Int.not_lt.1 a0, Int.not_lt.1 a1, Int.not_lt.1 a2, Int.not_lt.1 a3, Int.not_lt.1 a4, Int.not_lt.1 a5, a6⟩)))))))
  by_cases a7 : 99 < u
  · exact Or.inr (Or.inr (Or.inr (Or.inr (Or.inr (Or.inr (Or.inr (Or.inl (⟨Int.not_lt.1 a0, Int.not_lt.1 a1, Int.not_lt.1 a2, Int.not_lt.1 a3, Int.not_lt.1 a4, Int.not_lt.1 a5, Int.not_lt.1 a6, a7⟩))))))))
  by_cases a8 : z ≤ s + g
  · exact Or.inr (Or.inr (Or.inr (Or.inr (Or.inr (Or.inr (Or.inr (Or.inr (Or.inl (⟨Int.not_lt.1 a0, Int.not_lt.1 a1, Int.not_lt.1 a2, Int.not_lt.1 a3, Int.not_lt.1 a4, Int.not_lt.1 a5, Int.not_lt.1 a6, Int.not_lt.1 a7, a8⟩)))))))))
  by_cases a9 : 99 < z
  · exact Or.inr (Or.inr (Or.inr (Or.inr (Or.inr (Or.inr (Or.inr (Or.inr (Or.inr (Or.inl (⟨Int.not_lt.1 a0, Int.not_lt.1 a1, Int.not_lt.1 a2, Int.not_lt.1 a3, Int.not_lt.1 a4, Int.not_lt.1 a5, Int.not_lt.1 a6, Int.not_lt.1 a7, Int.not_le.1 a8, a9⟩))))))))))
  by_cases a10 : o < 0
  · exact Or.inr (Or.inr (Or.inr (Or.inr (Or.inr (Or.inr (Or.inr (Or.inr (Or.inr (Or.inr (Or.inl (⟨Int.not_lt.1 a0, Int.not_lt.1 a1, Int.not_lt.1 a2, Int.not_lt.1 a3, Int.not_lt.1 a4, Int.not_lt.1 a5, Int.not_lt.1 a6, Int.not_lt.1 a7, Int.not_le.1 a8, Int.not_lt.1 a9, a10⟩)))))))))))
  by_cases a11 : 9 < o
  · exact Or.inr (Or.inr (Or.inr (Or.inr (Or.inr (Or.inr (Or.inr (Or.inr (Or.inr (Or.inr (Or.inr (⟨Int.not_lt.1 a0, Int.not_lt.1 a1, Int.not_lt.1 a2, Int.not_lt.1 a3, Int.not_lt.1 a4, Int.not_lt.1 a5, Int.not_lt.1 a6, Int.not_lt.1 a7, Int.not_le.1 a8, Int.not_lt.1 a9, Int.not_lt.1 a10, a11⟩)))))))))))
  exfalso
  simp only [cfgB, decide_eq_false_iff_not] at h
  exact h ⟨Int.not_lt.1 a0, Int.not_lt.1 a1, Int.not_lt.1 a2, Int.not_lt.1 a3, Int.not_lt.1 a4, Int.not_lt.1 a5, Int.not_lt.1 a6, Int.not_lt.1 a7, Int.not_le.1 a8, Int.not_lt.1 a9, Int.not_lt.1 a10, Int.not_lt.1 a11⟩

set_option maxHeartbeats 1600000 in
theorem may_no (b s g u z o : Int) (w : World) (h : cfgB b s g u z o = false) :
    Calls Tryz.prog 25 #[.int .i64 b, .int .i64 s, .int .i64 g, .int .i64 u, .int .i64 z, .int .i64 o] w
      fun e w' => e = .returned (.bool false) ∧ w' = w := by
  have h' := cfg_cases h
  clear h
  rcases h' with h | h | h | h | h | h | h | h | h | h | h | h
  all_goals
    (repeat (obtain ⟨hx, h⟩ := h))
    go_enter Tryz.func25, Tryz.ntmps25
    go_wp2
    go_ret
    first | exact ⟨rfl, rfl⟩ | exact ⟨ret_bool (by simp; omega), rfl⟩

end Go.Proofs.YteekoiljkklnmaaGreatDoor

/- OUR OWN. Fresh. -/
namespace Go.Proofs.YteekoiljkklnmaaGreatDoor
open Go.RowKit
set_option linter.unusedVariables false
set_option linter.unusedSimpArgs false

theorem infoObject : (Tryz.prog.info? 54).map (fun i => (i.zero, i.size, i.bytes)) = some (some (.agg #[.bool false, .slice none 0 0, .bool false, .bool false]), 4, 40) := by kernel_rfl
theorem infoRValue : (Tryz.prog.info? 78).map (fun i => (i.zero, i.size, i.bytes)) = some (some (.agg #[.int .i64 0, .int .i64 0]), 2, 16) := by kernel_rfl

def freeCells (k : Nat) : List Value := (List.replicate k RObj.free).flatMap RObj.cells
theorem freeCells_succ (k : Nat) : freeCells (k + 1) = freeCells k ++ [.bool false, .slice none 0 0, .bool false, .bool false] := by
  simp [freeCells, List.replicate_succ', RObj.cells, RObj.free]
def nilCells (k : Nat) : List Value := (List.replicate k ((0, 0) : Int × Int)).flatMap valCells
theorem nilCells_succ (k : Nat) : nilCells (k + 1) = nilCells k ++ [.int .i64 0, .int .i64 0] := by
  simp [nilCells, List.replicate_succ', valCells]

/-- the heap's own block while it is being made -/
def mkHead (b s u z o : Int) (vB vG : Value) : Obj :=
  .cells #[.int .i64 b, .int .i64 s, .int .i64 u, .int .i64 z, .int .i64 o, vB, .slice none 0 0, .slice none 0 0, vG] 45

/-- what holds in the first loop, behind k rounds -/
structure Made1 (w wr : World) (b s u z o : Int) (vB : Value) (k : Nat) : Prop where
  head : wr.heap[w.heap.size]? = some (mkHead b s u z o vB (.slice none 0 0))
  row : wr.ownsRow (w.heap.size + 1) 54 4 vB k (freeCells k)
  below : Below w.heap.size w wr

structure Made2 (w wr : World) (b s u z o : Int) (vB vG : Value) (n k : Nat) : Prop where
  head : wr.heap[w.heap.size]? = some (mkHead b s u z o vB vG)
  row : wr.ownsRow (w.heap.size + 1) 54 4 vB n (freeCells n)
  rowG : wr.ownsRow (w.heap.size + 1) 78 2 vG k (nilCells k)
  apart : ∀ g, vB.ownBlock = some g → vG.ownBlock ≠ some g
  below : Below w.heap.size w wr

theorem Made1.start (w : World) (b s u z o : Int) : Made1 w (w.alloc (mkHead b s u z o (.slice none 0 0) (.slice none 0 0))) b s u z o (.slice none 0 0) 0 :=
  ⟨heap_alloc_new _ _, World.ownsRow_nil _ _ _ _, (Below.refl _ _).alloc (Nat.le_refl _) _⟩

theorem Made1.step {w wr w1 : World} {b s u z o : Int} {vB : Value} {k g cap : Nat} {ob : Obj} (h : Made1 w wr b s u z o vB k)
    (hown : w1.ownsRow (w.heap.size + 1) 54 4 (.slice (some ⟨g, 0, none⟩) (k + 1) cap) (k + 1) (freeCells k ++ [.bool false, .slice none 0 0, .bool false, .bool false]))
    (hgr : (wr.alloc ob).grownBy w1 vB.ownBlock) :
    Made1 w (w1.setCell ⟨w.heap.size, 5, none⟩ (.slice (some ⟨g, 0, none⟩) (k + 1) cap)) b s u z o (.slice (some ⟨g, 0, none⟩) (k + 1) cap) (k + 1) := by
  have hs := lt_of_heap h.head
  have hgb := own_lt hown (g := g) rfl
  have hne : some w.heap.size ≠ vB.ownBlock := fun e => by have := own_lt h.row e.symm; omega
  have hh : w1.heap[w.heap.size]? = some (mkHead b s u z o vB (.slice none 0 0)) := by
    rw [hgr.block _ (by simp; omega) hne, hao hs]; exact h.head
  refine ⟨?_, ?_, ?_⟩
  · rw [heap_setCell_at hh]; rfl
  · rw [freeCells_succ]
    exact ownsRow_setCell_below hown (by simp) _
  · refine ((h.below.alloc (by omega) ob).grown hgr (by simp; omega) (fun j hj => by have := own_lt h.row hj; omega)).setCell (by simp) _

theorem Made1.turn {w wr : World} {b s u z o : Int} {vB : Value} {n : Nat} (h : Made1 w wr b s u z o vB n) : Made2 w wr b s u z o vB (.slice none 0 0) n 0 :=
  ⟨h.head, h.row, World.ownsRow_nil _ _ _ _, fun _ _ => by simp [Value.ownBlock], h.below⟩

theorem Made2.step {w wr w1 : World} {b s u z o : Int} {vB vG : Value} {n k g cap : Nat} {ob : Obj} (h : Made2 w wr b s u z o vB vG n k)
    (hown : w1.ownsRow (w.heap.size + 1) 78 2 (.slice (some ⟨g, 0, none⟩) (k + 1) cap) (k + 1) (nilCells k ++ [.int .i64 0, .int .i64 0]))
    (hgr : (wr.alloc ob).grownBy w1 vG.ownBlock) (hat : vG.ownBlock = some g ∨ g = wr.heap.size + 1) :
    Made2 w (w1.setCell ⟨w.heap.size, 8, none⟩ (.slice (some ⟨g, 0, none⟩) (k + 1) cap)) b s u z o vB (.slice (some ⟨g, 0, none⟩) (k + 1) cap) n (k + 1) := by
  have hs := lt_of_heap h.head
  have hne : some w.heap.size ≠ vG.ownBlock := fun e => by have := own_lt h.rowG e.symm; omega
  have hh : w1.heap[w.heap.size]? = some (mkHead b s u z o vB vG) := by
    rw [hgr.block _ (by simp; omega) hne, hao hs]; exact h.head
  refine ⟨?_, ?_, ?_, ?_, ?_⟩
  · rw [heap_setCell_at hh]; rfl
  · refine ownsRow_setCell_below (own_carry h.row fun j hj => ?_) (by simp) _
    have hj1 := own_lt h.row hj
    rw [hgr.block _ (by simp; omega) (fun e => h.apart j hj e.symm), hao (by omega)]
  · rw [nilCells_succ]
    exact ownsRow_setCell_below hown (by simp) _
  · intro j hj e
    simp [Value.ownBlock] at e
    subst e
    have hj1 := own_lt h.row hj
    rcases hat with hat | hat
    · exact h.apart _ hj hat
    · omega
  · refine ((h.below.alloc (by omega) ob).grown hgr (by simp; omega) (fun j hj => by have := own_lt h.rowG hj; omega)).setCell (by simp) _

def freshM (b s g u z o : Nat) (vB vG : Value) : RefM :=
  { most := b, deep := s, budget := u, zero := z, over := o, vB := vB, vQ := .slice none 0 0, vS := .slice none 0 0, vG := vG, objs := List.replicate (b + 1) RObj.free, queue := [], stack := [], globals := List.replicate g (0, 0) }

theorem freshM_foot (b s g u z o : Nat) (vB vG : Value) : (freshM b s g u z o vB vG).foot = [vB, vG].filterMap Value.ownBlock := by
  have h : ∀ n, (List.replicate n (Value.slice none 0 0)).filterMap Value.ownBlock = [] := fun n => by
    induction n with
    | zero => rfl
    | succ n ih => rw [List.replicate_succ, List.filterMap_cons]; exact ih
  simp only [RefM.foot, freshM, List.filterMap_append, List.map_replicate, RObj.free, h, List.append_nil]
  simp only [List.filterMap_cons, List.filterMap_nil, Value.ownBlock]

theorem Made2.refAt {w wr : World} {b s g u z o : Nat} {vB vG : Value} (h : Made2 w wr b s u z o vB vG (b + 1) g) : RefAt wr w.heap.size (freshM b s g u z o vB vG) := by
  refine ⟨h.head, ?_, win_nil, own_nil, ?_, ?_, ?_⟩
  · have := own_base h.row (Nat.zero_le _)
    simpa [freshM, freeCells] using this
  · have := own_base h.rowG (Nat.zero_le _)
    simpa [freshM, nilCells] using this
  · intro x hx
    have : x = RObj.free := by simp [freshM] at hx; exact hx
    subst this
    exact own_nil
  · rw [freshM_foot]
    have hB : ∀ j, vB.ownBlock = some j → w.heap.size + 1 ≤ j := fun j hj => (own_lt h.row hj).1
    have hG : ∀ j, vG.ownBlock = some j → w.heap.size + 1 ≤ j := fun j hj => (own_lt h.rowG hj).1
    have hap := h.apart
    cases e1 : vB.ownBlock with
    | none =>
      cases e2 : vG.ownBlock with
      | none => simp [e1, e2]
      | some j2 => have := hG _ e2; simp [e1, e2]; omega
    | some j1 =>
      have := hB _ e1
      cases e2 : vG.ownBlock with
      | none => simp [e1, e2]; omega
      | some j2 => have := hG _ e2; have := hap _ e1; simp [e1, e2] at *; omega

theorem Made2.foot {w wr : World} {b s g u z o : Nat} {vB vG : Value} (h : Made2 w wr b s u z o vB vG (b + 1) g) : ∀ x ∈ w.heap.size :: (freshM b s g u z o vB vG).foot, w.heap.size ≤ x := by
  intro x hx
  rw [freshM_foot] at hx
  rcases List.mem_cons.1 hx with rfl | hx
  · exact Nat.le_refl _
  · obtain ⟨v, hv, hx'⟩ := List.mem_filterMap.1 hx
    simp at hv
    rcases hv with rfl | rfl
    · have := (own_lt h.row hx').1; omega
    · have := (own_lt h.rowG hx').1; omega

set_option maxHeartbeats 400000 in
theorem fresh_any (b s g u z o : Nat) (w : World) (hb : b ≤ 99) (hg : g ≤ 8) :
    Calls Tryz.prog 27 #[.int .i64 b, .int .i64 s, .int .i64 g, .int .i64 u, .int .i64 z, .int .i64 o] w
      fun e w' => e = .returned (.pointer (some ⟨w.heap.size, 0, none⟩)) ∧ ∃ vB vG, Made2 w w' b s u z o vB vG (b + 1) g := by
  obtain ⟨i0, hi, hz0, hz1, hz2⟩ := info_parts infoObject
  obtain ⟨i1, hi1, hy0, hy1, hy2⟩ := info_parts infoRValue
  go_enter Tryz.func27, Tryz.ntmps27
  go_wp2
  go_loopw [14] (fun i wr => ∃ k : Nat, k ≤ b + 1 ∧ i = .int .i64 k ∧ ∃ vB, Made1 w wr b s u z o vB k) (fun i _ => b + 1 - (intOf i).toNat)
  case atStart => exact ⟨0, by omega, rfl, _, Made1.start w b s u z o⟩
  case round =>
    obtain ⟨k, hk, rfl, vB, hm⟩ := hrel
    by_cases hlt : k ≤ b
    · have hcell : wr.cell? ⟨w.heap.size, 5, none⟩ = some vB := cell_of_heap hm.head rfl
      go_wp2_with (at_builtin; refine wpList_append_lies _ rfl (.tmp 32) (.tmp 34) 41 rfl (w.heap.size + 1) 54 i0 _ 4 40 Tryz.underlying41 hi hz0 hz1 hz2 rfl (by decide) _ _ _ rfl (hm.row.alloc _) ⟨wr.heap.size, 0, none⟩ 1 1 [.bool false, .slice none 0 0, .bool false, .bool false] rfl rfl ?c1 ?c2 (by decide) ?c3 ?c4 ?c5 (wr.heap.size + 1) (by simp) ?_)
      case c1 => exact news_new _ [.bool false, .slice none 0 0, .bool false, .bool false] _
      case c2 => intro u hu; simp at hu; rcases hu with rfl | rfl | rfl <;> rfl
      case c3 => unfold maxLen; omega
      case c4 => omega
      case c5 => have := lt_of_heap hm.head; simp; omega
      intro g' cap w1 hown hgr _ _
      have hm' := hm.step hown hgr
      have hf : w1.frozen? ⟨w.heap.size, 5, none⟩ = false := by
        have hs := lt_of_heap hm.head
        have hne : some w.heap.size ≠ vB.ownBlock := fun e => by have := own_lt hm.row e.symm; omega
        have hh : w1.heap[w.heap.size]? = some (mkHead b s u z o vB (.slice none 0 0)) := by
          rw [hgr.block _ (by simp; omega) hne, hao hs]; exact hm.head
        exact frozen_of_heap hh
      have hcell1 : w1.cell? ⟨w.heap.size, 5, none⟩ = some vB := by
        have hs := lt_of_heap hm.head
        have hne : some w.heap.size ≠ vB.ownBlock := fun e => by have := own_lt hm.row e.symm; omega
        have hh : w1.heap[w.heap.size]? = some (mkHead b s u z o vB (.slice none 0 0)) := by
          rw [hgr.block _ (by simp; omega) hne, hao hs]; exact hm.head
        exact cell_of_heap hh rfl
      clear hown hgr hcell hm
      go_wp2
      go_roundw
      case rel => exact ⟨k + 1, by omega, by go_num, _, hm'⟩
      case measure => simp [intOf]; omega
    · have hkb : k = b + 1 := by omega
      have hm2 : Made2 w wr b s u z o vB (.slice none 0 0) (b + 1) 0 := (hkb ▸ hm).turn
      clear hm hkb
      go_wp2
      go_loopw [15] (fun i wr => ∃ j : Nat, j ≤ g ∧ i = .int .i64 j ∧ ∃ vG, Made2 w wr b s u z o vB vG (b + 1) j) (fun i _ => g - (intOf i).toNat)
      case atStart => exact ⟨0, by omega, rfl, _, hm2⟩
      case round =>
        rename_i wr0 _ _ _
        clear hm2
        obtain ⟨j, hj, rfl, vG, hm⟩ := hrel
        by_cases hlt2 : j < g
        · have hcell : wr.cell? ⟨w.heap.size, 8, none⟩ = some vG := cell_of_heap hm.head rfl
          go_wp2_with (at_builtin; refine wpList_append_lies _ rfl (.tmp 47) (.tmp 49) 43 rfl (w.heap.size + 1) 78 i1 _ 2 16 Tryz.underlying43 hi1 hy0 hy1 hy2 rfl (by decide) _ _ _ rfl (hm.rowG.alloc _) ⟨wr.heap.size, 0, none⟩ 1 1 [.int .i64 0, .int .i64 0] rfl rfl ?c1 ?c2 (by decide) ?c3 ?c4 ?c5 (wr.heap.size + 1) (by simp) ?_)
          case c1 => exact news_new _ [.int .i64 0, .int .i64 0] _
          case c2 => intro u hu; simp at hu; subst hu; rfl
          case c3 => unfold maxLen; omega
          case c4 => omega
          case c5 => have := lt_of_heap hm.head; simp; omega
          intro g' cap w1 hown hgr hat _
          have hm' := hm.step hown hgr hat
          have hh : w1.heap[w.heap.size]? = some (mkHead b s u z o vB vG) := by
            have hs := lt_of_heap hm.head
            have hne : some w.heap.size ≠ vG.ownBlock := fun e => by have := own_lt hm.rowG e.symm; omega
            rw [hgr.block _ (by simp; omega) hne, hao hs]; exact hm.head
          have hf : w1.frozen? ⟨w.heap.size, 8, none⟩ = false := frozen_of_heap hh
          have hcell1 : w1.cell? ⟨w.heap.size, 8, none⟩ = some vG := cell_of_heap hh rfl
          clear hown hgr hcell hm hat hh
          go_wp2
          go_roundw
          case rel => exact ⟨j + 1, by omega, by go_num, _, hm'⟩
          case measure => simp [intOf]; omega
        · have hjg : j = g := by omega
          subst hjg
          go_wp2
          go_ret
          exact ⟨rfl, _, _, hm⟩
end Go.Proofs.YteekoiljkklnmaaGreatDoor

