import Derived.Test.YteekoiljkklnmaaGreatDoorDoesB5
import Derived.Deep.OwnRows
/- OUR OWN. The program's heap as it lies in memory; New. -/
namespace Go.Proofs.YteekoiljkklnmaaGreatDoor
open Go.RowKit
set_option linter.unusedVariables false
set_option linter.unusedSimpArgs false

structure HObj where
  state : Int
  count : Int
  vF : Value
  fs : List (Int × Int)

def HObj.cells (o : HObj) : List Value := [.int .i64 o.state, .int .i64 o.count, o.vF]
def HObj.free : HObj := ⟨0, 0, .slice none 0 0, []⟩

structure HeapM where
  room : Int
  zero : Int
  over : Int
  vS : Value
  vG : Value
  vB : Value
  vQ : Value
  stack : List (Int × Int)
  globals : List (Int × Int)
  blks : List HObj
  queue : List Int

def HeapM.head (m : HeapM) : Obj := .cells #[.int .i64 m.room, .int .i64 m.zero, .int .i64 m.over, m.vS, m.vG, m.vB, m.vQ] 76
def HeapM.foot (m : HeapM) : List Nat := ([m.vS, m.vG, m.vB, m.vQ] ++ m.blks.map HObj.vF).filterMap Value.ownBlock

structure HeapAt (w : World) (x : Nat) (m : HeapM) : Prop where
  head : w.heap[x]? = some m.head
  stack : w.ownsRow 0 81 2 m.vS m.stack.length (m.stack.flatMap valCells)
  globals : w.ownsRow 0 81 2 m.vG m.globals.length (m.globals.flatMap valCells)
  blocks : w.ownsRow 0 88 3 m.vB m.blks.length (m.blks.flatMap HObj.cells)
  queue : ownsWin w 3 m.vQ m.queue.length (m.queue.map (Value.int .i64))
  fields : ∀ o ∈ m.blks, w.ownsRow 0 81 2 o.vF o.fs.length (o.fs.flatMap valCells)
  apart : (x :: m.foot).Nodup

theorem HeapAt.carry {w w' : World} {x : Nat} {m : HeapM} (r : HeapAt w x m) (hb : ∀ g, g ∈ x :: m.foot → w'.heap[g]? = w.heap[g]?) : HeapAt w' x m := by
  have hv : ∀ v ∈ [m.vS, m.vG, m.vB, m.vQ] ++ m.blks.map HObj.vF, ∀ g, v.ownBlock = some g → w'.heap[g]? = w.heap[g]? := fun v hv g hg =>
    hb g (List.mem_cons_of_mem _ (List.mem_filterMap.2 ⟨v, hv, hg⟩))
  exact ⟨by rw [hb x (by simp)]; exact r.head, own_carry r.stack (hv _ (by simp)), own_carry r.globals (hv _ (by simp)), own_carry r.blocks (hv _ (by simp)), win_carry r.queue (hv _ (by simp)),
    fun o ho => own_carry (r.fields o ho) (hv _ (List.mem_append_right _ (List.mem_map_of_mem ho))), r.apart⟩

theorem HeapAt.lt {w : World} {x : Nat} {m : HeapM} (r : HeapAt w x m) : ∀ g ∈ x :: m.foot, g < w.heap.size := by
  intro g hg
  rcases List.mem_cons.1 hg with rfl | hg
  · exact lt_of_heap r.head
  · obtain ⟨v, hv, hg⟩ := List.mem_filterMap.1 hg
    rcases List.mem_append.1 hv with hv | hv
    · simp at hv
      rcases hv with rfl | rfl | rfl | rfl
      · exact (own_lt r.stack hg).2
      · exact (own_lt r.globals hg).2
      · exact (own_lt r.blocks hg).2
      · exact win_lt r.queue hg
    · obtain ⟨o, ho, rfl⟩ := List.mem_map.1 hv
      exact (own_lt (r.fields o ho) hg).2

theorem infoValue : (Tryz.prog.info? 81).map (fun i => (i.zero, i.size, i.bytes)) = some (some (.agg #[.int .i64 0, .int .i64 0]), 2, 16) := by kernel_rfl
theorem infoBlock : (Tryz.prog.info? 88).map (fun i => (i.zero, i.size, i.bytes)) = some (some (.agg #[.int .i64 0, .int .i64 0, .slice none 0 0]), 3, 40) := by kernel_rfl

/-- 'make' of n elements of two cells -/
theorem run_make_two {P : Program} (t e : TypeId) (a b : Value) (bytes : Nat) (ht : P.underlying t = some (.slice e)) (hinfo : (P.info? e).map (fun i => (i.zero, i.size, i.bytes)) = some (some (.agg #[a, b]), 2, bytes))
    (kl kc : IntKind) (n : Nat) (hbytes : bytes * n ≤ 281474976710656) (h63 : n ≤ 9223372036854775807) (w : World) :
    (Instr.makeSlice t (.int kl (n : Int)) (.int kc (n : Int))).run P w = .ok (.slice (some ⟨w.heap.size, 0, none⟩) n n) (w.alloc (.cells (madeCells #[a, b] (n * 2)) e)) := by
  obtain ⟨i, hi, hz, hs, hby⟩ := info_parts hinfo
  have hb' : (i.bytes : Int) * (n : Int) ≤ 281474976710656 := by
    have h : ((i.bytes * n : Nat) : Int) ≤ 281474976710656 := by rw [hby]; omega
    rwa [Int.natCast_mul] at h
  have hr := run_make (P := P) w t e i _ ht hi hz kl kc n n (by omega) (Int.le_refl _) hb' (by omega)
  simp only [Int.toNat_natCast, hs] at hr
  exact hr

theorem made_two (a b : Value) (n : Nat) : (madeCells #[a, b] (n * 2)).toList = (List.replicate n [a, b]).flatten := by
  induction n with
  | zero => simp [madeCells]
  | succ n ih =>
    rw [List.replicate_succ', List.flatten_append, ← ih]
    simp [madeCells, Nat.add_mul, List.range_succ]

/-- 'make' of n elements of three cells -/
theorem run_make_three {P : Program} (t e : TypeId) (a b c : Value) (bytes : Nat) (ht : P.underlying t = some (.slice e)) (hinfo : (P.info? e).map (fun i => (i.zero, i.size, i.bytes)) = some (some (.agg #[a, b, c]), 3, bytes))
    (kl kc : IntKind) (n : Nat) (hbytes : bytes * n ≤ 281474976710656) (h63 : n ≤ 9223372036854775807) (w : World) :
    (Instr.makeSlice t (.int kl (n : Int)) (.int kc (n : Int))).run P w = .ok (.slice (some ⟨w.heap.size, 0, none⟩) n n) (w.alloc (.cells (madeCells #[a, b, c] (n * 3)) e)) := by
  obtain ⟨i, hi, hz, hs, hby⟩ := info_parts hinfo
  have hb' : (i.bytes : Int) * (n : Int) ≤ 281474976710656 := by
    have h : ((i.bytes * n : Nat) : Int) ≤ 281474976710656 := by rw [hby]; omega
    rwa [Int.natCast_mul] at h
  have hr := run_make (P := P) w t e i _ ht hi hz kl kc n n (by omega) (Int.le_refl _) hb' (by omega)
  simp only [Int.toNat_natCast, hs] at hr
  exact hr

theorem made_three (a b c : Value) (n : Nat) : (madeCells #[a, b, c] (n * 3)).toList = (List.replicate n [a, b, c]).flatten := by
  induction n with
  | zero => simp [madeCells]
  | succ n ih =>
    rw [List.replicate_succ', List.flatten_append, ← ih]
    simp [madeCells, Nat.add_mul, List.range_succ]

theorem own_made_two (w : World) (e : TypeId) (a b : Value) (n : Nat) (hn : n ≤ 1000) :
    (w.alloc (.cells (madeCells #[a, b] (n * 2)) e)).ownsRow 0 e 2 (.slice (some ⟨w.heap.size, 0, none⟩) n n) n (List.replicate n [a, b]).flatten := by
  have h := made_two a b n
  refine ⟨by simp [List.length_flatten, List.map_replicate, List.sum_replicate_nat], .inr ⟨w.heap.size, n, _, rfl, Nat.zero_le _, heap_alloc_new w _, Nat.le_refl _, by unfold maxLen; omega, by rw [size_madeCells], ?_⟩⟩
  rw [h, List.take_of_length_le (by simp [List.length_flatten, List.map_replicate, List.sum_replicate_nat])]

def newM (b s g z o : Nat) (vG vB : Value) : HeapM :=
  { room := s, zero := z, over := o, vS := .slice none 0 0, vG := vG, vB := vB, vQ := .slice none 0 0, stack := [], globals := List.replicate g (0, 0), blks := List.replicate (b + 1) HObj.free, queue := [] }

theorem nils_foot (n : Nat) : (List.replicate n (Value.slice none 0 0)).filterMap Value.ownBlock = [] := by
  induction n with
  | zero => rfl
  | succ n ih => rw [List.replicate_succ, List.filterMap_cons]; exact ih

theorem newM_foot (b s g z o : Nat) (vG vB : Value) : (newM b s g z o vG vB).foot = [vG, vB].filterMap Value.ownBlock := by
  simp only [HeapM.foot, newM, List.filterMap_append, List.map_replicate, HObj.free, nils_foot, List.append_nil]
  simp only [List.filterMap_cons, List.filterMap_nil, Value.ownBlock]

theorem flat_rep {α β : Type} (f : α → List β) (x : α) (n : Nat) : (List.replicate n x).flatMap f = (List.replicate n (f x)).flatten := by
  induction n with
  | zero => rfl
  | succ n ih => simp [List.replicate_succ, ih]

/-- New's memory, the two rows in either order. -/
theorem newM_at (w : World) (b s g z o : Nat) (hb : b ≤ 99) (hg : g ≤ 8) (w' : World) (x p q : Nat) (hx : w.heap.size ≤ x) (hp : w.heap.size ≤ p) (hq : w.heap.size ≤ q) (hpq : p ≠ q) (hxp : x ≠ p) (hxq : x ≠ q)
    (h0 : w'.heap[x]? = some (.cells #[.int .i64 s, .int .i64 z, .int .i64 o, .slice none 0 0, .slice (some ⟨p, 0, none⟩) g g, .slice (some ⟨q, 0, none⟩) (b + 1) (b + 1), .slice none 0 0] 76))
    (h1 : w'.heap[p]? = some (.cells (madeCells #[.int .i64 0, .int .i64 0] (g * 2)) 81))
    (h2 : w'.heap[q]? = some (.cells (madeCells #[.int .i64 0, .int .i64 0, .slice none 0 0] ((b + 1) * 3)) 88)) :
    HeapAt w' x (newM b s g z o (.slice (some ⟨p, 0, none⟩) g g) (.slice (some ⟨q, 0, none⟩) (b + 1) (b + 1))) ∧
      ∀ j ∈ x :: (newM b s g z o (.slice (some ⟨p, 0, none⟩) g g) (.slice (some ⟨q, 0, none⟩) (b + 1) (b + 1))).foot, w.heap.size ≤ j := by
  have row : ∀ (r n : Nat) (a c : Value) (e : TypeId), n ≤ 1000 → w'.heap[r]? = some (.cells (madeCells #[a, c] (n * 2)) e) → w'.ownsRow 0 e 2 (.slice (some ⟨r, 0, none⟩) n n) n (List.replicate n [a, c]).flatten := by
    intro r n a c e hn h
    refine ⟨by simp [List.length_flatten, List.map_replicate, List.sum_replicate_nat], .inr ⟨r, n, _, rfl, Nat.zero_le _, h, Nat.le_refl _, by unfold maxLen; omega, by rw [size_madeCells], ?_⟩⟩
    rw [made_two, List.take_of_length_le (by simp [List.length_flatten, List.map_replicate, List.sum_replicate_nat])]
  have row3 : ∀ (r n : Nat) (a c d : Value) (e : TypeId), n ≤ 1000 → w'.heap[r]? = some (.cells (madeCells #[a, c, d] (n * 3)) e) → w'.ownsRow 0 e 3 (.slice (some ⟨r, 0, none⟩) n n) n (List.replicate n [a, c, d]).flatten := by
    intro r n a c d e hn h
    refine ⟨by simp [List.length_flatten, List.map_replicate, List.sum_replicate_nat], .inr ⟨r, n, _, rfl, Nat.zero_le _, h, Nat.le_refl _, by unfold maxLen; omega, by rw [size_madeCells], ?_⟩⟩
    rw [made_three, List.take_of_length_le (by simp [List.length_flatten, List.map_replicate, List.sum_replicate_nat])]
  refine ⟨⟨h0, own_nil, ?_, ?_, win_nil, ?_, ?_⟩, ?_⟩
  · have := row p g _ _ _ (by omega) h1
    simpa [newM, flat_rep, valCells] using this
  · have := row3 q (b + 1) _ _ _ _ (by omega) h2
    simpa [newM, flat_rep, HObj.cells, HObj.free] using this
  · intro o ho
    have : o = HObj.free := by simp [newM] at ho; exact ho
    subst this
    exact own_nil
  · rw [newM_foot]
    simp [Value.ownBlock]
    omega
  · rw [newM_foot]
    simp [Value.ownBlock]
    omega

theorem three (w : World) (A B C : Obj) : (((w.alloc A).alloc B).alloc C).heap[w.heap.size]? = some A ∧ (((w.alloc A).alloc B).alloc C).heap[w.heap.size + 1]? = some B ∧
    (((w.alloc A).alloc B).alloc C).heap[w.heap.size + 1 + 1]? = some C ∧ Below w.heap.size w (((w.alloc A).alloc B).alloc C) := by
  refine ⟨?_, ?_, ?_, (((Below.refl _ _).alloc (Nat.le_refl _) _).alloc (by simp) _).alloc (by simp; omega) _⟩
  · rw [hao (by simp; omega), hao (by simp)]; exact heap_alloc_new w A
  · rw [hao (by simp)]; simpa using heap_alloc_new (w.alloc A) B
  · simpa using heap_alloc_new ((w.alloc A).alloc B) C

set_option maxHeartbeats 400000 in
theorem new_no (b s g u z o : Int) (w : World) (h : cfgB b s g u z o = false) :
    Calls Tryz.prog 24 #[.agg #[.int .i64 b, .int .i64 s, .int .i64 g, .int .i64 u, .int .i64 z, .int .i64 o]] w
      fun e w' => e = .returned (.tuple #[.pointer none, .int .i64 1]) ∧ Below w.heap.size w w' := by
  go_enter Tryz.func24, Tryz.ntmps24
  go_wp2_with (go_at_call 38; refine (isConfig_no _ _ _ _ _ _ _ h).mono ?_; rintro e w' ⟨rfl, hbel⟩)
  go_ret2
  exact ⟨rfl, ((Below.refl _ _).alloc (Nat.le_refl _) _).trans (hbel.mono (by simp))⟩

set_option maxHeartbeats 800000 in
theorem new_yes (b s g u z o : Nat) (w : World) (h : cfgB b s g u z o = true) (hb : b ≤ 99) (hg : g ≤ 8) :
    Calls Tryz.prog 24 #[.agg #[.int .i64 b, .int .i64 s, .int .i64 g, .int .i64 u, .int .i64 z, .int .i64 o]] w
      fun e w' => ∃ x vG vB, e = .returned (.tuple #[.pointer (some ⟨x, 0, none⟩), .int .i64 0]) ∧ Below w.heap.size w w' ∧ HeapAt w' x (newM b s g z o vG vB) ∧ (∀ j ∈ x :: (newM b s g z o vG vB).foot, w.heap.size ≤ j) := by
  have mk1 := run_make_two (P := Tryz.prog) 73 81 (.int .i64 0) (.int .i64 0) 16 Tryz.underlying73 infoValue .i64 .i64 g (by omega) (by omega)
  have mk2 := run_make_three (P := Tryz.prog) 74 88 (.int .i64 0) (.int .i64 0) (.slice none 0 0) 40 Tryz.underlying74 infoBlock .i64 .i64 (b + 1) (by omega) (by omega)
  simp only [Int.natCast_add, Int.natCast_one] at mk2
  go_enter Tryz.func24, Tryz.ntmps24
  go_wp2_with (go_at_call 38; refine (isConfig_yes _ _ _ _ _ _ _ h).mono ?_; rintro e w1 ⟨rfl, hbel⟩)
  have hh : w1.heap[w.heap.size]? = some (.cells #[.int .i64 b, .int .i64 s, .int .i64 g, .int .i64 u, .int .i64 z, .int .i64 o] 30) := by
    rw [hbel.block _ (by simp)]; exact heap_alloc_new w _
  have hc0 : w1.cell? ⟨w.heap.size, 0, none⟩ = some (.int .i64 b) := cell_of_heap hh rfl
  have hc1 : w1.cell? ⟨w.heap.size, 1, none⟩ = some (.int .i64 s) := cell_of_heap hh rfl
  have hc2 : w1.cell? ⟨w.heap.size, 2, none⟩ = some (.int .i64 g) := cell_of_heap hh rfl
  have hc4 : w1.cell? ⟨w.heap.size, 4, none⟩ = some (.int .i64 z) := cell_of_heap hh rfl
  have hc5 : w1.cell? ⟨w.heap.size, 5, none⟩ = some (.int .i64 o) := cell_of_heap hh rfl
  have hsz : w.heap.size + 1 ≤ w1.heap.size := by have := hbel.size; simp at this; omega
  have hal : ∀ (ob : Obj) (i : Nat), (w1.alloc ob).cell? ⟨w.heap.size, i, none⟩ = w1.cell? ⟨w.heap.size, i, none⟩ := fun ob i => World.cell?_of_block (hao (Nat.lt_of_succ_le hsz))
  have hal2 : ∀ (ob ob' : Obj) (i : Nat), ((w1.alloc ob).alloc ob').cell? ⟨w.heap.size, i, none⟩ = w1.cell? ⟨w.heap.size, i, none⟩ := fun ob ob' i => (World.cell?_of_block (hao (by simp; omega))).trans (hal ob i)
  clear hh h
  go_region
  all_goals go_wp2
  all_goals go_ret2
  all_goals
    first
    | (have t := three w1 (.cells (madeCells #[.int .i64 0, .int .i64 0, .slice none 0 0] ((b + 1) * 3)) 88) (.cells (madeCells #[.int .i64 0, .int .i64 0] (g * 2)) 81)
        (.cells #[.int .i64 s, .int .i64 z, .int .i64 o, .slice none 0 0, .slice (some ⟨w1.heap.size + 1, 0, none⟩) g g, .slice (some ⟨w1.heap.size, 0, none⟩) (b + 1) (b + 1), .slice none 0 0] 76)
       exact ⟨_, _, _, rfl, ((((Below.refl _ _).alloc (Nat.le_refl _) _).trans (hbel.mono (by simp))).trans (t.2.2.2.mono (by omega))).drew,
         newM_at w b s g z o hb hg _ _ _ _ (by omega) (by omega) (by omega) (by omega) (by omega) (by omega) t.2.2.1 t.2.1 t.1⟩)
    | (have t := three w1 (.cells (madeCells #[.int .i64 0, .int .i64 0] (g * 2)) 81) (.cells (madeCells #[.int .i64 0, .int .i64 0, .slice none 0 0] ((b + 1) * 3)) 88)
        (.cells #[.int .i64 s, .int .i64 z, .int .i64 o, .slice none 0 0, .slice (some ⟨w1.heap.size, 0, none⟩) g g, .slice (some ⟨w1.heap.size + 1, 0, none⟩) (b + 1) (b + 1), .slice none 0 0] 76)
       exact ⟨_, _, _, rfl, ((((Below.refl _ _).alloc (Nat.le_refl _) _).trans (hbel.mono (by simp))).trans (t.2.2.2.mono (by omega))).drew,
         newM_at w b s g z o hb hg _ _ _ _ (by omega) (by omega) (by omega) (by omega) (by omega) (by omega) t.2.2.1 t.1 t.2.1⟩)

/-- what New leaves: this is all that the law's texts know of it -/
def NewM (b s g u z o : Nat) (hm : HeapM) : Prop := ∃ vG vB, hm = newM b s g z o vG vB
theorem new_says (b s g u z o : Nat) (w : World) (h : cfgB b s g u z o = true) :
    Calls Tryz.prog 24 #[.agg #[.int .i64 b, .int .i64 s, .int .i64 g, .int .i64 u, .int .i64 z, .int .i64 o]] w
      fun e w' => ∃ x hm, e = .returned (.tuple #[.pointer (some ⟨x, 0, none⟩), .int .i64 0]) ∧ Below w.heap.size w w' ∧ HeapAt w' x hm ∧ (∀ j ∈ x :: hm.foot, w.heap.size ≤ j) ∧ NewM b s g u z o hm := by
  have hcf : (b : Int) ≤ 99 ∧ (g : Int) ≤ 8 := by simp [cfgB] at h; omega
  refine (new_yes b s g u z o w h (by omega) (by omega)).mono ?_
  rintro e w' ⟨x, vG, vB, he, hb, ha, hf⟩
  exact ⟨x, newM b s g z o vG vB, he, hb, ha, hf, vG, vB, rfl⟩

end Go.Proofs.YteekoiljkklnmaaGreatDoor

/- OUR OWN. The program's heap turned. -/
namespace Go.Proofs.YteekoiljkklnmaaGreatDoor
open Go.RowKit
set_option linter.unusedVariables false
set_option linter.unusedSimpArgs false

/-- the program's heap is turned: its own memory alone -/
structure HTurn (h : Nat) (w : World) (m : HeapM) (w' : World) (m' : HeapM) : Prop where
  here : HeapAt w' h m'
  foot : ∀ g ∈ m'.foot, g ∈ m.foot ∨ w.heap.size ≤ g
  off : Off (h :: m.foot) w w'

theorem HTurn.refl {h : Nat} {w : World} {m : HeapM} (r : HeapAt w h m) : HTurn h w m w m := ⟨r, fun _ hg => .inl hg, Off.refl _ _⟩
theorem HTurn.of_below {h : Nat} {w w' : World} {m : HeapM} (r : HeapAt w h m) (hb : Below w.heap.size w w') : HTurn h w m w' m :=
  ⟨r.carry fun x hx => hb.block x (r.lt x hx), fun _ hg => .inl hg, .of_below hb⟩
theorem HTurn.trans {h : Nat} {w w1 w2 : World} {m m1 m2 : HeapM} (a : HTurn h w m w1 m1) (b : HTurn h w1 m1 w2 m2) : HTurn h w m w2 m2 := by
  refine ⟨b.here, fun g hg => ?_, ⟨b.off.os.trans a.off.os, b.off.tape.trans a.off.tape, b.off.output.trans a.off.output, Nat.le_trans a.off.size b.off.size, fun k hk hF => ?_⟩⟩
  · rcases b.foot g hg with e | e
    · exact a.foot g e
    · have := a.off.size; exact .inr (by omega)
  · rw [b.off.block k (by have := a.off.size; omega) ?_, a.off.block k hk hF]
    intro e
    rcases List.mem_cons.1 e with e | e
    · exact hF (by rw [e]; exact List.mem_cons_self)
    · rcases a.foot k e with e | e
      · exact hF (List.mem_cons_of_mem _ e)
      · omega
theorem HTurn.after {h : Nat} {w w1 w2 : World} {m m1 : HeapM} (a : HTurn h w m w1 m1) (hb : Below w1.heap.size w1 w2) : HTurn h w m w2 m1 := a.trans (.of_below a.here hb)

/-- a configuration's numbers -/
structure CfOk (c : Cf) : Prop where
  deep : 1 ≤ c.deep ∧ c.deep ≤ 16
  budget : 1 ≤ c.budget ∧ c.budget ≤ 99
  over : 0 ≤ c.over ∧ c.over ≤ 9
  zero : c.deep < c.zero ∧ c.zero ≤ 99

end Go.Proofs.YteekoiljkklnmaaGreatDoor

/- OUR OWN. The program's heap turned: below, pop, push. -/
namespace Go.Proofs.YteekoiljkklnmaaGreatDoor
open Go.RowKit
set_option linter.unusedVariables false
set_option linter.unusedSimpArgs false

theorem news_drew (w : World) (cs : List Value) (t : TypeId) (H : Nat) (hH : w.heap.size = H) : ∀ j u, cs[j]? = some u → (w.drew.alloc (.cells cs.toArray t)).cell? ((⟨H, 0, none⟩ : Addr).add j) = some u := by
  subst hH
  exact news_new w.drew cs t

def hrow (v : Value) (l : List (Int × Int)) : SRow := ⟨81, 2, v, l.length, l.flatMap valCells⟩
def HObj.row (o : HObj) : SRow := hrow o.vF o.fs
def HeapM.rows (m : HeapM) : List SRow :=
  hrow m.vS m.stack :: hrow m.vG m.globals :: ⟨88, 3, m.vB, m.blks.length, m.blks.flatMap HObj.cells⟩ :: ⟨3, 1, m.vQ, m.queue.length, m.queue.map (Value.int .i64)⟩ :: m.blks.map HObj.row

theorem hrows_foot (m : HeapM) : rfoot m.rows = m.foot := by
  simp only [rfoot, HeapM.rows, HeapM.foot, List.filterMap_cons, List.filterMap_map, List.filterMap_append, SRow.ob, hrow, HObj.row, List.filterMap_nil]
  cases m.vS.ownBlock <;> cases m.vG.ownBlock <;> cases m.vB.ownBlock <;> cases m.vQ.ownBlock <;> simp <;> rfl

theorem HeapAt.rowsAt {w : World} {h : Nat} {m : HeapM} (r : HeapAt w h m) : RowsAt w h m.rows := by
  refine ⟨fun x hx => ?_, by rw [hrows_foot]; exact r.apart, lt_of_heap r.head⟩
  simp only [HeapM.rows, List.mem_cons, List.mem_map] at hx
  rcases hx with rfl | rfl | rfl | rfl | ⟨o, ho, rfl⟩
  · exact r.stack
  · exact r.globals
  · exact r.blocks
  · exact r.queue
  · exact r.fields o ho

theorem RowsAt.heapAt {w : World} {h : Nat} {m : HeapM} (R : RowsAt w h m.rows) (hh : w.heap[h]? = some m.head) : HeapAt w h m :=
  ⟨hh, R.all (hrow m.vS m.stack) (by simp [HeapM.rows]), R.all (hrow m.vG m.globals) (by simp [HeapM.rows]), R.all ⟨88, 3, m.vB, m.blks.length, m.blks.flatMap HObj.cells⟩ (by simp [HeapM.rows]), R.all ⟨3, 1, m.vQ, m.queue.length, m.queue.map (Value.int .i64)⟩ (by simp [HeapM.rows]),
    fun o ho => R.all o.row (by simp only [HeapM.rows, List.mem_cons, List.mem_map]; exact .inr (.inr (.inr (.inr ⟨o, ho, rfl⟩)))), by rw [← hrows_foot]; exact R.apart⟩

theorem HeapAt.cell {w : World} {h : Nat} {m : HeapM} (r : HeapAt w h m) : w.cell? ⟨h, 0, none⟩ = some (.int .i64 m.room) ∧ w.cell? ⟨h, 3, none⟩ = some m.vS ∧ w.cell? ⟨h, 4, none⟩ = some m.vG ∧ w.cell? ⟨h, 5, none⟩ = some m.vB ∧ w.cell? ⟨h, 6, none⟩ = some m.vQ ∧ w.cell? ⟨h, 1, none⟩ = some (.int .i64 m.zero) ∧ w.cell? ⟨h, 2, none⟩ = some (.int .i64 m.over) ∧ ∀ j, w.frozen? ⟨h, j, none⟩ = false :=
  ⟨cell_of_heap r.head rfl, cell_of_heap r.head rfl, cell_of_heap r.head rfl, cell_of_heap r.head rfl, cell_of_heap r.head rfl, cell_of_heap r.head rfl, cell_of_heap r.head rfl, fun _ => frozen_of_heap r.head⟩

/-- one row of the heap and one cell of its head are turned -/
theorem HeapAt.turn {w w' : World} {h : Nat} {m m' : HeapM} (r : HeapAt w h m) (p : Nat) (r0 r1 : SRow) (hp : m.rows[p]? = some r0) (hr : m'.rows = m.rows.set p r1) (hh : w'.heap[h]? = some m'.head) (h1 : r1.At w')
    (hv : ∀ g, r1.ob = some g → r0.ob = some g ∨ w.heap.size ≤ g) (ho : Off (h :: r0.ob.toList) w w') : HTurn h w m w' m' := by
  have R := r.rowsAt
  have hmem : ∀ g, r0.ob = some g → g ∈ m.foot := fun g hg => by rw [← hrows_foot]; exact List.mem_filterMap.2 ⟨r0, List.mem_of_getElem? hp, hg⟩
  obtain ⟨g1, g2⟩ := R.set hp r1 h1 hv (fun k hk h1 h2 => ho.block k hk (by simp; exact ⟨h1, h2⟩)) ho.size
  rw [← hr] at g1 g2
  refine ⟨g1.heapAt hh, fun g hg => ?_, ho.mono fun x hx => ?_⟩
  · rw [← hrows_foot] at hg ⊢
    exact g2 g hg
  · rcases List.mem_cons.1 hx with e | e
    · rw [e]; exact List.mem_cons_self
    · exact List.mem_cons_of_mem _ (hmem x (by simpa using e))

theorem HeapAt.ne {w : World} {h : Nat} {m : HeapM} (r : HeapAt w h m) {x : SRow} (hx : x ∈ m.rows) : x.ob ≠ some h := fun e => by
  have := List.nodup_cons.1 r.rowsAt.apart
  exact this.1 (List.mem_filterMap.2 ⟨x, hx, e⟩)

/-- the stack's row -/
theorem HeapAt.stackView {w : World} {h : Nat} {m : HeapM} (r : HeapAt w h m) (hs : 0 < m.stack.length) :
    ∃ g cap, m.vS = .slice (some ⟨g, 0, none⟩) m.stack.length cap ∧ g < w.heap.size ∧ g ≠ h ∧ m.vS.ownBlock = some g ∧ m.stack.length ≤ cap ∧
      ∀ i (hi : i < m.stack.length), w.cell? ⟨g, i * 2, none⟩ = some (.int .i64 (m.stack[i]).1) ∧ w.cell? ⟨g, i * 2 + 1, none⟩ = some (.int .i64 (m.stack[i]).2) := by
  obtain ⟨g, cap, hv, hg, hb, hc, hcell, _⟩ := own_view r.stack hs
  refine ⟨g, cap, hv, hg, fun e => r.ne (x := hrow m.vS m.stack) (by simp [HeapM.rows]) (by rw [← e]; exact hb), hb, hc, fun i hi => ⟨?_, ?_⟩⟩
  · exact hcell _ _ (by have := flat_get valCells 2 (fun _ => rfl) m.stack i 0 (by decide); simpa [hi, valCells] using this)
  · exact hcell _ _ (by have := flat_get valCells 2 (fun _ => rfl) m.stack i 1 (by decide); simpa [hi, valCells] using this)

set_option maxHeartbeats 800000 in
theorem hdown_any {w : World} {h : Nat} {m : HeapM} (r : HeapAt w h m) (hs : m.stack.length ≤ 16) (n : Nat) (hn : n < m.stack.length) :
    Calls Tryz.prog 73 #[.pointer (some ⟨h, 0, none⟩), .int .i64 n] w
      fun e w' => e = .returned (.agg #[.int .i64 (m.stack[m.stack.length - 1 - n]'(by omega)).1, .int .i64 (m.stack[m.stack.length - 1 - n]'(by omega)).2]) ∧ Below w.heap.size w w' := by
  obtain ⟨g, cap, hv, hg, hgh, _, _, hcell⟩ := r.stackView (by omega)
  have cS : w.cell? ⟨h, 3, none⟩ = some (.slice (some ⟨g, 0, none⟩) m.stack.length cap) := by rw [r.cell.2.1, hv]
  obtain ⟨c0, c1⟩ := hcell (m.stack.length - 1 - n) (by omega)
  have hh := lt_of_heap r.head
  obtain ⟨x, hx⟩ : ∃ x, x = m.stack[m.stack.length - 1 - n]'(by omega) := ⟨_, rfl⟩
  rw [← hx] at c0 c1 ⊢
  obtain ⟨len, hlen⟩ : ∃ len, m.stack.length = len := ⟨_, rfl⟩
  rw [hlen] at cS c0 c1 hs hn
  clear r hv hcell hx hlen
  obtain ⟨x1, x2⟩ := x
  simp only at c0 c1 ⊢
  go_enter Tryz.func73, Tryz.ntmps73
  go_wp2
  go_region
  go_wp2
  refine bodyPost_ret (v := .agg #[.int .i64 x1, .int .i64 x2]) (by simp [results, Tryz.results73, go_sem]) rfl ⟨rfl, ?_⟩
  exact ((Below.refl _ _).alloc (Nat.le_refl _) _).drew

/-- the stack behind a pop -/
theorem HeapAt.popped {w : World} {h : Nat} {m : HeapM} (r : HeapAt w h m) {g cap : Nat} (hv : m.vS = .slice (some ⟨g, 0, none⟩) m.stack.length cap) (k : Nat) (hk : k ≤ m.stack.length) :
    HTurn h w m (w.setCell ⟨h, 3, none⟩ (.slice (some ⟨g, 0, none⟩) k cap)) { m with vS := .slice (some ⟨g, 0, none⟩) k cap, stack := m.stack.take k } := by
  refine r.turn 0 (hrow m.vS m.stack) (hrow (.slice (some ⟨g, 0, none⟩) k cap) (m.stack.take k)) rfl rfl ?_ ?_ ?_ ?_
  · rw [heap_setCell_at r.head]; rfl
  · have hgh : g ≠ h := fun e => r.ne (x := hrow m.vS m.stack) (by simp [HeapM.rows]) (by rw [← e]; show m.vS.ownBlock = _; rw [hv]; rfl)
    have ho : w.ownsRow 0 81 2 (.slice (some ⟨g, 0, none⟩) k cap) k ((m.stack.take k).flatMap valCells) := by
      have hr := r.stack
      rw [hv] at hr
      rcases hr.2 with ⟨e, _⟩ | ⟨g', cap', cur, e, hb, hg, hnc, hcm, hcs, htake⟩
      · simp at e
      · simp at e
        obtain ⟨rfl, rfl⟩ := e
        have hl : ∀ l : List (Int × Int), (l.flatMap valCells).length = l.length * 2 := fun l => by induction l with
          | nil => rfl
          | cons a l ih => rw [List.flatMap_cons, List.length_append, ih, List.length_cons]; simp [valCells]; omega
        have ht : (m.stack.take k).flatMap valCells = (m.stack.flatMap valCells).take (k * 2) := by
          have e1 : m.stack.flatMap valCells = (m.stack.take k).flatMap valCells ++ (m.stack.drop k).flatMap valCells := by rw [← List.flatMap_append, List.take_append_drop]
          rw [e1, List.take_left' (by rw [hl, List.length_take]; omega)]
        refine ⟨by rw [hl, List.length_take]; omega, .inr ⟨g, cap, cur, rfl, hb, hg, by omega, hcm, hcs, ?_⟩⟩
        rw [ht, ← htake, List.take_take]
        congr 1
        omega
    show (w.setCell ⟨h, 3, none⟩ _).ownsRow 0 _ 2 _ (m.stack.take k).length _
    rw [List.length_take, Nat.min_eq_left hk]
    exact own_carry ho fun j hj => hso (k := j) (b := h) (fun e => hgh ((Option.some.inj hj).trans e))
  · intro j hj
    left
    show m.vS.ownBlock = some j
    rw [hv]; exact hj
  · exact (off_setCell w h 3 _).mono (by simp)

theorem HTurn.drew {h : Nat} {w w' : World} {m m' : HeapM} (t : HTurn h w m w' m') : HTurn h w m w'.drew m' := t.after ⟨rfl, rfl, rfl, Nat.le_refl _, fun _ _ => rfl⟩
theorem HTurn.drewN {h : Nat} {w w' : World} {m m' : HeapM} (t : HTurn h w m w' m') (n : Nat) : HTurn h w m (w'.drewN n) m' := t.after ⟨rfl, rfl, rfl, Nat.le_refl _, fun _ _ => rfl⟩

set_option maxHeartbeats 800000 in
theorem hpop_any {w : World} {h : Nat} {m : HeapM} (r : HeapAt w h m) (hs : m.stack.length ≤ 16) (n : Nat) (hn : n ≤ m.stack.length) (h0 : 0 < m.stack.length) :
    Calls Tryz.prog 74 #[.pointer (some ⟨h, 0, none⟩), .int .i64 n] w
      fun e w' => e = .returned (.tuple #[]) ∧ ∃ v', HTurn h w m w' { m with vS := v', stack := m.stack.take (m.stack.length - n) } := by
  obtain ⟨g, cap, hv, hg, hgh, _, hcap, _⟩ := r.stackView h0
  have cS : w.cell? ⟨h, 3, none⟩ = some (.slice (some ⟨g, 0, none⟩) m.stack.length cap) := by rw [r.cell.2.1, hv]
  have fS : w.frozen? ⟨h, 3, none⟩ = false := frozen_of_heap r.head
  have P : Hid (HTurn h w m (w.setCell ⟨h, 3, none⟩ (.slice (some ⟨g, 0, none⟩) (m.stack.length - n) cap)) { m with vS := .slice (some ⟨g, 0, none⟩) (m.stack.length - n) cap, stack := m.stack.take (m.stack.length - n) }) := r.popped hv _ (by omega)
  obtain ⟨len, hlen⟩ : ∃ len, m.stack.length = len := ⟨_, rfl⟩
  rw [hlen] at cS hs hn hcap P ⊢
  clear r hv hlen
  have hnI : (n : Int) ≤ len := by omega
  go_enter Tryz.func74, Tryz.ntmps74
  go_wp2
  go_region
  go_wp2
  go_end0
  exact ⟨rfl, _, P.out.drew⟩

/-- the stack behind a push -/
theorem HeapAt.pushed {w w1 : World} {h : Nat} {m : HeapM} (r : HeapAt w h m) {g cap : Nat} (x : Int × Int)
    (hown : w1.ownsRow 0 81 2 (.slice (some ⟨g, 0, none⟩) (m.stack.length + 1) cap) (m.stack.length + 1) (m.stack.flatMap valCells ++ valCells x))
    (hgr : w.grownBy w1 m.vS.ownBlock) (hlie : m.vS.ownBlock = some g ∨ g = w.heap.size) :
    HTurn h w m (w1.setCell ⟨h, 3, none⟩ (.slice (some ⟨g, 0, none⟩) (m.stack.length + 1) cap)) { m with vS := .slice (some ⟨g, 0, none⟩) (m.stack.length + 1) cap, stack := m.stack ++ [x] } := by
  have hh := lt_of_heap r.head
  have hne : m.vS.ownBlock ≠ some h := r.ne (x := hrow m.vS m.stack) (by simp [HeapM.rows])
  have hgh : g ≠ h := fun e => by
    rcases hlie with e1 | e1
    · exact hne (by rw [e1, e])
    · omega
  have hh1 : w1.heap[h]? = some m.head := by rw [hgr.block h hh (fun e => hne e.symm)]; exact r.head
  refine r.turn 0 (hrow m.vS m.stack) (hrow (.slice (some ⟨g, 0, none⟩) (m.stack.length + 1) cap) (m.stack ++ [x])) rfl rfl ?_ ?_ ?_ ?_
  · rw [heap_setCell_at hh1]; rfl
  · show (w1.setCell ⟨h, 3, none⟩ _).ownsRow 0 _ 2 _ (m.stack ++ [x]).length ((m.stack ++ [x]).flatMap valCells)
    rw [List.flatMap_append, List.length_append, List.length_singleton, List.flatMap_singleton]
    exact own_carry hown fun j hj => hso (k := j) (b := h) (fun e => hgh ((Option.some.inj hj).trans e))
  · intro j hj
    have hj' : j = g := by simpa [SRow.ob, hrow, Value.ownBlock, eq_comm] using hj
    subst hj'
    rcases hlie with e1 | e1
    · exact .inl e1
    · exact .inr (by omega)
  · exact ((off_grown hgr).mono (fun y hy => List.mem_cons_of_mem _ hy)).trans ((off_setCell w1 h 3 _).mono (by simp))

theorem HTurn.pre {h : Nat} {w0 w w' : World} {m m' : HeapM} (r : HeapAt w0 h m) (hb : Below w0.heap.size w0 w) (t : HTurn h w m w' m') : HTurn h w0 m w' m' := (HTurn.of_below r hb).trans t

set_option maxHeartbeats 400000 in
theorem isDeep_any {w : World} {h : Nat} {m : HeapM} (r : HeapAt w h m) :
    Calls Tryz.prog 70 #[.pointer (some ⟨h, 0, none⟩)] w fun e w' => e = .returned (.bool (decide (m.room ≤ m.stack.length))) ∧ Below w.heap.size w w' := by
  obtain ⟨ao, cap, hv⟩ := own_slice r.stack
  have cS : w.cell? ⟨h, 3, none⟩ = some (.slice ao m.stack.length cap) := by rw [r.cell.2.1, hv]
  have cD := r.cell.1
  obtain ⟨len, hlen⟩ : ∃ len, m.stack.length = len := ⟨_, rfl⟩
  rw [hlen] at cS ⊢
  obtain ⟨D, hD⟩ : ∃ D, m.room = D := ⟨_, rfl⟩
  rw [hD] at cD ⊢
  clear r hv hlen hD
  go_enter Tryz.func70, Tryz.ntmps70
  go_wp2
  go_quiet (fail)
  go_wp2
  go_ret
  exact ⟨rfl, below_drewN (Below.refl _ _) _⟩

set_option maxHeartbeats 400000 in
theorem hpush_full {w : World} {h : Nat} {m : HeapM} (r : HeapAt w h m) (x : Int × Int) (hd : m.room ≤ m.stack.length) :
    Calls Tryz.prog 39 #[.pointer (some ⟨h, 0, none⟩), .agg #[.int .i64 x.1, .int .i64 x.2]] w fun e w' => e = .returned (.int .i64 7) ∧ Below w.heap.size w w' := by
  have D : Hid (∀ ob, Calls Tryz.prog 70 #[.pointer (some ⟨h, 0, none⟩)] (w.alloc ob) fun e w' => e = .returned (.bool true) ∧ Below (w.alloc ob).heap.size (w.alloc ob) w') := fun ob =>
    (isDeep_any (r.carry fun y hy => hao (r.lt y hy))).mono fun e w' ⟨h1, h2⟩ => ⟨h1.trans (ret_bool (by simpa using hd)), h2⟩
  obtain ⟨x1, x2⟩ := x
  simp only
  clear r hd
  go_enter Tryz.func39, Tryz.ntmps39
  go_wp2_with fail
  refine Calls.mono (D.out _) ?_
  rintro e w1 ⟨rfl, hb⟩
  have B : Hid (Below w.heap.size w w1) := ((Below.refl _ _).alloc (Nat.le_refl _) _).trans (hb.mono (by simp))
  clear hb D
  go_wp2
  go_ret
  exact ⟨rfl, B.out⟩

set_option maxHeartbeats 800000 in
theorem hpush_room {w : World} {h : Nat} {m : HeapM} (r : HeapAt w h m) (hs : m.stack.length ≤ 16) (x : Int × Int) (hd : m.stack.length < m.room) :
    Calls Tryz.prog 39 #[.pointer (some ⟨h, 0, none⟩), .agg #[.int .i64 x.1, .int .i64 x.2]] w
      fun e w' => e = .returned (.int .i64 0) ∧ ∃ v', HTurn h w m w' { m with vS := v', stack := m.stack ++ [x] } := by
  obtain ⟨ao, cap, hv⟩ := own_slice r.stack
  have cS : w.cell? ⟨h, 3, none⟩ = some (.slice ao m.stack.length cap) := by rw [r.cell.2.1, hv]
  have hh := lt_of_heap r.head
  have hne : m.vS.ownBlock ≠ some h := r.ne (x := hrow m.vS m.stack) (by simp [HeapM.rows])
  have FIN : Hid (∀ W w1 g cap', Below w.heap.size w W → w1.ownsRow 0 81 2 (.slice (some ⟨g, 0, none⟩) (m.stack.length + 1) cap') (m.stack.length + 1) (m.stack.flatMap valCells ++ valCells x) →
    W.grownBy w1 m.vS.ownBlock → (m.vS.ownBlock = some g ∨ g = W.heap.size) → HTurn h w m (w1.setCell ⟨h, 3, none⟩ (.slice (some ⟨g, 0, none⟩) (m.stack.length + 1) cap')) { m with vS := .slice (some ⟨g, 0, none⟩) (m.stack.length + 1) cap', stack := m.stack ++ [x] } ∧
      w1.cell? ⟨h, 3, none⟩ = some m.vS ∧ w1.frozen? ⟨h, 3, none⟩ = false) := by
    intro W w1 g cap' hb ho hgr hl
    have r1 : HeapAt W h m := r.carry fun y hy => hb.block y (r.lt y hy)
    have hh1 : w1.heap[h]? = some m.head := by rw [hgr.block h (lt_of_heap r1.head) (fun e => hne e.symm)]; exact r1.head
    exact ⟨HTurn.pre r hb (r1.pushed x ho hgr hl), cell_of_heap hh1 rfl, frozen_of_heap hh1⟩
  have OWN : Hid (∀ W, Below w.heap.size w W → W.ownsRow 0 81 2 m.vS m.stack.length (m.stack.flatMap valCells)) := fun W hb => own_carry r.stack fun j hj => hb.block j (own_lt r.stack hj).2
  have D : Hid (∀ ob, Calls Tryz.prog 70 #[.pointer (some ⟨h, 0, none⟩)] (w.alloc ob) fun e w' => e = .returned (.bool false) ∧ Below (w.alloc ob).heap.size (w.alloc ob) w') := fun ob =>
    (isDeep_any (r.carry fun y hy => hao (r.lt y hy))).mono fun e w' ⟨h1, h2⟩ => ⟨h1.trans (ret_bool (by simp; omega)), h2⟩
  have OLD : Hid (∀ W, Below w.heap.size w W → W.cell? ⟨h, 3, none⟩ = some (.slice ao m.stack.length cap)) := fun W hb => (hb.cell (p := ⟨h, 3, none⟩) hh).trans cS
  obtain ⟨x1, x2⟩ := x
  simp only at *
  rw [hv] at FIN OWN
  obtain ⟨len, hlen⟩ : ∃ len, m.stack.length = len := ⟨_, rfl⟩
  rw [hlen] at cS hs hd FIN OWN OLD
  clear r hv hlen hne hd cS
  go_enter Tryz.func39, Tryz.ntmps39
  go_wp2_with fail
  refine Calls.mono (D.out _) ?_
  rintro e w5 ⟨rfl, hb⟩
  have B : Hid (Below w.heap.size w w5) := ((Below.refl _ _).alloc (Nat.le_refl _) _).trans (hb.mono (by simp))
  have cS := OLD.out w5 B.out
  have hbx := boxed' hb
  have x0 : w5.cell? ⟨w.heap.size, 0, none⟩ = some (.int .i64 x1) := cell_of_heap hbx rfl
  have x9 : w5.cell? ⟨w.heap.size, 1, none⟩ = some (.int .i64 x2) := cell_of_heap hbx rfl
  have hal : ∀ ob, (w5.alloc ob).cell? ⟨h, 3, none⟩ = w5.cell? ⟨h, 3, none⟩ := fun ob => World.cell?_of_block (hao (by have := B.out.size; show h < _; omega))
  clear hb D hbx
  go_wp2_with fail
  obtain ⟨i1, hi1, hy0, hy1, hy2⟩ := info_parts infoValue
  go_region_law (refine step_append_lies _ rfl (.tmp 11) (.tmp 13) 73 rfl 0 81 i1 _ 2 16 Tryz.underlying73 hi1 hy0 hy1 hy2 rfl (by decide) _ _ _ (by simp [Act.eval, Act.put]) (OWN.out _ (B.out.drew.alloc (by have := B.out.size; simpa using this) _)) ⟨w5.heap.size, 0, none⟩ 1 1 [.int .i64 x1, .int .i64 x2] (by simp [Act.eval, Act.put]) rfl (news_drew _ _ _ _ (by simp)) (by intro u hu; simp at hu; rcases hu with rfl | rfl <;> rfl) (by decide) (by unfold maxLen; omega) (by omega) (Nat.zero_le _) (w5.heap.size + 1) (by simp) ?_; intro g' cap1 w1 hown hgr hlie _; obtain ⟨T, hc, hf⟩ := FIN.out _ w1 g' cap1 (B.out.drew.alloc (by have := B.out.size; simpa using this) _) hown hgr (by simpa using hlie))
  all_goals go_wp2
  all_goals go_ret
  all_goals exact ⟨rfl, _, by assumption⟩

end Go.Proofs.YteekoiljkklnmaaGreatDoor

/- OUR OWN. The program's heap: operations on the stack and the globals. -/
namespace Go.Proofs.YteekoiljkklnmaaGreatDoor
open Go.RowKit
set_option linter.unusedVariables false
set_option linter.unusedSimpArgs false

def HObj.ob (o : HObj) : Ob := ⟨decide (o.state ≠ 0), o.fs, decide (o.state = 2), decide (o.state = 3)⟩
def HeapM.st (m : HeapM) : St := ⟨m.stack, m.globals, m.blks.map HObj.ob, m.queue⟩
/-- all but stack and globals -/
def HeapM.rest (m : HeapM) : Int × Int × Int × List HObj × List Int := (m.room, m.zero, m.over, m.blks, m.queue)

structure HeapM.Ok (m : HeapM) (N : Nat) : Prop where
  len : m.blks.length = N + 1
  small : N ≤ 99
  fields : ∀ o ∈ m.blks, o.fs.length ≤ 4
  stack : m.stack.length ≤ 16
  globals : m.globals.length ≤ 8

structure HPre (h N : Nat) (w : World) (m : HeapM) : Prop where
  r : HeapAt w h m
  ok : m.Ok N
  inv : m.st.Inv N
  deep : m.room ≤ 16

structure HStep (h N : Nat) (w : World) (m : HeapM) (w' : World) (m' : HeapM) : Prop where
  turn : HTurn h w m w' m'
  ok : m'.Ok N
  rest : m'.rest = m.rest

theorem HStep.of_below {h N : Nat} {w w' : World} {m : HeapM} (p : HPre h N w m) (hb : Below w.heap.size w w') : HStep h N w m w' m := ⟨.of_below p.r hb, p.ok, rfl⟩
theorem HStep.refl {h N : Nat} {w : World} {m : HeapM} (p : HPre h N w m) : HStep h N w m w m := ⟨.refl p.r, p.ok, rfl⟩
theorem HStep.trans {h N : Nat} {w w1 w2 : World} {m m1 m2 : HeapM} (a : HStep h N w m w1 m1) (b : HStep h N w1 m1 w2 m2) : HStep h N w m w2 m2 := ⟨a.turn.trans b.turn, b.ok, b.rest.trans a.rest⟩
theorem HStep.after {h N : Nat} {w w1 w2 : World} {m m1 : HeapM} (a : HStep h N w m w1 m1) (hb : Below w1.heap.size w1 w2) : HStep h N w m w2 m1 := ⟨a.turn.after hb, a.ok, a.rest⟩
theorem HStep.pre {h N : Nat} {w w' : World} {m m' : HeapM} (a : HStep h N w m w' m') (p : HPre h N w m) (hi : m'.st.Inv N) : HPre h N w' m' := ⟨a.turn.here, a.ok, hi, by have h1 : m'.room = m.room := congrArg Prod.fst a.rest; rw [h1]; exact p.deep⟩
theorem HPre.below {h N : Nat} {w w' : World} {m : HeapM} (p : HPre h N w m) (hb : Below w.heap.size w w') : HPre h N w' m := ⟨(HTurn.of_below p.r hb).here, p.ok, p.inv, p.deep⟩

def HDid (h N : Nat) (w : World) (m : HeapM) (p : St × Int × Int) (e : Ending) (w' : World) : Prop := e = .returned (.int .i64 p.2.2) ∧ ∃ m', HStep h N w m w' m' ∧ m'.st = p.1
def HDid2 (h N : Nat) (w : World) (m : HeapM) (p : St × Int × Int) (e : Ending) (w' : World) : Prop := e = .returned (.tuple #[.int .i64 p.2.1, .int .i64 p.2.2]) ∧ ∃ m', HStep h N w m w' m' ∧ m'.st = p.1

theorem hpush_do {h N : Nat} {w : World} {m : HeapM} (p : HPre h N w m) (x : Int × Int) :
    Calls Tryz.prog 39 #[.pointer (some ⟨h, 0, none⟩), .agg #[.int .i64 x.1, .int .i64 x.2]] w (HDid h N w m (pushA m.room m.st x)) := by
  by_cases hd : m.room ≤ m.stack.length
  · have e : pushA m.room m.st x = (m.st, 0, 7) := by unfold pushA pushS; rw [if_pos (show m.room ≤ (m.st.stack.length : Int) from hd)]
    refine (hpush_full p.r x hd).mono fun e' w' ⟨he, hb⟩ => ?_
    rw [e]
    exact ⟨he, m, .of_below p hb, rfl⟩
  · have e : pushA m.room m.st x = ({ m.st with stack := m.stack ++ [x] }, 0, 0) := by unfold pushA pushS; rw [if_neg (show ¬ m.room ≤ (m.st.stack.length : Int) from hd)]; rfl
    refine (hpush_room p.r p.ok.stack x (by omega)).mono fun e' w' ⟨he, v', ht⟩ => ?_
    rw [e]
    refine ⟨he, _, ⟨ht, ⟨p.ok.len, p.ok.small, p.ok.fields, ?_, p.ok.globals⟩, rfl⟩, rfl⟩
    have := p.deep
    simp; omega

theorem hpop_do {h N : Nat} {w : World} {m : HeapM} (p : HPre h N w m) (n : Nat) (hn : n ≤ m.stack.length) (h0 : 0 < m.stack.length) :
    Calls Tryz.prog 74 #[.pointer (some ⟨h, 0, none⟩), .int .i64 n] w fun e w' => e = .returned (.tuple #[]) ∧ ∃ v', HStep h N w m w' { m with vS := v', stack := m.stack.take (m.stack.length - n) } := by
  refine (hpop_any p.r p.ok.stack n hn h0).mono fun e' w' ⟨he, v', ht⟩ => ⟨he, v', ht, ⟨p.ok.len, p.ok.small, p.ok.fields, ?_, p.ok.globals⟩, rfl⟩
  have := p.ok.stack
  simp; omega

theorem hst_down (m : HeapM) (k : Nat) (hk : k < m.stack.length) : m.stack[m.stack.length - 1 - k]'(by omega) = m.st.down k := by
  unfold St.down
  rw [List.getD_eq_getElem?_getD]
  show _ = (m.stack[m.stack.length - 1 - k]?).getD _
  rw [List.getElem?_eq_getElem (by omega)]
  rfl

theorem hdown_do {h N : Nat} {w : World} {m : HeapM} (p : HPre h N w m) (k : Nat) (hk : k < m.stack.length) :
    Calls Tryz.prog 73 #[.pointer (some ⟨h, 0, none⟩), .int .i64 k] w
      fun e w' => e = .returned (.agg #[.int .i64 (m.st.down k).1, .int .i64 (m.st.down k).2]) ∧ Below w.heap.size w w' := by
  have := hdown_any p.r p.ok.stack k hk
  rw [hst_down m k hk] at this
  exact this

theorem HPre.stackCell {h N : Nat} {w : World} {m : HeapM} (p : HPre h N w m) : ∃ ao cap, w.cell? ⟨h, 3, none⟩ = some (.slice ao m.stack.length cap) := by
  obtain ⟨ao, cap, hv⟩ := own_slice p.r.stack
  exact ⟨ao, cap, by rw [p.r.cell.2.1, hv]⟩

theorem hturn_local {h N L : Nat} {w W w' : World} {m m' : HeapM} {ob : Obj} (p : HPre h N w m) (hb : Below w.heap.size w W) (hW : W.heap[L]? = some ob) (hL : w.heap.size ≤ L) (t : HTurn h W m w' m') : w'.heap[L]? = some ob := by
  rw [t.off.block L (lt_of_heap hW) ?_]
  · exact hW
  · intro e
    have := p.r.lt L e
    omega

theorem HPre.globalCell {h N : Nat} {w : World} {m : HeapM} (p : HPre h N w m) : ∃ ao cap, w.cell? ⟨h, 4, none⟩ = some (.slice ao m.globals.length cap) := by
  obtain ⟨ao, cap, hv⟩ := own_slice p.r.globals
  exact ⟨ao, cap, by rw [p.r.cell.2.2.1, hv]⟩

/-- the globals' row -/
theorem HeapAt.globalView {w : World} {h : Nat} {m : HeapM} (r : HeapAt w h m) (hs : 0 < m.globals.length) :
    ∃ g cap, m.vG = .slice (some ⟨g, 0, none⟩) m.globals.length cap ∧ g < w.heap.size ∧ g ≠ h ∧ m.vG.ownBlock = some g ∧ (∀ j, w.frozen? ⟨g, j, none⟩ = false) ∧
      ∀ i (hi : i < m.globals.length), w.cell? ⟨g, i * 2, none⟩ = some (.int .i64 (m.globals[i]).1) ∧ w.cell? ⟨g, i * 2 + 1, none⟩ = some (.int .i64 (m.globals[i]).2) := by
  obtain ⟨g, cap, hv, hg, hb, hc, hcell, hf⟩ := own_view r.globals hs
  refine ⟨g, cap, hv, hg, fun e => r.ne (x := hrow m.vG m.globals) (by simp [HeapM.rows]) (by rw [← e]; exact hb), hb, hf, fun i hi => ⟨?_, ?_⟩⟩
  · exact hcell _ _ (by have := flat_get valCells 2 (fun _ => rfl) m.globals i 0 (by decide); simpa [hi, valCells] using this)
  · exact hcell _ _ (by have := flat_get valCells 2 (fun _ => rfl) m.globals i 1 (by decide); simpa [hi, valCells] using this)

/-- a global is turned -/
theorem HeapAt.globalSet {w : World} {h : Nat} {m : HeapM} (r : HeapAt w h m) {g cap : Nat} (hv : m.vG = .slice (some ⟨g, 0, none⟩) m.globals.length cap) (k : Nat) (hk : k < m.globals.length) (x : Int × Int) :
    HTurn h w m ((w.setCell ⟨g, k * 2, none⟩ (.int .i64 x.1)).setCell ⟨g, k * 2 + 1, none⟩ (.int .i64 x.2)) { m with globals := m.globals.set k x } := by
  have hob : m.vG.ownBlock = some g := by rw [hv]; rfl
  have hgh : g ≠ h := fun e => r.ne (x := hrow m.vG m.globals) (by simp [HeapM.rows]) (by rw [← e]; exact hob)
  refine r.turn 1 (hrow m.vG m.globals) (hrow m.vG (m.globals.set k x)) rfl rfl ?_ ?_ ?_ ?_
  · rw [hso (fun e => hgh e.symm), hso (fun e => hgh e.symm)]; exact r.head
  · show (World.setCell _ _ _).ownsRow 0 _ 2 m.vG (m.globals.set k x).length ((m.globals.set k x).flatMap valCells)
    have hi : m.globals[k]? = some m.globals[k] := List.getElem?_eq_getElem hk
    have e1 := flat_set valCells 2 (fun _ => rfl) m.globals k 0 (by decide) _ (.int .i64 x.1) hi (x.1, (m.globals[k]).2) rfl
    have h1 : (m.globals.set k (x.1, (m.globals[k]).2))[k]? = some (x.1, (m.globals[k]).2) := by simp [hk]
    have e2 := flat_set valCells 2 (fun _ => rfl) _ k 1 (by decide) _ (.int .i64 x.2) h1 x rfl
    rw [List.set_set, e1] at e2
    rw [List.length_set, e2, Nat.add_zero]
    have hb := r.globals
    rw [hv] at hb ⊢
    exact ((hb.stored _ _).1.stored _ _).1
  · intro j hj
    exact .inl hj
  · have hm : ∀ y ∈ [g], y ∈ h :: (hrow m.vG m.globals).ob.toList := fun y hy => by simp at hy; subst hy; exact List.mem_cons_of_mem _ (by simp [SRow.ob, hrow, hob])
    exact ((off_setCell w g _ _).mono hm).trans ((off_setCell _ g _ _).mono hm)

set_option maxHeartbeats 800000 in
theorem hdup_do (h N : Nat) (w : World) (m : HeapM) (n : Int) (p : HPre h N w m) : Calls Tryz.prog 41 #[.pointer (some ⟨h, 0, none⟩), .int .i64 n] w (HDid h N w m (dupS m.room m.st n)) := by
  obtain ⟨ao, cap, cS⟩ := p.stackCell
  have hl := p.ok.stack
  by_cases hc : n < 0 ∨ (m.stack.length : Int) ≤ n
  · have e : dupS m.room m.st n = (m.st, 0, 6) := by unfold dupS; exact if_pos hc
    simp only [e]
    have K : Hid (∃ m', HStep h N w m w m' ∧ m'.st = m.st) := ⟨m, .refl p, rfl⟩
    obtain ⟨len, hlen⟩ : ∃ len, m.stack.length = len := ⟨_, rfl⟩
    rw [hlen] at hc cS hl
    clear p e hlen
    rcases hc with hc | hc
    · go_enter Tryz.func41, Tryz.ntmps41
      go_wp2
      go_ret
      exact ⟨rfl, K.out⟩
    · have hn : ¬ n < 0 := by omega
      go_enter Tryz.func41, Tryz.ntmps41
      go_wp2
      go_ret
      exact ⟨rfl, K.out⟩
  · obtain ⟨k, rfl⟩ : ∃ k : Nat, n = k := ⟨n.toNat, by omega⟩
    have hk : k < m.stack.length := by omega
    have e : dupS m.room m.st k = pushA m.room m.st (m.st.down k) := by unfold dupS; exact (if_neg hc).trans (by rw [Int.toNat_natCast])
    simp only [e]
    have DN := hdown_do p k hk
    have D : Hid _ := DN
    have PU : Hid (∀ W, Below w.heap.size w W → Calls Tryz.prog 39 #[.pointer (some ⟨h, 0, none⟩), .agg #[.int .i64 (m.st.down k).1, .int .i64 (m.st.down k).2]] W fun e w' => HDid h N w m (pushA m.room m.st (m.st.down k)) e w') :=
      fun W hb => (hpush_do (p.below hb) (m.st.down k)).mono fun e w' ⟨he, m', hs, hm⟩ => ⟨he, m', (HStep.of_below p hb).trans hs, hm⟩
    obtain ⟨len, hlen⟩ : ∃ len, m.stack.length = len := ⟨_, rfl⟩
    rw [hlen] at hc cS hl hk
    obtain ⟨x, hx⟩ : ∃ x, m.st.down k = x := ⟨_, rfl⟩
    rw [hx] at D PU ⊢
    obtain ⟨x1, x2⟩ := x
    clear p e DN hlen hx hc
    have hkI : (k : Int) < len := by omega
    go_enter Tryz.func41, Tryz.ntmps41
    go_wp2_with fail
    refine Calls.mono D.out ?_
    rintro e w1 ⟨rfl, hb⟩
    have B : Hid (Below w.heap.size w w1) := hb
    clear hb D
    go_wp2_with fail
    refine Calls.mono (PU.out _ (B.out.alloc B.out.size _)) ?_
    rintro e w2 ⟨rfl, hm⟩
    have M : Hid _ := hm
    clear hm PU
    go_wp2
    go_ret
    exact ⟨rfl, M.out⟩

set_option maxHeartbeats 400000 in
theorem hdrop_do (h N : Nat) (w : World) (m : HeapM) (p : HPre h N w m) : Calls Tryz.prog 42 #[.pointer (some ⟨h, 0, none⟩)] w (HDid h N w m (dropS m.st)) := by
  obtain ⟨ao, cap, cS⟩ := p.stackCell
  have hl := p.ok.stack
  by_cases hc : m.stack.length < 1
  · have e : dropS m.st = (m.st, 0, 3) := by unfold dropS; rw [if_pos (show m.st.stack.length < 1 from hc)]
    simp only [e]
    have K : Hid (∃ m', HStep h N w m w m' ∧ m'.st = m.st) := ⟨m, .refl p, rfl⟩
    obtain ⟨len, hlen⟩ : ∃ len, m.stack.length = len := ⟨_, rfl⟩
    rw [hlen] at hc cS hl
    clear p e hlen
    obtain rfl : len = 0 := by omega
    go_enter Tryz.func42, Tryz.ntmps42
    go_wp2
    go_ret
    exact ⟨rfl, K.out⟩
  · have e : dropS m.st = (m.st.pop 1, 0, 0) := by unfold dropS; rw [if_neg (show ¬ m.st.stack.length < 1 from hc)]
    simp only [e]
    have PO := hpop_do p 1 (by omega) (by omega)
    have P : Hid _ := PO
    obtain ⟨len, hlen⟩ : ∃ len, m.stack.length = len := ⟨_, rfl⟩
    rw [hlen] at hc cS hl
    have L : Hid (m.stack.length = len) := hlen
    clear p e hlen PO
    go_enter Tryz.func42, Tryz.ntmps42
    go_wp2_with fail
    refine Calls.mono P.out ?_
    rintro e w1 ⟨rfl, v', hm⟩
    have M : Hid (∃ m', HStep h N w m w1 m' ∧ m'.st = m.st.pop 1) := ⟨_, hm, rfl⟩
    clear hm P
    go_wp2
    go_ret
    exact ⟨rfl, M.out⟩

set_option maxHeartbeats 800000 in
theorem hget_do (h N : Nat) (w : World) (m : HeapM) (n : Int) (p : HPre h N w m) : Calls Tryz.prog 43 #[.pointer (some ⟨h, 0, none⟩), .int .i64 n] w (HDid h N w m (getS m.room m.st n)) := by
  obtain ⟨ao, cap, cG⟩ := p.globalCell
  have hl := p.ok.globals
  by_cases hc : n < 0 ∨ (m.globals.length : Int) ≤ n
  · have e : getS m.room m.st n = (m.st, 0, 6) := by unfold getS; exact if_pos hc
    simp only [e]
    have K : Hid (∃ m', HStep h N w m w m' ∧ m'.st = m.st) := ⟨m, .refl p, rfl⟩
    obtain ⟨len, hlen⟩ : ∃ len, m.globals.length = len := ⟨_, rfl⟩
    rw [hlen] at hc cG hl
    clear p e hlen
    rcases hc with hc | hc
    · go_enter Tryz.func43, Tryz.ntmps43
      go_wp2
      go_ret
      exact ⟨rfl, K.out⟩
    · have hn : ¬ n < 0 := by omega
      go_enter Tryz.func43, Tryz.ntmps43
      go_wp2
      go_ret
      exact ⟨rfl, K.out⟩
  · obtain ⟨k, rfl⟩ : ∃ k : Nat, n = k := ⟨n.toNat, by omega⟩
    have hk : k < m.globals.length := by omega
    have e : getS m.room m.st k = pushA m.room m.st m.globals[k] := by
      unfold getS
      exact (if_neg hc).trans (by rw [Int.toNat_natCast, List.getD_eq_getElem?_getD]; show pushA _ _ ((m.globals[k]?).getD _) = _; rw [List.getElem?_eq_getElem hk]; rfl)
    simp only [e]
    obtain ⟨g, cap', hv, hg, hgh, _, _, hcell⟩ := p.r.globalView (by omega)
    have cG' : w.cell? ⟨h, 4, none⟩ = some (.slice (some ⟨g, 0, none⟩) m.globals.length cap') := by rw [p.r.cell.2.2.1, hv]
    obtain ⟨c0, c1⟩ := hcell k hk
    have PU := hpush_do p m.globals[k]
    have P : Hid _ := PU
    obtain ⟨x, hx⟩ : ∃ x, m.globals[k] = x := ⟨_, rfl⟩
    rw [hx] at P c0 c1 ⊢
    obtain ⟨len, hlen⟩ : ∃ len, m.globals.length = len := ⟨_, rfl⟩
    rw [hlen] at hc cG' hl hk
    obtain ⟨x1, x2⟩ := x
    simp only at c0 c1
    clear p e PU hlen hx hc cG hcell hv
    have hkI : (k : Int) < len := by omega
    go_enter Tryz.func43, Tryz.ntmps43
    go_wp2_with fail
    refine Calls.mono P.out ?_
    rintro e w1 ⟨rfl, hm⟩
    have M : Hid _ := hm
    clear hm P
    go_wp2
    go_ret
    exact ⟨rfl, M.out⟩

set_option maxHeartbeats 1000000 in
theorem hset_do (h N : Nat) (w : World) (m : HeapM) (n : Int) (p : HPre h N w m) : Calls Tryz.prog 44 #[.pointer (some ⟨h, 0, none⟩), .int .i64 n] w (HDid h N w m (setS m.st n)) := by
  obtain ⟨ao, cap, cG⟩ := p.globalCell
  obtain ⟨so, sc, cS⟩ := p.stackCell
  have hl := p.ok.globals
  have hls := p.ok.stack
  by_cases hc : n < 0 ∨ (m.globals.length : Int) ≤ n
  · have e : setS m.st n = (m.st, 0, 6) := by unfold setS; exact if_pos hc
    simp only [e]
    have K : Hid (∃ m', HStep h N w m w m' ∧ m'.st = m.st) := ⟨m, .refl p, rfl⟩
    obtain ⟨len, hlen⟩ : ∃ len, m.globals.length = len := ⟨_, rfl⟩
    rw [hlen] at hc cG hl
    clear p e hlen
    rcases hc with hc | hc
    · go_enter Tryz.func44, Tryz.ntmps44
      go_wp2
      go_ret
      exact ⟨rfl, K.out⟩
    · have hn : ¬ n < 0 := by omega
      go_enter Tryz.func44, Tryz.ntmps44
      go_wp2
      go_ret
      exact ⟨rfl, K.out⟩
  · obtain ⟨k, rfl⟩ : ∃ k : Nat, n = k := ⟨n.toNat, by omega⟩
    have hk : k < m.globals.length := by omega
    by_cases h0 : m.stack.length < 1
    · have e : setS m.st k = (m.st, 0, 3) := by unfold setS; exact (if_neg hc).trans (if_pos h0)
      simp only [e]
      have K : Hid (∃ m', HStep h N w m w m' ∧ m'.st = m.st) := ⟨m, .refl p, rfl⟩
      obtain ⟨len, hlen⟩ : ∃ len, m.globals.length = len := ⟨_, rfl⟩
      rw [hlen] at hc cG hl hk
      obtain ⟨sl, hsl⟩ : ∃ sl, m.stack.length = sl := ⟨_, rfl⟩
      rw [hsl] at h0 cS hls
      clear p e hlen hc hsl
      obtain rfl : sl = 0 := by omega
      have hkI : (k : Int) < len := by omega
      go_enter Tryz.func44, Tryz.ntmps44
      go_wp2
      go_ret
      exact ⟨rfl, K.out⟩
    · have e : setS m.st k = ({ m.st.pop 1 with globals := m.globals.set k (m.st.down 0) }, 0, 0) := by unfold setS; exact (if_neg hc).trans ((if_neg h0).trans (by rw [Int.toNat_natCast]; rfl))
      simp only [e]
      obtain ⟨g, cap', hv, hg, hgh, _, hfz, hcell⟩ := p.r.globalView (by omega)
      have cG' : w.cell? ⟨h, 4, none⟩ = some (.slice (some ⟨g, 0, none⟩) m.globals.length cap') := by rw [p.r.cell.2.2.1, hv]
      obtain ⟨c0, c1⟩ := hcell k hk
      have hh := lt_of_heap p.r.head
      have DN : Hid (∀ W, Below w.heap.size w W → Calls Tryz.prog 73 #[.pointer (some ⟨h, 0, none⟩), .int .i64 0] W fun e w' => e = .returned (.agg #[.int .i64 (m.st.down 0).1, .int .i64 (m.st.down 0).2]) ∧ Below W.heap.size W w') := fun W hb => hdown_do (p.below hb) 0 (by show 0 < m.stack.length; omega)
      have FIN : Hid (∀ W, Below w.heap.size w W → HPre h N ((W.setCell ⟨g, k * 2, none⟩ (.int .i64 (m.st.down 0).1)).setCell ⟨g, k * 2 + 1, none⟩ (.int .i64 (m.st.down 0).2)) { m with globals := m.globals.set k (m.st.down 0) } ∧
        HStep h N w m ((W.setCell ⟨g, k * 2, none⟩ (.int .i64 (m.st.down 0).1)).setCell ⟨g, k * 2 + 1, none⟩ (.int .i64 (m.st.down 0).2)) { m with globals := m.globals.set k (m.st.down 0) }) := by
        intro W hb
        have t := HTurn.pre p.r hb ((p.below hb).r.globalSet hv k hk (m.st.down 0))
        have s : HStep h N w m _ _ := ⟨t, ⟨p.ok.len, p.ok.small, p.ok.fields, p.ok.stack, by simpa using p.ok.globals⟩, rfl⟩
        refine ⟨s.pre p ⟨p.inv.stack, fun v hv => ?_, p.inv.fields, p.inv.len⟩, s⟩
        rcases List.mem_or_eq_of_mem_set hv with e | e
        · exact p.inv.globals v e
        · subst e; exact p.inv.down 0
      have OLD : Hid (∀ W, Below w.heap.size w W → W.cell? ⟨h, 4, none⟩ = some (.slice (some ⟨g, 0, none⟩) m.globals.length cap') ∧ W.cell? ⟨g, k * 2, none⟩ = some (.int .i64 (m.globals[k]).1) ∧ W.cell? ⟨g, k * 2 + 1, none⟩ = some (.int .i64 (m.globals[k]).2) ∧ W.frozen? ⟨g, k * 2, none⟩ = false ∧ W.frozen? ⟨g, k * 2 + 1, none⟩ = false) := fun W hb =>
        ⟨(hb.cell (p := ⟨h, 4, none⟩) hh).trans cG', (hb.cell (p := ⟨g, k * 2, none⟩) hg).trans c0, (hb.cell (p := ⟨g, k * 2 + 1, none⟩) hg).trans c1, (hb.frozen (p := ⟨g, k * 2, none⟩) hg).trans (hfz _), (hb.frozen (p := ⟨g, k * 2 + 1, none⟩) hg).trans (hfz _)⟩
      have hsl : 0 < m.stack.length := by omega
      obtain ⟨x, hx⟩ : ∃ x, m.st.down 0 = x := ⟨_, rfl⟩
      rw [hx] at DN FIN ⊢
      obtain ⟨y, hy⟩ : ∃ y, m.globals[k] = y := ⟨_, rfl⟩
      rw [hy] at c0 c1 OLD
      obtain ⟨x1, x2⟩ := x
      obtain ⟨y1, y2⟩ := y
      have POP : Hid (∀ W, HPre h N W { m with globals := m.globals.set k (x1, x2) } → HStep h N w m W { m with globals := m.globals.set k (x1, x2) } → Calls Tryz.prog 74 #[.pointer (some ⟨h, 0, none⟩), .int .i64 1] W fun e w' => e = .returned (.tuple #[]) ∧ ∃ m', HStep h N w m w' m' ∧ m'.st = { m.st.pop 1 with globals := m.globals.set k (x1, x2) }) :=
        fun W hp hs => (hpop_do hp 1 hsl hsl).mono fun e w' ⟨he, v', hs'⟩ => ⟨he, _, hs.trans hs', rfl⟩
      obtain ⟨len, hlen⟩ : ∃ len, m.globals.length = len := ⟨_, rfl⟩
      rw [hlen] at hc cG' hl hk OLD
      obtain ⟨sl, hsl'⟩ : ∃ sl, m.stack.length = sl := ⟨_, rfl⟩
      rw [hsl'] at h0 cS hls hsl
      simp only at *
      clear p e hlen hx hy hc cG hcell hv hfz hsl'
      have hkI : (k : Int) < len := by omega
      go_enter Tryz.func44, Tryz.ntmps44
      go_wp2_with fail
      go_region_with (go_at_call 73; refine (DN.out _ (Below.refl _ _).drew).mono ?_; rintro e w1 ⟨rfl, hb⟩; have B1 : Hid (Below w.heap.size w w1) := ((Below.refl _ _).drew).trans hb; obtain ⟨d0, d1, d2, d3, d4⟩ := OLD.out w1 B1.out; clear hb)
      all_goals
        have FF := FIN.out _ B1.out
        clear d0 d1 d2 d3 d4
        have F1 : Hid _ := FF
        clear FF
        go_wp2_with fail
        refine Calls.mono (POP.out _ F1.out.1 F1.out.2) ?_
        rintro e w2 ⟨rfl, hm⟩
        have M : Hid _ := hm
        clear hm
        go_wp2
        go_ret
        exact ⟨rfl, M.out⟩

end Go.Proofs.YteekoiljkklnmaaGreatDoor

/- OUR OWN. The program's heap: operations that tell. -/
namespace Go.Proofs.YteekoiljkklnmaaGreatDoor
open Go.RowKit
set_option linter.unusedVariables false
set_option linter.unusedSimpArgs false

theorem checkRef_any (v : Int × Int) (w : World) :
    Calls Tryz.prog 78 #[.agg #[.int .i64 v.1, .int .i64 v.2]] w fun e w' => e = .returned (.int .i64 (if v.1 = 0 then 4 else if v.1 = 1 then 5 else 0)) ∧ Below w.heap.size w w' := by
  obtain ⟨k, n⟩ := v
  simp only
  by_cases h0 : k = 0
  · subst h0
    go_enter Tryz.func78, Tryz.ntmps78
    go_wp2
    go_ret
    exact ⟨rfl, (Below.refl _ _).alloc (Nat.le_refl _) _⟩
  · rw [if_neg h0]
    have e0 : (k == 0) = false := by simpa using h0
    by_cases h1 : k = 1
    · subst h1
      go_enter Tryz.func78, Tryz.ntmps78
      go_wp2
      go_ret
      exact ⟨rfl, (Below.refl _ _).alloc (Nat.le_refl _) _⟩
    · rw [if_neg h1]
      have e1 : (k == 1) = false := by simpa using h1
      go_enter Tryz.func78, Tryz.ntmps78
      go_wp2
      go_ret
      exact ⟨rfl, (Below.refl _ _).alloc (Nat.le_refl _) _⟩

/-- the blocks' row -/
theorem HeapAt.view {w : World} {h : Nat} {m : HeapM} {N : Nat} (r : HeapAt w h m) (hlen : m.blks.length = N + 1) :
    ∃ g cap, m.vB = .slice (some ⟨g, 0, none⟩) (N + 1) cap ∧ g < w.heap.size ∧ g ≠ h ∧ m.vB.ownBlock = some g ∧ (∀ j, w.frozen? ⟨g, j, none⟩ = false) ∧
      ∀ i (hi : i < m.blks.length), w.cell? ⟨g, i * 3, none⟩ = some (.int .i64 (m.blks[i]).state) ∧ w.cell? ⟨g, i * 3 + 1, none⟩ = some (.int .i64 (m.blks[i]).count) ∧ w.cell? ⟨g, i * 3 + 2, none⟩ = some (m.blks[i]).vF := by
  obtain ⟨g, cap, hv, hg, hb, _, hc, hf⟩ := own_view r.blocks (by rw [hlen]; omega)
  rw [hlen] at hv
  refine ⟨g, cap, hv, hg, fun e => r.ne (x := ⟨88, 3, m.vB, m.blks.length, m.blks.flatMap HObj.cells⟩) (by simp [HeapM.rows]) (by rw [← e]; exact hb), hb, hf, fun i hi => ?_⟩
  have key : ∀ j, j < 3 → ∀ u, (m.blks[i]).cells[j]? = some u → w.cell? ⟨g, i * 3 + j, none⟩ = some u := fun j hj u hu =>
    hc _ _ (by rw [flat_get HObj.cells 3 (fun _ => rfl) m.blks i j hj, List.getElem?_eq_getElem hi]; exact hu)
  exact ⟨key 0 (by decide) _ rfl, key 1 (by decide) _ rfl, key 2 (by decide) _ rfl⟩

theorem hst_ob {m : HeapM} {i : Nat} {o : HObj} (h : m.blks[i]? = some o) : m.st.ob i = o.ob := by
  refine ob_of ?_
  show (m.blks.map HObj.ob)[i]? = _
  rw [List.getElem?_map, h]; rfl
theorem HPre.obj {h N : Nat} {w : World} {m : HeapM} (p : HPre h N w m) (b : Int) (hb : 1 ≤ b ∧ b ≤ N) : ∃ (i : Nat) (hi : i < m.blks.length), b = i ∧ i ≤ N ∧ m.st.fields b = (m.blks[i]).fs := by
  refine ⟨b.toNat, by rw [p.ok.len]; omega, by omega, by omega, ?_⟩
  unfold St.fields
  rw [hst_ob (List.getElem?_eq_getElem (by rw [p.ok.len]; omega))]; rfl

theorem sameValue_any (x y : Int × Int) (w : World) :
    Calls Tryz.prog 77 #[.agg #[.int .i64 x.1, .int .i64 x.2], .agg #[.int .i64 y.1, .int .i64 y.2]] w fun e w' => e = .returned (.bool (decide (x = y))) ∧ Below w.heap.size w w' := by
  obtain ⟨x1, x2⟩ := x
  obtain ⟨y1, y2⟩ := y
  simp only
  by_cases q1 : x1 = y1
  · subst q1
    by_cases q2 : x2 = y2
    · subst q2
      go_enter Tryz.func77, Tryz.ntmps77
      go_wp2
      go_ret
      exact ⟨ret_bool (by simp), ((Below.refl _ _).alloc (Nat.le_refl _) _).alloc (by simp) _⟩
    · have q3 : (x2 == y2) = false := by simpa using q2
      go_enter Tryz.func77, Tryz.ntmps77
      go_wp2
      go_ret
      exact ⟨ret_bool (by simp [q2]), ((Below.refl _ _).alloc (Nat.le_refl _) _).alloc (by simp) _⟩
  · have q3 : (x1 == y1) = false := by simpa using q1
    go_enter Tryz.func77, Tryz.ntmps77
    go_wp2
    go_ret
    exact ⟨ret_bool (by simp [q1]), ((Below.refl _ _).alloc (Nat.le_refl _) _).alloc (by simp) _⟩

set_option maxHeartbeats 400000 in
theorem kind_empty (h N : Nat) (w : World) (m : HeapM) (p : HPre h N w m) (hc : m.stack.length < 1) :
    Calls Tryz.prog 50 #[.pointer (some ⟨h, 0, none⟩)] w (HDid2 h N w m (m.st, 0, 3)) := by
  obtain ⟨ao, cap, cS⟩ := p.stackCell
  have K : Hid (∃ m', HStep h N w m w m' ∧ m'.st = m.st) := ⟨m, .refl p, rfl⟩
  obtain ⟨len, hlen⟩ : ∃ len, m.stack.length = len := ⟨_, rfl⟩
  rw [hlen] at hc cS
  clear p hlen
  obtain rfl : len = 0 := by omega
  go_enter Tryz.func50, Tryz.ntmps50
  go_wp2
  go_ret2
  exact ⟨rfl, K.out⟩

set_option maxHeartbeats 400000 in
theorem take_empty (h N : Nat) (w : World) (m : HeapM) (p : HPre h N w m) (hc : m.stack.length < 1) :
    Calls Tryz.prog 48 #[.pointer (some ⟨h, 0, none⟩)] w (HDid2 h N w m (m.st, 0, 3)) := by
  obtain ⟨ao, cap, cS⟩ := p.stackCell
  have K : Hid (∃ m', HStep h N w m w m' ∧ m'.st = m.st) := ⟨m, .refl p, rfl⟩
  obtain ⟨len, hlen⟩ : ∃ len, m.stack.length = len := ⟨_, rfl⟩
  rw [hlen] at hc cS
  clear p hlen
  obtain rfl : len = 0 := by omega
  go_enter Tryz.func48, Tryz.ntmps48
  go_wp2
  go_ret2
  exact ⟨rfl, K.out⟩

set_option maxHeartbeats 400000 in
theorem size_empty (h N : Nat) (w : World) (m : HeapM) (p : HPre h N w m) (hc : m.stack.length < 1) :
    Calls Tryz.prog 49 #[.pointer (some ⟨h, 0, none⟩)] w (HDid2 h N w m (m.st, 0, 3)) := by
  obtain ⟨ao, cap, cS⟩ := p.stackCell
  have K : Hid (∃ m', HStep h N w m w m' ∧ m'.st = m.st) := ⟨m, .refl p, rfl⟩
  obtain ⟨len, hlen⟩ : ∃ len, m.stack.length = len := ⟨_, rfl⟩
  rw [hlen] at hc cS
  clear p hlen
  obtain rfl : len = 0 := by omega
  go_enter Tryz.func49, Tryz.ntmps49
  go_wp2
  go_ret2
  exact ⟨rfl, K.out⟩

set_option maxHeartbeats 800000 in
theorem hkind_do (h N : Nat) (w : World) (m : HeapM) (p : HPre h N w m) : Calls Tryz.prog 50 #[.pointer (some ⟨h, 0, none⟩)] w (HDid2 h N w m (kindS m.st)) := by
  by_cases hc : m.stack.length < 1
  · have e : kindS m.st = (m.st, 0, 3) := by unfold kindS; exact if_pos hc
    rw [e]
    exact kind_empty h N w m p hc
  · have e : kindS m.st = (m.st, (m.st.down 0).1, 0) := by unfold kindS; exact if_neg hc
    rw [e]
    obtain ⟨ao, cap, cS⟩ := p.stackCell
    have DN := hdown_do p 0 (by omega)
    have D : Hid _ := DN
    have K : Hid (∀ W, Below w.heap.size w W → ∃ m', HStep h N w m W m' ∧ m'.st = m.st) := fun W hb => ⟨m, .of_below p hb, rfl⟩
    obtain ⟨len, hlen⟩ : ∃ len, m.stack.length = len := ⟨_, rfl⟩
    rw [hlen] at hc cS
    obtain ⟨x, hx⟩ : ∃ x, m.st.down 0 = x := ⟨_, rfl⟩
    rw [hx] at D ⊢
    obtain ⟨x1, x2⟩ := x
    clear p hlen e DN hx
    have hcI : ((len : Int) == 0) = false := by simp; omega
    have hcJ0 : ¬ len = 0 := by omega
    go_enter Tryz.func50, Tryz.ntmps50
    go_wp2_with fail
    refine Calls.mono D.out ?_
    rintro e w1 ⟨rfl, hb⟩
    have B : Hid (Below w.heap.size w w1) := hb
    clear hb D
    go_wp2
    go_ret2
    exact ⟨rfl, K.out _ (B.out.alloc B.out.size _)⟩

set_option maxHeartbeats 800000 in
theorem htake_do (h N : Nat) (w : World) (m : HeapM) (p : HPre h N w m) : Calls Tryz.prog 48 #[.pointer (some ⟨h, 0, none⟩)] w (HDid2 h N w m (takeS m.st)) := by
  by_cases hc : m.stack.length < 1
  · have e : takeS m.st = (m.st, 0, 3) := by unfold takeS; exact if_pos hc
    rw [e]
    exact take_empty h N w m p hc
  · obtain ⟨ao, cap, cS⟩ := p.stackCell
    have DN := hdown_do p 0 (by omega)
    have D : Hid _ := DN
    have K : Hid (∀ W, Below w.heap.size w W → ∃ m', HStep h N w m W m' ∧ m'.st = m.st) := fun W hb => ⟨m, .of_below p hb, rfl⟩
    by_cases he : (m.st.down 0).1 = 1
    · have e : takeS m.st = (m.st.pop 1, (m.st.down 0).2, 0) := by unfold takeS; exact (if_neg hc).trans (if_pos he)
      rw [e]
      have POP : Hid (∀ W, Below w.heap.size w W → Calls Tryz.prog 74 #[.pointer (some ⟨h, 0, none⟩), .int .i64 1] W fun e w' => e = .returned (.tuple #[]) ∧ (∃ m', HStep h N w m w' m' ∧ m'.st = m.st.pop 1) ∧ ∀ L ob, w.heap.size ≤ L → W.heap[L]? = some ob → w'.heap[L]? = some ob) :=
        fun W hb => (hpop_do (p.below hb) 1 (by omega) (by omega)).mono fun e w' ⟨he, v', hs⟩ => ⟨he, ⟨_, (HStep.of_below p hb).trans hs, rfl⟩, fun L ob hL hW => hturn_local p hb hW hL hs.turn⟩
      obtain ⟨len, hlen⟩ : ∃ len, m.stack.length = len := ⟨_, rfl⟩
      rw [hlen] at hc cS
      obtain ⟨x, hx⟩ : ∃ x, m.st.down 0 = x := ⟨_, rfl⟩
      rw [hx] at D he ⊢
      obtain ⟨x1, x2⟩ := x
      simp only at he
      subst he
      clear p hlen e DN hx K
      have hcI : ((len : Int) == 0) = false := by simp; omega
      have hcJ0 : ¬ len = 0 := by omega
      go_enter Tryz.func48, Tryz.ntmps48
      go_wp2_with fail
      refine Calls.mono D.out ?_
      rintro e w1 ⟨rfl, hb⟩
      have B : Hid (Below w.heap.size w w1) := hb
      clear hb D
      go_wp2_with fail
      refine Calls.mono (POP.out _ (B.out.alloc B.out.size _)) ?_
      rintro e w2 ⟨rfl, hm, hloc⟩
      have l0 := hloc w1.heap.size _ B.out.size (heap_alloc_new w1 _)
      have l1 : w2.cell? ⟨w1.heap.size, 1, none⟩ = some (.int .i64 x2) := cell_of_heap l0 rfl
      have M : Hid _ := hm
      clear hm hloc l0 POP B
      go_wp2
      go_ret2
      exact ⟨rfl, M.out⟩
    · have e : takeS m.st = (m.st, 0, 5) := by unfold takeS; exact (if_neg hc).trans (if_neg he)
      rw [e]
      obtain ⟨len, hlen⟩ : ∃ len, m.stack.length = len := ⟨_, rfl⟩
      rw [hlen] at hc cS
      obtain ⟨x, hx⟩ : ∃ x, m.st.down 0 = x := ⟨_, rfl⟩
      rw [hx] at D he
      obtain ⟨x1, x2⟩ := x
      simp only at he
      have he2 : (x1 == 1) = false := by simpa using he
      clear p hlen e DN hx
      have hcI : ((len : Int) == 0) = false := by simp; omega
      have hcJ0 : ¬ len = 0 := by omega
      go_enter Tryz.func48, Tryz.ntmps48
      go_wp2_with fail
      refine Calls.mono D.out ?_
      rintro e w1 ⟨rfl, hb⟩
      have B : Hid (Below w.heap.size w w1) := hb
      clear hb D
      go_wp2
      go_ret2
      exact ⟨rfl, K.out _ (B.out.alloc B.out.size _)⟩

set_option maxHeartbeats 800000 in
theorem hsize_do (h N : Nat) (w : World) (m : HeapM) (p : HPre h N w m) : Calls Tryz.prog 49 #[.pointer (some ⟨h, 0, none⟩)] w (HDid2 h N w m (sizeS m.st)) := by
  by_cases hc : m.stack.length < 1
  · have e : sizeS m.st = (m.st, 0, 3) := by unfold sizeS; exact if_pos hc
    rw [e]
    exact size_empty h N w m p hc
  · obtain ⟨ao, cap, cS⟩ := p.stackCell
    have DN := hdown_do p 0 (by omega)
    have D : Hid _ := DN
    have K : Hid (∀ W, Below w.heap.size w W → ∃ m', HStep h N w m W m' ∧ m'.st = m.st) := fun W hb => ⟨m, .of_below p hb, rfl⟩
    have hv := p.inv.down 0
    by_cases he : objErr (m.st.down 0) ≠ 0
    · have e : sizeS m.st = (m.st, 0, objErr (m.st.down 0)) := by unfold sizeS; exact (if_neg hc).trans (if_pos he)
      rw [e]
      obtain ⟨len, hlen⟩ : ∃ len, m.stack.length = len := ⟨_, rfl⟩
      rw [hlen] at hc cS
      obtain ⟨x, hx⟩ : ∃ x, m.st.down 0 = x := ⟨_, rfl⟩
      rw [hx] at D he ⊢
      obtain ⟨x1, x2⟩ := x
      have OB := checkRef_any (x1, x2)
      have O : Hid (∀ W, Calls Tryz.prog 78 #[.agg #[.int .i64 x1, .int .i64 x2]] W fun e w' => e = .returned (.int .i64 (objErr (x1, x2))) ∧ Below W.heap.size W w') := OB
      obtain ⟨er, her⟩ : ∃ er, objErr (x1, x2) = er := ⟨_, rfl⟩
      rw [her] at he O ⊢
      have he2 : (er == 0) = false := by simpa using he
      clear p hlen e DN hx hv OB her
      have hcI : ((len : Int) == 0) = false := by simp; omega
      have hcJ0 : ¬ len = 0 := by omega
      go_enter Tryz.func49, Tryz.ntmps49
      go_wp2_with fail
      refine Calls.mono D.out ?_
      rintro e w1 ⟨rfl, hb⟩
      have B : Hid (Below w.heap.size w w1) := hb
      clear hb D
      go_wp2_with fail
      refine Calls.mono (O.out _) ?_
      rintro e w2 ⟨rfl, hb⟩
      have B2 : Hid (Below w.heap.size w w2) := (B.out.alloc B.out.size _).trans (hb.mono (by simp; have := B.out.size; omega))
      clear hb O
      go_wp2
      go_ret2
      exact ⟨rfl, K.out _ B2.out⟩
    · have he : objErr (m.st.down 0) = 0 := by omega
      have e : sizeS m.st = (m.st, ((m.st.fields (m.st.down 0).2).length : Int), 0) := by unfold sizeS; exact (if_neg hc).trans (if_neg (by omega))
      rw [e]
      obtain ⟨i, hi, hbi, hiN, hfs⟩ := p.obj _ (ref_of hv he)
      obtain ⟨g, capB, hvB, hg, _, _, _, hobj⟩ := p.r.view p.ok.len
      have cB : w.cell? ⟨h, 5, none⟩ = some (.slice (some ⟨g, 0, none⟩) (N + 1) capB) := by rw [p.r.cell.2.2.2.1, hvB]
      have c1 := (hobj i hi).2.2
      obtain ⟨fo, fc, hvF⟩ := own_slice (p.r.fields _ (List.getElem_mem hi))
      rw [hvF] at c1
      rw [hfs]
      have hh := lt_of_heap p.r.head
      obtain ⟨fl, hfl⟩ : ∃ fl, (m.blks[i]).fs.length = fl := ⟨_, rfl⟩
      rw [hfl] at c1 ⊢
      obtain ⟨len, hlen⟩ : ∃ len, m.stack.length = len := ⟨_, rfl⟩
      rw [hlen] at hc cS
      obtain ⟨x, hx⟩ : ∃ x, m.st.down 0 = x := ⟨_, rfl⟩
      rw [hx] at D he hbi
      obtain ⟨x1, x2⟩ := x
      simp only at hbi
      subst hbi
      have OB := checkRef_any (x1, (i : Int))
      have O : Hid (∀ W, Calls Tryz.prog 78 #[.agg #[.int .i64 x1, .int .i64 i]] W fun e w' => e = .returned (.int .i64 0) ∧ Below W.heap.size W w') := fun W => (OB W).mono fun e w' ⟨h1, h2⟩ => ⟨h1.trans (ret_int he), h2⟩
      have OLD : Hid (∀ W, Below w.heap.size w W → W.cell? ⟨h, 5, none⟩ = some (.slice (some ⟨g, 0, none⟩) (N + 1) capB) ∧ W.cell? ⟨g, i * 3 + 2, none⟩ = some (.slice fo fl fc)) := fun W hb =>
        ⟨(hb.cell (p := ⟨h, 5, none⟩) hh).trans cB, (hb.cell (p := ⟨g, i * 3 + 2, none⟩) hg).trans c1⟩
      have hN := p.ok.small
      clear p hlen e DN hx hv OB he hfs hobj hvB hvF hfl cB c1
      have hcI : ((len : Int) == 0) = false := by simp; omega
      have hcJ0 : ¬ len = 0 := by omega
      have hiI : (i : Int) < (N : Int) + 1 := by omega
      go_enter Tryz.func49, Tryz.ntmps49
      go_wp2_with fail
      refine Calls.mono D.out ?_
      rintro e w1 ⟨rfl, hb⟩
      have B : Hid (Below w.heap.size w w1) := hb
      clear hb D
      go_wp2_with fail
      refine Calls.mono (O.out _) ?_
      rintro e w2 ⟨rfl, hb⟩
      have B2 : Hid (Below w.heap.size w w2) := (B.out.alloc B.out.size _).trans (hb.mono (by simp; have := B.out.size; omega))
      have l1 : w2.cell? ⟨w1.heap.size, 1, none⟩ = some (.int .i64 i) := cell_of_heap (boxed' hb) rfl
      obtain ⟨d0, d1⟩ := OLD.out w2 B2.out
      clear hb O
      go_wp2
      go_quiet (fail)
      go_wp2
      go_ret2
      exact ⟨rfl, K.out _ (below_drewN B2.out _)⟩


end Go.Proofs.YteekoiljkklnmaaGreatDoor

/- OUR OWN. The program's heap: same, checkField, load, store. -/
namespace Go.Proofs.YteekoiljkklnmaaGreatDoor
open Go.RowKit
set_option linter.unusedVariables false
set_option linter.unusedSimpArgs false

set_option maxHeartbeats 1000000 in
theorem hsame_do (h N : Nat) (w : World) (m : HeapM) (p : HPre h N w m) : Calls Tryz.prog 47 #[.pointer (some ⟨h, 0, none⟩)] w (HDid2 h N w m (sameS m.st)) := by
  obtain ⟨ao, cap, cS⟩ := p.stackCell
  have hl := p.ok.stack
  by_cases hc : m.stack.length < 2
  · have e : sameS m.st = (m.st, 0, 3) := by unfold sameS; exact if_pos hc
    rw [e]
    have K : Hid (∃ m', HStep h N w m w m' ∧ m'.st = m.st) := ⟨m, .refl p, rfl⟩
    obtain ⟨len, hlen⟩ : ∃ len, m.stack.length = len := ⟨_, rfl⟩
    rw [hlen] at hc cS hl
    clear p hlen e
    have hcI : (len : Int) < 2 := by omega
    go_enter Tryz.func47, Tryz.ntmps47
    go_wp2
    go_ret2
    exact ⟨rfl, K.out⟩
  · have D0 : Hid _ := hdown_do p 0 (by omega)
    have D1 : Hid (∀ W, Below w.heap.size w W → Calls Tryz.prog 73 #[.pointer (some ⟨h, 0, none⟩), .int .i64 1] W fun e w' => e = .returned (.agg #[.int .i64 (m.st.down 1).1, .int .i64 (m.st.down 1).2]) ∧ Below W.heap.size W w') := fun W hb => hdown_do (p.below hb) 1 (by show 1 < m.stack.length; omega)
    have PO : Hid (∀ W, Below w.heap.size w W → Calls Tryz.prog 74 #[.pointer (some ⟨h, 0, none⟩), .int .i64 2] W fun e w' => e = .returned (.tuple #[]) ∧ (∀ W2, Below w'.heap.size w' W2 → ∃ m', HStep h N w m W2 m' ∧ m'.st = m.st.pop 2) ∧ ∀ L ob, w.heap.size ≤ L → W.heap[L]? = some ob → w'.heap[L]? = some ob) :=
      fun W hb => (hpop_do (p.below hb) 2 (by omega) (by omega)).mono fun e w' ⟨he, v', hs⟩ => ⟨he, fun W2 hb2 => ⟨_, ((HStep.of_below p hb).trans hs).after hb2, rfl⟩, fun L ob hL hW => hturn_local p hb hW hL hs.turn⟩
    obtain ⟨x, hx⟩ : ∃ x, m.st.down 0 = x := ⟨_, rfl⟩
    obtain ⟨y, hy⟩ : ∃ y, m.st.down 1 = y := ⟨_, rfl⟩
    have e : sameS m.st = (m.st.pop 2, if x = y then 1 else 0, 0) := by
      unfold sameS
      refine (if_neg hc).trans ?_
      rw [hx, hy]
      by_cases hxy : x = y
      · rw [if_pos hxy, if_pos hxy]
      · rw [if_neg hxy, if_neg hxy]
    rw [e]
    rw [hx] at D0
    rw [hy] at D1
    obtain ⟨ans, hans⟩ : ∃ a : Int, (if x = y then (1 : Int) else 0) = a := ⟨_, rfl⟩
    rw [hans]
    have HA : Hid ((if x = y then (1 : Int) else 0) = ans) := hans
    have SV : Hid (∀ W, Calls Tryz.prog 77 #[.agg #[.int .i64 x.1, .int .i64 x.2], .agg #[.int .i64 y.1, .int .i64 y.2]] W fun e w' => e = .returned (.bool (decide (x = y))) ∧ Below W.heap.size W w') := sameValue_any x y
    obtain ⟨len, hlen⟩ : ∃ len, m.stack.length = len := ⟨_, rfl⟩
    rw [hlen] at hc cS hl
    obtain ⟨sv, hsv⟩ : ∃ b : Bool, decide (x = y) = b := ⟨_, rfl⟩
    rw [hsv] at SV
    have HS : Hid (decide (x = y) = sv) := hsv
    clear p hlen e hx hy hans hsv
    have hcJ : ¬ (len : Int) < 2 := by omega
    obtain ⟨x1, x2⟩ := x
    obtain ⟨y1, y2⟩ := y
    go_enter Tryz.func47, Tryz.ntmps47
    go_wp2_with fail
    refine Calls.mono D0.out ?_
    rintro e w1 ⟨rfl, hb⟩
    have B : Hid (Below w.heap.size w w1) := hb
    clear hb D0
    go_wp2_with fail
    refine Calls.mono (D1.out _ (B.out.alloc B.out.size _)) ?_
    rintro e w2 ⟨rfl, hb⟩
    have B2 : Hid (Below w.heap.size w w2 ∧ w1.heap.size + 1 ≤ w2.heap.size ∧ w2.heap[w1.heap.size]? = some (.cells #[.int .i64 x1, .int .i64 x2] 81)) := ⟨(B.out.alloc B.out.size _).trans (hb.mono (by simp; have := B.out.size; omega)), by have := hb.size; simpa using this, boxed' hb⟩
    clear hb D1
    go_wp2_with fail
    refine Calls.mono (PO.out _ (B2.out.1.alloc B2.out.1.size _)) ?_
    rintro e w3 ⟨rfl, hm, hloc⟩
    have l0 := hloc w1.heap.size _ B.out.size (by rw [hao (by have := B2.out.2.1; omega)]; exact B2.out.2.2)
    have k0 := hloc w2.heap.size _ B2.out.1.size (heap_alloc_new w2 _)
    have l1 : w3.cell? ⟨w1.heap.size, 0, none⟩ = some (.int .i64 x1) := cell_of_heap l0 rfl
    have l2 : w3.cell? ⟨w1.heap.size, 1, none⟩ = some (.int .i64 x2) := cell_of_heap l0 rfl
    have k1 : w3.cell? ⟨w2.heap.size, 0, none⟩ = some (.int .i64 y1) := cell_of_heap k0 rfl
    have k2 : w3.cell? ⟨w2.heap.size, 1, none⟩ = some (.int .i64 y2) := cell_of_heap k0 rfl
    have M : Hid _ := hm
    clear hm hloc l0 k0 PO B B2
    go_wp2_with fail
    refine Calls.mono (SV.out _) ?_
    rintro e w4 ⟨rfl, hb⟩
    have MM : Hid (∃ m', HStep h N w m w4 m' ∧ m'.st = m.st.pop 2) := M.out _ hb
    clear hb M SV l1 l2 k1 k2
    cases sv with
    | true =>
      have hxy : ((x1, x2) : Int × Int) = (y1, y2) := by simpa using HS.out
      have ha := HA.out
      rw [if_pos hxy] at ha
      subst ha
      clear hxy HA HS
      go_wp2
      go_ret2
      exact ⟨rfl, MM.out⟩
    | false =>
      have hxy : ¬ ((x1, x2) : Int × Int) = (y1, y2) := by simpa using HS.out
      have ha := HA.out
      rw [if_neg hxy] at ha
      subst ha
      clear hxy HA HS
      go_wp2
      go_ret2
      exact ⟨rfl, MM.out⟩

/-- why there is no field n in what v leads to -/
def fieldErr (s : St) (v : Int × Int) (n : Int) : Int := if objErr v ≠ 0 then objErr v else if n < 0 ∨ ((s.fields v.2).length : Int) ≤ n then 6 else 0

set_option maxHeartbeats 1000000 in
theorem checkField_any (h N : Nat) (w : World) (m : HeapM) (p : HPre h N w m) (v : Int × Int) (n : Int) (hv : okV N v) :
    Calls Tryz.prog 75 #[.pointer (some ⟨h, 0, none⟩), .agg #[.int .i64 v.1, .int .i64 v.2], .int .i64 n] w fun e w' => e = .returned (.int .i64 (fieldErr m.st v n)) ∧ Below w.heap.size w w' := by
  by_cases he : objErr v ≠ 0
  · have e : fieldErr m.st v n = objErr v := by unfold fieldErr; exact if_pos he
    rw [e]
    have O : Hid (∀ W, Calls Tryz.prog 78 #[.agg #[.int .i64 v.1, .int .i64 v.2]] W fun e w' => e = .returned (.int .i64 (objErr v)) ∧ Below W.heap.size W w') := checkRef_any v
    obtain ⟨v1, v2⟩ := v
    obtain ⟨er, her⟩ : ∃ er, objErr (v1, v2) = er := ⟨_, rfl⟩
    rw [her] at he O ⊢
    have he2 : (er == 0) = false := by simpa using he
    simp only at *
    clear p e hv her
    go_enter Tryz.func75, Tryz.ntmps75
    go_wp2_with fail
    refine Calls.mono (O.out _) ?_
    rintro e w1 ⟨rfl, hb⟩
    have B : Hid (Below w.heap.size w w1) := ((Below.refl _ _).alloc (Nat.le_refl _) _).trans (hb.mono (by simp))
    clear hb O
    go_wp2
    go_ret
    exact ⟨rfl, B.out⟩
  have he : objErr v = 0 := by omega
  obtain ⟨i, hi, hbi, hiN, hfs⟩ := p.obj _ (ref_of hv he)
  obtain ⟨g, capB, hvB, hg, _, _, _, hobj⟩ := p.r.view p.ok.len
  have cB : w.cell? ⟨h, 5, none⟩ = some (.slice (some ⟨g, 0, none⟩) (N + 1) capB) := by rw [p.r.cell.2.2.2.1, hvB]
  have c1 := (hobj i hi).2.2
  obtain ⟨fo, fc, hvF⟩ := own_slice (p.r.fields _ (List.getElem_mem hi))
  rw [hvF] at c1
  have hh := lt_of_heap p.r.head
  have hN := p.ok.small
  have hiI : (i : Int) < (N : Int) + 1 := by omega
  have e : fieldErr m.st v n = if n < 0 ∨ ((m.blks[i]).fs.length : Int) ≤ n then 6 else 0 := by unfold fieldErr; rw [if_neg (by omega), hfs]
  rw [e]
  obtain ⟨fl, hfl⟩ : ∃ fl, (m.blks[i]).fs.length = fl := ⟨_, rfl⟩
  rw [hfl] at c1 ⊢
  obtain ⟨v1, v2⟩ := v
  simp only at hbi
  subst hbi
  have O : Hid (∀ W, Calls Tryz.prog 78 #[.agg #[.int .i64 v1, .int .i64 i]] W fun e w' => e = .returned (.int .i64 0) ∧ Below W.heap.size W w') := fun W => (checkRef_any (v1, (i : Int)) W).mono fun e w' ⟨h1, h2⟩ => ⟨h1.trans (ret_int he), h2⟩
  have OLD : Hid (∀ W, Below w.heap.size w W → W.cell? ⟨h, 5, none⟩ = some (.slice (some ⟨g, 0, none⟩) (N + 1) capB) ∧ W.cell? ⟨g, i * 3 + 2, none⟩ = some (.slice fo fl fc)) := fun W hb =>
    ⟨(hb.cell (p := ⟨h, 5, none⟩) hh).trans cB, (hb.cell (p := ⟨g, i * 3 + 2, none⟩) hg).trans c1⟩
  clear p e hv he hfs hobj hvB hvF hfl cB c1
  by_cases hn0 : n < 0
  · rw [if_pos (.inl hn0)]
    have hd : decide (n < 0) = true := by simpa using hn0
    go_enter Tryz.func75, Tryz.ntmps75
    go_wp2_with fail
    refine Calls.mono (O.out _) ?_
    rintro e w1 ⟨rfl, hb⟩
    have B : Hid (Below w.heap.size w w1) := ((Below.refl _ _).alloc (Nat.le_refl _) _).trans (hb.mono (by simp))
    have l1 : w1.cell? ⟨w.heap.size, 1, none⟩ = some (.int .i64 i) := cell_of_heap (boxed' hb) rfl
    obtain ⟨d0, d1⟩ := OLD.out w1 B.out
    clear hb O
    go_wp2_with fail
    go_quiet (fail)
    go_wp2
    go_ret
    exact ⟨rfl, below_drewN B.out _⟩
  · have hd : decide (n < 0) = false := by simpa using hn0
    by_cases hnl : (fl : Int) ≤ n
    · rw [if_pos (.inr hnl)]
      have hd2 : decide ((fl : Int) ≤ n) = true := by simpa using hnl
      go_enter Tryz.func75, Tryz.ntmps75
      go_wp2_with fail
      refine Calls.mono (O.out _) ?_
      rintro e w1 ⟨rfl, hb⟩
      have B : Hid (Below w.heap.size w w1) := ((Below.refl _ _).alloc (Nat.le_refl _) _).trans (hb.mono (by simp))
      have l1 : w1.cell? ⟨w.heap.size, 1, none⟩ = some (.int .i64 i) := cell_of_heap (boxed' hb) rfl
      obtain ⟨d0, d1⟩ := OLD.out w1 B.out
      clear hb O
      go_wp2_with fail
      go_quiet (fail)
      go_wp2
      go_ret
      exact ⟨rfl, below_drewN B.out _⟩
    · rw [if_neg (by omega)]
      have hd2 : decide ((fl : Int) ≤ n) = false := by simpa using hnl
      go_enter Tryz.func75, Tryz.ntmps75
      go_wp2_with fail
      refine Calls.mono (O.out _) ?_
      rintro e w1 ⟨rfl, hb⟩
      have B : Hid (Below w.heap.size w w1) := ((Below.refl _ _).alloc (Nat.le_refl _) _).trans (hb.mono (by simp))
      have l1 : w1.cell? ⟨w.heap.size, 1, none⟩ = some (.int .i64 i) := cell_of_heap (boxed' hb) rfl
      obtain ⟨d0, d1⟩ := OLD.out w1 B.out
      clear hb O
      go_wp2_with fail
      go_quiet (fail)
      go_wp2
      go_ret
      exact ⟨rfl, below_drewN B.out _⟩

end Go.Proofs.YteekoiljkklnmaaGreatDoor

/- OUR OWN. The program's heap: load, store. -/
namespace Go.Proofs.YteekoiljkklnmaaGreatDoor
open Go.RowKit
set_option linter.unusedVariables false
set_option linter.unusedSimpArgs false

theorem loadS_err {d : Int} {s : St} {n : Int} (hc : ¬ s.stack.length < 1) (he : fieldErr s (s.down 0) n ≠ 0) : loadS d s n = (s, 0, fieldErr s (s.down 0) n) := by
  unfold loadS
  rw [if_neg hc]
  unfold fieldErr at he ⊢
  by_cases h1 : objErr (s.down 0) ≠ 0
  · rw [if_pos h1, if_pos h1]
  · rw [if_neg h1] at he
    rw [if_neg h1, if_neg h1]
    by_cases h2 : n < 0 ∨ ((s.fields (s.down 0).2).length : Int) ≤ n
    · rw [if_pos h2, if_pos h2]
    · rw [if_neg h2] at he; exact absurd rfl he
theorem field_ok {s : St} {v : Int × Int} {n : Int} (he : fieldErr s v n = 0) : objErr v = 0 ∧ ¬ n < 0 ∧ ¬ ((s.fields v.2).length : Int) ≤ n := by
  unfold fieldErr at he
  by_cases h1 : objErr v ≠ 0
  · rw [if_pos h1] at he; exact absurd he h1
  · rw [if_neg h1] at he
    by_cases h2 : n < 0 ∨ ((s.fields v.2).length : Int) ≤ n
    · rw [if_pos h2] at he; cases he
    · exact ⟨by omega, fun e => h2 (.inl e), fun e => h2 (.inr e)⟩
theorem storeS_err {c : Cf} {s : St} {n : Int} (hc : ¬ s.stack.length < 2) (he : fieldErr s (s.down 1) n ≠ 0) : storeS c s n = (s, 0, fieldErr s (s.down 1) n) := by
  unfold storeS
  rw [if_neg hc]
  unfold fieldErr at he ⊢
  by_cases h1 : objErr (s.down 1) ≠ 0
  · rw [if_pos h1, if_pos h1]
  · rw [if_neg h1] at he
    rw [if_neg h1, if_neg h1]
    by_cases h2 : n < 0 ∨ ((s.fields (s.down 1).2).length : Int) ≤ n
    · rw [if_pos h2, if_pos h2]
    · rw [if_neg h2] at he; exact absurd rfl he

theorem HeapAt.fieldView {w : World} {h : Nat} {m : HeapM} (r : HeapAt w h m) (i : Nat) (hi : i < m.blks.length) (hs : 0 < (m.blks[i]).fs.length) :
    ∃ g cap, (m.blks[i]).vF = .slice (some ⟨g, 0, none⟩) (m.blks[i]).fs.length cap ∧ g < w.heap.size ∧ g ≠ h ∧ (m.blks[i]).vF.ownBlock = some g ∧ (∀ j, w.frozen? ⟨g, j, none⟩ = false) ∧
      ∀ j (hj : j < (m.blks[i]).fs.length), w.cell? ⟨g, j * 2, none⟩ = some (.int .i64 ((m.blks[i]).fs[j]).1) ∧ w.cell? ⟨g, j * 2 + 1, none⟩ = some (.int .i64 ((m.blks[i]).fs[j]).2) := by
  obtain ⟨g, cap, hv, hg, hb, hc, hcell, hf⟩ := own_view (r.fields _ (List.getElem_mem hi)) hs
  refine ⟨g, cap, hv, hg, fun e => r.ne (x := (m.blks[i]).row) (by simp only [HeapM.rows, List.mem_cons, List.mem_map]; exact .inr (.inr (.inr (.inr ⟨_, List.getElem_mem hi, rfl⟩)))) (by rw [← e]; exact hb), hb, hf, fun j hj => ⟨?_, ?_⟩⟩
  · exact hcell _ _ (by have := flat_get valCells 2 (fun _ => rfl) (m.blks[i]).fs j 0 (by decide); simpa [hj, valCells] using this)
  · exact hcell _ _ (by have := flat_get valCells 2 (fun _ => rfl) (m.blks[i]).fs j 1 (by decide); simpa [hj, valCells] using this)

/-- the head's cell of the blocks, the object i's cell of its fields, the field k -/
theorem HPre.facts {h N : Nat} {w : World} {m : HeapM} (p : HPre h N w m) (i : Nat) (o : HObj) (hi : m.blks[i]? = some o) (k : Nat) (hk : k < o.fs.length) :
    ∃ g capB fg fc, m.vB = .slice (some ⟨g, 0, none⟩) (N + 1) capB ∧ o.vF = .slice (some ⟨fg, 0, none⟩) o.fs.length fc ∧ g < w.heap.size ∧ fg < w.heap.size ∧ w.cell? ⟨h, 5, none⟩ = some (.slice (some ⟨g, 0, none⟩) (N + 1) capB) ∧
      w.cell? ⟨g, i * 3 + 2, none⟩ = some (.slice (some ⟨fg, 0, none⟩) o.fs.length fc) ∧ w.cell? ⟨fg, k * 2, none⟩ = some (.int .i64 (o.fs[k]).1) ∧ w.cell? ⟨fg, k * 2 + 1, none⟩ = some (.int .i64 (o.fs[k]).2) ∧
      w.frozen? ⟨fg, k * 2, none⟩ = false ∧ w.frozen? ⟨fg, k * 2 + 1, none⟩ = false := by
  obtain ⟨g, capB, hvB, hg, _, _, _, hobj⟩ := p.r.view p.ok.len
  have hil : i < m.blks.length := (List.getElem?_eq_some_iff.1 hi).1
  have hio : m.blks[i] = o := (List.getElem?_eq_some_iff.1 hi).2
  obtain ⟨fg, fc, hvF, hfg, _, _, hfz, hfc⟩ := p.r.fieldView i hil (by rw [hio]; omega)
  have c1 := (hobj i hil).2.2
  rw [hvF] at c1
  simp only [hio] at *
  exact ⟨g, capB, fg, fc, hvB, hvF, hg, hfg, by rw [p.r.cell.2.2.2.1, hvB], c1, (hfc k hk).1, (hfc k hk).2, hfz _, hfz _⟩

set_option maxHeartbeats 1600000 in
theorem hload_do (h N : Nat) (w : World) (m : HeapM) (n : Int) (p : HPre h N w m) : Calls Tryz.prog 45 #[.pointer (some ⟨h, 0, none⟩), .int .i64 n] w (HDid h N w m (loadS m.room m.st n)) := by
  obtain ⟨ao, cap, cS⟩ := p.stackCell
  by_cases hc : m.stack.length < 1
  · have e : loadS m.room m.st n = (m.st, 0, 3) := by unfold loadS; exact if_pos hc
    rw [e]
    have K : Hid (∃ m', HStep h N w m w m' ∧ m'.st = m.st) := ⟨m, .refl p, rfl⟩
    obtain ⟨len, hlen⟩ : ∃ len, m.stack.length = len := ⟨_, rfl⟩
    rw [hlen] at hc cS
    clear p hlen e
    obtain rfl : len = 0 := by omega
    go_enter Tryz.func45, Tryz.ntmps45
    go_wp2
    go_ret
    exact ⟨rfl, K.out⟩
  have D : Hid _ := hdown_do p 0 (by omega)
  have K : Hid (∀ W, Below w.heap.size w W → ∃ m', HStep h N w m W m' ∧ m'.st = m.st) := fun W hb => ⟨m, .of_below p hb, rfl⟩
  have hv := p.inv.down 0
  have CK : Hid (∀ W, Below w.heap.size w W → Calls Tryz.prog 75 #[.pointer (some ⟨h, 0, none⟩), .agg #[.int .i64 (m.st.down 0).1, .int .i64 (m.st.down 0).2], .int .i64 n] W fun e w' => e = .returned (.int .i64 (fieldErr m.st (m.st.down 0) n)) ∧ Below W.heap.size W w') := fun W hb => checkField_any h N W m (p.below hb) _ n hv
  have hcI0 : ¬ m.stack.length = 0 := by omega
  have hcI1 : ((m.stack.length : Int) == 0) = false := by rw [beq_eq_false_iff_ne]; omega
  by_cases he : fieldErr m.st (m.st.down 0) n ≠ 0
  · rw [loadS_err hc he]
    obtain ⟨len, hlen⟩ : ∃ len, m.stack.length = len := ⟨_, rfl⟩
    rw [hlen] at cS hcI0 hcI1
    obtain ⟨er, her⟩ : ∃ er, fieldErr m.st (m.st.down 0) n = er := ⟨_, rfl⟩
    rw [her] at he CK ⊢
    obtain ⟨x, hx⟩ : ∃ x, m.st.down 0 = x := ⟨_, rfl⟩
    rw [hx] at D CK
    obtain ⟨x1, x2⟩ := x
    have he2 : (er == 0) = false := by simpa using he
    clear p hlen hx hv her hc
    go_enter Tryz.func45, Tryz.ntmps45
    go_wp2_with fail
    refine Calls.mono D.out ?_
    rintro e w1 ⟨rfl, hb⟩
    have B : Hid (Below w.heap.size w w1) := hb
    clear hb D
    go_wp2_with fail
    refine Calls.mono (CK.out _ (B.out.alloc B.out.size _)) ?_
    rintro e w2 ⟨rfl, hb⟩
    have B2 : Hid (Below w.heap.size w w2) := (B.out.alloc B.out.size _).trans (hb.mono (by simp; have := B.out.size; omega))
    clear hb CK
    go_wp2
    go_ret
    exact ⟨rfl, K.out _ B2.out⟩
  have he : fieldErr m.st (m.st.down 0) n = 0 := by omega
  obtain ⟨ho, hn0, hnl⟩ := field_ok he
  obtain ⟨i, hi, hbi, hiN, hfs⟩ := p.obj _ (ref_of hv ho)
  have hio : m.blks[i]? = some m.blks[i] := List.getElem?_eq_getElem hi
  obtain ⟨k, rfl⟩ : ∃ k : Nat, n = k := ⟨n.toNat, by omega⟩
  have hk : k < (m.blks[i]).fs.length := by rw [hfs] at hnl; omega
  obtain ⟨g, capB, fg, fc, hvB, hvF, hg, hfg, cB, c1, y0, y1, _, _⟩ := p.facts i _ hio k hk
  have e : loadS m.room m.st k = pushA m.room (m.st.pop 1) ((m.blks[i]).fs[k]) := by
    unfold loadS
    refine (if_neg hc).trans ((if_neg (by omega)).trans ((if_neg (by omega)).trans ?_))
    rw [hfs, Int.toNat_natCast, List.getD_eq_getElem?_getD, List.getElem?_eq_getElem hk]
    rfl
  rw [e]
  have hN := p.ok.small
  have hiI : (i : Int) < (N : Int) + 1 := by omega
  have hfl4 := p.ok.fields _ (List.getElem_mem hi)
  have AFTER : Hid (∀ W, Below w.heap.size w W → Calls Tryz.prog 74 #[.pointer (some ⟨h, 0, none⟩), .int .i64 1] W fun e w' => e = .returned (.tuple #[]) ∧
      (w'.cell? ⟨h, 5, none⟩ = some (.slice (some ⟨g, 0, none⟩) (N + 1) capB) ∧ w'.cell? ⟨g, i * 3 + 2, none⟩ = some (.slice (some ⟨fg, 0, none⟩) (m.blks[i]).fs.length fc) ∧ w'.cell? ⟨fg, k * 2, none⟩ = some (.int .i64 ((m.blks[i]).fs[k]).1) ∧ w'.cell? ⟨fg, k * 2 + 1, none⟩ = some (.int .i64 ((m.blks[i]).fs[k]).2)) ∧
      (∀ W2, Below w'.heap.size w' W2 → Calls Tryz.prog 39 #[.pointer (some ⟨h, 0, none⟩), .agg #[.int .i64 ((m.blks[i]).fs[k]).1, .int .i64 ((m.blks[i]).fs[k]).2]] W2 (fun e w'' => HDid h N w m (pushA m.room (m.st.pop 1) ((m.blks[i]).fs[k])) e w'')) ∧
      ∀ L ob, w.heap.size ≤ L → W.heap[L]? = some ob → w'.heap[L]? = some ob) := by
    intro W hb
    refine (hpop_do (p.below hb) 1 (by omega) (by omega)).mono ?_
    rintro e w' ⟨he, v', hs⟩
    have s1 : HStep h N w m w' _ := (HStep.of_below p hb).trans hs
    have p1 : HPre h N w' _ := s1.pre p (by exact (p.inv.pop 1))
    obtain ⟨g', capB', fg', fc', hvB', hvF', _, _, cB', c1', y0', y1', _, _⟩ := p1.facts i _ hio k hk
    have e1 : (Value.slice (some ⟨g', 0, none⟩) (N + 1) capB') = .slice (some ⟨g, 0, none⟩) (N + 1) capB := hvB'.symm.trans hvB
    simp at e1
    obtain ⟨rfl, rfl⟩ := e1
    have e2 : (Value.slice (some ⟨fg', 0, none⟩) (m.blks[i]).fs.length fc') = .slice (some ⟨fg, 0, none⟩) (m.blks[i]).fs.length fc := hvF'.symm.trans hvF
    simp at e2
    obtain ⟨rfl, rfl⟩ := e2
    refine ⟨he, ⟨cB', c1', y0', y1'⟩, fun W2 hb2 => ?_, fun L ob hL hW => hturn_local p hb hW hL hs.turn⟩
    exact (hpush_do (p1.below hb2) _).mono fun e w'' ⟨he, m', hs', hm⟩ => ⟨he, m', s1.trans ((HStep.of_below p1 hb2).trans hs'), hm⟩
  have hkl := hk
  obtain ⟨y, hy⟩ : ∃ y, (m.blks[i]).fs[k] = y := ⟨_, rfl⟩
  rw [hy] at AFTER ⊢
  clear hy
  obtain ⟨fl, hfl⟩ : ∃ fl, (m.blks[i]).fs.length = fl := ⟨_, rfl⟩
  rw [hfl] at AFTER hkl hfl4
  obtain ⟨len, hlen⟩ : ∃ len, m.stack.length = len := ⟨_, rfl⟩
  rw [hlen] at cS hcI0 hcI1
  rw [he] at CK
  obtain ⟨x, hx⟩ : ∃ x, m.st.down 0 = x := ⟨_, rfl⟩
  rw [hx] at D CK hbi
  obtain ⟨x1, x2⟩ := x
  simp only at hbi
  subst hbi
  obtain ⟨y1', y2'⟩ := y
  have hkI : (k : Int) < fl := by omega
  clear p hlen e hx hv he hfs hvB hvF hfl cB c1 hk y0 y1 K hc hn0 hnl ho hio
  go_enter Tryz.func45, Tryz.ntmps45
  go_wp2_with fail
  refine Calls.mono D.out ?_
  rintro e w1 ⟨rfl, hb⟩
  have B : Hid (Below w.heap.size w w1) := hb
  clear hb D
  go_wp2_with fail
  refine Calls.mono (CK.out _ (B.out.alloc B.out.size _)) ?_
  rintro e w2 ⟨rfl, hb⟩
  have B2 : Hid (Below w.heap.size w w2) := (B.out.alloc B.out.size _).trans (hb.mono (by simp; have := B.out.size; omega))
  have L1 : Hid (w2.heap[w1.heap.size]? = some (.cells #[.int .i64 x1, .int .i64 i] 81)) := boxed' hb
  clear hb CK
  go_wp2_with fail
  refine Calls.mono (AFTER.out _ B2.out) ?_
  rintro e w3 ⟨rfl, ⟨a0, a1, a2, a3⟩, hpush, hloc⟩
  have l3 : w3.cell? ⟨w1.heap.size, 1, none⟩ = some (.int .i64 i) := cell_of_heap (hloc _ _ B.out.size L1.out) rfl
  have PU : Hid _ := hpush
  clear hpush hloc AFTER L1 B B2
  go_wp2_with fail
  go_region_with (go_at_call 39; refine Calls.mono (PU.out _ (Below.refl _ _).drew) ?_; rintro e w4 ⟨rfl, hm⟩; have M : Hid _ := hm; clear hm)
  all_goals go_wp2
  all_goals go_ret
  all_goals exact ⟨rfl, M.out⟩

end Go.Proofs.YteekoiljkklnmaaGreatDoor

/- OUR OWN. The document's heap without memory: what holds behind every call. -/
namespace Go.Proofs.YteekoiljkklnmaaGreatDoor
set_option linter.unusedVariables false
set_option linter.unusedSimpArgs false

/-- an object is in the block, and not in the queue -/
def St.alive (s : St) (i : Nat) : Prop := (s.ob i).here = true ∧ (s.ob i).queued = false
/-- nil, a number of int, or a reference to such an object -/
def St.leads (s : St) (v : Int × Int) : Prop := v = (0, 0) ∨ (v.1 = 1 ∧ -9223372036854775808 ≤ v.2 ∧ v.2 ≤ 9223372036854775807) ∨ (v.1 = 2 ∧ ∃ i : Nat, v.2 = i ∧ s.alive i)

structure St.Good (s : St) (N : Nat) : Prop where
  len : s.objs.length = N + 1
  zero : s.ob 0 = Ob.free
  gone : ∀ i, (s.ob i).here = false → s.ob i = Ob.free
  four : ∀ i, (s.ob i).fs.length ≤ 4
  stack : ∀ v ∈ s.stack, s.leads v
  globals : ∀ v ∈ s.globals, s.leads v
  fields : ∀ i, ∀ v ∈ (s.ob i).fs, s.leads v
  inq : ∀ i : Nat, (i : Int) ∈ s.queue ↔ (s.ob i).queued = true
  nat : ∀ b ∈ s.queue, 0 ≤ b
  once : s.queue.Nodup
  unstuck : ∀ i, (s.ob i).queued = true → (s.ob i).stuck = false

theorem here_lt {s : St} {i : Nat} (h : (s.ob i).here = true) : i < s.objs.length := by
  unfold St.ob at h
  rw [List.getD_eq_getElem?_getD] at h
  by_cases hi : i < s.objs.length
  · exact hi
  · rw [List.getElem?_eq_none (by omega)] at h; simp [Ob.free] at h
theorem getD_set (l : List Ob) (i : Nat) (o : Ob) (j : Nat) (hi : i < l.length) : (l.set i o).getD j Ob.free = if j = i then o else l.getD j Ob.free := by
  rw [List.getD_eq_getElem?_getD, List.getD_eq_getElem?_getD]
  by_cases h : j = i
  · subst h; rw [if_pos rfl, List.getElem?_set_self hi]; rfl
  · rw [if_neg h, List.getElem?_set_ne (fun e => h e.symm)]
theorem ob_put {s : St} {i : Nat} (o : Ob) (j : Nat) (hi : i < s.objs.length) : (s.put i o).ob j = if j = i then o else s.ob j := getD_set _ _ _ _ hi
theorem ob_enq {s : St} {i : Nat} (j : Nat) (hi : i < s.objs.length) : (s.enq i).ob j = if j = i then { s.ob i with queued := true } else s.ob j := getD_set _ _ _ _ hi
theorem put_out {s : St} {i : Nat} (o : Ob) (hi : ¬ i < s.objs.length) : s.put i o = s := by
  unfold St.put; rw [List.set_eq_of_length_le (by omega)]

theorem leads_of {s t : St} {v : Int × Int} (h : ∀ i : Nat, (v.1 = 2 → v.2 = (i : Int)) → s.alive i → t.alive i) (hv : s.leads v) : t.leads v := by
  rcases hv with e | e | ⟨e, i, hi, ha⟩
  · exact .inl e
  · exact .inr (.inl e)
  · exact .inr (.inr ⟨e, i, hi, h i (fun _ => hi) ha⟩)

theorem refs_zero {l : List (Int × Int)} {b : Int} (h : refsN l b = 0) {v : Int × Int} (hv : v ∈ l) (h1 : v.1 = 2) : v.2 ≠ b := by
  intro e
  have := List.countP_eq_zero.1 h v hv
  simp [h1, e] at this
theorem refs_pos {l : List (Int × Int)} {b : Int} {v : Int × Int} (hv : v ∈ l) (h1 : v.1 = 2) (h2 : v.2 = b) : 0 < refsN l b := by
  have := refs_zero (l := l) (b := b)
  by_cases h : refsN l b = 0
  · exact absurd h2 (this h hv h1)
  · omega
theorem refs_some {l : List (Int × Int)} {b : Int} (h : 0 < refsN l b) : ∃ v ∈ l, v.1 = 2 ∧ v.2 = b := by
  obtain ⟨v, hv, hp⟩ := List.countP_pos_iff.1 h
  simp at hp
  exact ⟨v, hv, hp⟩
theorem le_sum {l : List Nat} {x : Nat} (h : x ∈ l) : x ≤ l.sum := by
  induction l with
  | nil => cases h
  | cons a l ih =>
    rw [List.sum_cons]
    rcases List.mem_cons.1 h with rfl | h
    · omega
    · have := ih h; omega
theorem sum_pos {l : List Nat} (h : 0 < l.sum) : ∃ x ∈ l, 0 < x := by
  induction l with
  | nil => simp at h
  | cons a l ih =>
    rw [List.sum_cons] at h
    by_cases ha : 0 < a
    · exact ⟨a, by simp, ha⟩
    · obtain ⟨x, hx, hp⟩ := ih (by omega)
      exact ⟨x, List.mem_cons_of_mem _ hx, hp⟩
theorem ob_tail {s : St} {o : Ob} : o ∈ s.objs.tail ↔ ∃ i, 1 ≤ i ∧ i < s.objs.length ∧ s.ob i = o := by
  constructor
  · intro h
    obtain ⟨j, hj, he⟩ := List.getElem_of_mem h
    rw [List.length_tail] at hj
    rw [List.getElem_tail] at he
    exact ⟨j + 1, by omega, by omega, by rw [← he]; exact ob_of (List.getElem?_eq_getElem _)⟩
  · rintro ⟨i, h1, h2, rfl⟩
    have e : s.ob i = s.objs[i] := ob_of (List.getElem?_eq_getElem h2)
    rw [e]
    have : s.objs[i] = s.objs.tail[i - 1]'(by rw [List.length_tail]; omega) := by rw [List.getElem_tail]; congr 1; omega
    rw [this]
    exact List.getElem_mem _

/-- a field counts -/
theorem St.Good.counts {s : St} {N : Nat} (g : s.Good N) {i : Nat} {v : Int × Int} (hv : v ∈ (s.ob i).fs) (h1 : v.1 = 2) : 0 < s.count v.2 := by
  have hh : (s.ob i).here = true := by
    cases e : (s.ob i).here with
    | true => rfl
    | false => rw [g.gone i e] at hv; simp [Ob.free] at hv
  have hi : 1 ≤ i := by
    by_cases e : i = 0
    · subst e; rw [g.zero] at hh; cases hh
    · omega
  have hp := refs_pos hv h1 rfl
  have := le_sum (l := s.objs.tail.map (obCount v.2)) (x := obCount v.2 (s.ob i)) (List.mem_map_of_mem (ob_tail.2 ⟨i, hi, here_lt hh, rfl⟩))
  unfold St.count
  unfold obCount at this
  rw [if_pos hh] at this
  have e2 : (s.objs.tail.map (obCount v.2)).sum = (s.objs.tail.map (fun o => if o.here then refsN o.fs v.2 else 0)).sum := rfl
  omega
/-- what is counted is a field -/
theorem count_some {s : St} {b : Int} (h : 0 < s.count b) : ∃ i, 1 ≤ i ∧ i < s.objs.length ∧ (s.ob i).here = true ∧ ∃ v ∈ (s.ob i).fs, v.1 = 2 ∧ v.2 = b := by
  obtain ⟨x, hx, hp⟩ := sum_pos h
  obtain ⟨o, ho, rfl⟩ := List.mem_map.1 hx
  obtain ⟨i, h1, h2, rfl⟩ := ob_tail.1 ho
  unfold obCount at hp
  cases e : (s.ob i).here with
  | true => rw [e, if_pos rfl] at hp; exact ⟨i, h1, h2, e, refs_some hp⟩
  | false => rw [e] at hp; simp at hp
theorem rooted_false {s : St} {b : Int} (h : s.rooted b = false) : refsN s.stack b = 0 ∧ refsN s.globals b = 0 := by
  unfold St.rooted at h
  simp at h
  omega
theorem rooted_true {s : St} {b : Int} : s.rooted b = true ↔ (∃ v ∈ s.stack, v.1 = 2 ∧ v.2 = b) ∨ ∃ v ∈ s.globals, v.1 = 2 ∧ v.2 = b := by
  constructor
  · intro h
    unfold St.rooted at h
    simp at h
    by_cases h1 : 0 < refsN s.stack b
    · exact .inl (refs_some h1)
    · exact .inr (refs_some (by omega))
  · rintro (⟨v, hv, h1, h2⟩ | ⟨v, hv, h1, h2⟩)
    · have := refs_pos hv h1 h2; unfold St.rooted; simp; omega
    · have := refs_pos hv h1 h2; unfold St.rooted; simp; omega

theorem St.Good.ne_zero {s : St} {N : Nat} (g : s.Good N) {i : Nat} (h : (s.ob i).here = true) : 1 ≤ i ∧ i ≤ N := by
  have h1 := here_lt h
  have := g.len
  by_cases e : i = 0
  · subst e; rw [g.zero] at h; cases h
  · omega

theorem St.Good.inv {s : St} {N : Nat} (g : s.Good N) : s.Inv N := by
  have hv : ∀ v, s.leads v → okV N v := by
    rintro v (e | e | ⟨_, i, e, ha⟩)
    · rw [e]; exact .inl rfl
    · exact .inr (.inl e.1)
    · have := g.ne_zero ha.1; exact .inr (.inr ⟨by omega, by omega⟩)
  refine ⟨fun v h => hv v (g.stack v h), fun v h => hv v (g.globals v h), fun o ho v h => hv v ?_, g.len⟩
  obtain ⟨i, hi, rfl⟩ := List.getElem_of_mem ho
  exact g.fields i v (by rw [ob_of (List.getElem?_eq_getElem hi)]; exact h)

/-! ### The roots -/
theorem St.Good.roots {s t : St} {N : Nat} (g : s.Good N) (ho : t.objs = s.objs) (hq : t.queue = s.queue) (h1 : ∀ v ∈ t.stack, s.leads v) (h2 : ∀ v ∈ t.globals, s.leads v) : t.Good N := by
  have e : ∀ i, t.ob i = s.ob i := fun i => by unfold St.ob; rw [ho]
  have l : ∀ v, s.leads v → t.leads v := fun v hv => leads_of (fun i _ ha => by unfold St.alive at *; rw [e]; exact ha) hv
  exact ⟨by rw [ho]; exact g.len, by rw [e]; exact g.zero, fun i => by rw [e]; exact g.gone i, fun i => by rw [e]; exact g.four i, fun v hv => l v (h1 v hv), fun v hv => l v (h2 v hv),
    fun i v hv => l v (g.fields i v (by rw [e] at hv; exact hv)), fun i => by rw [e, hq]; exact g.inq i, by rw [hq]; exact g.nat, by rw [hq]; exact g.once, fun i => by rw [e]; exact g.unstuck i⟩
theorem St.Good.pop {s : St} {N : Nat} (g : s.Good N) (k : Nat) : (s.pop k).Good N := g.roots rfl rfl (fun v hv => g.stack v (List.mem_of_mem_take hv)) g.globals
theorem leads_getD {s : St} {l : List (Int × Int)} (h : ∀ v ∈ l, s.leads v) (i : Nat) : s.leads (l.getD i (0, 0)) := by
  rw [List.getD_eq_getElem?_getD]
  cases hi : l[i]? with
  | none => exact .inl rfl
  | some v => exact h v (List.mem_of_getElem? hi)
theorem St.Good.down {s : St} {N : Nat} (g : s.Good N) (k : Nat) : s.leads (s.down k) := leads_getD g.stack _

/-! ### An object is turned -/
/-- an object is turned, in the same block: it is here as it was, in the queue as it was -/
theorem St.Good.turned {s : St} {N : Nat} (g : s.Good N) (i : Nat) (o : Ob) (hh : (s.ob i).here = true) (h1 : o.here = true) (h2 : o.queued = (s.ob i).queued) (h3 : o.fs.length ≤ 4) (h4 : ∀ v ∈ o.fs, s.leads v) (h5 : o.queued = true → o.stuck = false) : (s.put i o).Good N := by
  have hi := here_lt hh
  have e : ∀ j, (s.put i o).ob j = if j = i then o else s.ob j := fun j => ob_put o j hi
  have al : ∀ j, s.alive j → (s.put i o).alive j := fun j ha => by
    unfold St.alive at *
    rw [e]
    by_cases hj : j = i
    · subst hj; rw [if_pos rfl]; exact ⟨h1, by rw [h2]; exact ha.2⟩
    · rw [if_neg hj]; exact ha
  have l : ∀ v, s.leads v → (s.put i o).leads v := fun v hv => leads_of (fun j _ => al j) hv
  have hz := g.ne_zero hh
  refine ⟨by simp [St.put, g.len], ?_, fun j => ?_, fun j => ?_, fun v hv => l v (g.stack v hv), fun v hv => l v (g.globals v hv), fun j v hv => ?_, fun j => ?_, g.nat, g.once, fun j => ?_⟩
  · rw [e, if_neg (by omega)]; exact g.zero
  · rw [e]
    by_cases hj : j = i
    · rw [if_pos hj]; intro hn; rw [h1] at hn; cases hn
    · rw [if_neg hj]; exact g.gone j
  · rw [e]
    by_cases hj : j = i
    · rw [if_pos hj]; exact h3
    · rw [if_neg hj]; exact g.four j
  · rw [e] at hv
    by_cases hj : j = i
    · rw [if_pos hj] at hv; exact l v (h4 v hv)
    · rw [if_neg hj] at hv; exact l v (g.fields j v hv)
  · rw [e]
    show (j : Int) ∈ s.queue ↔ _
    by_cases hj : j = i
    · rw [if_pos hj, h2, hj]; exact g.inq i
    · rw [if_neg hj]; exact g.inq j
  · rw [e]
    by_cases hj : j = i
    · rw [if_pos hj]; exact h5
    · rw [if_neg hj]; exact g.unstuck j
theorem St.Good.setField {s : St} {N : Nat} (g : s.Good N) (i k : Nat) {v : Int × Int} (hv : s.leads v) : (s.field i k v).Good N := by
  cases hh : (s.ob i).here with
  | true =>
    refine g.turned i _ hh hh rfl (by simpa using g.four i) (fun x hx => ?_) (g.unstuck i)
    rcases List.mem_or_eq_of_mem_set hx with e | e
    · exact g.fields i x e
    · subst e; exact hv
  | false =>
    have e := g.gone i hh
    have : s.field i k v = s := by
      unfold St.field
      rw [e]
      by_cases hi : i < s.objs.length
      · unfold St.put
        have e2 : s.objs[i] = Ob.free := by rw [← e]; exact (ob_of (List.getElem?_eq_getElem hi)).symm
        have e3 : s.objs.set i { Ob.free with fs := Ob.free.fs.set k v } = s.objs := by
          have : ({ Ob.free with fs := Ob.free.fs.set k v } : Ob) = s.objs[i] := by rw [e2]; rfl
          rw [this, List.set_getElem_self]
        rw [e3]
      · exact put_out _ hi
    rw [this]; exact g
theorem St.Good.stick {s : St} {N : Nat} (g : s.Good N) (i : Nat) (ha : s.alive i) : (s.stick i).Good N :=
  g.turned i _ ha.1 ha.1 rfl (g.four i) (g.fields i) (fun h => by rw [show ({ s.ob i with stuck := true } : Ob).queued = (s.ob i).queued from rfl, ha.2] at h; cases h)

/-! ### The queue -/
theorem St.Good.enq {s : St} {N : Nat} (g : s.Good N) (i : Nat) (ha : s.alive i) (hs : (s.ob i).stuck = false) (hc : s.count i = 0) (hr : s.rooted i = false) : (s.enq i).Good N := by
  have hi := here_lt ha.1
  have hz := g.ne_zero ha.1
  have e : ∀ j, (s.enq i).ob j = if j = i then { s.ob i with queued := true } else s.ob j := fun j => ob_enq j hi
  have l : ∀ v : Int × Int, (v.1 = 2 → v.2 ≠ (i : Int)) → s.leads v → (s.enq i).leads v := fun v hn hv => by
    rcases hv with h | h | ⟨h1, j, h2, h3⟩
    · exact .inl h
    · exact .inr (.inl h)
    · refine .inr (.inr ⟨h1, j, h2, ?_⟩)
      have hj : j ≠ i := fun e1 => hn h1 (by rw [h2, e1])
      unfold St.alive
      rw [e, if_neg hj]; exact h3
  obtain ⟨r1, r2⟩ := rooted_false hr
  refine ⟨by simp [St.enq, g.len], ?_, fun j => ?_, fun j => ?_, fun v hv => l v (refs_zero r1 hv) (g.stack v hv), fun v hv => l v (refs_zero r2 hv) (g.globals v hv), fun j v hv => ?_, fun j => ?_, ?_, ?_, fun j => ?_⟩
  · rw [e, if_neg (by omega)]; exact g.zero
  · rw [e]
    by_cases hj : j = i
    · rw [if_pos hj]; intro hn; rw [show ({ s.ob i with queued := true } : Ob).here = (s.ob i).here from rfl, ha.1] at hn; cases hn
    · rw [if_neg hj]; exact g.gone j
  · rw [e]
    by_cases hj : j = i
    · rw [if_pos hj]; exact g.four i
    · rw [if_neg hj]; exact g.four j
  · have hv' : v ∈ (s.ob j).fs := by
      rw [e] at hv
      by_cases hj : j = i
      · rw [if_pos hj] at hv; rw [hj]; exact hv
      · rw [if_neg hj] at hv; exact hv
    exact l v (fun h1 h2 => by have := g.counts hv' h1; rw [h2] at this; omega) (g.fields j v hv')
  · rw [e]
    show (j : Int) ∈ s.queue ++ [(i : Int)] ↔ _
    rw [List.mem_append, List.mem_singleton]
    by_cases hj : j = i
    · rw [if_pos hj]; simp [hj]
    · rw [if_neg hj, ← g.inq j]
      constructor
      · rintro (h | h)
        · exact h
        · omega
      · exact .inl
  · intro b hb
    rcases List.mem_append.1 hb with h | h
    · exact g.nat b h
    · simp at h; omega
  · show (s.queue ++ [(i : Int)]).Nodup
    rw [List.nodup_append]
    refine ⟨g.once, by simp, fun a h1 b h2 => ?_⟩
    simp at h2
    subst h2
    rintro rfl
    have := (g.inq i).1 h1
    rw [ha.2] at this; cases this
  · rw [e]
    by_cases hj : j = i
    · rw [if_pos hj]; intro _; exact hs
    · rw [if_neg hj]; exact g.unstuck j

theorem waits_iff {s : St} {i : Nat} : s.waits i = true ↔ s.alive i ∧ (s.ob i).stuck = false ∧ s.count i = 0 := by
  unfold St.waits St.alive
  simp
  constructor
  · rintro ⟨⟨⟨a, b⟩, c⟩, d⟩; exact ⟨⟨a, c⟩, b, d⟩
  · rintro ⟨⟨a, c⟩, b, d⟩; exact ⟨⟨⟨a, b⟩, c⟩, d⟩
theorem sorts_iff {s : St} {but : Int} {i : Nat} : s.sorts but i = true ↔ s.waits i = true ∧ s.rooted i = false ∧ (i : Int) ≠ but := by
  unfold St.sorts
  simp
  exact and_assoc
theorem St.Good.sortTo {s : St} {N : Nat} (g : s.Good N) (but : Int) (k : Nat) : (sortTo but s k).Good N := by
  induction k with
  | zero => exact g
  | succ k ih =>
    unfold YteekoiljkklnmaaGreatDoor.sortTo
    split
    · rename_i h
      obtain ⟨h1, h2, _⟩ := sorts_iff.1 h
      obtain ⟨h3, h4, h5⟩ := waits_iff.1 h1
      exact ih.enq _ h3 h4 h5 h2
    · exact ih
theorem St.Good.sort {s : St} {N : Nat} (g : s.Good N) (but : Int) : (s.sort but).Good N := g.sortTo but _
theorem St.Good.enter {s : St} {N : Nat} (g : s.Good N) (z but : Int) : (s.enter z but).Good N := by
  unfold St.enter
  split
  · exact g.sort but
  · exact g
/-- a sorting leaves roots as they are, and the queue's first ones -/
theorem sortTo_same (but : Int) (s : St) (k : Nat) : (sortTo but s k).stack = s.stack ∧ (sortTo but s k).globals = s.globals ∧ (sortTo but s k).objs.length = s.objs.length ∧ ∃ q, (sortTo but s k).queue = s.queue ++ q := by
  induction k with
  | zero => exact ⟨rfl, rfl, rfl, [], by simp [sortTo]⟩
  | succ k ih =>
    unfold sortTo
    split
    · obtain ⟨h1, h2, h3, q, h4⟩ := ih
      refine ⟨h1, h2, by simp [St.enq, h3], q ++ [((k + 1 : Nat) : Int)], ?_⟩
      show (sortTo but s k).queue ++ [((k + 1 : Nat) : Int)] = _
      rw [h4, List.append_assoc]
    · exact ih
theorem enter_same (z but : Int) (s : St) : (s.enter z but).stack = s.stack ∧ (s.enter z but).globals = s.globals ∧ (s.enter z but).objs.length = s.objs.length ∧ ∃ q, (s.enter z but).queue = s.queue ++ q := by
  unfold St.enter
  split
  · exact sortTo_same but s _
  · exact ⟨rfl, rfl, rfl, [], by simp⟩
/-- what a sorting passes by -/
theorem sortTo_but {but : Int} {s : St} {j : Nat} (hj : (j : Int) = but) (k : Nat) : (sortTo but s k).ob j = s.ob j := by
  induction k with
  | zero => rfl
  | succ k ih =>
    unfold sortTo
    split
    · rename_i h
      obtain ⟨h1, _, h3⟩ := sorts_iff.1 h
      have h4 := here_lt (waits_iff.1 h1).1.1
      rw [ob_enq j h4, if_neg (by omega)]; exact ih
    · exact ih
theorem enter_but {z but : Int} {s : St} {j : Nat} (hj : (j : Int) = but) : (s.enter z but).ob j = s.ob j := by
  unfold St.enter
  split
  · exact sortTo_but hj _
  · rfl

end Go.Proofs.YteekoiljkklnmaaGreatDoor

/- OUR OWN. The document's heap without memory: freeing, a collection and the operations keep what holds. -/
namespace Go.Proofs.YteekoiljkklnmaaGreatDoor
set_option linter.unusedVariables false
set_option linter.unusedSimpArgs false

theorem alive_put {s : St} {i : Nat} {o : Ob} (h1 : o.here = (s.ob i).here) (h2 : o.queued = (s.ob i).queued) (j : Nat) : (s.put i o).alive j ↔ s.alive j := by
  by_cases hi : i < s.objs.length
  · unfold St.alive
    rw [ob_put o j hi]
    by_cases hj : j = i
    · rw [if_pos hj, h1, h2, hj]
    · rw [if_neg hj]
  · rw [put_out o hi]
theorem leads_put {s : St} {i : Nat} {o : Ob} (h1 : o.here = (s.ob i).here) (h2 : o.queued = (s.ob i).queued) {v : Int × Int} (hv : s.leads v) : (s.put i o).leads v := leads_of (fun j _ h => (alive_put h1 h2 j).2 h) hv
theorem leads_ref {s : St} {v : Int × Int} (h : s.leads v) (h1 : v.1 = 2) : ∃ i : Nat, v.2 = i ∧ s.alive i := by
  rcases h with e | e | e
  · rw [e] at h1; cases h1
  · rw [h1] at e; cases e.1
  · exact e.2

/-! ### Freeing -/
theorem St.Good.letGo {s : St} {N : Nat} (g : s.Good N) (z : Int) (b k : Nat) : (letGo z b k s).Good N := by
  have g1 : (s.field b k (0, 0)).Good N := g.setField b k (.inl rfl)
  have hv := leads_getD (g.fields b) k
  unfold YteekoiljkklnmaaGreatDoor.letGo
  split
  · exact g1
  · rename_i hk
    obtain ⟨i, hi, ha⟩ := leads_ref (leads_put (s := s) (i := b) (o := { s.ob b with fs := (s.ob b).fs.set k (0, 0) }) rfl rfl hv) (by omega)
    split
    · exact g1
    · rename_i hc
      split
      · exact g1.enter _ _
      · rename_i hr
        rw [hi] at hc hr ⊢
        rw [Int.toNat_natCast] at hc ⊢
        exact g1.enq i ha (by cases e : ((s.field b k (0, 0)).ob i).stuck with | true => exact absurd (.inr e) hc | false => rfl) (by omega) (by simpa using hr)
theorem letGo_same (z : Int) (b k : Nat) (s : St) : (letGo z b k s).stack = s.stack ∧ (letGo z b k s).globals = s.globals ∧ (letGo z b k s).objs.length = s.objs.length ∧ ∃ q, (letGo z b k s).queue = s.queue ++ q := by
  have h1 : (s.field b k (0, 0)).objs.length = s.objs.length := by simp [St.field, St.put]
  unfold letGo
  split
  · exact ⟨rfl, rfl, h1, [], by simp [St.field, St.put]⟩
  · split
    · exact ⟨rfl, rfl, h1, [], by simp [St.field, St.put]⟩
    · split
      · obtain ⟨e1, e2, e3, q, e4⟩ := enter_same z ((s.ob b).fs.getD k (0, 0)).2 (s.field b k (0, 0))
        exact ⟨e1, e2, e3.trans h1, q, e4⟩
      · exact ⟨rfl, rfl, by simp [St.enq, h1], _, rfl⟩
theorem St.Good.letTo {s : St} {N : Nat} (g : s.Good N) (z : Int) (b k : Nat) : (letTo z b s k).Good N := by
  induction k with
  | zero => exact g
  | succ k ih => exact ih.letGo z b k
theorem letTo_same (z : Int) (b : Nat) (s : St) (k : Nat) : (letTo z b s k).stack = s.stack ∧ (letTo z b s k).globals = s.globals ∧ (letTo z b s k).objs.length = s.objs.length ∧ ∃ q, (letTo z b s k).queue = s.queue ++ q := by
  induction k with
  | zero => exact ⟨rfl, rfl, rfl, [], by simp [letTo]⟩
  | succ k ih =>
    obtain ⟨a1, a2, a3, q, a4⟩ := ih
    obtain ⟨b1, b2, b3, q', b4⟩ := letGo_same z b k (letTo z b s k)
    exact ⟨b1.trans a1, b2.trans a2, b3.trans a3, q ++ q', by show (letGo z b k (letTo z b s k)).queue = _; rw [b4, a4, List.append_assoc]⟩
theorem St.Good.leave {s : St} {N : Nat} (g : s.Good N) {b : Nat} {q : List Int} (hq : s.queue = (b : Int) :: q) : (s.leave b).Good N := by
  have hb : (s.ob b).queued = true := (g.inq b).1 (by rw [hq]; simp)
  have hh : (s.ob b).here = true := by
    cases e : (s.ob b).here with
    | true => rfl
    | false => rw [g.gone b e] at hb; cases hb
  have hi := here_lt hh
  have hz := g.ne_zero hh
  have e : ∀ j, (s.leave b).ob j = if j = b then Ob.free else s.ob j := fun j => getD_set _ _ _ _ hi
  have l : ∀ v, s.leads v → (s.leave b).leads v := fun v hv => leads_of (fun j _ ha => by
    have hj : j ≠ b := fun h => by subst h; rw [ha.2] at hb; cases hb
    unfold St.alive
    rw [e, if_neg hj]; exact ha) hv
  have hqe : (s.leave b).queue = q := by show s.queue.tail = q; rw [hq]; rfl
  have hn := g.once
  rw [hq] at hn
  have hn' := List.nodup_cons.1 hn
  refine ⟨by simp [St.leave, g.len], ?_, fun j => ?_, fun j => ?_, fun v hv => l v (g.stack v hv), fun v hv => l v (g.globals v hv), fun j v hv => ?_, fun j => ?_, ?_, ?_, fun j => ?_⟩
  · rw [e, if_neg (by omega)]; exact g.zero
  · rw [e]
    by_cases hj : j = b
    · rw [if_pos hj]; intro _; rfl
    · rw [if_neg hj]; exact g.gone j
  · rw [e]
    by_cases hj : j = b
    · rw [if_pos hj]; simp [Ob.free]
    · rw [if_neg hj]; exact g.four j
  · rw [e] at hv
    by_cases hj : j = b
    · rw [if_pos hj] at hv; simp [Ob.free] at hv
    · rw [if_neg hj] at hv; exact l v (g.fields j v hv)
  · rw [e, hqe]
    by_cases hj : j = b
    · rw [if_pos hj, hj]
      constructor
      · intro h; exact absurd h hn'.1
      · intro h; cases h
    · rw [if_neg hj, ← g.inq j, hq, List.mem_cons]
      constructor
      · exact .inr
      · rintro (h | h)
        · omega
        · exact h
  · rw [hqe]; intro x hx; exact g.nat x (by rw [hq]; exact List.mem_cons_of_mem _ hx)
  · rw [hqe]; exact hn'.2
  · rw [e]
    by_cases hj : j = b
    · rw [if_pos hj]; intro h; cases h
    · rw [if_neg hj]; exact g.unstuck j
theorem St.Good.first {s : St} {N : Nat} (g : s.Good N) (hq : s.queue.length ≠ 0) : ∃ q, s.queue = (s.first : Int) :: q := by
  cases e : s.queue with
  | nil => rw [e] at hq; simp at hq
  | cons b q =>
    have := g.nat b (by rw [e]; simp)
    refine ⟨q, ?_⟩
    unfold St.first
    rw [e]
    show b :: q = ((b.toNat : Nat) : Int) :: q
    rw [Int.toNat_of_nonneg this]
theorem St.Good.freed {s : St} {N : Nat} (g : s.Good N) (z : Int) (hq : s.queue.length ≠ 0) : (s.free z).Good N := by
  obtain ⟨q, e⟩ := g.first hq
  obtain ⟨_, _, _, q', e'⟩ := letTo_same z s.first s (s.ob s.first).fs.length
  exact (g.letTo z s.first _).leave (q := q ++ q') (by rw [e', e]; simp)
theorem St.Good.safeN {N : Nat} (z : Int) (k : Nat) : ∀ {s : St}, s.Good N → (safeN z k s).1.Good N := by
  induction k with
  | zero => intro s g; exact g
  | succ k ih =>
    intro s g
    unfold YteekoiljkklnmaaGreatDoor.safeN
    split
    · exact g
    · rename_i hq; exact ih (g.freed z hq)
theorem St.Good.safe {s : St} {N : Nat} (g : s.Good N) (c : Cf) : (s.safe c).1.Good N := St.Good.safeN _ _ (g.sort 0)

/-! ### What is reachable -/
theorem countTo_mono {p q : Nat → Bool} (h : ∀ j, p j = true → q j = true) (k : Nat) : countTo p k ≤ countTo q k := by
  induction k with
  | zero => simp [countTo]
  | succ k ih =>
    rw [countTo_succ, countTo_succ]
    cases e : p (k + 1) with
    | true => rw [h _ e]; simpa using ih
    | false => simp; omega
theorem countTo_lt {p q : Nat → Bool} (h : ∀ j, p j = true → q j = true) {b k : Nat} (h1 : 1 ≤ b) (h2 : b ≤ k) (hp : p b = false) (hq : q b = true) : countTo p k < countTo q k := by
  induction k with
  | zero => omega
  | succ k ih =>
    rw [countTo_succ, countTo_succ]
    by_cases hb : b = k + 1
    · subst hb
      rw [hp, hq]
      have := countTo_mono h k
      simp; omega
    · have := ih (by omega)
      cases e : p (k + 1) with
      | true => rw [h _ e]; simpa using this
      | false => simp; omega

theorem reach_mono (s : St) (k b : Nat) (h : reachK s k b = true) : reachK s (k + 1) b = true := by
  show (reachK s k b || _) = true
  rw [h]; rfl
theorem reach_range (s : St) (k b : Nat) (h : reachK s k b = true) : 1 ≤ b ∧ b ≤ s.N := by
  induction k with
  | zero =>
    unfold reachK at h
    simp at h
    exact h.1
  | succ k ih =>
    unfold reachK at h
    simp at h
    rcases h with h | h
    · exact ih h
    · exact h.1
def StableK (s : St) (k : Nat) : Prop := reachK s (k + 1) = reachK s k
theorem stable_succ {s : St} {k : Nat} (h : StableK s k) : StableK s (k + 1) := by
  unfold StableK at *
  funext b
  show (reachK s (k + 1) b || (decide (1 ≤ b ∧ b ≤ s.N) && (List.range (s.N + 1)).any fun a => reachK s (k + 1) a && decide (0 < refsN (s.ob a).fs b))) = reachK s (k + 1) b
  rw [h]
  exact congrFun h b
theorem stable_or (s : St) (k : Nat) : StableK s k ∨ k + 1 ≤ countTo (reachK s k) s.N := by
  have grow : ∀ k, ¬ StableK s k → countTo (reachK s k) s.N < countTo (reachK s (k + 1)) s.N := fun k hk => by
    have : ∃ b, reachK s (k + 1) b ≠ reachK s k b := Classical.byContradiction fun hn => hk (funext fun b => Classical.byContradiction fun hb => hn ⟨b, hb⟩)
    obtain ⟨b, hb⟩ := this
    have h0 : reachK s k b = false := by
      cases e : reachK s k b with
      | false => rfl
      | true => rw [e, reach_mono s k b e] at hb; exact absurd rfl hb
    have h1 : reachK s (k + 1) b = true := by
      cases e : reachK s (k + 1) b with
      | true => rfl
      | false => rw [e, h0] at hb; exact absurd rfl hb
    have := reach_range s _ b h1
    exact countTo_lt (fun j => reach_mono s k j) this.1 this.2 h0 h1
  have base : ∀ k, (∀ b, reachK s k b = false) → StableK s k := fun k h => by
    funext b
    show (reachK s k b || (decide (1 ≤ b ∧ b ≤ s.N) && (List.range (s.N + 1)).any fun a => reachK s k a && decide (0 < refsN (s.ob a).fs b))) = reachK s k b
    have : reachK s k = fun _ => false := funext h
    rw [this]
    simp
  induction k with
  | zero =>
    by_cases h : ∀ b, reachK s 0 b = false
    · exact .inl (base 0 h)
    · have : ∃ b, reachK s 0 b = true := Classical.byContradiction fun hn => h fun b => by
        cases e : reachK s 0 b with
        | false => rfl
        | true => exact absurd ⟨b, e⟩ hn
      obtain ⟨b, hb⟩ := this
      have hr := reach_range s 0 b hb
      have := countTo_lt (p := fun _ => false) (q := reachK s 0) (fun j hj => by cases hj) hr.1 hr.2 rfl hb
      exact .inr (by omega)
  | succ k ih =>
    rcases ih with h | h
    · exact .inl (stable_succ h)
    · by_cases hs : StableK s k
      · exact .inl (stable_succ hs)
      · have := grow k hs; exact .inr (by omega)
theorem reach_stable (s : St) : reachK s (s.N + 1) = reachK s s.N := by
  rcases stable_or s s.N with h | h
  · exact h
  · have := countTo_le (reachK s s.N) s.N; omega
/-- what a reachable object's field has is reachable -/
theorem reach_closed {s : St} {a b : Nat} (ha : s.reachB a = true) (h1 : 1 ≤ b) (h2 : b ≤ s.N) (hr : 0 < refsN (s.ob a).fs b) : s.reachB b = true := by
  unfold St.reachB at *
  rw [← reach_stable]
  have hra := reach_range s _ a ha
  show (reachK s s.N b || (decide (1 ≤ b ∧ b ≤ s.N) && (List.range (s.N + 1)).any fun a => reachK s s.N a && decide (0 < refsN (s.ob a).fs b))) = true
  rw [Bool.or_eq_true, Bool.and_eq_true]
  refine .inr ⟨by simp; omega, List.any_eq_true.2 ⟨a, by simp; omega, ?_⟩⟩
  rw [ha]; simpa using hr
theorem reach_rooted {s : St} {b : Nat} (h1 : 1 ≤ b) (h2 : b ≤ s.N) (hr : s.rooted b = true) : s.reachB b = true := by
  have h0 : reachK s 0 b = true := by unfold reachK; rw [hr]; simp; omega
  have : ∀ k, reachK s k b = true := fun k => by
    induction k with
    | zero => exact h0
    | succ k ih => exact reach_mono s k b ih
  exact this _
/-- the least such -/
theorem reach_least {s : St} {P : Nat → Prop} (h0 : ∀ b, 1 ≤ b → b ≤ s.N → s.rooted b = true → P b) (h1 : ∀ a b, P a → 1 ≤ a → a ≤ s.N → 1 ≤ b → b ≤ s.N → 0 < refsN (s.ob a).fs b → P b) {b : Nat} (h : s.reachB b = true) : P b := by
  unfold St.reachB at h
  have : ∀ k b, reachK s k b = true → P b := fun k => by
    induction k with
    | zero =>
      intro b hb
      unfold reachK at hb
      simp at hb
      exact h0 b hb.1.1 hb.1.2 hb.2
    | succ k ih =>
      intro b hb
      unfold reachK at hb
      rw [Bool.or_eq_true, Bool.and_eq_true] at hb
      rcases hb with hb | ⟨hb, ha⟩
      · exact ih b hb
      · obtain ⟨a, _, ha⟩ := List.any_eq_true.1 ha
        simp at ha hb
        have := reach_range s k a ha.1
        exact h1 a b (ih a ha.1) this.1 this.2 hb.1 hb.2 ha.2
  exact this _ b h
theorem St.Good.sN {s : St} {N : Nat} (g : s.Good N) : s.N = N := by unfold St.N; rw [g.len]; rfl
theorem St.Good.reach_alive {s : St} {N : Nat} (g : s.Good N) {b : Nat} (h : s.reachB b = true) : s.alive b := by
  refine reach_least (P := s.alive) (fun b _ _ hr => ?_) (fun a b _ _ _ _ _ hr => ?_) h
  · rcases rooted_true.1 hr with ⟨v, hv, h1, h2⟩ | ⟨v, hv, h1, h2⟩
    · obtain ⟨i, hi, ha⟩ := leads_ref (g.stack v hv) h1
      have : i = b := by omega
      rw [← this]; exact ha
    · obtain ⟨i, hi, ha⟩ := leads_ref (g.globals v hv) h1
      have : i = b := by omega
      rw [← this]; exact ha
  · obtain ⟨v, hv, h1, h2⟩ := refs_some hr
    obtain ⟨i, hi, ha⟩ := leads_ref (g.fields a v hv) h1
    have : i = b := by omega
    rw [← this]; exact ha

/-! ### A collection -/
theorem getD_mapIdx (l : List Ob) (f : Nat → Ob → Ob) (i : Nat) : (l.mapIdx f).getD i Ob.free = if i < l.length then f i (l.getD i Ob.free) else Ob.free := by
  rw [List.getD_eq_getElem?_getD, List.getD_eq_getElem?_getD, List.getElem?_mapIdx]
  by_cases h : i < l.length
  · rw [if_pos h, List.getElem?_eq_getElem h]; rfl
  · rw [if_neg h, List.getElem?_eq_none (by omega)]; rfl
theorem ob_swept {s : St} {N : Nat} (g : s.Good N) (i : Nat) : s.swept.ob i = if s.reachB i = true then { s.ob i with stuck := false, queued := false } else Ob.free := by
  have e : s.swept.ob i = if i < s.objs.length then sweptOb s i (s.ob i) else Ob.free := getD_mapIdx _ _ _
  rw [e]
  by_cases hi : i < s.objs.length
  · rw [if_pos hi]
    unfold sweptOb
    by_cases h0 : i = 0
    · subst h0
      rw [if_pos rfl, g.zero]
      have : ¬ s.reachB 0 = true := fun h => by have := reach_range s _ 0 h; omega
      rw [if_neg this]
    · rw [if_neg h0]
      by_cases hr : s.reachB i = true
      · rw [if_pos hr, if_neg (by simp [hr])]
      · rw [if_neg hr]
        cases hh : (s.ob i).here with
        | true => rw [if_pos (by simpa using hr)]
        | false => rw [if_neg (by simp), g.gone i hh]; rfl
  · have : ¬ s.reachB i = true := fun h => hi (here_lt (g.reach_alive h).1)
    rw [if_neg hi, if_neg this]
theorem St.Good.swept {s : St} {N : Nat} (g : s.Good N) : s.swept.Good N := by
  have e := ob_swept g
  have al : ∀ i, s.reachB i = true → s.swept.alive i := fun i h => by
    unfold St.alive
    rw [e, if_pos h]; exact ⟨(g.reach_alive h).1, rfl⟩
  have hN := g.sN
  have l : ∀ v, (∀ i : Nat, v.1 = 2 → v.2 = (i : Int) → s.alive i → s.reachB i = true) → s.leads v → s.swept.leads v := fun v h hv => by
    rcases hv with h1 | h1 | ⟨h1, i, h2, h3⟩
    · exact .inl h1
    · exact .inr (.inl h1)
    · exact .inr (.inr ⟨h1, i, h2, al i (h i h1 h2 h3)⟩)
  refine ⟨by simp [St.swept, g.len], ?_, fun j => ?_, fun j => ?_, fun v hv => ?_, fun v hv => ?_, fun j v hv => ?_, fun j => ?_, ?_, ?_, fun j => ?_⟩
  · rw [e, if_neg (fun h => by have := reach_range s _ 0 h; omega)]
  · rw [e]
    by_cases h : s.reachB j = true
    · rw [if_pos h]; intro hn; rw [show ({ s.ob j with stuck := false, queued := false } : Ob).here = (s.ob j).here from rfl, (g.reach_alive h).1] at hn; cases hn
    · rw [if_neg h]; intro _; rfl
  · rw [e]
    by_cases h : s.reachB j = true
    · rw [if_pos h]; exact g.four j
    · rw [if_neg h]; simp [Ob.free]
  · refine l v (fun i h1 h2 ha => ?_) (g.stack v hv)
    have := g.ne_zero ha.1
    exact reach_rooted this.1 (by omega) (rooted_true.2 (.inl ⟨v, hv, h1, h2⟩))
  · refine l v (fun i h1 h2 ha => ?_) (g.globals v hv)
    have := g.ne_zero ha.1
    exact reach_rooted this.1 (by omega) (rooted_true.2 (.inr ⟨v, hv, h1, h2⟩))
  · rw [e] at hv
    by_cases h : s.reachB j = true
    · rw [if_pos h] at hv
      refine l v (fun i h1 h2 ha => ?_) (g.fields j v hv)
      have := g.ne_zero ha.1
      exact reach_closed h this.1 (by omega) (refs_pos hv h1 h2)
    · rw [if_neg h] at hv; simp [Ob.free] at hv
  · rw [e]
    show (j : Int) ∈ ([] : List Int) ↔ _
    by_cases h : s.reachB j = true
    · rw [if_pos h]; simp
    · rw [if_neg h]; simp [Ob.free]
  · intro b hb; cases hb
  · exact List.nodup_nil
  · rw [e]
    by_cases h : s.reachB j = true
    · rw [if_pos h]; intro _; rfl
    · rw [if_neg h]; intro _; rfl
theorem ob_restuck (s : St) (over : Int) (i : Nat) : (s.restuck over).ob i = if i < s.objs.length then stuckOb over s i (s.ob i) else Ob.free := getD_mapIdx _ _ _
theorem St.Good.restuck {s : St} {N : Nat} (g : s.Good N) (over : Int) (hq : s.queue = []) : (s.restuck over).Good N := by
  have hn : ∀ i, (s.ob i).queued = false := fun i => by
    cases e : (s.ob i).queued with
    | false => rfl
    | true => have := (g.inq i).2 e; rw [hq] at this; cases this
  have hh : ∀ i, s.over7 i = true → (s.ob i).here = true := fun i h => by
    unfold St.over7 at h
    simp at h
    obtain ⟨a, _, _, _, v, hv, h1, h2⟩ := count_some (s := s) (b := (i : Int)) (by omega)
    obtain ⟨j, hj, ha⟩ := leads_ref (g.fields a v hv) h1
    have : j = i := by omega
    rw [← this]; exact ha.1
  have e : ∀ i, ∃ b, (s.restuck over).ob i = { s.ob i with stuck := b } ∧ (b = (s.ob i).stuck ∨ (b = true ∧ (s.ob i).here = true)) := fun i => by
    rw [ob_restuck]
    by_cases hi : i < s.objs.length
    · rw [if_pos hi]
      unfold stuckOb
      by_cases h : i ≠ 0 ∧ s.over7 i = true ∧ over ≤ countTo s.over7 (i - 1)
      · rw [if_pos h]; exact ⟨true, rfl, .inr ⟨rfl, hh i h.2.1⟩⟩
      · rw [if_neg h]; exact ⟨_, rfl, .inl rfl⟩
    · rw [if_neg hi]
      refine ⟨false, ?_, .inl ?_⟩
      · cases h : (s.ob i).here with
        | true => exact absurd (here_lt h) hi
        | false => rw [g.gone i h]; rfl
      · cases h : (s.ob i).here with
        | true => exact absurd (here_lt h) hi
        | false => rw [g.gone i h]; rfl
  have l : ∀ v, s.leads v → (s.restuck over).leads v := fun v hv => leads_of (fun j _ ha => by
    obtain ⟨b, hb, _⟩ := e j
    unfold St.alive
    rw [hb]; exact ha) hv
  have gone : ∀ i, (s.ob i).here = false → (s.restuck over).ob i = Ob.free := fun i h => by
    obtain ⟨b, hb, hb2⟩ := e i
    rw [hb]
    rcases hb2 with h2 | h2
    · rw [h2]; exact g.gone i h
    · rw [h] at h2; cases h2.2
  refine ⟨by simp [St.restuck, g.len], ?_, fun j => ?_, fun j => ?_, fun v hv => l v (g.stack v hv), fun v hv => l v (g.globals v hv), fun j v hv => ?_, fun j => ?_, g.nat, g.once, fun j => ?_⟩
  · exact gone 0 (by rw [g.zero]; rfl)
  · intro h
    obtain ⟨b, hb, _⟩ := e j
    rw [hb] at h
    exact gone j h
  · obtain ⟨b, hb, _⟩ := e j
    rw [hb]; exact g.four j
  · obtain ⟨b, hb, _⟩ := e j
    rw [hb] at hv; exact l v (g.fields j v hv)
  · obtain ⟨b, hb, _⟩ := e j
    rw [hb]; exact g.inq j
  · obtain ⟨b, hb, _⟩ := e j
    rw [hb]; intro h
    rw [show ({ s.ob j with stuck := b } : Ob).queued = (s.ob j).queued from rfl, hn j] at h; cases h
theorem St.Good.collect {s : St} {N : Nat} (g : s.Good N) (over : Int) : (s.collect over).Good N := g.swept.restuck over rfl

/-! ### The operations -/
theorem St.Good.room {s : St} {N : Nat} (g : s.Good N) (c : Cf) : (roomS c s).Good N := by
  unfold roomS
  split
  · exact g
  · split
    · rename_i h; exact g.freed _ (by omega)
    · exact g.collect _
theorem free_here {s : St} {k : Nat} (h : free? s = some k) : (s.ob (k + 1)).here = false ∧ k + 1 < s.objs.length := by
  unfold free? at h
  obtain ⟨h1, h2, _⟩ := List.findIdx?_eq_some_iff_getElem.1 h
  rw [List.length_tail] at h1
  rw [List.getElem_tail] at h2
  rw [ob_of (List.getElem?_eq_getElem (by omega : k + 1 < s.objs.length))]
  exact ⟨by simpa using h2, by omega⟩
theorem St.Good.laid {s : St} {N : Nat} (g : s.Good N) {b n : Nat} (hb : (s.ob b).here = false) (hl : b < s.objs.length) (h1 : 1 ≤ b) (hn : n ≤ 4) : (s.put b ⟨true, List.replicate n (0, 0), false, false⟩).Good N := by
  have e : ∀ j, (s.put b ⟨true, List.replicate n (0, 0), false, false⟩).ob j = if j = b then ⟨true, List.replicate n (0, 0), false, false⟩ else s.ob j := fun j => ob_put _ j hl
  have l : ∀ v, s.leads v → (s.put b ⟨true, List.replicate n (0, 0), false, false⟩).leads v := fun v hv => leads_of (fun j _ ha => by
    have hj : j ≠ b := fun h => by subst h; rw [ha.1] at hb; cases hb
    unfold St.alive
    rw [e, if_neg hj]; exact ha) hv
  refine ⟨by simp [St.put, g.len], ?_, fun j => ?_, fun j => ?_, fun v hv => l v (g.stack v hv), fun v hv => l v (g.globals v hv), fun j v hv => ?_, fun j => ?_, g.nat, g.once, fun j => ?_⟩
  · rw [e, if_neg (by omega)]; exact g.zero
  · rw [e]
    by_cases hj : j = b
    · rw [if_pos hj]; intro h; cases h
    · rw [if_neg hj]; exact g.gone j
  · rw [e]
    by_cases hj : j = b
    · rw [if_pos hj]; simpa using hn
    · rw [if_neg hj]; exact g.four j
  · rw [e] at hv
    by_cases hj : j = b
    · rw [if_pos hj] at hv; simp at hv; exact .inl hv.2
    · rw [if_neg hj] at hv; exact l v (g.fields j v hv)
  · rw [e]
    show (j : Int) ∈ s.queue ↔ _
    by_cases hj : j = b
    · rw [if_pos hj, hj, g.inq b, g.gone b hb]
      simp [Ob.free]
    · rw [if_neg hj]; exact g.inq j
  · rw [e]
    by_cases hj : j = b
    · rw [if_pos hj]; intro h; cases h
    · rw [if_neg hj]; exact g.unstuck j
theorem St.Good.lay {s : St} {N : Nat} (g : s.Good N) (z : Int) {b n : Nat} (hb : (s.ob b).here = false) (hl : b < s.objs.length) (h1 : 1 ≤ b) (hn : n ≤ 4) : (layS z s b n).Good N := by
  have g1 := (g.laid hb hl h1 hn).enter z b
  obtain ⟨e1, e2, _, _⟩ := enter_same z b (s.put b ⟨true, List.replicate n (0, 0), false, false⟩)
  have eb : ((s.put b ⟨true, List.replicate n (0, 0), false, false⟩).enter z b).ob b = ⟨true, List.replicate n (0, 0), false, false⟩ := by
    rw [enter_but rfl, ob_put _ b hl, if_pos rfl]
  refine g1.roots rfl rfl (fun v hv => ?_) (fun v hv => g1.globals v hv)
  rcases List.mem_append.1 hv with h | h
  · exact g1.stack v (by rw [e1]; exact h)
  · simp at h
    subst h
    exact .inr (.inr ⟨rfl, b, rfl, by unfold St.alive; rw [eb]; exact ⟨rfl, rfl⟩⟩)
theorem St.Good.new {s : St} {N : Nat} (g : s.Good N) (c : Cf) (n : Int) : (newS c s n).1.Good N := by
  unfold newS
  by_cases h1 : n < 0 ∨ 4 < n
  · rw [if_pos h1]; exact g
  rw [if_neg h1]
  by_cases h2 : c.deep ≤ s.stack.length
  · rw [if_pos h2]; exact g
  rw [if_neg h2]
  cases hk : free? (roomS c s) with
  | none => exact g.room c
  | some k =>
    obtain ⟨h3, h4⟩ := free_here hk
    exact (g.room c).lay _ h3 h4 (by omega) (by omega)
theorem St.Good.stickS {s : St} {N : Nat} (g : s.Good N) (o : Int) {x : Int × Int} (hx : s.leads x) : (stickS o s x).Good N ∧ ∀ v, s.leads v → (stickS o s x).leads v := by
  unfold YteekoiljkklnmaaGreatDoor.stickS
  split
  · rename_i h
    obtain ⟨i, hi, ha⟩ := leads_ref hx h.1
    have e : x.2.toNat = i := by omega
    rw [e]
    exact ⟨g.stick i ha, fun v hv => leads_put (i := i) (o := { s.ob i with stuck := true }) rfl rfl hv⟩
  · exact ⟨g, fun v hv => hv⟩
theorem St.Good.store {s : St} {N : Nat} (g : s.Good N) (c : Cf) (n : Int) : (storeS c s n).1.Good N := by
  unfold storeS
  split
  · exact g
  split
  · exact g
  split
  · exact g
  unfold putS
  split
  · exact g.pop 2
  have hx : (s.pop 2).leads (s.down 0) := g.down 0
  obtain ⟨g1, l1⟩ := (g.pop 2).stickS c.over hx
  have g2 := g1.setField (s.down 1).2.toNat n.toNat (l1 _ hx)
  unfold dropS'
  split
  · exact g2.enter _ _
  · exact g2
theorem St.Good.did {s : St} {N : Nat} (g : s.Good N) (c : Cf) (op n : Int) (hn : -9223372036854775808 ≤ n ∧ n ≤ 9223372036854775807) : (doS c s op n).1.Good N := by
  refine doS_keeps c s op n (fun t => t.Good N) g (fun t v ht hts hv _ => ?_) (fun k => g.pop k) (fun k hk => ?_) (g.new c n) (g.store c n)
  · have ht' : ∀ v, s.leads v → t.leads v := fun v h => by
      rcases hts with rfl | rfl
      · exact h
      · exact h
    have hl : s.leads v := by
      rcases hv with rfl | rfl | ⟨k, rfl⟩ | ⟨k, rfl⟩ | ⟨b, k, rfl⟩
      · exact .inl rfl
      · exact .inr (.inl ⟨rfl, hn⟩)
      · exact g.down k
      · exact leads_getD g.globals k
      · exact leads_getD (g.fields _) k
    refine ht.roots rfl rfl (fun x hx => ?_) ht.globals
    rcases List.mem_append.1 hx with h | h
    · exact ht.stack x h
    · simp at h; subst h; exact ht' _ hl
  · refine g.roots rfl rfl (fun v hv => g.stack v (List.mem_of_mem_take hv)) (fun v hv => ?_)
    rcases List.mem_or_eq_of_mem_set hv with h | h
    · exact g.globals v h
    · subst h; exact g.down 0

/-- a new heap -/
theorem good_new (N G : Nat) : (⟨[], List.replicate G (0, 0), List.replicate (N + 1) Ob.free, []⟩ : St).Good N := by
  have e : ∀ i, (⟨[], List.replicate G (0, 0), List.replicate (N + 1) Ob.free, []⟩ : St).ob i = Ob.free := fun i => by
    unfold St.ob
    rw [List.getD_eq_getElem?_getD, List.getElem?_replicate]
    split <;> rfl
  refine ⟨by simp, e 0, fun i _ => e i, fun i => by rw [e]; simp [Ob.free], (fun v hv => by cases hv), fun v hv => .inl (by simp at hv; exact hv.2), fun i v hv => by rw [e] at hv; simp [Ob.free] at hv, fun i => by rw [e]; simp [Ob.free], (fun b hb => by cases hb), List.nodup_nil, fun i h => by rw [e]; rfl⟩

end Go.Proofs.YteekoiljkklnmaaGreatDoor

/- OUR OWN. The document's heap without memory: what a safepoint and a collection leave. -/
namespace Go.Proofs.YteekoiljkklnmaaGreatDoor
set_option linter.unusedVariables false
set_option linter.unusedSimpArgs false

/-! ### The reachable objects stay as they are -/
/-- as many blocks, the same roots, and the reachable objects have the same fields -/
structure Same (s t : St) : Prop where
  N : t.N = s.N
  stack : t.stack = s.stack
  globals : t.globals = s.globals
  fs : ∀ a, s.reachB a = true → (t.ob a).fs = (s.ob a).fs
theorem Same.rooted {s t : St} (h : Same s t) (b : Int) : t.rooted b = s.rooted b := by unfold St.rooted; rw [h.stack, h.globals]
theorem Same.reach {s t : St} (h : Same s t) (b : Nat) : t.reachB b = s.reachB b := by
  have h1 : ∀ b, s.reachB b = true → t.reachB b = true := fun b hb => by
    refine (reach_least (s := s) (P := fun b => t.reachB b = true ∧ s.reachB b = true) (fun b b1 b2 hr => ⟨reach_rooted b1 (by rw [h.N]; exact b2) (by rw [h.rooted]; exact hr), reach_rooted b1 b2 hr⟩) (fun a b ha a1 a2 b1 b2 hr => ⟨?_, reach_closed ha.2 b1 b2 hr⟩) hb).1
    exact reach_closed ha.1 b1 (by rw [h.N]; exact b2) (by rw [h.fs a ha.2]; exact hr)
  have h2 : ∀ b, t.reachB b = true → s.reachB b = true := fun b hb => by
    refine reach_least (s := t) (P := fun b => s.reachB b = true) (fun b b1 b2 hr => reach_rooted b1 (by rw [← h.N]; exact b2) (by rw [← h.rooted]; exact hr)) (fun a b ha a1 a2 b1 b2 hr => ?_) hb
    exact reach_closed ha b1 (by rw [← h.N]; exact b2) (by rw [← h.fs a ha]; exact hr)
  cases e : s.reachB b with
  | true => exact h1 b e
  | false =>
    cases e2 : t.reachB b with
    | false => rfl
    | true => rw [h2 b e2] at e; cases e
theorem Same.refl (s : St) : Same s s := ⟨rfl, rfl, rfl, fun _ _ => rfl⟩
theorem Same.trans {s t u : St} (h : Same s t) (k : Same t u) : Same s u :=
  ⟨k.N.trans h.N, k.stack.trans h.stack, k.globals.trans h.globals, fun a ha => (k.fs a (by rw [h.reach]; exact ha)).trans (h.fs a ha)⟩

theorem put_N (s : St) (i : Nat) (o : Ob) : (s.put i o).N = s.N := by simp [St.N, St.put]
theorem same_put {s : St} {i : Nat} {o : Ob} (h : s.reachB i = true → o.fs = (s.ob i).fs) : Same s (s.put i o) := by
  refine ⟨put_N s i o, rfl, rfl, fun a ha => ?_⟩
  by_cases hi : i < s.objs.length
  · rw [ob_put o a hi]
    by_cases e : a = i
    · rw [if_pos e, e]; exact h (by rw [← e]; exact ha)
    · rw [if_neg e]
  · rw [put_out o hi]
theorem same_queue {s t : St} (h : Same s t) (q : List Int) : Same s { t with queue := q } := ⟨h.N, h.stack, h.globals, h.fs⟩
theorem same_enq (s : St) (i : Nat) : Same s (s.enq i) := same_queue (same_put (s := s) (i := i) (o := { s.ob i with queued := true }) fun _ => rfl) _
theorem same_sortTo (but : Int) (s : St) (k : Nat) : Same s (sortTo but s k) := by
  induction k with
  | zero => exact .refl s
  | succ k ih =>
    unfold sortTo
    split
    · exact ih.trans (same_enq _ _)
    · exact ih
theorem same_sort (but : Int) (s : St) : Same s (s.sort but) := same_sortTo but s _
theorem same_enter (z but : Int) (s : St) : Same s (s.enter z but) := by
  unfold St.enter
  split
  · exact same_sort but s
  · exact .refl s
/-- what is in the queue is not reachable -/
theorem St.Good.queued_not {s : St} {N : Nat} (g : s.Good N) {b : Nat} (h : (s.ob b).queued = true) : s.reachB b = false := by
  cases e : s.reachB b with
  | false => rfl
  | true => have := (g.reach_alive e).2; rw [h] at this; cases this
theorem same_letGo {s : St} (z : Int) {b : Nat} (k : Nat) (h : s.reachB b = false) : Same s (letGo z b k s) := by
  have h1 : Same s (s.field b k (0, 0)) := same_put fun e => by rw [h] at e; cases e
  unfold letGo
  split
  · exact h1
  · split
    · exact h1
    · split
      · exact h1.trans (same_enter _ _ _)
      · exact h1.trans (same_enq _ _)
theorem same_letTo {s : St} (z : Int) {b : Nat} (k : Nat) (h : s.reachB b = false) : Same s (letTo z b s k) := by
  induction k with
  | zero => exact .refl s
  | succ k ih => exact ih.trans (same_letGo z k (by rw [ih.reach]; exact h))
theorem St.Good.first_queued {s : St} {N : Nat} (g : s.Good N) (hq : s.queue.length ≠ 0) : (s.ob s.first).queued = true := by
  obtain ⟨q, e⟩ := g.first hq
  exact (g.inq s.first).1 (by rw [e]; simp)
theorem same_free {s : St} {N : Nat} (g : s.Good N) (z : Int) (hq : s.queue.length ≠ 0) : Same s (s.free z) := by
  have h := g.queued_not (g.first_queued hq)
  have h1 := same_letTo z (s.ob s.first).fs.length h
  exact h1.trans (same_queue (same_put (s := letTo z s.first s (s.ob s.first).fs.length) (i := s.first) (o := Ob.free) fun e => by rw [h1.reach, h] at e; cases e) _)
theorem same_safeN {N : Nat} (z : Int) (k : Nat) : ∀ {s : St}, s.Good N → Same s (safeN z k s).1 := by
  induction k with
  | zero => intro s g; exact .refl s
  | succ k ih =>
    intro s g
    unfold safeN
    split
    · exact .refl s
    · rename_i hq
      exact (same_free g z hq).trans (ih (g.freed z hq))
theorem same_safe {s : St} {N : Nat} (g : s.Good N) (c : Cf) : Same s (s.safe c).1 := (same_sort 0 s).trans (same_safeN _ _ (g.sort 0))
theorem same_swept {s : St} {N : Nat} (g : s.Good N) : Same s s.swept :=
  ⟨by simp [St.N, St.swept], rfl, rfl, fun a ha => by rw [ob_swept g, if_pos ha]⟩
theorem same_restuck (s : St) (over : Int) : Same s (s.restuck over) := by
  refine ⟨by simp [St.N, St.restuck], rfl, rfl, fun a ha => ?_⟩
  rw [ob_restuck]
  by_cases hi : a < s.objs.length
  · rw [if_pos hi]; unfold stuckOb; split <;> rfl
  · rw [if_neg hi]
    cases e : s.objs[a]? with
    | some o => exact absurd (List.getElem?_eq_some_iff.1 e).1 hi
    | none => unfold St.ob; rw [List.getD_eq_getElem?_getD, e]; rfl
theorem same_collect {s : St} {N : Nat} (g : s.Good N) (over : Int) : Same s (s.collect over) := (same_swept g).trans (same_restuck _ _)

/-! ### How many blocks are free -/
def freeN (s : St) : Nat := countTo (fun b => !(s.ob b).here) s.N
def reachN (s : St) : Nat := countTo s.reachB s.N
theorem countTo_congr {p q : Nat → Bool} {k : Nat} (h : ∀ b, 1 ≤ b → b ≤ k → p b = q b) : countTo p k = countTo q k := by
  induction k with
  | zero => simp [countTo]
  | succ k ih => rw [countTo_succ, countTo_succ, ih (fun b h1 hb => h b h1 (by omega)), h (k + 1) (by omega) (by omega)]
theorem countTo_not (p : Nat → Bool) (k : Nat) : countTo (fun b => !p b) k + countTo p k = k := by
  induction k with
  | zero => simp [countTo]
  | succ k ih =>
    rw [countTo_succ, countTo_succ]
    cases p (k + 1) with
    | true => simp; omega
    | false => simp; omega
theorem countTo_add {p q r : Nat → Bool} {k : Nat} (h : ∀ b, (if p b then 1 else 0) + (if q b then 1 else 0) = (if r b then 1 else 0)) : countTo p k + countTo q k = countTo r k := by
  induction k with
  | zero => simp [countTo]
  | succ k ih =>
    rw [countTo_succ, countTo_succ, countTo_succ]
    have := h (k + 1)
    omega
theorem Same.reachN {s t : St} (h : Same s t) : reachN t = reachN s := by
  unfold YteekoiljkklnmaaGreatDoor.reachN
  rw [h.N]
  exact countTo_congr fun b _ _ => h.reach b
/-- one block more is free -/
theorem countTo_one {p q : Nat → Bool} {b k : Nat} (h1 : 1 ≤ b) (h2 : b ≤ k) (hp : p b = false) (hq : q b = true) (h : ∀ j, j ≠ b → p j = q j) : countTo q k = countTo p k + 1 := by
  induction k with
  | zero => omega
  | succ k ih =>
    rw [countTo_succ, countTo_succ]
    by_cases hb : b = k + 1
    · subst hb
      rw [hp, hq, countTo_congr (p := q) (q := p) fun j _ hj => (h j (by omega)).symm]
      simp
    · rw [ih (by omega), h (k + 1) (by omega)]; omega

/-- nothing but the queue and the flags -/
def sameHere (s t : St) : Prop := t.N = s.N ∧ ∀ b, (t.ob b).here = (s.ob b).here
theorem sameHere.refl (s : St) : sameHere s s := ⟨rfl, fun _ => rfl⟩
theorem sameHere.trans {s t u : St} (h : sameHere s t) (k : sameHere t u) : sameHere s u := ⟨k.1.trans h.1, fun b => (k.2 b).trans (h.2 b)⟩
theorem sh_put {s : St} {i : Nat} {o : Ob} (h : o.here = (s.ob i).here) : sameHere s (s.put i o) := by
  refine ⟨put_N s i o, fun b => ?_⟩
  by_cases hi : i < s.objs.length
  · rw [ob_put o b hi]
    by_cases e : b = i
    · rw [if_pos e, e]; exact h
    · rw [if_neg e]
  · rw [put_out o hi]
theorem sh_queue {s t : St} (h : sameHere s t) (q : List Int) : sameHere s { t with queue := q } := h
theorem sh_enq (s : St) (i : Nat) : sameHere s (s.enq i) := sh_queue (sh_put (s := s) (i := i) (o := { s.ob i with queued := true }) rfl) _
theorem sh_field (s : St) (i k : Nat) (v : Int × Int) : sameHere s (s.field i k v) := sh_put rfl
theorem sh_sortTo (but : Int) (s : St) (k : Nat) : sameHere s (sortTo but s k) := by
  induction k with
  | zero => exact .refl s
  | succ k ih =>
    unfold sortTo
    split
    · exact ih.trans (sh_enq _ _)
    · exact ih
theorem sh_enter (z but : Int) (s : St) : sameHere s (s.enter z but) := by
  unfold St.enter
  split
  · exact sh_sortTo but s _
  · exact .refl s
theorem sh_letGo (z : Int) (b k : Nat) (s : St) : sameHere s (letGo z b k s) := by
  unfold letGo
  split
  · exact sh_field _ _ _ _
  · split
    · exact sh_field _ _ _ _
    · split
      · exact (sh_field _ _ _ _).trans (sh_enter _ _ _)
      · exact (sh_field _ _ _ _).trans (sh_enq _ _)
theorem sh_letTo (z : Int) (b : Nat) (s : St) (k : Nat) : sameHere s (letTo z b s k) := by
  induction k with
  | zero => exact .refl s
  | succ k ih => exact ih.trans (sh_letGo z b k _)
theorem sameHere.freeN {s t : St} (h : sameHere s t) : freeN t = freeN s := by
  unfold YteekoiljkklnmaaGreatDoor.freeN
  rw [h.1]
  exact countTo_congr fun b _ _ => by rw [h.2 b]
theorem St.Good.queued_here {s : St} {N : Nat} (g : s.Good N) {b : Nat} (h : (s.ob b).queued = true) : (s.ob b).here = true := by
  cases e : (s.ob b).here with
  | true => rfl
  | false => rw [g.gone b e] at h; cases h
theorem freeN_free {s : St} {N : Nat} (g : s.Good N) (z : Int) (hq : s.queue.length ≠ 0) : freeN (s.free z) = freeN s + 1 := by
  have hh := g.queued_here (g.first_queued hq)
  have hz := g.ne_zero hh
  have h1 := sh_letTo z s.first s (s.ob s.first).fs.length
  have g1 := g.letTo z s.first (s.ob s.first).fs.length
  have hl : s.first < (letTo z s.first s (s.ob s.first).fs.length).objs.length := by rw [g1.len]; omega
  have e : ∀ j, (s.free z).ob j = if j = s.first then Ob.free else (letTo z s.first s (s.ob s.first).fs.length).ob j := fun j => getD_set _ _ _ _ hl
  have eN : (s.free z).N = s.N := by rw [(g.freed z hq).sN, g.sN]
  unfold freeN
  rw [eN, g.sN]
  refine countTo_one (b := s.first) hz.1 hz.2 (by rw [hh]; rfl) (by rw [e, if_pos rfl]; rfl) fun j hj => ?_
  rw [e, if_neg hj, h1.2 j]
theorem freeN_safeN {N : Nat} (z : Int) (k : Nat) : ∀ {s : St}, s.Good N → freeN (safeN z k s).1 = freeN s + (safeN z k s).2 ∧ (safeN z k s).2 ≤ k ∧ ((safeN z k s).2 < k → (safeN z k s).1.queue.length = 0) := by
  induction k with
  | zero => intro s g; exact ⟨rfl, Nat.le_refl _, fun h => absurd h (by simp [safeN])⟩
  | succ k ih =>
    intro s g
    unfold safeN
    split
    · rename_i hq; exact ⟨rfl, Nat.zero_le _, fun _ => hq⟩
    · rename_i hq
      obtain ⟨h1, h2, h3⟩ := ih (g.freed z hq)
      have := freeN_free g z hq
      refine ⟨?_, ?_, fun h => h3 ?_⟩
      · show freeN (safeN z k (s.free z)).1 = freeN s + ((safeN z k (s.free z)).2 + 1)
        omega
      · show (safeN z k (s.free z)).2 + 1 ≤ k + 1
        omega
      · have : (safeN z k (s.free z)).2 + 1 < k + 1 := h
        omega
theorem freeN_safe {s : St} {N : Nat} (g : s.Good N) (c : Cf) : freeN (s.safe c).1 = freeN s + (s.safe c).2 ∧ (s.safe c).2 ≤ c.budget.toNat ∧ ((s.safe c).2 < c.budget.toNat → (s.safe c).1.queue.length = 0) := by
  obtain ⟨h1, h2, h3⟩ := freeN_safeN c.zero c.budget.toNat (g.sort 0)
  refine ⟨?_, h2, h3⟩
  have e : freeN (s.sort 0) = freeN s := (sh_sortTo 0 s _).freeN
  rw [← e]; exact h1
theorem collect_here {s : St} {N : Nat} (g : s.Good N) (over : Int) (b : Nat) : ((s.collect over).ob b).here = s.reachB b := by
  have gs := g.swept
  have e : ((s.collect over).ob b).here = (s.swept.ob b).here := by
    show ((s.swept.restuck over).ob b).here = _
    rw [ob_restuck]
    by_cases hi : b < s.swept.objs.length
    · rw [if_pos hi]; unfold stuckOb; split <;> rfl
    · rw [if_neg hi]
      cases e : (s.swept.ob b).here with
      | true => exact absurd (here_lt e) hi
      | false => rfl
  rw [e, ob_swept g]
  cases hr : s.reachB b with
  | true => rw [if_pos rfl]; exact (g.reach_alive hr).1
  | false => rw [if_neg (by simp)]; rfl
theorem freeN_collect {s : St} {N : Nat} (g : s.Good N) (over : Int) : freeN (s.collect over) + reachN s = N ∧ freeN (s.collect over) = freeN s + s.gone := by
  have eN : (s.collect over).N = N := (g.collect over).sN
  have e1 : freeN (s.collect over) = countTo (fun b => !s.reachB b) N := by
    unfold freeN
    rw [eN]
    exact countTo_congr fun b _ _ => by rw [collect_here g]
  refine ⟨?_, ?_⟩
  · rw [e1]; unfold reachN; rw [g.sN]; exact countTo_not _ _
  · rw [e1]
    unfold freeN St.gone
    rw [g.sN]
    refine (countTo_add fun b => ?_).symm
    cases hr : s.reachB b with
    | true => rw [(g.reach_alive hr).1]; rfl
    | false => cases (s.ob b).here <;> rfl

end Go.Proofs.YteekoiljkklnmaaGreatDoor

/- OUR OWN. The document's heap without memory: how the counts go; how many wait, how many have extras. -/
namespace Go.Proofs.YteekoiljkklnmaaGreatDoor
set_option linter.unusedVariables false
set_option linter.unusedSimpArgs false

/-! ### The counts -/
def isRef (v : Int × Int) (b : Int) : Nat := if v.1 = 2 ∧ v.2 = b then 1 else 0
theorem refs_cons (v : Int × Int) (l : List (Int × Int)) (b : Int) : refsN (v :: l) b = refsN l b + isRef v b := by
  unfold refsN isRef
  rw [List.countP_cons]
  congr 1
  by_cases h : v.1 = 2 ∧ v.2 = b
  · rw [if_pos h]; simp [h.1, h.2]
  · rw [if_neg h]
    refine if_neg fun e => h ?_
    simpa using e
theorem refs_set {l : List (Int × Int)} {k : Nat} (hk : k < l.length) (v : Int × Int) (b : Int) : refsN (l.set k v) b + isRef (l.getD k (0, 0)) b = refsN l b + isRef v b := by
  induction l generalizing k with
  | nil => simp at hk
  | cons a l ih =>
    cases k with
    | zero => rw [List.set_cons_zero, refs_cons, refs_cons]; simp; omega
    | succ k =>
      rw [List.set_cons_succ, refs_cons, refs_cons]
      have := ih (k := k) (by simpa using hk)
      simp only [List.getD_cons_succ]
      omega
theorem sum_set {l : List Nat} {i : Nat} (hi : i < l.length) (x : Nat) : (l.set i x).sum + l.getD i 0 = l.sum + x := by
  induction l generalizing i with
  | nil => simp at hi
  | cons a l ih =>
    cases i with
    | zero => rw [List.set_cons_zero, List.sum_cons, List.sum_cons]; simp; omega
    | succ i =>
      rw [List.set_cons_succ, List.sum_cons, List.sum_cons]
      have := ih (i := i) (by simpa using hi)
      simp only [List.getD_cons_succ]
      omega
theorem count_put {s : St} {i : Nat} (h1 : 1 ≤ i) (hi : i < s.objs.length) (o : Ob) (b : Int) : (s.put i o).count b + obCount b (s.ob i) = s.count b + obCount b o := by
  unfold St.count St.put
  have e1 : (s.objs.set i o).tail = s.objs.tail.set (i - 1) o := by
    cases e : s.objs with
    | nil => rfl
    | cons a l =>
      obtain ⟨j, rfl⟩ : ∃ j, i = j + 1 := ⟨i - 1, by omega⟩
      rw [List.set_cons_succ]; rfl
  have hl : i - 1 < (s.objs.tail.map (obCount b)).length := by rw [List.length_map, List.length_tail]; omega
  have := sum_set hl (obCount b o)
  have e2 : (s.objs.tail.map (obCount b)).getD (i - 1) 0 = obCount b (s.ob i) := by
    rw [List.getD_eq_getElem?_getD, List.getElem?_map, List.getElem?_tail, show i - 1 + 1 = i by omega, List.getElem?_eq_getElem hi, ob_of (List.getElem?_eq_getElem hi)]; rfl
  rw [e2] at this
  rw [e1, List.map_set]
  exact this
theorem count_zero_put {s : St} {o : Ob} (b : Int) : (s.put 0 o).count b = s.count b := by
  unfold St.count St.put
  cases s.objs with
  | nil => rfl
  | cons a l => rfl
/-- a flag does not count -/
theorem count_flag {s : St} {i : Nat} {o : Ob} (h1 : o.here = (s.ob i).here) (h2 : o.fs = (s.ob i).fs) (b : Int) : (s.put i o).count b = s.count b := by
  by_cases hi : i < s.objs.length
  · by_cases h0 : i = 0
    · subst h0; exact count_zero_put b
    · have := count_put (s := s) (i := i) (by omega) hi o b
      have e : obCount b o = obCount b (s.ob i) := by unfold obCount; rw [h1, h2]
      omega
  · rw [put_out o hi]
theorem count_queue (s : St) (q : List Int) (b : Int) : ({ s with queue := q } : St).count b = s.count b := rfl
theorem count_enq (s : St) (i : Nat) (b : Int) : (s.enq i).count b = s.count b := count_flag (s := s) (i := i) (o := { s.ob i with queued := true }) rfl rfl b
theorem count_stick (s : St) (i : Nat) (b : Int) : (s.stick i).count b = s.count b := count_flag (s := s) (i := i) (o := { s.ob i with stuck := true }) rfl rfl b
theorem count_sortTo (but : Int) (s : St) (k : Nat) (b : Int) : (sortTo but s k).count b = s.count b := by
  induction k with
  | zero => rfl
  | succ k ih =>
    unfold sortTo
    split
    · rw [count_enq]; exact ih
    · exact ih
theorem count_sort (but : Int) (s : St) (b : Int) : (s.sort but).count b = s.count b := count_sortTo but s _ b
theorem count_enter (z but : Int) (s : St) (b : Int) : (s.enter z but).count b = s.count b := by
  unfold St.enter
  split
  · exact count_sort but s b
  · rfl
/-- a field is turned -/
theorem count_field {s : St} {N : Nat} (g : s.Good N) {i k : Nat} (hk : k < (s.ob i).fs.length) (v : Int × Int) (b : Int) : (s.field i k v).count b + isRef ((s.ob i).fs.getD k (0, 0)) b = s.count b + isRef v b := by
  have hh : (s.ob i).here = true := by
    cases e : (s.ob i).here with
    | true => rfl
    | false => rw [g.gone i e] at hk; simp [Ob.free] at hk
  have hz := g.ne_zero hh
  have := count_put (s := s) hz.1 (here_lt hh) { s.ob i with fs := (s.ob i).fs.set k v } b
  have e1 : obCount b (s.ob i) = refsN (s.ob i).fs b := by unfold obCount; rw [if_pos hh]
  have e2 : obCount b { s.ob i with fs := (s.ob i).fs.set k v } = refsN ((s.ob i).fs.set k v) b := by
    unfold obCount
    exact if_pos hh
  have := refs_set hk v b
  unfold St.field
  omega
theorem isRef_nil (b : Int) : isRef (0, 0) b = 0 := by unfold isRef; simp
/-- a free block has no fields that count, and gets none -/
theorem count_lay {s : St} {N : Nat} (g : s.Good N) {b n : Nat} (hb : (s.ob b).here = false) (hl : b < s.objs.length) (h1 : 1 ≤ b) (x : Int) : (s.put b ⟨true, List.replicate n (0, 0), false, false⟩).count x = s.count x := by
  have := count_put (s := s) h1 hl ⟨true, List.replicate n (0, 0), false, false⟩ x
  have e1 : obCount x (s.ob b) = 0 := by unfold obCount; rw [hb]; rfl
  have e2 : obCount x ⟨true, List.replicate n (0, 0), false, false⟩ = 0 := by
    unfold obCount
    refine (if_pos rfl).trans ?_
    refine List.countP_eq_zero.2 fun v hv => ?_
    simp at hv
    rw [hv.2]; simp
  omega
/-- no value leads to a block that has no object -/
theorem St.Good.count_gone {s : St} {N : Nat} (g : s.Good N) {b : Nat} (hb : ¬ s.alive b) : s.count b = 0 := by
  rcases Nat.eq_zero_or_pos (s.count b) with e | e
  · exact e
  · obtain ⟨i, _, _, _, v, hv, h1, h2⟩ := count_some e
    obtain ⟨j, hj, ha⟩ := leads_ref (g.fields i v hv) h1
    have : j = b := by omega
    rw [this] at ha; exact absurd ha hb
/-- the fields of the object that is freed -/
theorem letGo_ob {z : Int} {b k : Nat} {s : St} {N : Nat} (g : s.Good N) (hq : (s.ob b).queued = true) : ((letGo z b k s).ob b).fs = (s.ob b).fs.set k (0, 0) ∧ ((letGo z b k s).ob b).queued = true := by
  have hh := g.queued_here hq
  have hi := here_lt hh
  have e1 : (s.field b k (0, 0)).ob b = { s.ob b with fs := (s.ob b).fs.set k (0, 0) } := by unfold St.field; rw [ob_put _ b hi, if_pos rfl]
  have hq1 : ((s.field b k (0, 0)).ob b).queued = true := by rw [e1]; exact hq
  have so : ∀ (but : Int) (t : St) (j : Nat), (t.ob b).queued = true → (sortTo but t j).ob b = t.ob b := fun but t j ht => by
    induction j with
    | zero => rfl
    | succ j ih =>
      unfold sortTo
      split
      · rename_i h
        obtain ⟨w1, _, _⟩ := sorts_iff.1 h
        obtain ⟨w2, _, _⟩ := waits_iff.1 w1
        have hl := here_lt w2.1
        rw [ob_enq b hl]
        by_cases e : b = j + 1
        · have := w2.2; rw [← e, ih, ht] at this; cases this
        · rw [if_neg e]; exact ih
      · exact ih
  have en : ∀ (but : Int) (t : St), (t.ob b).queued = true → (t.enter z but).ob b = t.ob b := fun but t ht => by
    unfold St.enter
    split
    · exact so but t _ ht
    · rfl
  unfold letGo
  split
  · rw [e1]; exact ⟨rfl, hq⟩
  · rename_i hk
    split
    · rw [e1]; exact ⟨rfl, hq⟩
    · split
      · rw [en _ _ hq1, e1]; exact ⟨rfl, hq⟩
      · -- the object that is queued is another one
        obtain ⟨j, hj, ha⟩ := leads_ref (leads_put (s := s) (i := b) (o := { s.ob b with fs := (s.ob b).fs.set k (0, 0) }) rfl rfl (leads_getD (g.fields b) k)) (by omega)
        rw [hj, Int.toNat_natCast]
        have hne : b ≠ j := fun e => by
          have h2 := ha.2
          rw [← e] at h2
          have : ((s.field b k (0, 0)).ob b).queued = false := h2
          rw [hq1] at this; cases this
        have hl : j < (s.field b k (0, 0)).objs.length := here_lt ha.1
        rw [ob_enq b hl, if_neg hne, e1]; exact ⟨rfl, hq⟩
theorem letTo_ob {z : Int} {b : Nat} {s : St} {N : Nat} (g : s.Good N) (hq : (s.ob b).queued = true) (k : Nat) :
    ((letTo z b s k).ob b).queued = true ∧ ((letTo z b s k).ob b).fs.length = (s.ob b).fs.length ∧ (∀ j, j < k → j < (s.ob b).fs.length → ((letTo z b s k).ob b).fs[j]? = some (0, 0)) ∧ ∀ j, k ≤ j → ((letTo z b s k).ob b).fs[j]? = (s.ob b).fs[j]? := by
  induction k with
  | zero => exact ⟨hq, rfl, fun j hj => absurd hj (by omega), fun j _ => rfl⟩
  | succ k ih =>
    obtain ⟨h1, h2, h3, h4⟩ := ih
    obtain ⟨e1, e2⟩ := letGo_ob (z := z) (k := k) (g.letTo z b k) h1
    have ef : ((letTo z b s (k + 1)).ob b).fs = ((letTo z b s k).ob b).fs.set k (0, 0) := e1
    refine ⟨e2, by rw [ef, List.length_set]; exact h2, fun j hj hl => ?_, fun j hj => ?_⟩
    · rw [ef]
      by_cases e : j = k
      · subst e; rw [List.getElem?_set_self (by omega)]
      · rw [List.getElem?_set_ne (fun x => e x.symm)]; exact h3 j (by omega) hl
    · rw [ef, List.getElem?_set_ne (by omega)]; exact h4 j (by omega)
/-- when it leaves, all its fields are nil: nothing is counted less -/
theorem count_free {z : Int} {s : St} {N : Nat} (g : s.Good N) (hq : s.queue.length ≠ 0) (x : Int) : (s.free z).count x = (letTo z s.first s (s.ob s.first).fs.length).count x := by
  have hqd := g.first_queued hq
  have hh := g.queued_here hqd
  have hz := g.ne_zero hh
  have g1 := g.letTo z s.first (s.ob s.first).fs.length
  obtain ⟨_, h2, h3, _⟩ := letTo_ob (z := z) g hqd (s.ob s.first).fs.length
  have hl : s.first < (letTo z s.first s (s.ob s.first).fs.length).objs.length := by rw [g1.len]; omega
  have := count_put (s := letTo z s.first s (s.ob s.first).fs.length) hz.1 hl Ob.free x
  have e1 : obCount x ((letTo z s.first s (s.ob s.first).fs.length).ob s.first) = 0 := by
    unfold obCount
    split
    · refine List.countP_eq_zero.2 fun v hv => ?_
      obtain ⟨j, hj, he⟩ := List.getElem_of_mem hv
      have := h3 j (by omega) (by omega)
      rw [List.getElem?_eq_getElem hj, he] at this
      simp at this
      rw [this]; simp
    · rfl
  have e2 : obCount x Ob.free = 0 := rfl
  have e3 : (s.free z).count x = ((letTo z s.first s (s.ob s.first).fs.length).put s.first Ob.free).count x := rfl
  omega

end Go.Proofs.YteekoiljkklnmaaGreatDoor

/- OUR OWN. A new object waits: sorted ahead of it or with it left out, it is the same. -/
namespace Go.Proofs.YteekoiljkklnmaaGreatDoor
set_option linter.unusedVariables false
set_option linter.unusedSimpArgs false

def newOb (n : Nat) : Ob := ⟨true, List.replicate n (0, 0), false, false⟩
theorem put_enq {s : St} {b k : Nat} (o : Ob) (hk : k ≠ b) (hl : b < s.objs.length) : (s.put b o).enq k = (s.enq k).put b o := by
  unfold St.enq
  rw [ob_put o k hl, if_neg hk]
  unfold St.put
  simp only
  rw [List.set_comm _ _ (fun e => hk e.symm)]
theorem lay_others {s : St} {N : Nat} (g : s.Good N) {b n : Nat} (hb : (s.ob b).here = false) (hl : b < s.objs.length) (h1 : 1 ≤ b) {k : Nat} (hk : 1 ≤ k) : (s.put b (newOb n)).others b k = s.others 0 k := by
  unfold St.others St.waits
  rw [ob_put _ k hl]
  have hc : (s.put b (newOb n)).count k = s.count k := count_lay g hb hl h1 k
  by_cases e : k = b
  · subst e; simp [hb]
  · rw [if_neg e, hc]
    have e1 : ((k : Int) ≠ (b : Int)) := by omega
    have e2 : ((k : Int) ≠ 0) := by omega
    rw [decide_eq_true e1, decide_eq_true e2]
theorem lay_sorts {s : St} {N : Nat} (g : s.Good N) {b n : Nat} (hb : (s.ob b).here = false) (hl : b < s.objs.length) (h1 : 1 ≤ b) {k : Nat} (hk : 1 ≤ k) : (s.put b (newOb n)).sorts b k = s.sorts 0 k := by
  have h := lay_others (n := n) g hb hl h1 hk
  unfold St.others at h
  unfold St.sorts
  have hr : (s.put b (newOb n)).rooted k = s.rooted k := rfl
  rw [hr]
  have e : ∀ x y z : Bool, (x && y && z) = (x && z && y) := by decide
  rw [e, h, e]
theorem lay_sortTo {s : St} {N : Nat} (g : s.Good N) {b n : Nat} (hb : (s.ob b).here = false) (hl : b < s.objs.length) (h1 : 1 ≤ b) (k : Nat) : sortTo b (s.put b (newOb n)) k = (sortTo 0 s k).put b (newOb n) := by
  induction k with
  | zero => rfl
  | succ k ih =>
    have gk := g.sortTo 0 k
    have hbk : ((sortTo 0 s k).ob b).here = false := by rw [(sh_sortTo 0 s k).2 b]; exact hb
    have hlk : b < (sortTo 0 s k).objs.length := by rw [(sortTo_same 0 s k).2.2.1]; exact hl
    unfold sortTo
    rw [ih, lay_sorts gk hbk hlk h1 (by omega)]
    split
    · rename_i h
      refine put_enq _ (fun e => ?_) hlk
      obtain ⟨hw, _⟩ := sorts_iff.1 h
      have := (waits_iff.1 hw).1.1
      rw [e, hbk] at this; cases this
    · rfl
theorem lay_enter {s : St} {N : Nat} (g : s.Good N) (z : Int) {b n : Nat} (hb : (s.ob b).here = false) (hl : b < s.objs.length) (h1 : 1 ≤ b) : (s.put b (newOb n)).enter z b = (s.enter z 0).put b (newOb n) := by
  unfold St.enter
  have hc : countTo ((s.put b (newOb n)).others b) (s.put b (newOb n)).N = countTo (s.others 0) s.N := by
    rw [put_N]
    exact countTo_congr fun k hk _ => lay_others g hb hl h1 hk
  rw [hc]
  split
  · unfold St.sort
    rw [put_N]
    exact lay_sortTo g hb hl h1 _
  · rfl

end Go.Proofs.YteekoiljkklnmaaGreatDoor

/- OUR OWN. The program's heap and the document's state: what is kept; what waits, what has an extra, how many. -/
namespace Go.Proofs.YteekoiljkklnmaaGreatDoor
open Go.RowKit
set_option linter.unusedVariables false
set_option linter.unusedSimpArgs false

/-- The program's heap m is the state s; the count of 'but' is one too great (a field that is let go is still counted). -/
structure HSb (but : Int) (m : HeapM) (s : St) (c : Cf) (N : Nat) : Prop where
  st : m.st = s
  deep : m.room = c.deep
  zero : m.zero = c.zero
  over : m.over = c.over
  state : ∀ o ∈ m.blks, o.state = 0 ∨ o.state = 1 ∨ o.state = 2 ∨ o.state = 3
  cnt : ∀ (i : Nat) (o : HObj), m.blks[i]? = some o → o.state = 1 ∨ o.state = 3 → o.count = s.count i + if (i : Int) = but then 1 else 0
def HS (m : HeapM) (s : St) (c : Cf) (N : Nat) : Prop := HSb 0 m s c N

structure HB (but : Int) (h : Nat) (w : World) (m : HeapM) (s : St) (c : Cf) (N : Nat) : Prop where
  r : HeapAt w h m
  hs : HSb but m s c N
  good : s.Good N
  cf : CfOk c
  small : N ≤ 99
  stack : s.stack.length ≤ 16
  globals : s.globals.length ≤ 8

theorem HB.below {but : Int} {h : Nat} {w w' : World} {m : HeapM} {s : St} {c : Cf} {N : Nat} (p : HB but h w m s c N) (hb : Below w.heap.size w w') : HB but h w' m s c N :=
  ⟨(HTurn.of_below p.r hb).here, p.hs, p.good, p.cf, p.small, p.stack, p.globals⟩
theorem HB.len {but : Int} {h : Nat} {w : World} {m : HeapM} {s : St} {c : Cf} {N : Nat} (p : HB but h w m s c N) : m.blks.length = N + 1 := by
  have := p.good.len
  rw [← p.hs.st] at this
  simpa [HeapM.st] using this
theorem HB.mstack {but : Int} {h : Nat} {w : World} {m : HeapM} {s : St} {c : Cf} {N : Nat} (p : HB but h w m s c N) : m.stack = s.stack := by rw [← p.hs.st]; rfl
theorem HB.mglobals {but : Int} {h : Nat} {w : World} {m : HeapM} {s : St} {c : Cf} {N : Nat} (p : HB but h w m s c N) : m.globals = s.globals := by rw [← p.hs.st]; rfl
theorem HB.mqueue {but : Int} {h : Nat} {w : World} {m : HeapM} {s : St} {c : Cf} {N : Nat} (p : HB but h w m s c N) : m.queue = s.queue := by rw [← p.hs.st]; rfl
theorem HB.ob {but : Int} {h : Nat} {w : World} {m : HeapM} {s : St} {c : Cf} {N : Nat} (p : HB but h w m s c N) {i : Nat} {o : HObj} (hi : m.blks[i]? = some o) : s.ob i = o.ob := by
  rw [← p.hs.st]; exact hst_ob hi
theorem HB.pre {h : Nat} {w : World} {m : HeapM} {s : St} {c : Cf} {N : Nat} {but : Int} (p : HB but h w m s c N) : HPre h N w m := by
  refine ⟨p.r, ⟨p.len, p.small, fun o ho => ?_, by rw [p.mstack]; exact p.stack, by rw [p.mglobals]; exact p.globals⟩, by rw [p.hs.st]; exact p.good.inv, by rw [p.hs.deep]; exact p.cf.deep.2⟩
  obtain ⟨i, hi⟩ := List.getElem?_of_mem ho
  have := p.good.four i
  rw [p.ob hi] at this
  exact this

/-- of a block of state and count: waits, has an extra -/
def HObj.waits (o : HObj) : Bool := decide (o.state = 1) && decide (o.count = 0)
def HObj.extra (o : HObj) : Bool := decide (o.state = 1) && decide (7 < o.count)
theorem HSb.waits {but : Int} {m : HeapM} {s : St} {c : Cf} {N : Nat} (p : HSb but m s c N) {i : Nat} {o : HObj} (hi : m.blks[i]? = some o) : o.waits = s.others but i := by
  have ho : s.ob i = o.ob := by rw [← p.st]; exact hst_ob hi
  unfold HObj.waits St.others St.waits
  rw [ho]
  unfold HObj.ob
  simp only
  rcases p.state o (List.mem_of_getElem? hi) with e | e | e | e
  · simp [e]
  · have hc := p.cnt i o hi (.inl e)
    simp only [e]
    by_cases hb : (i : Int) = but
    · rw [if_pos hb] at hc
      have : ¬ o.count = 0 := by omega
      simp [this, hb]
    · rw [if_neg hb] at hc
      have : (o.count = 0) ↔ (s.count i = 0) := by omega
      simp [this, hb]
  · simp [e]
  · simp [e]
theorem HSb.extra {m : HeapM} {s : St} {c : Cf} {N : Nat} (p : HSb 0 m s c N) (g : s.Good N) {i : Nat} {o : HObj} (hi : m.blks[i]? = some o) : o.extra = s.extra i := by
  have ho : s.ob i = o.ob := by rw [← p.st]; exact hst_ob hi
  have hob := ho
  unfold HObj.extra St.extra
  rw [ho]
  unfold HObj.ob
  simp only
  rcases p.state o (List.mem_of_getElem? hi) with e | e | e | e
  · simp [e]
  · have hc := p.cnt i o hi (.inl e)
    have hz : ¬ (i : Int) = 0 := by
      intro h0
      have h0 : i = 0 := by omega
      have := g.zero
      rw [← h0, hob] at this
      have := congrArg Ob.here this
      simp [HObj.ob, e, Ob.free] at this
    rw [if_neg hz] at hc
    have : (7 < o.count) ↔ (7 < s.count i) := by omega
    simp [e, this]
  · simp [e]
  · have hq : (s.ob i).queued = true := by rw [hob]; simp [HObj.ob, e]
    have : s.count i = 0 := g.count_gone fun ha => by have := ha.2; rw [hq] at this; cases this
    simp [e, this]

theorem waits_fn (st ct : Int) (v : Value) (w : World) :
    Calls Tryz.prog 84 #[.agg #[.int .i64 st, .int .i64 ct, v]] w fun e w' => e = .returned (.bool (decide (st = 1) && decide (ct = 0))) ∧ Below w.heap.size w w' := by
  by_cases h1 : st = 1
  · subst h1
    by_cases h2 : ct = 0
    · subst h2
      go_enter Tryz.func84, Tryz.ntmps84
      go_wp2
      go_ret
      exact ⟨rfl, (Below.refl _ _).alloc (Nat.le_refl _) _⟩
    · have h3 : (ct == 0) = false := by simpa using h2
      go_enter Tryz.func84, Tryz.ntmps84
      go_wp2
      go_ret
      exact ⟨ret_bool (by simp [h2]), (Below.refl _ _).alloc (Nat.le_refl _) _⟩
  · have h3 : (st == 1) = false := by simpa using h1
    go_enter Tryz.func84, Tryz.ntmps84
    go_wp2
    go_ret
    exact ⟨ret_bool (by simp [h1]), (Below.refl _ _).alloc (Nat.le_refl _) _⟩

theorem hasExtra_fn (st ct : Int) (v : Value) (w : World) :
    Calls Tryz.prog 85 #[.agg #[.int .i64 st, .int .i64 ct, v]] w fun e w' => e = .returned (.bool (decide (st = 1) && decide (7 < ct))) ∧ Below w.heap.size w w' := by
  by_cases h1 : st = 1
  · subst h1
    by_cases h2 : 7 < ct
    · go_enter Tryz.func85, Tryz.ntmps85
      go_wp2
      go_ret
      exact ⟨ret_bool (by simp [h2]), (Below.refl _ _).alloc (Nat.le_refl _) _⟩
    · go_enter Tryz.func85, Tryz.ntmps85
      go_wp2
      go_ret
      exact ⟨ret_bool (by simp [h2]), (Below.refl _ _).alloc (Nat.le_refl _) _⟩
  · have h3 : (st == 1) = false := by simpa using h1
    go_enter Tryz.func85, Tryz.ntmps85
    go_wp2
    go_ret
    exact ⟨ret_bool (by simp [h1]), (Below.refl _ _).alloc (Nat.le_refl _) _⟩

/-- the cells of the blocks, for a loop over them -/
theorem HB.cells {but : Int} {h : Nat} {w : World} {m : HeapM} {s : St} {c : Cf} {N : Nat} (p : HB but h w m s c N) :
    ∃ g cap, w.cell? ⟨h, 5, none⟩ = some (.slice (some ⟨g, 0, none⟩) (N + 1) cap) ∧ g < w.heap.size ∧
      ∀ i, i ≤ N → ∃ o ao fl fc, m.blks[i]? = some o ∧ o.vF = .slice ao fl fc ∧ fl = o.fs.length ∧ w.cell? ⟨g, i * 3, none⟩ = some (.int .i64 o.state) ∧ w.cell? ⟨g, i * 3 + 1, none⟩ = some (.int .i64 o.count) ∧ w.cell? ⟨g, i * 3 + 2, none⟩ = some (.slice ao fl fc) := by
  obtain ⟨g, cap, hv, hg, _, _, _, hobj⟩ := p.r.view p.len
  refine ⟨g, cap, by rw [p.r.cell.2.2.2.1, hv], hg, fun i hi => ?_⟩
  have hil : i < m.blks.length := by rw [p.len]; omega
  obtain ⟨ao, fc, hvF⟩ := own_slice (p.r.fields _ (List.getElem_mem hil))
  obtain ⟨c0, c1, c2⟩ := hobj i hil
  exact ⟨m.blks[i], ao, _, fc, List.getElem?_eq_getElem hil, hvF, rfl, c0, c1, by rw [c2, hvF]⟩

end Go.Proofs.YteekoiljkklnmaaGreatDoor

