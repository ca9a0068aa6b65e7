import Derived.Test.YteekoiljkklnmaaGreatDoorDumpsB8
import Derived.Deep.OwnRows
/- OUR OWN. The program's heap as it lies in memory; New. -/
namespace Go.Proofs.YteekoiljkklnmaaGreatDoor
open Go.RowKit
set_option linter.unusedVariables false
set_option linter.unusedSimpArgs false

structure HObj where
  state : Int
  count : Int
  vF : Value
  fs : List (Int × Int)

def HObj.cells (o : HObj) : List Value := [.int .i64 o.state, .int .i64 o.count, o.vF]
def HObj.free : HObj := ⟨0, 0, .slice none 0 0, []⟩

structure HeapM where
  room : Int
  zero : Int
  over : Int
  vS : Value
  vG : Value
  vB : Value
  vQ : Value
  stack : List (Int × Int)
  globals : List (Int × Int)
  blks : List HObj
  queue : List Int

def HeapM.head (m : HeapM) : Obj := .cells #[.int .i64 m.room, .int .i64 m.zero, .int .i64 m.over, m.vS, m.vG, m.vB, m.vQ] 76
def HeapM.foot (m : HeapM) : List Nat := ([m.vS, m.vG, m.vB, m.vQ] ++ m.blks.map HObj.vF).filterMap Value.ownBlock

structure HeapAt (w : World) (x : Nat) (m : HeapM) : Prop where
  head : w.heap[x]? = some m.head
  stack : w.ownsRow 0 81 2 m.vS m.stack.length (m.stack.flatMap valCells)
  globals : w.ownsRow 0 81 2 m.vG m.globals.length (m.globals.flatMap valCells)
  blocks : w.ownsRow 0 88 3 m.vB m.blks.length (m.blks.flatMap HObj.cells)
  queue : ownsWin w 3 m.vQ m.queue.length (m.queue.map (Value.int .i64))
  fields : ∀ o ∈ m.blks, w.ownsRow 0 81 2 o.vF o.fs.length (o.fs.flatMap valCells)
  apart : (x :: m.foot).Nodup

theorem HeapAt.carry {w w' : World} {x : Nat} {m : HeapM} (r : HeapAt w x m) (hb : ∀ g, g ∈ x :: m.foot → w'.heap[g]? = w.heap[g]?) : HeapAt w' x m := by
  have hv : ∀ v ∈ [m.vS, m.vG, m.vB, m.vQ] ++ m.blks.map HObj.vF, ∀ g, v.ownBlock = some g → w'.heap[g]? = w.heap[g]? := fun v hv g hg =>
    hb g (List.mem_cons_of_mem _ (List.mem_filterMap.2 ⟨v, hv, hg⟩))
  exact ⟨by rw [hb x (by simp)]; exact r.head, own_carry r.stack (hv _ (by simp)), own_carry r.globals (hv _ (by simp)), own_carry r.blocks (hv _ (by simp)), win_carry r.queue (hv _ (by simp)),
    fun o ho => own_carry (r.fields o ho) (hv _ (List.mem_append_right _ (List.mem_map_of_mem ho))), r.apart⟩

theorem HeapAt.lt {w : World} {x : Nat} {m : HeapM} (r : HeapAt w x m) : ∀ g ∈ x :: m.foot, g < w.heap.size := by
  intro g hg
  rcases List.mem_cons.1 hg with rfl | hg
  · exact lt_of_heap r.head
  · obtain ⟨v, hv, hg⟩ := List.mem_filterMap.1 hg
    rcases List.mem_append.1 hv with hv | hv
    · simp at hv
      rcases hv with rfl | rfl | rfl | rfl
      · exact (own_lt r.stack hg).2
      · exact (own_lt r.globals hg).2
      · exact (own_lt r.blocks hg).2
      · exact win_lt r.queue hg
    · obtain ⟨o, ho, rfl⟩ := List.mem_map.1 hv
      exact (own_lt (r.fields o ho) hg).2

theorem infoValue : (Tryz.prog.info? 81).map (fun i => (i.zero, i.size, i.bytes)) = some (some (.agg #[.int .i64 0, .int .i64 0]), 2, 16) := by kernel_rfl
theorem infoBlock : (Tryz.prog.info? 88).map (fun i => (i.zero, i.size, i.bytes)) = some (some (.agg #[.int .i64 0, .int .i64 0, .slice none 0 0]), 3, 40) := by kernel_rfl

/-- 'make' of n elements of two cells -/
theorem run_make_two {P : Program} (t e : TypeId) (a b : Value) (bytes : Nat) (ht : P.underlying t = some (.slice e)) (hinfo : (P.info? e).map (fun i => (i.zero, i.size, i.bytes)) = some (some (.agg #[a, b]), 2, bytes))
    (kl kc : IntKind) (n : Nat) (hbytes : bytes * n ≤ 281474976710656) (h63 : n ≤ 9223372036854775807) (w : World) :
    (Instr.makeSlice t (.int kl (n : Int)) (.int kc (n : Int))).run P w = .ok (.slice (some ⟨w.heap.size, 0, none⟩) n n) (w.alloc (.cells (madeCells #[a, b] (n * 2)) e)) := by
  obtain ⟨i, hi, hz, hs, hby⟩ := info_parts hinfo
  have hb' : (i.bytes : Int) * (n : Int) ≤ 281474976710656 := by
    have h : ((i.bytes * n : Nat) : Int) ≤ 281474976710656 := by rw [hby]; omega
    rwa [Int.natCast_mul] at h
  have hr := run_make (P := P) w t e i _ ht hi hz kl kc n n (by omega) (Int.le_refl _) hb' (by omega)
  simp only [Int.toNat_natCast, hs] at hr
  exact hr

theorem made_two (a b : Value) (n : Nat) : (madeCells #[a, b] (n * 2)).toList = (List.replicate n [a, b]).flatten := by
  induction n with
  | zero => simp [madeCells]
  | succ n ih =>
    rw [List.replicate_succ', List.flatten_append, ← ih]
    simp [madeCells, Nat.add_mul, List.range_succ]

/-- 'make' of n elements of three cells -/
theorem run_make_three {P : Program} (t e : TypeId) (a b c : Value) (bytes : Nat) (ht : P.underlying t = some (.slice e)) (hinfo : (P.info? e).map (fun i => (i.zero, i.size, i.bytes)) = some (some (.agg #[a, b, c]), 3, bytes))
    (kl kc : IntKind) (n : Nat) (hbytes : bytes * n ≤ 281474976710656) (h63 : n ≤ 9223372036854775807) (w : World) :
    (Instr.makeSlice t (.int kl (n : Int)) (.int kc (n : Int))).run P w = .ok (.slice (some ⟨w.heap.size, 0, none⟩) n n) (w.alloc (.cells (madeCells #[a, b, c] (n * 3)) e)) := by
  obtain ⟨i, hi, hz, hs, hby⟩ := info_parts hinfo
  have hb' : (i.bytes : Int) * (n : Int) ≤ 281474976710656 := by
    have h : ((i.bytes * n : Nat) : Int) ≤ 281474976710656 := by rw [hby]; omega
    rwa [Int.natCast_mul] at h
  have hr := run_make (P := P) w t e i _ ht hi hz kl kc n n (by omega) (Int.le_refl _) hb' (by omega)
  simp only [Int.toNat_natCast, hs] at hr
  exact hr

theorem made_three (a b c : Value) (n : Nat) : (madeCells #[a, b, c] (n * 3)).toList = (List.replicate n [a, b, c]).flatten := by
  induction n with
  | zero => simp [madeCells]
  | succ n ih =>
    rw [List.replicate_succ', List.flatten_append, ← ih]
    simp [madeCells, Nat.add_mul, List.range_succ]

theorem own_made_two (w : World) (e : TypeId) (a b : Value) (n : Nat) (hn : n ≤ 1000) :
    (w.alloc (.cells (madeCells #[a, b] (n * 2)) e)).ownsRow 0 e 2 (.slice (some ⟨w.heap.size, 0, none⟩) n n) n (List.replicate n [a, b]).flatten := by
  have h := made_two a b n
  refine ⟨by simp [List.length_flatten, List.map_replicate, List.sum_replicate_nat], .inr ⟨w.heap.size, n, _, rfl, Nat.zero_le _, heap_alloc_new w _, Nat.le_refl _, by unfold maxLen; omega, by rw [size_madeCells], ?_⟩⟩
  rw [h, List.take_of_length_le (by simp [List.length_flatten, List.map_replicate, List.sum_replicate_nat])]

def newM (b s g z o : Nat) (vG vB : Value) : HeapM :=
  { room := s, zero := z, over := o, vS := .slice none 0 0, vG := vG, vB := vB, vQ := .slice none 0 0, stack := [], globals := List.replicate g (0, 0), blks := List.replicate (b + 1) HObj.free, queue := [] }

theorem nils_foot (n : Nat) : (List.replicate n (Value.slice none 0 0)).filterMap Value.ownBlock = [] := by
  induction n with
  | zero => rfl
  | succ n ih => rw [List.replicate_succ, List.filterMap_cons]; exact ih

theorem newM_foot (b s g z o : Nat) (vG vB : Value) : (newM b s g z o vG vB).foot = [vG, vB].filterMap Value.ownBlock := by
  simp only [HeapM.foot, newM, List.filterMap_append, List.map_replicate, HObj.free, nils_foot, List.append_nil]
  simp only [List.filterMap_cons, List.filterMap_nil, Value.ownBlock]

theorem flat_rep {α β : Type} (f : α → List β) (x : α) (n : Nat) : (List.replicate n x).flatMap f = (List.replicate n (f x)).flatten := by
  induction n with
  | zero => rfl
  | succ n ih => simp [List.replicate_succ, ih]

/-- New's memory, the two rows in either order. -/
theorem newM_at (w : World) (b s g z o : Nat) (hb : b ≤ 99) (hg : g ≤ 8) (w' : World) (x p q : Nat) (hx : w.heap.size ≤ x) (hp : w.heap.size ≤ p) (hq : w.heap.size ≤ q) (hpq : p ≠ q) (hxp : x ≠ p) (hxq : x ≠ q)
    (h0 : w'.heap[x]? = some (.cells #[.int .i64 s, .int .i64 z, .int .i64 o, .slice none 0 0, .slice (some ⟨p, 0, none⟩) g g, .slice (some ⟨q, 0, none⟩) (b + 1) (b + 1), .slice none 0 0] 76))
    (h1 : w'.heap[p]? = some (.cells (madeCells #[.int .i64 0, .int .i64 0] (g * 2)) 81))
    (h2 : w'.heap[q]? = some (.cells (madeCells #[.int .i64 0, .int .i64 0, .slice none 0 0] ((b + 1) * 3)) 88)) :
    HeapAt w' x (newM b s g z o (.slice (some ⟨p, 0, none⟩) g g) (.slice (some ⟨q, 0, none⟩) (b + 1) (b + 1))) ∧
      ∀ j ∈ x :: (newM b s g z o (.slice (some ⟨p, 0, none⟩) g g) (.slice (some ⟨q, 0, none⟩) (b + 1) (b + 1))).foot, w.heap.size ≤ j := by
  have row : ∀ (r n : Nat) (a c : Value) (e : TypeId), n ≤ 1000 → w'.heap[r]? = some (.cells (madeCells #[a, c] (n * 2)) e) → w'.ownsRow 0 e 2 (.slice (some ⟨r, 0, none⟩) n n) n (List.replicate n [a, c]).flatten := by
    intro r n a c e hn h
    refine ⟨by simp [List.length_flatten, List.map_replicate, List.sum_replicate_nat], .inr ⟨r, n, _, rfl, Nat.zero_le _, h, Nat.le_refl _, by unfold maxLen; omega, by rw [size_madeCells], ?_⟩⟩
    rw [made_two, List.take_of_length_le (by simp [List.length_flatten, List.map_replicate, List.sum_replicate_nat])]
  have row3 : ∀ (r n : Nat) (a c d : Value) (e : TypeId), n ≤ 1000 → w'.heap[r]? = some (.cells (madeCells #[a, c, d] (n * 3)) e) → w'.ownsRow 0 e 3 (.slice (some ⟨r, 0, none⟩) n n) n (List.replicate n [a, c, d]).flatten := by
    intro r n a c d e hn h
    refine ⟨by simp [List.length_flatten, List.map_replicate, List.sum_replicate_nat], .inr ⟨r, n, _, rfl, Nat.zero_le _, h, Nat.le_refl _, by unfold maxLen; omega, by rw [size_madeCells], ?_⟩⟩
    rw [made_three, List.take_of_length_le (by simp [List.length_flatten, List.map_replicate, List.sum_replicate_nat])]
  refine ⟨⟨h0, own_nil, ?_, ?_, win_nil, ?_, ?_⟩, ?_⟩
  · have := row p g _ _ _ (by omega) h1
    simpa [newM, flat_rep, valCells] using this
  · have := row3 q (b + 1) _ _ _ _ (by omega) h2
    simpa [newM, flat_rep, HObj.cells, HObj.free] using this
  · intro o ho
    have : o = HObj.free := by simp [newM] at ho; exact ho
    subst this
    exact own_nil
  · rw [newM_foot]
    simp [Value.ownBlock]
    omega
  · rw [newM_foot]
    simp [Value.ownBlock]
    omega

theorem three (w : World) (A B C : Obj) : (((w.alloc A).alloc B).alloc C).heap[w.heap.size]? = some A ∧ (((w.alloc A).alloc B).alloc C).heap[w.heap.size + 1]? = some B ∧
    (((w.alloc A).alloc B).alloc C).heap[w.heap.size + 1 + 1]? = some C ∧ Below w.heap.size w (((w.alloc A).alloc B).alloc C) := by
  refine ⟨?_, ?_, ?_, (((Below.refl _ _).alloc (Nat.le_refl _) _).alloc (by simp) _).alloc (by simp; omega) _⟩
  · rw [hao (by simp; omega), hao (by simp)]; exact heap_alloc_new w A
  · rw [hao (by simp)]; simpa using heap_alloc_new (w.alloc A) B
  · simpa using heap_alloc_new ((w.alloc A).alloc B) C

set_option maxHeartbeats 400000 in
theorem new_no (b s g u z o : Int) (w : World) (h : cfgB b s g u z o = false) :
    Calls Tryz.prog 24 #[.agg #[.int .i64 b, .int .i64 s, .int .i64 g, .int .i64 u, .int .i64 z, .int .i64 o]] w
      fun e w' => e = .returned (.tuple #[.pointer none, .int .i64 1]) ∧ Below w.heap.size w w' := by
  go_enter Tryz.func24, Tryz.ntmps24
  go_wp2_with (go_at_call 38; refine (isConfig_no _ _ _ _ _ _ _ h).mono ?_; rintro e w' ⟨rfl, hbel⟩)
  go_ret2
  exact ⟨rfl, ((Below.refl _ _).alloc (Nat.le_refl _) _).trans (hbel.mono (by simp))⟩

set_option maxHeartbeats 800000 in
theorem new_yes (b s g u z o : Nat) (w : World) (h : cfgB b s g u z o = true) (hb : b ≤ 99) (hg : g ≤ 8) :
    Calls Tryz.prog 24 #[.agg #[.int .i64 b, .int .i64 s, .int .i64 g, .int .i64 u, .int .i64 z, .int .i64 o]] w
      fun e w' => ∃ x vG vB, e = .returned (.tuple #[.pointer (some ⟨x, 0, none⟩), .int .i64 0]) ∧ Below w.heap.size w w' ∧ HeapAt w' x (newM b s g z o vG vB) ∧ (∀ j ∈ x :: (newM b s g z o vG vB).foot, w.heap.size ≤ j) := by
  have mk1 := run_make_two (P := Tryz.prog) 73 81 (.int .i64 0) (.int .i64 0) 16 Tryz.underlying73 infoValue .i64 .i64 g (by omega) (by omega)
  have mk2 := run_make_three (P := Tryz.prog) 74 88 (.int .i64 0) (.int .i64 0) (.slice none 0 0) 40 Tryz.underlying74 infoBlock .i64 .i64 (b + 1) (by omega) (by omega)
  simp only [Int.natCast_add, Int.natCast_one] at mk2
  go_enter Tryz.func24, Tryz.ntmps24
  go_wp2_with (go_at_call 38; refine (isConfig_yes _ _ _ _ _ _ _ h).mono ?_; rintro e w1 ⟨rfl, hbel⟩)
  have hh : w1.heap[w.heap.size]? = some (.cells #[.int .i64 b, .int .i64 s, .int .i64 g, .int .i64 u, .int .i64 z, .int .i64 o] 30) := by
    rw [hbel.block _ (by simp)]; exact heap_alloc_new w _
  have hc0 : w1.cell? ⟨w.heap.size, 0, none⟩ = some (.int .i64 b) := cell_of_heap hh rfl
  have hc1 : w1.cell? ⟨w.heap.size, 1, none⟩ = some (.int .i64 s) := cell_of_heap hh rfl
  have hc2 : w1.cell? ⟨w.heap.size, 2, none⟩ = some (.int .i64 g) := cell_of_heap hh rfl
  have hc4 : w1.cell? ⟨w.heap.size, 4, none⟩ = some (.int .i64 z) := cell_of_heap hh rfl
  have hc5 : w1.cell? ⟨w.heap.size, 5, none⟩ = some (.int .i64 o) := cell_of_heap hh rfl
  have hsz : w.heap.size + 1 ≤ w1.heap.size := by have := hbel.size; simp at this; omega
  have hal : ∀ (ob : Obj) (i : Nat), (w1.alloc ob).cell? ⟨w.heap.size, i, none⟩ = w1.cell? ⟨w.heap.size, i, none⟩ := fun ob i => World.cell?_of_block (hao (Nat.lt_of_succ_le hsz))
  have hal2 : ∀ (ob ob' : Obj) (i : Nat), ((w1.alloc ob).alloc ob').cell? ⟨w.heap.size, i, none⟩ = w1.cell? ⟨w.heap.size, i, none⟩ := fun ob ob' i => (World.cell?_of_block (hao (by simp; omega))).trans (hal ob i)
  clear hh h
  go_region
  all_goals go_wp2
  all_goals go_ret2
  all_goals
    first
    | (have t := three w1 (.cells (madeCells #[.int .i64 0, .int .i64 0, .slice none 0 0] ((b + 1) * 3)) 88) (.cells (madeCells #[.int .i64 0, .int .i64 0] (g * 2)) 81)
        (.cells #[.int .i64 s, .int .i64 z, .int .i64 o, .slice none 0 0, .slice (some ⟨w1.heap.size + 1, 0, none⟩) g g, .slice (some ⟨w1.heap.size, 0, none⟩) (b + 1) (b + 1), .slice none 0 0] 76)
       exact ⟨_, _, _, rfl, ((((Below.refl _ _).alloc (Nat.le_refl _) _).trans (hbel.mono (by simp))).trans (t.2.2.2.mono (by omega))).drew,
         newM_at w b s g z o hb hg _ _ _ _ (by omega) (by omega) (by omega) (by omega) (by omega) (by omega) t.2.2.1 t.2.1 t.1⟩)
    | (have t := three w1 (.cells (madeCells #[.int .i64 0, .int .i64 0] (g * 2)) 81) (.cells (madeCells #[.int .i64 0, .int .i64 0, .slice none 0 0] ((b + 1) * 3)) 88)
        (.cells #[.int .i64 s, .int .i64 z, .int .i64 o, .slice none 0 0, .slice (some ⟨w1.heap.size, 0, none⟩) g g, .slice (some ⟨w1.heap.size + 1, 0, none⟩) (b + 1) (b + 1), .slice none 0 0] 76)
       exact ⟨_, _, _, rfl, ((((Below.refl _ _).alloc (Nat.le_refl _) _).trans (hbel.mono (by simp))).trans (t.2.2.2.mono (by omega))).drew,
         newM_at w b s g z o hb hg _ _ _ _ (by omega) (by omega) (by omega) (by omega) (by omega) (by omega) t.2.2.1 t.1 t.2.1⟩)

/-- what New leaves: this is all that the law's texts know of it -/
def NewM (b s g u z o : Nat) (hm : HeapM) : Prop := ∃ vG vB, hm = newM b s g z o vG vB
theorem new_says (b s g u z o : Nat) (w : World) (h : cfgB b s g u z o = true) :
    Calls Tryz.prog 24 #[.agg #[.int .i64 b, .int .i64 s, .int .i64 g, .int .i64 u, .int .i64 z, .int .i64 o]] w
      fun e w' => ∃ x hm, e = .returned (.tuple #[.pointer (some ⟨x, 0, none⟩), .int .i64 0]) ∧ Below w.heap.size w w' ∧ HeapAt w' x hm ∧ (∀ j ∈ x :: hm.foot, w.heap.size ≤ j) ∧ NewM b s g u z o hm := by
  have hcf : (b : Int) ≤ 99 ∧ (g : Int) ≤ 8 := by simp [cfgB] at h; omega
  refine (new_yes b s g u z o w h (by omega) (by omega)).mono ?_
  rintro e w' ⟨x, vG, vB, he, hb, ha, hf⟩
  exact ⟨x, newM b s g z o vG vB, he, hb, ha, hf, vG, vB, rfl⟩

end Go.Proofs.YteekoiljkklnmaaGreatDoor

/- OUR OWN. The program's heap turned. -/
namespace Go.Proofs.YteekoiljkklnmaaGreatDoor
open Go.RowKit
set_option linter.unusedVariables false
set_option linter.unusedSimpArgs false

/-- the program's heap is turned: its own memory alone -/
structure HTurn (h : Nat) (w : World) (m : HeapM) (w' : World) (m' : HeapM) : Prop where
  here : HeapAt w' h m'
  foot : ∀ g ∈ m'.foot, g ∈ m.foot ∨ w.heap.size ≤ g
  off : Off (h :: m.foot) w w'

theorem HTurn.refl {h : Nat} {w : World} {m : HeapM} (r : HeapAt w h m) : HTurn h w m w m := ⟨r, fun _ hg => .inl hg, Off.refl _ _⟩
theorem HTurn.of_below {h : Nat} {w w' : World} {m : HeapM} (r : HeapAt w h m) (hb : Below w.heap.size w w') : HTurn h w m w' m :=
  ⟨r.carry fun x hx => hb.block x (r.lt x hx), fun _ hg => .inl hg, .of_below hb⟩
theorem HTurn.trans {h : Nat} {w w1 w2 : World} {m m1 m2 : HeapM} (a : HTurn h w m w1 m1) (b : HTurn h w1 m1 w2 m2) : HTurn h w m w2 m2 := by
  refine ⟨b.here, fun g hg => ?_, ⟨b.off.os.trans a.off.os, b.off.tape.trans a.off.tape, b.off.output.trans a.off.output, Nat.le_trans a.off.size b.off.size, fun k hk hF => ?_⟩⟩
  · rcases b.foot g hg with e | e
    · exact a.foot g e
    · have := a.off.size; exact .inr (by omega)
  · rw [b.off.block k (by have := a.off.size; omega) ?_, a.off.block k hk hF]
    intro e
    rcases List.mem_cons.1 e with e | e
    · exact hF (by rw [e]; exact List.mem_cons_self)
    · rcases a.foot k e with e | e
      · exact hF (List.mem_cons_of_mem _ e)
      · omega
theorem HTurn.after {h : Nat} {w w1 w2 : World} {m m1 : HeapM} (a : HTurn h w m w1 m1) (hb : Below w1.heap.size w1 w2) : HTurn h w m w2 m1 := a.trans (.of_below a.here hb)

/-- a configuration's numbers -/
structure CfOk (c : Cf) : Prop where
  deep : 1 ≤ c.deep ∧ c.deep ≤ 16
  budget : 1 ≤ c.budget ∧ c.budget ≤ 99
  over : 0 ≤ c.over ∧ c.over ≤ 9
  zero : c.deep < c.zero ∧ c.zero ≤ 99

end Go.Proofs.YteekoiljkklnmaaGreatDoor

/- OUR OWN. The program's heap turned: below, pop, push. -/
namespace Go.Proofs.YteekoiljkklnmaaGreatDoor
open Go.RowKit
set_option linter.unusedVariables false
set_option linter.unusedSimpArgs false

theorem news_drew (w : World) (cs : List Value) (t : TypeId) (H : Nat) (hH : w.heap.size = H) : ∀ j u, cs[j]? = some u → (w.drew.alloc (.cells cs.toArray t)).cell? ((⟨H, 0, none⟩ : Addr).add j) = some u := by
  subst hH
  exact news_new w.drew cs t

def hrow (v : Value) (l : List (Int × Int)) : SRow := ⟨81, 2, v, l.length, l.flatMap valCells⟩
def HObj.row (o : HObj) : SRow := hrow o.vF o.fs
def HeapM.rows (m : HeapM) : List SRow :=
  hrow m.vS m.stack :: hrow m.vG m.globals :: ⟨88, 3, m.vB, m.blks.length, m.blks.flatMap HObj.cells⟩ :: ⟨3, 1, m.vQ, m.queue.length, m.queue.map (Value.int .i64)⟩ :: m.blks.map HObj.row

theorem hrows_foot (m : HeapM) : rfoot m.rows = m.foot := by
  simp only [rfoot, HeapM.rows, HeapM.foot, List.filterMap_cons, List.filterMap_map, List.filterMap_append, SRow.ob, hrow, HObj.row, List.filterMap_nil]
  cases m.vS.ownBlock <;> cases m.vG.ownBlock <;> cases m.vB.ownBlock <;> cases m.vQ.ownBlock <;> simp <;> rfl

theorem HeapAt.rowsAt {w : World} {h : Nat} {m : HeapM} (r : HeapAt w h m) : RowsAt w h m.rows := by
  refine ⟨fun x hx => ?_, by rw [hrows_foot]; exact r.apart, lt_of_heap r.head⟩
  simp only [HeapM.rows, List.mem_cons, List.mem_map] at hx
  rcases hx with rfl | rfl | rfl | rfl | ⟨o, ho, rfl⟩
  · exact r.stack
  · exact r.globals
  · exact r.blocks
  · exact r.queue
  · exact r.fields o ho

theorem RowsAt.heapAt {w : World} {h : Nat} {m : HeapM} (R : RowsAt w h m.rows) (hh : w.heap[h]? = some m.head) : HeapAt w h m :=
  ⟨hh, R.all (hrow m.vS m.stack) (by simp [HeapM.rows]), R.all (hrow m.vG m.globals) (by simp [HeapM.rows]), R.all ⟨88, 3, m.vB, m.blks.length, m.blks.flatMap HObj.cells⟩ (by simp [HeapM.rows]), R.all ⟨3, 1, m.vQ, m.queue.length, m.queue.map (Value.int .i64)⟩ (by simp [HeapM.rows]),
    fun o ho => R.all o.row (by simp only [HeapM.rows, List.mem_cons, List.mem_map]; exact .inr (.inr (.inr (.inr ⟨o, ho, rfl⟩)))), by rw [← hrows_foot]; exact R.apart⟩

theorem HeapAt.cell {w : World} {h : Nat} {m : HeapM} (r : HeapAt w h m) : w.cell? ⟨h, 0, none⟩ = some (.int .i64 m.room) ∧ w.cell? ⟨h, 3, none⟩ = some m.vS ∧ w.cell? ⟨h, 4, none⟩ = some m.vG ∧ w.cell? ⟨h, 5, none⟩ = some m.vB ∧ w.cell? ⟨h, 6, none⟩ = some m.vQ ∧ w.cell? ⟨h, 1, none⟩ = some (.int .i64 m.zero) ∧ w.cell? ⟨h, 2, none⟩ = some (.int .i64 m.over) ∧ ∀ j, w.frozen? ⟨h, j, none⟩ = false :=
  ⟨cell_of_heap r.head rfl, cell_of_heap r.head rfl, cell_of_heap r.head rfl, cell_of_heap r.head rfl, cell_of_heap r.head rfl, cell_of_heap r.head rfl, cell_of_heap r.head rfl, fun _ => frozen_of_heap r.head⟩

/-- one row of the heap and one cell of its head are turned -/
theorem HeapAt.turn {w w' : World} {h : Nat} {m m' : HeapM} (r : HeapAt w h m) (p : Nat) (r0 r1 : SRow) (hp : m.rows[p]? = some r0) (hr : m'.rows = m.rows.set p r1) (hh : w'.heap[h]? = some m'.head) (h1 : r1.At w')
    (hv : ∀ g, r1.ob = some g → r0.ob = some g ∨ w.heap.size ≤ g) (ho : Off (h :: r0.ob.toList) w w') : HTurn h w m w' m' := by
  have R := r.rowsAt
  have hmem : ∀ g, r0.ob = some g → g ∈ m.foot := fun g hg => by rw [← hrows_foot]; exact List.mem_filterMap.2 ⟨r0, List.mem_of_getElem? hp, hg⟩
  obtain ⟨g1, g2⟩ := R.set hp r1 h1 hv (fun k hk h1 h2 => ho.block k hk (by simp; exact ⟨h1, h2⟩)) ho.size
  rw [← hr] at g1 g2
  refine ⟨g1.heapAt hh, fun g hg => ?_, ho.mono fun x hx => ?_⟩
  · rw [← hrows_foot] at hg ⊢
    exact g2 g hg
  · rcases List.mem_cons.1 hx with e | e
    · rw [e]; exact List.mem_cons_self
    · exact List.mem_cons_of_mem _ (hmem x (by simpa using e))

theorem HeapAt.ne {w : World} {h : Nat} {m : HeapM} (r : HeapAt w h m) {x : SRow} (hx : x ∈ m.rows) : x.ob ≠ some h := fun e => by
  have := List.nodup_cons.1 r.rowsAt.apart
  exact this.1 (List.mem_filterMap.2 ⟨x, hx, e⟩)

/-- the stack's row -/
theorem HeapAt.stackView {w : World} {h : Nat} {m : HeapM} (r : HeapAt w h m) (hs : 0 < m.stack.length) :
    ∃ g cap, m.vS = .slice (some ⟨g, 0, none⟩) m.stack.length cap ∧ g < w.heap.size ∧ g ≠ h ∧ m.vS.ownBlock = some g ∧ m.stack.length ≤ cap ∧
      ∀ i (hi : i < m.stack.length), w.cell? ⟨g, i * 2, none⟩ = some (.int .i64 (m.stack[i]).1) ∧ w.cell? ⟨g, i * 2 + 1, none⟩ = some (.int .i64 (m.stack[i]).2) := by
  obtain ⟨g, cap, hv, hg, hb, hc, hcell, _⟩ := own_view r.stack hs
  refine ⟨g, cap, hv, hg, fun e => r.ne (x := hrow m.vS m.stack) (by simp [HeapM.rows]) (by rw [← e]; exact hb), hb, hc, fun i hi => ⟨?_, ?_⟩⟩
  · exact hcell _ _ (by have := flat_get valCells 2 (fun _ => rfl) m.stack i 0 (by decide); simpa [hi, valCells] using this)
  · exact hcell _ _ (by have := flat_get valCells 2 (fun _ => rfl) m.stack i 1 (by decide); simpa [hi, valCells] using this)

set_option maxHeartbeats 800000 in
theorem hdown_any {w : World} {h : Nat} {m : HeapM} (r : HeapAt w h m) (hs : m.stack.length ≤ 16) (n : Nat) (hn : n < m.stack.length) :
    Calls Tryz.prog 73 #[.pointer (some ⟨h, 0, none⟩), .int .i64 n] w
      fun e w' => e = .returned (.agg #[.int .i64 (m.stack[m.stack.length - 1 - n]'(by omega)).1, .int .i64 (m.stack[m.stack.length - 1 - n]'(by omega)).2]) ∧ Below w.heap.size w w' := by
  obtain ⟨g, cap, hv, hg, hgh, _, _, hcell⟩ := r.stackView (by omega)
  have cS : w.cell? ⟨h, 3, none⟩ = some (.slice (some ⟨g, 0, none⟩) m.stack.length cap) := by rw [r.cell.2.1, hv]
  obtain ⟨c0, c1⟩ := hcell (m.stack.length - 1 - n) (by omega)
  have hh := lt_of_heap r.head
  obtain ⟨x, hx⟩ : ∃ x, x = m.stack[m.stack.length - 1 - n]'(by omega) := ⟨_, rfl⟩
  rw [← hx] at c0 c1 ⊢
  obtain ⟨len, hlen⟩ : ∃ len, m.stack.length = len := ⟨_, rfl⟩
  rw [hlen] at cS c0 c1 hs hn
  clear r hv hcell hx hlen
  obtain ⟨x1, x2⟩ := x
  simp only at c0 c1 ⊢
  go_enter Tryz.func73, Tryz.ntmps73
  go_wp2
  go_region
  go_wp2
  refine bodyPost_ret (v := .agg #[.int .i64 x1, .int .i64 x2]) (by simp [results, Tryz.results73, go_sem]) rfl ⟨rfl, ?_⟩
  exact ((Below.refl _ _).alloc (Nat.le_refl _) _).drew

/-- the stack behind a pop -/
theorem HeapAt.popped {w : World} {h : Nat} {m : HeapM} (r : HeapAt w h m) {g cap : Nat} (hv : m.vS = .slice (some ⟨g, 0, none⟩) m.stack.length cap) (k : Nat) (hk : k ≤ m.stack.length) :
    HTurn h w m (w.setCell ⟨h, 3, none⟩ (.slice (some ⟨g, 0, none⟩) k cap)) { m with vS := .slice (some ⟨g, 0, none⟩) k cap, stack := m.stack.take k } := by
  refine r.turn 0 (hrow m.vS m.stack) (hrow (.slice (some ⟨g, 0, none⟩) k cap) (m.stack.take k)) rfl rfl ?_ ?_ ?_ ?_
  · rw [heap_setCell_at r.head]; rfl
  · have hgh : g ≠ h := fun e => r.ne (x := hrow m.vS m.stack) (by simp [HeapM.rows]) (by rw [← e]; show m.vS.ownBlock = _; rw [hv]; rfl)
    have ho : w.ownsRow 0 81 2 (.slice (some ⟨g, 0, none⟩) k cap) k ((m.stack.take k).flatMap valCells) := by
      have hr := r.stack
      rw [hv] at hr
      rcases hr.2 with ⟨e, _⟩ | ⟨g', cap', cur, e, hb, hg, hnc, hcm, hcs, htake⟩
      · simp at e
      · simp at e
        obtain ⟨rfl, rfl⟩ := e
        have hl : ∀ l : List (Int × Int), (l.flatMap valCells).length = l.length * 2 := fun l => by induction l with
          | nil => rfl
          | cons a l ih => rw [List.flatMap_cons, List.length_append, ih, List.length_cons]; simp [valCells]; omega
        have ht : (m.stack.take k).flatMap valCells = (m.stack.flatMap valCells).take (k * 2) := by
          have e1 : m.stack.flatMap valCells = (m.stack.take k).flatMap valCells ++ (m.stack.drop k).flatMap valCells := by rw [← List.flatMap_append, List.take_append_drop]
          rw [e1, List.take_left' (by rw [hl, List.length_take]; omega)]
        refine ⟨by rw [hl, List.length_take]; omega, .inr ⟨g, cap, cur, rfl, hb, hg, by omega, hcm, hcs, ?_⟩⟩
        rw [ht, ← htake, List.take_take]
        congr 1
        omega
    show (w.setCell ⟨h, 3, none⟩ _).ownsRow 0 _ 2 _ (m.stack.take k).length _
    rw [List.length_take, Nat.min_eq_left hk]
    exact own_carry ho fun j hj => hso (k := j) (b := h) (fun e => hgh ((Option.some.inj hj).trans e))
  · intro j hj
    left
    show m.vS.ownBlock = some j
    rw [hv]; exact hj
  · exact (off_setCell w h 3 _).mono (by simp)

theorem HTurn.drew {h : Nat} {w w' : World} {m m' : HeapM} (t : HTurn h w m w' m') : HTurn h w m w'.drew m' := t.after ⟨rfl, rfl, rfl, Nat.le_refl _, fun _ _ => rfl⟩
theorem HTurn.drewN {h : Nat} {w w' : World} {m m' : HeapM} (t : HTurn h w m w' m') (n : Nat) : HTurn h w m (w'.drewN n) m' := t.after ⟨rfl, rfl, rfl, Nat.le_refl _, fun _ _ => rfl⟩

set_option maxHeartbeats 800000 in
theorem hpop_any {w : World} {h : Nat} {m : HeapM} (r : HeapAt w h m) (hs : m.stack.length ≤ 16) (n : Nat) (hn : n ≤ m.stack.length) (h0 : 0 < m.stack.length) :
    Calls Tryz.prog 74 #[.pointer (some ⟨h, 0, none⟩), .int .i64 n] w
      fun e w' => e = .returned (.tuple #[]) ∧ ∃ v', HTurn h w m w' { m with vS := v', stack := m.stack.take (m.stack.length - n) } := by
  obtain ⟨g, cap, hv, hg, hgh, _, hcap, _⟩ := r.stackView h0
  have cS : w.cell? ⟨h, 3, none⟩ = some (.slice (some ⟨g, 0, none⟩) m.stack.length cap) := by rw [r.cell.2.1, hv]
  have fS : w.frozen? ⟨h, 3, none⟩ = false := frozen_of_heap r.head
  have P : Hid (HTurn h w m (w.setCell ⟨h, 3, none⟩ (.slice (some ⟨g, 0, none⟩) (m.stack.length - n) cap)) { m with vS := .slice (some ⟨g, 0, none⟩) (m.stack.length - n) cap, stack := m.stack.take (m.stack.length - n) }) := r.popped hv _ (by omega)
  obtain ⟨len, hlen⟩ : ∃ len, m.stack.length = len := ⟨_, rfl⟩
  rw [hlen] at cS hs hn hcap P ⊢
  clear r hv hlen
  have hnI : (n : Int) ≤ len := by omega
  go_enter Tryz.func74, Tryz.ntmps74
  go_wp2
  go_region
  go_wp2
  go_end0
  exact ⟨rfl, _, P.out.drew⟩

/-- the stack behind a push -/
theorem HeapAt.pushed {w w1 : World} {h : Nat} {m : HeapM} (r : HeapAt w h m) {g cap : Nat} (x : Int × Int)
    (hown : w1.ownsRow 0 81 2 (.slice (some ⟨g, 0, none⟩) (m.stack.length + 1) cap) (m.stack.length + 1) (m.stack.flatMap valCells ++ valCells x))
    (hgr : w.grownBy w1 m.vS.ownBlock) (hlie : m.vS.ownBlock = some g ∨ g = w.heap.size) :
    HTurn h w m (w1.setCell ⟨h, 3, none⟩ (.slice (some ⟨g, 0, none⟩) (m.stack.length + 1) cap)) { m with vS := .slice (some ⟨g, 0, none⟩) (m.stack.length + 1) cap, stack := m.stack ++ [x] } := by
  have hh := lt_of_heap r.head
  have hne : m.vS.ownBlock ≠ some h := r.ne (x := hrow m.vS m.stack) (by simp [HeapM.rows])
  have hgh : g ≠ h := fun e => by
    rcases hlie with e1 | e1
    · exact hne (by rw [e1, e])
    · omega
  have hh1 : w1.heap[h]? = some m.head := by rw [hgr.block h hh (fun e => hne e.symm)]; exact r.head
  refine r.turn 0 (hrow m.vS m.stack) (hrow (.slice (some ⟨g, 0, none⟩) (m.stack.length + 1) cap) (m.stack ++ [x])) rfl rfl ?_ ?_ ?_ ?_
  · rw [heap_setCell_at hh1]; rfl
  · show (w1.setCell ⟨h, 3, none⟩ _).ownsRow 0 _ 2 _ (m.stack ++ [x]).length ((m.stack ++ [x]).flatMap valCells)
    rw [List.flatMap_append, List.length_append, List.length_singleton, List.flatMap_singleton]
    exact own_carry hown fun j hj => hso (k := j) (b := h) (fun e => hgh ((Option.some.inj hj).trans e))
  · intro j hj
    have hj' : j = g := by simpa [SRow.ob, hrow, Value.ownBlock, eq_comm] using hj
    subst hj'
    rcases hlie with e1 | e1
    · exact .inl e1
    · exact .inr (by omega)
  · exact ((off_grown hgr).mono (fun y hy => List.mem_cons_of_mem _ hy)).trans ((off_setCell w1 h 3 _).mono (by simp))

theorem HTurn.pre {h : Nat} {w0 w w' : World} {m m' : HeapM} (r : HeapAt w0 h m) (hb : Below w0.heap.size w0 w) (t : HTurn h w m w' m') : HTurn h w0 m w' m' := (HTurn.of_below r hb).trans t

set_option maxHeartbeats 400000 in
theorem isDeep_any {w : World} {h : Nat} {m : HeapM} (r : HeapAt w h m) :
    Calls Tryz.prog 70 #[.pointer (some ⟨h, 0, none⟩)] w fun e w' => e = .returned (.bool (decide (m.room ≤ m.stack.length))) ∧ Below w.heap.size w w' := by
  obtain ⟨ao, cap, hv⟩ := own_slice r.stack
  have cS : w.cell? ⟨h, 3, none⟩ = some (.slice ao m.stack.length cap) := by rw [r.cell.2.1, hv]
  have cD := r.cell.1
  obtain ⟨len, hlen⟩ : ∃ len, m.stack.length = len := ⟨_, rfl⟩
  rw [hlen] at cS ⊢
  obtain ⟨D, hD⟩ : ∃ D, m.room = D := ⟨_, rfl⟩
  rw [hD] at cD ⊢
  clear r hv hlen hD
  go_enter Tryz.func70, Tryz.ntmps70
  go_wp2
  go_quiet (fail)
  go_wp2
  go_ret
  exact ⟨rfl, below_drewN (Below.refl _ _) _⟩

set_option maxHeartbeats 400000 in
theorem hpush_full {w : World} {h : Nat} {m : HeapM} (r : HeapAt w h m) (x : Int × Int) (hd : m.room ≤ m.stack.length) :
    Calls Tryz.prog 39 #[.pointer (some ⟨h, 0, none⟩), .agg #[.int .i64 x.1, .int .i64 x.2]] w fun e w' => e = .returned (.int .i64 7) ∧ Below w.heap.size w w' := by
  have D : Hid (∀ ob, Calls Tryz.prog 70 #[.pointer (some ⟨h, 0, none⟩)] (w.alloc ob) fun e w' => e = .returned (.bool true) ∧ Below (w.alloc ob).heap.size (w.alloc ob) w') := fun ob =>
    (isDeep_any (r.carry fun y hy => hao (r.lt y hy))).mono fun e w' ⟨h1, h2⟩ => ⟨h1.trans (ret_bool (by simpa using hd)), h2⟩
  obtain ⟨x1, x2⟩ := x
  simp only
  clear r hd
  go_enter Tryz.func39, Tryz.ntmps39
  go_wp2_with fail
  refine Calls.mono (D.out _) ?_
  rintro e w1 ⟨rfl, hb⟩
  have B : Hid (Below w.heap.size w w1) := ((Below.refl _ _).alloc (Nat.le_refl _) _).trans (hb.mono (by simp))
  clear hb D
  go_wp2
  go_ret
  exact ⟨rfl, B.out⟩

set_option maxHeartbeats 800000 in
theorem hpush_room {w : World} {h : Nat} {m : HeapM} (r : HeapAt w h m) (hs : m.stack.length ≤ 16) (x : Int × Int) (hd : m.stack.length < m.room) :
    Calls Tryz.prog 39 #[.pointer (some ⟨h, 0, none⟩), .agg #[.int .i64 x.1, .int .i64 x.2]] w
      fun e w' => e = .returned (.int .i64 0) ∧ ∃ v', HTurn h w m w' { m with vS := v', stack := m.stack ++ [x] } := by
  obtain ⟨ao, cap, hv⟩ := own_slice r.stack
  have cS : w.cell? ⟨h, 3, none⟩ = some (.slice ao m.stack.length cap) := by rw [r.cell.2.1, hv]
  have hh := lt_of_heap r.head
  have hne : m.vS.ownBlock ≠ some h := r.ne (x := hrow m.vS m.stack) (by simp [HeapM.rows])
  have FIN : Hid (∀ W w1 g cap', Below w.heap.size w W → w1.ownsRow 0 81 2 (.slice (some ⟨g, 0, none⟩) (m.stack.length + 1) cap') (m.stack.length + 1) (m.stack.flatMap valCells ++ valCells x) →
    W.grownBy w1 m.vS.ownBlock → (m.vS.ownBlock = some g ∨ g = W.heap.size) → HTurn h w m (w1.setCell ⟨h, 3, none⟩ (.slice (some ⟨g, 0, none⟩) (m.stack.length + 1) cap')) { m with vS := .slice (some ⟨g, 0, none⟩) (m.stack.length + 1) cap', stack := m.stack ++ [x] } ∧
      w1.cell? ⟨h, 3, none⟩ = some m.vS ∧ w1.frozen? ⟨h, 3, none⟩ = false) := by
    intro W w1 g cap' hb ho hgr hl
    have r1 : HeapAt W h m := r.carry fun y hy => hb.block y (r.lt y hy)
    have hh1 : w1.heap[h]? = some m.head := by rw [hgr.block h (lt_of_heap r1.head) (fun e => hne e.symm)]; exact r1.head
    exact ⟨HTurn.pre r hb (r1.pushed x ho hgr hl), cell_of_heap hh1 rfl, frozen_of_heap hh1⟩
  have OWN : Hid (∀ W, Below w.heap.size w W → W.ownsRow 0 81 2 m.vS m.stack.length (m.stack.flatMap valCells)) := fun W hb => own_carry r.stack fun j hj => hb.block j (own_lt r.stack hj).2
  have D : Hid (∀ ob, Calls Tryz.prog 70 #[.pointer (some ⟨h, 0, none⟩)] (w.alloc ob) fun e w' => e = .returned (.bool false) ∧ Below (w.alloc ob).heap.size (w.alloc ob) w') := fun ob =>
    (isDeep_any (r.carry fun y hy => hao (r.lt y hy))).mono fun e w' ⟨h1, h2⟩ => ⟨h1.trans (ret_bool (by simp; omega)), h2⟩
  have OLD : Hid (∀ W, Below w.heap.size w W → W.cell? ⟨h, 3, none⟩ = some (.slice ao m.stack.length cap)) := fun W hb => (hb.cell (p := ⟨h, 3, none⟩) hh).trans cS
  obtain ⟨x1, x2⟩ := x
  simp only at *
  rw [hv] at FIN OWN
  obtain ⟨len, hlen⟩ : ∃ len, m.stack.length = len := ⟨_, rfl⟩
  rw [hlen] at cS hs hd FIN OWN OLD
  clear r hv hlen hne hd cS
  go_enter Tryz.func39, Tryz.ntmps39
  go_wp2_with fail
  refine Calls.mono (D.out _) ?_
  rintro e w5 ⟨rfl, hb⟩
  have B : Hid (Below w.heap.size w w5) := ((Below.refl _ _).alloc (Nat.le_refl _) _).trans (hb.mono (by simp))
  have cS := OLD.out w5 B.out
  have hbx := boxed' hb
  have x0 : w5.cell? ⟨w.heap.size, 0, none⟩ = some (.int .i64 x1) := cell_of_heap hbx rfl
  have x9 : w5.cell? ⟨w.heap.size, 1, none⟩ = some (.int .i64 x2) := cell_of_heap hbx rfl
  have hal : ∀ ob, (w5.alloc ob).cell? ⟨h, 3, none⟩ = w5.cell? ⟨h, 3, none⟩ := fun ob => World.cell?_of_block (hao (by have := B.out.size; show h < _; omega))
  clear hb D hbx
  go_wp2_with fail
  obtain ⟨i1, hi1, hy0, hy1, hy2⟩ := info_parts infoValue
  go_region_law (refine step_append_lies _ rfl (.tmp 11) (.tmp 13) 73 rfl 0 81 i1 _ 2 16 Tryz.underlying73 hi1 hy0 hy1 hy2 rfl (by decide) _ _ _ (by simp [Act.eval, Act.put]) (OWN.out _ (B.out.drew.alloc (by have := B.out.size; simpa using this) _)) ⟨w5.heap.size, 0, none⟩ 1 1 [.int .i64 x1, .int .i64 x2] (by simp [Act.eval, Act.put]) rfl (news_drew _ _ _ _ (by simp)) (by intro u hu; simp at hu; rcases hu with rfl | rfl <;> rfl) (by decide) (by unfold maxLen; omega) (by omega) (Nat.zero_le _) (w5.heap.size + 1) (by simp) ?_; intro g' cap1 w1 hown hgr hlie _; obtain ⟨T, hc, hf⟩ := FIN.out _ w1 g' cap1 (B.out.drew.alloc (by have := B.out.size; simpa using this) _) hown hgr (by simpa using hlie))
  all_goals go_wp2
  all_goals go_ret
  all_goals exact ⟨rfl, _, by assumption⟩

end Go.Proofs.YteekoiljkklnmaaGreatDoor

/- OUR OWN. The program's heap: operations on the stack and the globals. -/
namespace Go.Proofs.YteekoiljkklnmaaGreatDoor
open Go.RowKit
set_option linter.unusedVariables false
set_option linter.unusedSimpArgs false

def HObj.ob (o : HObj) : Ob := ⟨decide (o.state ≠ 0), o.fs, decide (o.state = 2), decide (o.state = 3)⟩
def HeapM.st (m : HeapM) : St := ⟨m.stack, m.globals, m.blks.map HObj.ob, m.queue⟩
/-- all but stack and globals -/
def HeapM.rest (m : HeapM) : Int × Int × Int × List HObj × List Int := (m.room, m.zero, m.over, m.blks, m.queue)

structure HeapM.Ok (m : HeapM) (N : Nat) : Prop where
  len : m.blks.length = N + 1
  small : N ≤ 99
  fields : ∀ o ∈ m.blks, o.fs.length ≤ 4
  stack : m.stack.length ≤ 16
  globals : m.globals.length ≤ 8

structure HPre (h N : Nat) (w : World) (m : HeapM) : Prop where
  r : HeapAt w h m
  ok : m.Ok N
  inv : m.st.Inv N
  deep : m.room ≤ 16

structure HStep (h N : Nat) (w : World) (m : HeapM) (w' : World) (m' : HeapM) : Prop where
  turn : HTurn h w m w' m'
  ok : m'.Ok N
  rest : m'.rest = m.rest

theorem HStep.of_below {h N : Nat} {w w' : World} {m : HeapM} (p : HPre h N w m) (hb : Below w.heap.size w w') : HStep h N w m w' m := ⟨.of_below p.r hb, p.ok, rfl⟩
theorem HStep.refl {h N : Nat} {w : World} {m : HeapM} (p : HPre h N w m) : HStep h N w m w m := ⟨.refl p.r, p.ok, rfl⟩
theorem HStep.trans {h N : Nat} {w w1 w2 : World} {m m1 m2 : HeapM} (a : HStep h N w m w1 m1) (b : HStep h N w1 m1 w2 m2) : HStep h N w m w2 m2 := ⟨a.turn.trans b.turn, b.ok, b.rest.trans a.rest⟩
theorem HStep.after {h N : Nat} {w w1 w2 : World} {m m1 : HeapM} (a : HStep h N w m w1 m1) (hb : Below w1.heap.size w1 w2) : HStep h N w m w2 m1 := ⟨a.turn.after hb, a.ok, a.rest⟩
theorem HStep.pre {h N : Nat} {w w' : World} {m m' : HeapM} (a : HStep h N w m w' m') (p : HPre h N w m) (hi : m'.st.Inv N) : HPre h N w' m' := ⟨a.turn.here, a.ok, hi, by have h1 : m'.room = m.room := congrArg Prod.fst a.rest; rw [h1]; exact p.deep⟩
theorem HPre.below {h N : Nat} {w w' : World} {m : HeapM} (p : HPre h N w m) (hb : Below w.heap.size w w') : HPre h N w' m := ⟨(HTurn.of_below p.r hb).here, p.ok, p.inv, p.deep⟩

def HDid (h N : Nat) (w : World) (m : HeapM) (p : St × Int × Int) (e : Ending) (w' : World) : Prop := e = .returned (.int .i64 p.2.2) ∧ ∃ m', HStep h N w m w' m' ∧ m'.st = p.1
def HDid2 (h N : Nat) (w : World) (m : HeapM) (p : St × Int × Int) (e : Ending) (w' : World) : Prop := e = .returned (.tuple #[.int .i64 p.2.1, .int .i64 p.2.2]) ∧ ∃ m', HStep h N w m w' m' ∧ m'.st = p.1

theorem hpush_do {h N : Nat} {w : World} {m : HeapM} (p : HPre h N w m) (x : Int × Int) :
    Calls Tryz.prog 39 #[.pointer (some ⟨h, 0, none⟩), .agg #[.int .i64 x.1, .int .i64 x.2]] w (HDid h N w m (pushA m.room m.st x)) := by
  by_cases hd : m.room ≤ m.stack.length
  · have e : pushA m.room m.st x = (m.st, 0, 7) := by unfold pushA pushS; rw [if_pos (show m.room ≤ (m.st.stack.length : Int) from hd)]
    refine (hpush_full p.r x hd).mono fun e' w' ⟨he, hb⟩ => ?_
    rw [e]
    exact ⟨he, m, .of_below p hb, rfl⟩
  · have e : pushA m.room m.st x = ({ m.st with stack := m.stack ++ [x] }, 0, 0) := by unfold pushA pushS; rw [if_neg (show ¬ m.room ≤ (m.st.stack.length : Int) from hd)]; rfl
    refine (hpush_room p.r p.ok.stack x (by omega)).mono fun e' w' ⟨he, v', ht⟩ => ?_
    rw [e]
    refine ⟨he, _, ⟨ht, ⟨p.ok.len, p.ok.small, p.ok.fields, ?_, p.ok.globals⟩, rfl⟩, rfl⟩
    have := p.deep
    simp; omega

theorem hpop_do {h N : Nat} {w : World} {m : HeapM} (p : HPre h N w m) (n : Nat) (hn : n ≤ m.stack.length) (h0 : 0 < m.stack.length) :
    Calls Tryz.prog 74 #[.pointer (some ⟨h, 0, none⟩), .int .i64 n] w fun e w' => e = .returned (.tuple #[]) ∧ ∃ v', HStep h N w m w' { m with vS := v', stack := m.stack.take (m.stack.length - n) } := by
  refine (hpop_any p.r p.ok.stack n hn h0).mono fun e' w' ⟨he, v', ht⟩ => ⟨he, v', ht, ⟨p.ok.len, p.ok.small, p.ok.fields, ?_, p.ok.globals⟩, rfl⟩
  have := p.ok.stack
  simp; omega

theorem hst_down (m : HeapM) (k : Nat) (hk : k < m.stack.length) : m.stack[m.stack.length - 1 - k]'(by omega) = m.st.down k := by
  unfold St.down
  rw [List.getD_eq_getElem?_getD]
  show _ = (m.stack[m.stack.length - 1 - k]?).getD _
  rw [List.getElem?_eq_getElem (by omega)]
  rfl

theorem hdown_do {h N : Nat} {w : World} {m : HeapM} (p : HPre h N w m) (k : Nat) (hk : k < m.stack.length) :
    Calls Tryz.prog 73 #[.pointer (some ⟨h, 0, none⟩), .int .i64 k] w
      fun e w' => e = .returned (.agg #[.int .i64 (m.st.down k).1, .int .i64 (m.st.down k).2]) ∧ Below w.heap.size w w' := by
  have := hdown_any p.r p.ok.stack k hk
  rw [hst_down m k hk] at this
  exact this

theorem HPre.stackCell {h N : Nat} {w : World} {m : HeapM} (p : HPre h N w m) : ∃ ao cap, w.cell? ⟨h, 3, none⟩ = some (.slice ao m.stack.length cap) := by
  obtain ⟨ao, cap, hv⟩ := own_slice p.r.stack
  exact ⟨ao, cap, by rw [p.r.cell.2.1, hv]⟩

theorem hturn_local {h N L : Nat} {w W w' : World} {m m' : HeapM} {ob : Obj} (p : HPre h N w m) (hb : Below w.heap.size w W) (hW : W.heap[L]? = some ob) (hL : w.heap.size ≤ L) (t : HTurn h W m w' m') : w'.heap[L]? = some ob := by
  rw [t.off.block L (lt_of_heap hW) ?_]
  · exact hW
  · intro e
    have := p.r.lt L e
    omega

theorem HPre.globalCell {h N : Nat} {w : World} {m : HeapM} (p : HPre h N w m) : ∃ ao cap, w.cell? ⟨h, 4, none⟩ = some (.slice ao m.globals.length cap) := by
  obtain ⟨ao, cap, hv⟩ := own_slice p.r.globals
  exact ⟨ao, cap, by rw [p.r.cell.2.2.1, hv]⟩

/-- the globals' row -/
theorem HeapAt.globalView {w : World} {h : Nat} {m : HeapM} (r : HeapAt w h m) (hs : 0 < m.globals.length) :
    ∃ g cap, m.vG = .slice (some ⟨g, 0, none⟩) m.globals.length cap ∧ g < w.heap.size ∧ g ≠ h ∧ m.vG.ownBlock = some g ∧ (∀ j, w.frozen? ⟨g, j, none⟩ = false) ∧
      ∀ i (hi : i < m.globals.length), w.cell? ⟨g, i * 2, none⟩ = some (.int .i64 (m.globals[i]).1) ∧ w.cell? ⟨g, i * 2 + 1, none⟩ = some (.int .i64 (m.globals[i]).2) := by
  obtain ⟨g, cap, hv, hg, hb, hc, hcell, hf⟩ := own_view r.globals hs
  refine ⟨g, cap, hv, hg, fun e => r.ne (x := hrow m.vG m.globals) (by simp [HeapM.rows]) (by rw [← e]; exact hb), hb, hf, fun i hi => ⟨?_, ?_⟩⟩
  · exact hcell _ _ (by have := flat_get valCells 2 (fun _ => rfl) m.globals i 0 (by decide); simpa [hi, valCells] using this)
  · exact hcell _ _ (by have := flat_get valCells 2 (fun _ => rfl) m.globals i 1 (by decide); simpa [hi, valCells] using this)

/-- a global is turned -/
theorem HeapAt.globalSet {w : World} {h : Nat} {m : HeapM} (r : HeapAt w h m) {g cap : Nat} (hv : m.vG = .slice (some ⟨g, 0, none⟩) m.globals.length cap) (k : Nat) (hk : k < m.globals.length) (x : Int × Int) :
    HTurn h w m ((w.setCell ⟨g, k * 2, none⟩ (.int .i64 x.1)).setCell ⟨g, k * 2 + 1, none⟩ (.int .i64 x.2)) { m with globals := m.globals.set k x } := by
  have hob : m.vG.ownBlock = some g := by rw [hv]; rfl
  have hgh : g ≠ h := fun e => r.ne (x := hrow m.vG m.globals) (by simp [HeapM.rows]) (by rw [← e]; exact hob)
  refine r.turn 1 (hrow m.vG m.globals) (hrow m.vG (m.globals.set k x)) rfl rfl ?_ ?_ ?_ ?_
  · rw [hso (fun e => hgh e.symm), hso (fun e => hgh e.symm)]; exact r.head
  · show (World.setCell _ _ _).ownsRow 0 _ 2 m.vG (m.globals.set k x).length ((m.globals.set k x).flatMap valCells)
    have hi : m.globals[k]? = some m.globals[k] := List.getElem?_eq_getElem hk
    have e1 := flat_set valCells 2 (fun _ => rfl) m.globals k 0 (by decide) _ (.int .i64 x.1) hi (x.1, (m.globals[k]).2) rfl
    have h1 : (m.globals.set k (x.1, (m.globals[k]).2))[k]? = some (x.1, (m.globals[k]).2) := by simp [hk]
    have e2 := flat_set valCells 2 (fun _ => rfl) _ k 1 (by decide) _ (.int .i64 x.2) h1 x rfl
    rw [List.set_set, e1] at e2
    rw [List.length_set, e2, Nat.add_zero]
    have hb := r.globals
    rw [hv] at hb ⊢
    exact ((hb.stored _ _).1.stored _ _).1
  · intro j hj
    exact .inl hj
  · have hm : ∀ y ∈ [g], y ∈ h :: (hrow m.vG m.globals).ob.toList := fun y hy => by simp at hy; subst hy; exact List.mem_cons_of_mem _ (by simp [SRow.ob, hrow, hob])
    exact ((off_setCell w g _ _).mono hm).trans ((off_setCell _ g _ _).mono hm)

set_option maxHeartbeats 800000 in
theorem hdup_do (h N : Nat) (w : World) (m : HeapM) (n : Int) (p : HPre h N w m) : Calls Tryz.prog 41 #[.pointer (some ⟨h, 0, none⟩), .int .i64 n] w (HDid h N w m (dupS m.room m.st n)) := by
  obtain ⟨ao, cap, cS⟩ := p.stackCell
  have hl := p.ok.stack
  by_cases hc : n < 0 ∨ (m.stack.length : Int) ≤ n
  · have e : dupS m.room m.st n = (m.st, 0, 6) := by unfold dupS; exact if_pos hc
    simp only [e]
    have K : Hid (∃ m', HStep h N w m w m' ∧ m'.st = m.st) := ⟨m, .refl p, rfl⟩
    obtain ⟨len, hlen⟩ : ∃ len, m.stack.length = len := ⟨_, rfl⟩
    rw [hlen] at hc cS hl
    clear p e hlen
    rcases hc with hc | hc
    · go_enter Tryz.func41, Tryz.ntmps41
      go_wp2
      go_ret
      exact ⟨rfl, K.out⟩
    · have hn : ¬ n < 0 := by omega
      go_enter Tryz.func41, Tryz.ntmps41
      go_wp2
      go_ret
      exact ⟨rfl, K.out⟩
  · obtain ⟨k, rfl⟩ : ∃ k : Nat, n = k := ⟨n.toNat, by omega⟩
    have hk : k < m.stack.length := by omega
    have e : dupS m.room m.st k = pushA m.room m.st (m.st.down k) := by unfold dupS; exact (if_neg hc).trans (by rw [Int.toNat_natCast])
    simp only [e]
    have DN := hdown_do p k hk
    have D : Hid _ := DN
    have PU : Hid (∀ W, Below w.heap.size w W → Calls Tryz.prog 39 #[.pointer (some ⟨h, 0, none⟩), .agg #[.int .i64 (m.st.down k).1, .int .i64 (m.st.down k).2]] W fun e w' => HDid h N w m (pushA m.room m.st (m.st.down k)) e w') :=
      fun W hb => (hpush_do (p.below hb) (m.st.down k)).mono fun e w' ⟨he, m', hs, hm⟩ => ⟨he, m', (HStep.of_below p hb).trans hs, hm⟩
    obtain ⟨len, hlen⟩ : ∃ len, m.stack.length = len := ⟨_, rfl⟩
    rw [hlen] at hc cS hl hk
    obtain ⟨x, hx⟩ : ∃ x, m.st.down k = x := ⟨_, rfl⟩
    rw [hx] at D PU ⊢
    obtain ⟨x1, x2⟩ := x
    clear p e DN hlen hx hc
    have hkI : (k : Int) < len := by omega
    go_enter Tryz.func41, Tryz.ntmps41
    go_wp2_with fail
    refine Calls.mono D.out ?_
    rintro e w1 ⟨rfl, hb⟩
    have B : Hid (Below w.heap.size w w1) := hb
    clear hb D
    go_wp2_with fail
    refine Calls.mono (PU.out _ (B.out.alloc B.out.size _)) ?_
    rintro e w2 ⟨rfl, hm⟩
    have M : Hid _ := hm
    clear hm PU
    go_wp2
    go_ret
    exact ⟨rfl, M.out⟩

set_option maxHeartbeats 400000 in
theorem hdrop_do (h N : Nat) (w : World) (m : HeapM) (p : HPre h N w m) : Calls Tryz.prog 42 #[.pointer (some ⟨h, 0, none⟩)] w (HDid h N w m (dropS m.st)) := by
  obtain ⟨ao, cap, cS⟩ := p.stackCell
  have hl := p.ok.stack
  by_cases hc : m.stack.length < 1
  · have e : dropS m.st = (m.st, 0, 3) := by unfold dropS; rw [if_pos (show m.st.stack.length < 1 from hc)]
    simp only [e]
    have K : Hid (∃ m', HStep h N w m w m' ∧ m'.st = m.st) := ⟨m, .refl p, rfl⟩
    obtain ⟨len, hlen⟩ : ∃ len, m.stack.length = len := ⟨_, rfl⟩
    rw [hlen] at hc cS hl
    clear p e hlen
    obtain rfl : len = 0 := by omega
    go_enter Tryz.func42, Tryz.ntmps42
    go_wp2
    go_ret
    exact ⟨rfl, K.out⟩
  · have e : dropS m.st = (m.st.pop 1, 0, 0) := by unfold dropS; rw [if_neg (show ¬ m.st.stack.length < 1 from hc)]
    simp only [e]
    have PO := hpop_do p 1 (by omega) (by omega)
    have P : Hid _ := PO
    obtain ⟨len, hlen⟩ : ∃ len, m.stack.length = len := ⟨_, rfl⟩
    rw [hlen] at hc cS hl
    have L : Hid (m.stack.length = len) := hlen
    clear p e hlen PO
    go_enter Tryz.func42, Tryz.ntmps42
    go_wp2_with fail
    refine Calls.mono P.out ?_
    rintro e w1 ⟨rfl, v', hm⟩
    have M : Hid (∃ m', HStep h N w m w1 m' ∧ m'.st = m.st.pop 1) := ⟨_, hm, rfl⟩
    clear hm P
    go_wp2
    go_ret
    exact ⟨rfl, M.out⟩

set_option maxHeartbeats 800000 in
theorem hget_do (h N : Nat) (w : World) (m : HeapM) (n : Int) (p : HPre h N w m) : Calls Tryz.prog 43 #[.pointer (some ⟨h, 0, none⟩), .int .i64 n] w (HDid h N w m (getS m.room m.st n)) := by
  obtain ⟨ao, cap, cG⟩ := p.globalCell
  have hl := p.ok.globals
  by_cases hc : n < 0 ∨ (m.globals.length : Int) ≤ n
  · have e : getS m.room m.st n = (m.st, 0, 6) := by unfold getS; exact if_pos hc
    simp only [e]
    have K : Hid (∃ m', HStep h N w m w m' ∧ m'.st = m.st) := ⟨m, .refl p, rfl⟩
    obtain ⟨len, hlen⟩ : ∃ len, m.globals.length = len := ⟨_, rfl⟩
    rw [hlen] at hc cG hl
    clear p e hlen
    rcases hc with hc | hc
    · go_enter Tryz.func43, Tryz.ntmps43
      go_wp2
      go_ret
      exact ⟨rfl, K.out⟩
    · have hn : ¬ n < 0 := by omega
      go_enter Tryz.func43, Tryz.ntmps43
      go_wp2
      go_ret
      exact ⟨rfl, K.out⟩
  · obtain ⟨k, rfl⟩ : ∃ k : Nat, n = k := ⟨n.toNat, by omega⟩
    have hk : k < m.globals.length := by omega
    have e : getS m.room m.st k = pushA m.room m.st m.globals[k] := by
      unfold getS
      exact (if_neg hc).trans (by rw [Int.toNat_natCast, List.getD_eq_getElem?_getD]; show pushA _ _ ((m.globals[k]?).getD _) = _; rw [List.getElem?_eq_getElem hk]; rfl)
    simp only [e]
    obtain ⟨g, cap', hv, hg, hgh, _, _, hcell⟩ := p.r.globalView (by omega)
    have cG' : w.cell? ⟨h, 4, none⟩ = some (.slice (some ⟨g, 0, none⟩) m.globals.length cap') := by rw [p.r.cell.2.2.1, hv]
    obtain ⟨c0, c1⟩ := hcell k hk
    have PU := hpush_do p m.globals[k]
    have P : Hid _ := PU
    obtain ⟨x, hx⟩ : ∃ x, m.globals[k] = x := ⟨_, rfl⟩
    rw [hx] at P c0 c1 ⊢
    obtain ⟨len, hlen⟩ : ∃ len, m.globals.length = len := ⟨_, rfl⟩
    rw [hlen] at hc cG' hl hk
    obtain ⟨x1, x2⟩ := x
    simp only at c0 c1
    clear p e PU hlen hx hc cG hcell hv
    have hkI : (k : Int) < len := by omega
    go_enter Tryz.func43, Tryz.ntmps43
    go_wp2_with fail
    refine Calls.mono P.out ?_
    rintro e w1 ⟨rfl, hm⟩
    have M : Hid _ := hm
    clear hm P
    go_wp2
    go_ret
    exact ⟨rfl, M.out⟩

set_option maxHeartbeats 1000000 in
theorem hset_do (h N : Nat) (w : World) (m : HeapM) (n : Int) (p : HPre h N w m) : Calls Tryz.prog 44 #[.pointer (some ⟨h, 0, none⟩), .int .i64 n] w (HDid h N w m (setS m.st n)) := by
  obtain ⟨ao, cap, cG⟩ := p.globalCell
  obtain ⟨so, sc, cS⟩ := p.stackCell
  have hl := p.ok.globals
  have hls := p.ok.stack
  by_cases hc : n < 0 ∨ (m.globals.length : Int) ≤ n
  · have e : setS m.st n = (m.st, 0, 6) := by unfold setS; exact if_pos hc
    simp only [e]
    have K : Hid (∃ m', HStep h N w m w m' ∧ m'.st = m.st) := ⟨m, .refl p, rfl⟩
    obtain ⟨len, hlen⟩ : ∃ len, m.globals.length = len := ⟨_, rfl⟩
    rw [hlen] at hc cG hl
    clear p e hlen
    rcases hc with hc | hc
    · go_enter Tryz.func44, Tryz.ntmps44
      go_wp2
      go_ret
      exact ⟨rfl, K.out⟩
    · have hn : ¬ n < 0 := by omega
      go_enter Tryz.func44, Tryz.ntmps44
      go_wp2
      go_ret
      exact ⟨rfl, K.out⟩
  · obtain ⟨k, rfl⟩ : ∃ k : Nat, n = k := ⟨n.toNat, by omega⟩
    have hk : k < m.globals.length := by omega
    by_cases h0 : m.stack.length < 1
    · have e : setS m.st k = (m.st, 0, 3) := by unfold setS; exact (if_neg hc).trans (if_pos h0)
      simp only [e]
      have K : Hid (∃ m', HStep h N w m w m' ∧ m'.st = m.st) := ⟨m, .refl p, rfl⟩
      obtain ⟨len, hlen⟩ : ∃ len, m.globals.length = len := ⟨_, rfl⟩
      rw [hlen] at hc cG hl hk
      obtain ⟨sl, hsl⟩ : ∃ sl, m.stack.length = sl := ⟨_, rfl⟩
      rw [hsl] at h0 cS hls
      clear p e hlen hc hsl
      obtain rfl : sl = 0 := by omega
      have hkI : (k : Int) < len := by omega
      go_enter Tryz.func44, Tryz.ntmps44
      go_wp2
      go_ret
      exact ⟨rfl, K.out⟩
    · have e : setS m.st k = ({ m.st.pop 1 with globals := m.globals.set k (m.st.down 0) }, 0, 0) := by unfold setS; exact (if_neg hc).trans ((if_neg h0).trans (by rw [Int.toNat_natCast]; rfl))
      simp only [e]
      obtain ⟨g, cap', hv, hg, hgh, _, hfz, hcell⟩ := p.r.globalView (by omega)
      have cG' : w.cell? ⟨h, 4, none⟩ = some (.slice (some ⟨g, 0, none⟩) m.globals.length cap') := by rw [p.r.cell.2.2.1, hv]
      obtain ⟨c0, c1⟩ := hcell k hk
      have hh := lt_of_heap p.r.head
      have DN : Hid (∀ W, Below w.heap.size w W → Calls Tryz.prog 73 #[.pointer (some ⟨h, 0, none⟩), .int .i64 0] W fun e w' => e = .returned (.agg #[.int .i64 (m.st.down 0).1, .int .i64 (m.st.down 0).2]) ∧ Below W.heap.size W w') := fun W hb => hdown_do (p.below hb) 0 (by show 0 < m.stack.length; omega)
      have FIN : Hid (∀ W, Below w.heap.size w W → HPre h N ((W.setCell ⟨g, k * 2, none⟩ (.int .i64 (m.st.down 0).1)).setCell ⟨g, k * 2 + 1, none⟩ (.int .i64 (m.st.down 0).2)) { m with globals := m.globals.set k (m.st.down 0) } ∧
        HStep h N w m ((W.setCell ⟨g, k * 2, none⟩ (.int .i64 (m.st.down 0).1)).setCell ⟨g, k * 2 + 1, none⟩ (.int .i64 (m.st.down 0).2)) { m with globals := m.globals.set k (m.st.down 0) }) := by
        intro W hb
        have t := HTurn.pre p.r hb ((p.below hb).r.globalSet hv k hk (m.st.down 0))
        have s : HStep h N w m _ _ := ⟨t, ⟨p.ok.len, p.ok.small, p.ok.fields, p.ok.stack, by simpa using p.ok.globals⟩, rfl⟩
        refine ⟨s.pre p ⟨p.inv.stack, fun v hv => ?_, p.inv.fields, p.inv.len⟩, s⟩
        rcases List.mem_or_eq_of_mem_set hv with e | e
        · exact p.inv.globals v e
        · subst e; exact p.inv.down 0
      have OLD : Hid (∀ W, Below w.heap.size w W → W.cell? ⟨h, 4, none⟩ = some (.slice (some ⟨g, 0, none⟩) m.globals.length cap') ∧ W.cell? ⟨g, k * 2, none⟩ = some (.int .i64 (m.globals[k]).1) ∧ W.cell? ⟨g, k * 2 + 1, none⟩ = some (.int .i64 (m.globals[k]).2) ∧ W.frozen? ⟨g, k * 2, none⟩ = false ∧ W.frozen? ⟨g, k * 2 + 1, none⟩ = false) := fun W hb =>
        ⟨(hb.cell (p := ⟨h, 4, none⟩) hh).trans cG', (hb.cell (p := ⟨g, k * 2, none⟩) hg).trans c0, (hb.cell (p := ⟨g, k * 2 + 1, none⟩) hg).trans c1, (hb.frozen (p := ⟨g, k * 2, none⟩) hg).trans (hfz _), (hb.frozen (p := ⟨g, k * 2 + 1, none⟩) hg).trans (hfz _)⟩
      have hsl : 0 < m.stack.length := by omega
      obtain ⟨x, hx⟩ : ∃ x, m.st.down 0 = x := ⟨_, rfl⟩
      rw [hx] at DN FIN ⊢
      obtain ⟨y, hy⟩ : ∃ y, m.globals[k] = y := ⟨_, rfl⟩
      rw [hy] at c0 c1 OLD
      obtain ⟨x1, x2⟩ := x
      obtain ⟨y1, y2⟩ := y
      have POP : Hid (∀ W, HPre h N W { m with globals := m.globals.set k (x1, x2) } → HStep h N w m W { m with globals := m.globals.set k (x1, x2) } → Calls Tryz.prog 74 #[.pointer (some ⟨h, 0, none⟩), .int .i64 1] W fun e w' => e = .returned (.tuple #[]) ∧ ∃ m', HStep h N w m w' m' ∧ m'.st = { m.st.pop 1 with globals := m.globals.set k (x1, x2) }) :=
        fun W hp hs => (hpop_do hp 1 hsl hsl).mono fun e w' ⟨he, v', hs'⟩ => ⟨he, _, hs.trans hs', rfl⟩
      obtain ⟨len, hlen⟩ : ∃ len, m.globals.length = len := ⟨_, rfl⟩
      rw [hlen] at hc cG' hl hk OLD
      obtain ⟨sl, hsl'⟩ : ∃ sl, m.stack.length = sl := ⟨_, rfl⟩
      rw [hsl'] at h0 cS hls hsl
      simp only at *
      clear p e hlen hx hy hc cG hcell hv hfz hsl'
      have hkI : (k : Int) < len := by omega
      go_enter Tryz.func44, Tryz.ntmps44
      go_wp2_with fail
      go_region_with (go_at_call 73; refine (DN.out _ (Below.refl _ _).drew).mono ?_; rintro e w1 ⟨rfl, hb⟩; have B1 : Hid (Below w.heap.size w w1) := ((Below.refl _ _).drew).trans hb; obtain ⟨d0, d1, d2, d3, d4⟩ := OLD.out w1 B1.out; clear hb)
      all_goals
        have FF := FIN.out _ B1.out
        clear d0 d1 d2 d3 d4
        have F1 : Hid _ := FF
        clear FF
        go_wp2_with fail
        refine Calls.mono (POP.out _ F1.out.1 F1.out.2) ?_
        rintro e w2 ⟨rfl, hm⟩
        have M : Hid _ := hm
        clear hm
        go_wp2
        go_ret
        exact ⟨rfl, M.out⟩

end Go.Proofs.YteekoiljkklnmaaGreatDoor

/- OUR OWN. The program's heap: operations that tell. -/
namespace Go.Proofs.YteekoiljkklnmaaGreatDoor
open Go.RowKit
set_option linter.unusedVariables false
set_option linter.unusedSimpArgs false

theorem checkRef_any (v : Int × Int) (w : World) :
    Calls Tryz.prog 78 #[.agg #[.int .i64 v.1, .int .i64 v.2]] w fun e w' => e = .returned (.int .i64 (if v.1 = 0 then 4 else if v.1 = 1 then 5 else 0)) ∧ Below w.heap.size w w' := by
  obtain ⟨k, n⟩ := v
  simp only
  by_cases h0 : k = 0
  · subst h0
    go_enter Tryz.func78, Tryz.ntmps78
    go_wp2
    go_ret
    exact ⟨rfl, (Below.refl _ _).alloc (Nat.le_refl _) _⟩
  · rw [if_neg h0]
    have e0 : (k == 0) = false := by simpa using h0
    by_cases h1 : k = 1
    · subst h1
      go_enter Tryz.func78, Tryz.ntmps78
      go_wp2
      go_ret
      exact ⟨rfl, (Below.refl _ _).alloc (Nat.le_refl _) _⟩
    · rw [if_neg h1]
      have e1 : (k == 1) = false := by simpa using h1
      go_enter Tryz.func78, Tryz.ntmps78
      go_wp2
      go_ret
      exact ⟨rfl, (Below.refl _ _).alloc (Nat.le_refl _) _⟩

/-- the blocks' row -/
theorem HeapAt.view {w : World} {h : Nat} {m : HeapM} {N : Nat} (r : HeapAt w h m) (hlen : m.blks.length = N + 1) :
    ∃ g cap, m.vB = .slice (some ⟨g, 0, none⟩) (N + 1) cap ∧ g < w.heap.size ∧ g ≠ h ∧ m.vB.ownBlock = some g ∧ (∀ j, w.frozen? ⟨g, j, none⟩ = false) ∧
      ∀ i (hi : i < m.blks.length), w.cell? ⟨g, i * 3, none⟩ = some (.int .i64 (m.blks[i]).state) ∧ w.cell? ⟨g, i * 3 + 1, none⟩ = some (.int .i64 (m.blks[i]).count) ∧ w.cell? ⟨g, i * 3 + 2, none⟩ = some (m.blks[i]).vF := by
  obtain ⟨g, cap, hv, hg, hb, _, hc, hf⟩ := own_view r.blocks (by rw [hlen]; omega)
  rw [hlen] at hv
  refine ⟨g, cap, hv, hg, fun e => r.ne (x := ⟨88, 3, m.vB, m.blks.length, m.blks.flatMap HObj.cells⟩) (by simp [HeapM.rows]) (by rw [← e]; exact hb), hb, hf, fun i hi => ?_⟩
  have key : ∀ j, j < 3 → ∀ u, (m.blks[i]).cells[j]? = some u → w.cell? ⟨g, i * 3 + j, none⟩ = some u := fun j hj u hu =>
    hc _ _ (by rw [flat_get HObj.cells 3 (fun _ => rfl) m.blks i j hj, List.getElem?_eq_getElem hi]; exact hu)
  exact ⟨key 0 (by decide) _ rfl, key 1 (by decide) _ rfl, key 2 (by decide) _ rfl⟩

theorem hst_ob {m : HeapM} {i : Nat} {o : HObj} (h : m.blks[i]? = some o) : m.st.ob i = o.ob := by
  refine ob_of ?_
  show (m.blks.map HObj.ob)[i]? = _
  rw [List.getElem?_map, h]; rfl
theorem HPre.obj {h N : Nat} {w : World} {m : HeapM} (p : HPre h N w m) (b : Int) (hb : 1 ≤ b ∧ b ≤ N) : ∃ (i : Nat) (hi : i < m.blks.length), b = i ∧ i ≤ N ∧ m.st.fields b = (m.blks[i]).fs := by
  refine ⟨b.toNat, by rw [p.ok.len]; omega, by omega, by omega, ?_⟩
  unfold St.fields
  rw [hst_ob (List.getElem?_eq_getElem (by rw [p.ok.len]; omega))]; rfl

theorem sameValue_any (x y : Int × Int) (w : World) :
    Calls Tryz.prog 77 #[.agg #[.int .i64 x.1, .int .i64 x.2], .agg #[.int .i64 y.1, .int .i64 y.2]] w fun e w' => e = .returned (.bool (decide (x = y))) ∧ Below w.heap.size w w' := by
  obtain ⟨x1, x2⟩ := x
  obtain ⟨y1, y2⟩ := y
  simp only
  by_cases q1 : x1 = y1
  · subst q1
    by_cases q2 : x2 = y2
    · subst q2
      go_enter Tryz.func77, Tryz.ntmps77
      go_wp2
      go_ret
      exact ⟨ret_bool (by simp), ((Below.refl _ _).alloc (Nat.le_refl _) _).alloc (by simp) _⟩
    · have q3 : (x2 == y2) = false := by simpa using q2
      go_enter Tryz.func77, Tryz.ntmps77
      go_wp2
      go_ret
      exact ⟨ret_bool (by simp [q2]), ((Below.refl _ _).alloc (Nat.le_refl _) _).alloc (by simp) _⟩
  · have q3 : (x1 == y1) = false := by simpa using q1
    go_enter Tryz.func77, Tryz.ntmps77
    go_wp2
    go_ret
    exact ⟨ret_bool (by simp [q1]), ((Below.refl _ _).alloc (Nat.le_refl _) _).alloc (by simp) _⟩

set_option maxHeartbeats 400000 in
theorem kind_empty (h N : Nat) (w : World) (m : HeapM) (p : HPre h N w m) (hc : m.stack.length < 1) :
    Calls Tryz.prog 50 #[.pointer (some ⟨h, 0, none⟩)] w (HDid2 h N w m (m.st, 0, 3)) := by
  obtain ⟨ao, cap, cS⟩ := p.stackCell
  have K : Hid (∃ m', HStep h N w m w m' ∧ m'.st = m.st) := ⟨m, .refl p, rfl⟩
  obtain ⟨len, hlen⟩ : ∃ len, m.stack.length = len := ⟨_, rfl⟩
  rw [hlen] at hc cS
  clear p hlen
  obtain rfl : len = 0 := by omega
  go_enter Tryz.func50, Tryz.ntmps50
  go_wp2
  go_ret2
  exact ⟨rfl, K.out⟩

set_option maxHeartbeats 400000 in
theorem take_empty (h N : Nat) (w : World) (m : HeapM) (p : HPre h N w m) (hc : m.stack.length < 1) :
    Calls Tryz.prog 48 #[.pointer (some ⟨h, 0, none⟩)] w (HDid2 h N w m (m.st, 0, 3)) := by
  obtain ⟨ao, cap, cS⟩ := p.stackCell
  have K : Hid (∃ m', HStep h N w m w m' ∧ m'.st = m.st) := ⟨m, .refl p, rfl⟩
  obtain ⟨len, hlen⟩ : ∃ len, m.stack.length = len := ⟨_, rfl⟩
  rw [hlen] at hc cS
  clear p hlen
  obtain rfl : len = 0 := by omega
  go_enter Tryz.func48, Tryz.ntmps48
  go_wp2
  go_ret2
  exact ⟨rfl, K.out⟩

set_option maxHeartbeats 400000 in
theorem size_empty (h N : Nat) (w : World) (m : HeapM) (p : HPre h N w m) (hc : m.stack.length < 1) :
    Calls Tryz.prog 49 #[.pointer (some ⟨h, 0, none⟩)] w (HDid2 h N w m (m.st, 0, 3)) := by
  obtain ⟨ao, cap, cS⟩ := p.stackCell
  have K : Hid (∃ m', HStep h N w m w m' ∧ m'.st = m.st) := ⟨m, .refl p, rfl⟩
  obtain ⟨len, hlen⟩ : ∃ len, m.stack.length = len := ⟨_, rfl⟩
  rw [hlen] at hc cS
  clear p hlen
  obtain rfl : len = 0 := by omega
  go_enter Tryz.func49, Tryz.ntmps49
  go_wp2
  go_ret2
  exact ⟨rfl, K.out⟩

set_option maxHeartbeats 800000 in
theorem hkind_do (h N : Nat) (w : World) (m : HeapM) (p : HPre h N w m) : Calls Tryz.prog 50 #[.pointer (some ⟨h, 0, none⟩)] w (HDid2 h N w m (kindS m.st)) := by
  by_cases hc : m.stack.length < 1
  · have e : kindS m.st = (m.st, 0, 3) := by unfold kindS; exact if_pos hc
    rw [e]
    exact kind_empty h N w m p hc
  · have e : kindS m.st = (m.st, (m.st.down 0).1, 0) := by unfold kindS; exact if_neg hc
    rw [e]
    obtain ⟨ao, cap, cS⟩ := p.stackCell
    have DN := hdown_do p 0 (by omega)
    have D : Hid _ := DN
    have K : Hid (∀ W, Below w.heap.size w W → ∃ m', HStep h N w m W m' ∧ m'.st = m.st) := fun W hb => ⟨m, .of_below p hb, rfl⟩
    obtain ⟨len, hlen⟩ : ∃ len, m.stack.length = len := ⟨_, rfl⟩
    rw [hlen] at hc cS
    obtain ⟨x, hx⟩ : ∃ x, m.st.down 0 = x := ⟨_, rfl⟩
    rw [hx] at D ⊢
    obtain ⟨x1, x2⟩ := x
    clear p hlen e DN hx
    have hcI : ((len : Int) == 0) = false := by simp; omega
    have hcJ0 : ¬ len = 0 := by omega
    go_enter Tryz.func50, Tryz.ntmps50
    go_wp2_with fail
    refine Calls.mono D.out ?_
    rintro e w1 ⟨rfl, hb⟩
    have B : Hid (Below w.heap.size w w1) := hb
    clear hb D
    go_wp2
    go_ret2
    exact ⟨rfl, K.out _ (B.out.alloc B.out.size _)⟩

set_option maxHeartbeats 800000 in
theorem htake_do (h N : Nat) (w : World) (m : HeapM) (p : HPre h N w m) : Calls Tryz.prog 48 #[.pointer (some ⟨h, 0, none⟩)] w (HDid2 h N w m (takeS m.st)) := by
  by_cases hc : m.stack.length < 1
  · have e : takeS m.st = (m.st, 0, 3) := by unfold takeS; exact if_pos hc
    rw [e]
    exact take_empty h N w m p hc
  · obtain ⟨ao, cap, cS⟩ := p.stackCell
    have DN := hdown_do p 0 (by omega)
    have D : Hid _ := DN
    have K : Hid (∀ W, Below w.heap.size w W → ∃ m', HStep h N w m W m' ∧ m'.st = m.st) := fun W hb => ⟨m, .of_below p hb, rfl⟩
    by_cases he : (m.st.down 0).1 = 1
    · have e : takeS m.st = (m.st.pop 1, (m.st.down 0).2, 0) := by unfold takeS; exact (if_neg hc).trans (if_pos he)
      rw [e]
      have POP : Hid (∀ W, Below w.heap.size w W → Calls Tryz.prog 74 #[.pointer (some ⟨h, 0, none⟩), .int .i64 1] W fun e w' => e = .returned (.tuple #[]) ∧ (∃ m', HStep h N w m w' m' ∧ m'.st = m.st.pop 1) ∧ ∀ L ob, w.heap.size ≤ L → W.heap[L]? = some ob → w'.heap[L]? = some ob) :=
        fun W hb => (hpop_do (p.below hb) 1 (by omega) (by omega)).mono fun e w' ⟨he, v', hs⟩ => ⟨he, ⟨_, (HStep.of_below p hb).trans hs, rfl⟩, fun L ob hL hW => hturn_local p hb hW hL hs.turn⟩
      obtain ⟨len, hlen⟩ : ∃ len, m.stack.length = len := ⟨_, rfl⟩
      rw [hlen] at hc cS
      obtain ⟨x, hx⟩ : ∃ x, m.st.down 0 = x := ⟨_, rfl⟩
      rw [hx] at D he ⊢
      obtain ⟨x1, x2⟩ := x
      simp only at he
      subst he
      clear p hlen e DN hx K
      have hcI : ((len : Int) == 0) = false := by simp; omega
      have hcJ0 : ¬ len = 0 := by omega
      go_enter Tryz.func48, Tryz.ntmps48
      go_wp2_with fail
      refine Calls.mono D.out ?_
      rintro e w1 ⟨rfl, hb⟩
      have B : Hid (Below w.heap.size w w1) := hb
      clear hb D
      go_wp2_with fail
      refine Calls.mono (POP.out _ (B.out.alloc B.out.size _)) ?_
      rintro e w2 ⟨rfl, hm, hloc⟩
      have l0 := hloc w1.heap.size _ B.out.size (heap_alloc_new w1 _)
      have l1 : w2.cell? ⟨w1.heap.size, 1, none⟩ = some (.int .i64 x2) := cell_of_heap l0 rfl
      have M : Hid _ := hm
      clear hm hloc l0 POP B
      go_wp2
      go_ret2
      exact ⟨rfl, M.out⟩
    · have e : takeS m.st = (m.st, 0, 5) := by unfold takeS; exact (if_neg hc).trans (if_neg he)
      rw [e]
      obtain ⟨len, hlen⟩ : ∃ len, m.stack.length = len := ⟨_, rfl⟩
      rw [hlen] at hc cS
      obtain ⟨x, hx⟩ : ∃ x, m.st.down 0 = x := ⟨_, rfl⟩
      rw [hx] at D he
      obtain ⟨x1, x2⟩ := x
      simp only at he
      have he2 : (x1 == 1) = false := by simpa using he
      clear p hlen e DN hx
      have hcI : ((len : Int) == 0) = false := by simp; omega
      have hcJ0 : ¬ len = 0 := by omega
      go_enter Tryz.func48, Tryz.ntmps48
      go_wp2_with fail
      refine Calls.mono D.out ?_
      rintro e w1 ⟨rfl, hb⟩
      have B : Hid (Below w.heap.size w w1) := hb
      clear hb D
      go_wp2
      go_ret2
      exact ⟨rfl, K.out _ (B.out.alloc B.out.size _)⟩

set_option maxHeartbeats 800000 in
theorem hsize_do (h N : Nat) (w : World) (m : HeapM) (p : HPre h N w m) : Calls Tryz.prog 49 #[.pointer (some ⟨h, 0, none⟩)] w (HDid2 h N w m (sizeS m.st)) := by
  by_cases hc : m.stack.length < 1
  · have e : sizeS m.st = (m.st, 0, 3) := by unfold sizeS; exact if_pos hc
    rw [e]
    exact size_empty h N w m p hc
  · obtain ⟨ao, cap, cS⟩ := p.stackCell
    have DN := hdown_do p 0 (by omega)
    have D : Hid _ := DN
    have K : Hid (∀ W, Below w.heap.size w W → ∃ m', HStep h N w m W m' ∧ m'.st = m.st) := fun W hb => ⟨m, .of_below p hb, rfl⟩
    have hv := p.inv.down 0
    by_cases he : objErr (m.st.down 0) ≠ 0
    · have e : sizeS m.st = (m.st, 0, objErr (m.st.down 0)) := by unfold sizeS; exact (if_neg hc).trans (if_pos he)
      rw [e]
      obtain ⟨len, hlen⟩ : ∃ len, m.stack.length = len := ⟨_, rfl⟩
      rw [hlen] at hc cS
      obtain ⟨x, hx⟩ : ∃ x, m.st.down 0 = x := ⟨_, rfl⟩
      rw [hx] at D he ⊢
      obtain ⟨x1, x2⟩ := x
      have OB := checkRef_any (x1, x2)
      have O : Hid (∀ W, Calls Tryz.prog 78 #[.agg #[.int .i64 x1, .int .i64 x2]] W fun e w' => e = .returned (.int .i64 (objErr (x1, x2))) ∧ Below W.heap.size W w') := OB
      obtain ⟨er, her⟩ : ∃ er, objErr (x1, x2) = er := ⟨_, rfl⟩
      rw [her] at he O ⊢
      have he2 : (er == 0) = false := by simpa using he
      clear p hlen e DN hx hv OB her
      have hcI : ((len : Int) == 0) = false := by simp; omega
      have hcJ0 : ¬ len = 0 := by omega
      go_enter Tryz.func49, Tryz.ntmps49
      go_wp2_with fail
      refine Calls.mono D.out ?_
      rintro e w1 ⟨rfl, hb⟩
      have B : Hid (Below w.heap.size w w1) := hb
      clear hb D
      go_wp2_with fail
      refine Calls.mono (O.out _) ?_
      rintro e w2 ⟨rfl, hb⟩
      have B2 : Hid (Below w.heap.size w w2) := (B.out.alloc B.out.size _).trans (hb.mono (by simp; have := B.out.size; omega))
      clear hb O
      go_wp2
      go_ret2
      exact ⟨rfl, K.out _ B2.out⟩
    · have he : objErr (m.st.down 0) = 0 := by omega
      have e : sizeS m.st = (m.st, ((m.st.fields (m.st.down 0).2).length : Int), 0) := by unfold sizeS; exact (if_neg hc).trans (if_neg (by omega))
      rw [e]
      obtain ⟨i, hi, hbi, hiN, hfs⟩ := p.obj _ (ref_of hv he)
      obtain ⟨g, capB, hvB, hg, _, _, _, hobj⟩ := p.r.view p.ok.len
      have cB : w.cell? ⟨h, 5, none⟩ = some (.slice (some ⟨g, 0, none⟩) (N + 1) capB) := by rw [p.r.cell.2.2.2.1, hvB]
      have c1 := (hobj i hi).2.2
      obtain ⟨fo, fc, hvF⟩ := own_slice (p.r.fields _ (List.getElem_mem hi))
      rw [hvF] at c1
      rw [hfs]
      have hh := lt_of_heap p.r.head
      obtain ⟨fl, hfl⟩ : ∃ fl, (m.blks[i]).fs.length = fl := ⟨_, rfl⟩
      rw [hfl] at c1 ⊢
      obtain ⟨len, hlen⟩ : ∃ len, m.stack.length = len := ⟨_, rfl⟩
      rw [hlen] at hc cS
      obtain ⟨x, hx⟩ : ∃ x, m.st.down 0 = x := ⟨_, rfl⟩
      rw [hx] at D he hbi
      obtain ⟨x1, x2⟩ := x
      simp only at hbi
      subst hbi
      have OB := checkRef_any (x1, (i : Int))
      have O : Hid (∀ W, Calls Tryz.prog 78 #[.agg #[.int .i64 x1, .int .i64 i]] W fun e w' => e = .returned (.int .i64 0) ∧ Below W.heap.size W w') := fun W => (OB W).mono fun e w' ⟨h1, h2⟩ => ⟨h1.trans (ret_int he), h2⟩
      have OLD : Hid (∀ W, Below w.heap.size w W → W.cell? ⟨h, 5, none⟩ = some (.slice (some ⟨g, 0, none⟩) (N + 1) capB) ∧ W.cell? ⟨g, i * 3 + 2, none⟩ = some (.slice fo fl fc)) := fun W hb =>
        ⟨(hb.cell (p := ⟨h, 5, none⟩) hh).trans cB, (hb.cell (p := ⟨g, i * 3 + 2, none⟩) hg).trans c1⟩
      have hN := p.ok.small
      clear p hlen e DN hx hv OB he hfs hobj hvB hvF hfl cB c1
      have hcI : ((len : Int) == 0) = false := by simp; omega
      have hcJ0 : ¬ len = 0 := by omega
      have hiI : (i : Int) < (N : Int) + 1 := by omega
      go_enter Tryz.func49, Tryz.ntmps49
      go_wp2_with fail
      refine Calls.mono D.out ?_
      rintro e w1 ⟨rfl, hb⟩
      have B : Hid (Below w.heap.size w w1) := hb
      clear hb D
      go_wp2_with fail
      refine Calls.mono (O.out _) ?_
      rintro e w2 ⟨rfl, hb⟩
      have B2 : Hid (Below w.heap.size w w2) := (B.out.alloc B.out.size _).trans (hb.mono (by simp; have := B.out.size; omega))
      have l1 : w2.cell? ⟨w1.heap.size, 1, none⟩ = some (.int .i64 i) := cell_of_heap (boxed' hb) rfl
      obtain ⟨d0, d1⟩ := OLD.out w2 B2.out
      clear hb O
      go_wp2
      go_quiet (fail)
      go_wp2
      go_ret2
      exact ⟨rfl, K.out _ (below_drewN B2.out _)⟩


end Go.Proofs.YteekoiljkklnmaaGreatDoor

/- OUR OWN. The program's heap: same, checkField, load, store. -/
namespace Go.Proofs.YteekoiljkklnmaaGreatDoor
open Go.RowKit
set_option linter.unusedVariables false
set_option linter.unusedSimpArgs false

set_option maxHeartbeats 1000000 in
theorem hsame_do (h N : Nat) (w : World) (m : HeapM) (p : HPre h N w m) : Calls Tryz.prog 47 #[.pointer (some ⟨h, 0, none⟩)] w (HDid2 h N w m (sameS m.st)) := by
  obtain ⟨ao, cap, cS⟩ := p.stackCell
  have hl := p.ok.stack
  by_cases hc : m.stack.length < 2
  · have e : sameS m.st = (m.st, 0, 3) := by unfold sameS; exact if_pos hc
    rw [e]
    have K : Hid (∃ m', HStep h N w m w m' ∧ m'.st = m.st) := ⟨m, .refl p, rfl⟩
    obtain ⟨len, hlen⟩ : ∃ len, m.stack.length = len := ⟨_, rfl⟩
    rw [hlen] at hc cS hl
    clear p hlen e
    have hcI : (len : Int) < 2 := by omega
    go_enter Tryz.func47, Tryz.ntmps47
    go_wp2
    go_ret2
    exact ⟨rfl, K.out⟩
  · have D0 : Hid _ := hdown_do p 0 (by omega)
    have D1 : Hid (∀ W, Below w.heap.size w W → Calls Tryz.prog 73 #[.pointer (some ⟨h, 0, none⟩), .int .i64 1] W fun e w' => e = .returned (.agg #[.int .i64 (m.st.down 1).1, .int .i64 (m.st.down 1).2]) ∧ Below W.heap.size W w') := fun W hb => hdown_do (p.below hb) 1 (by show 1 < m.stack.length; omega)
    have PO : Hid (∀ W, Below w.heap.size w W → Calls Tryz.prog 74 #[.pointer (some ⟨h, 0, none⟩), .int .i64 2] W fun e w' => e = .returned (.tuple #[]) ∧ (∀ W2, Below w'.heap.size w' W2 → ∃ m', HStep h N w m W2 m' ∧ m'.st = m.st.pop 2) ∧ ∀ L ob, w.heap.size ≤ L → W.heap[L]? = some ob → w'.heap[L]? = some ob) :=
      fun W hb => (hpop_do (p.below hb) 2 (by omega) (by omega)).mono fun e w' ⟨he, v', hs⟩ => ⟨he, fun W2 hb2 => ⟨_, ((HStep.of_below p hb).trans hs).after hb2, rfl⟩, fun L ob hL hW => hturn_local p hb hW hL hs.turn⟩
    obtain ⟨x, hx⟩ : ∃ x, m.st.down 0 = x := ⟨_, rfl⟩
    obtain ⟨y, hy⟩ : ∃ y, m.st.down 1 = y := ⟨_, rfl⟩
    have e : sameS m.st = (m.st.pop 2, if x = y then 1 else 0, 0) := by
      unfold sameS
      refine (if_neg hc).trans ?_
      rw [hx, hy]
      by_cases hxy : x = y
      · rw [if_pos hxy, if_pos hxy]
      · rw [if_neg hxy, if_neg hxy]
    rw [e]
    rw [hx] at D0
    rw [hy] at D1
    obtain ⟨ans, hans⟩ : ∃ a : Int, (if x = y then (1 : Int) else 0) = a := ⟨_, rfl⟩
    rw [hans]
    have HA : Hid ((if x = y then (1 : Int) else 0) = ans) := hans
    have SV : Hid (∀ W, Calls Tryz.prog 77 #[.agg #[.int .i64 x.1, .int .i64 x.2], .agg #[.int .i64 y.1, .int .i64 y.2]] W fun e w' => e = .returned (.bool (decide (x = y))) ∧ Below W.heap.size W w') := sameValue_any x y
    obtain ⟨len, hlen⟩ : ∃ len, m.stack.length = len := ⟨_, rfl⟩
    rw [hlen] at hc cS hl
    obtain ⟨sv, hsv⟩ : ∃ b : Bool, decide (x = y) = b := ⟨_, rfl⟩
    rw [hsv] at SV
    have HS : Hid (decide (x = y) = sv) := hsv
    clear p hlen e hx hy hans hsv
    have hcJ : ¬ (len : Int) < 2 := by omega
    obtain ⟨x1, x2⟩ := x
    obtain ⟨y1, y2⟩ := y
    go_enter Tryz.func47, Tryz.ntmps47
    go_wp2_with fail
    refine Calls.mono D0.out ?_
    rintro e w1 ⟨rfl, hb⟩
    have B : Hid (Below w.heap.size w w1) := hb
    clear hb D0
    go_wp2_with fail
    refine Calls.mono (D1.out _ (B.out.alloc B.out.size _)) ?_
    rintro e w2 ⟨rfl, hb⟩
    have B2 : Hid (Below w.heap.size w w2 ∧ w1.heap.size + 1 ≤ w2.heap.size ∧ w2.heap[w1.heap.size]? = some (.cells #[.int .i64 x1, .int .i64 x2] 81)) := ⟨(B.out.alloc B.out.size _).trans (hb.mono (by simp; have := B.out.size; omega)), by have := hb.size; simpa using this, boxed' hb⟩
    clear hb D1
    go_wp2_with fail
    refine Calls.mono (PO.out _ (B2.out.1.alloc B2.out.1.size _)) ?_
    rintro e w3 ⟨rfl, hm, hloc⟩
    have l0 := hloc w1.heap.size _ B.out.size (by rw [hao (by have := B2.out.2.1; omega)]; exact B2.out.2.2)
    have k0 := hloc w2.heap.size _ B2.out.1.size (heap_alloc_new w2 _)
    have l1 : w3.cell? ⟨w1.heap.size, 0, none⟩ = some (.int .i64 x1) := cell_of_heap l0 rfl
    have l2 : w3.cell? ⟨w1.heap.size, 1, none⟩ = some (.int .i64 x2) := cell_of_heap l0 rfl
    have k1 : w3.cell? ⟨w2.heap.size, 0, none⟩ = some (.int .i64 y1) := cell_of_heap k0 rfl
    have k2 : w3.cell? ⟨w2.heap.size, 1, none⟩ = some (.int .i64 y2) := cell_of_heap k0 rfl
    have M : Hid _ := hm
    clear hm hloc l0 k0 PO B B2
    go_wp2_with fail
    refine Calls.mono (SV.out _) ?_
    rintro e w4 ⟨rfl, hb⟩
    have MM : Hid (∃ m', HStep h N w m w4 m' ∧ m'.st = m.st.pop 2) := M.out _ hb
    clear hb M SV l1 l2 k1 k2
    cases sv with
    | true =>
      have hxy : ((x1, x2) : Int × Int) = (y1, y2) := by simpa using HS.out
      have ha := HA.out
      rw [if_pos hxy] at ha
      subst ha
      clear hxy HA HS
      go_wp2
      go_ret2
      exact ⟨rfl, MM.out⟩
    | false =>
      have hxy : ¬ ((x1, x2) : Int × Int) = (y1, y2) := by simpa using HS.out
      have ha := HA.out
      rw [if_neg hxy] at ha
      subst ha
      clear hxy HA HS
      go_wp2
      go_ret2
      exact ⟨rfl, MM.out⟩

/-- why there is no field n in what v leads to -/
def fieldErr (s : St) (v : Int × Int) (n : Int) : Int := if objErr v ≠ 0 then objErr v else if n < 0 ∨ ((s.fields v.2).length : Int) ≤ n then 6 else 0

set_option maxHeartbeats 1000000 in
theorem checkField_any (h N : Nat) (w : World) (m : HeapM) (p : HPre h N w m) (v : Int × Int) (n : Int) (hv : okV N v) :
    Calls Tryz.prog 75 #[.pointer (some ⟨h, 0, none⟩), .agg #[.int .i64 v.1, .int .i64 v.2], .int .i64 n] w fun e w' => e = .returned (.int .i64 (fieldErr m.st v n)) ∧ Below w.heap.size w w' := by
  by_cases he : objErr v ≠ 0
  · have e : fieldErr m.st v n = objErr v := by unfold fieldErr; exact if_pos he
    rw [e]
    have O : Hid (∀ W, Calls Tryz.prog 78 #[.agg #[.int .i64 v.1, .int .i64 v.2]] W fun e w' => e = .returned (.int .i64 (objErr v)) ∧ Below W.heap.size W w') := checkRef_any v
    obtain ⟨v1, v2⟩ := v
    obtain ⟨er, her⟩ : ∃ er, objErr (v1, v2) = er := ⟨_, rfl⟩
    rw [her] at he O ⊢
    have he2 : (er == 0) = false := by simpa using he
    simp only at *
    clear p e hv her
    go_enter Tryz.func75, Tryz.ntmps75
    go_wp2_with fail
    refine Calls.mono (O.out _) ?_
    rintro e w1 ⟨rfl, hb⟩
    have B : Hid (Below w.heap.size w w1) := ((Below.refl _ _).alloc (Nat.le_refl _) _).trans (hb.mono (by simp))
    clear hb O
    go_wp2
    go_ret
    exact ⟨rfl, B.out⟩
  have he : objErr v = 0 := by omega
  obtain ⟨i, hi, hbi, hiN, hfs⟩ := p.obj _ (ref_of hv he)
  obtain ⟨g, capB, hvB, hg, _, _, _, hobj⟩ := p.r.view p.ok.len
  have cB : w.cell? ⟨h, 5, none⟩ = some (.slice (some ⟨g, 0, none⟩) (N + 1) capB) := by rw [p.r.cell.2.2.2.1, hvB]
  have c1 := (hobj i hi).2.2
  obtain ⟨fo, fc, hvF⟩ := own_slice (p.r.fields _ (List.getElem_mem hi))
  rw [hvF] at c1
  have hh := lt_of_heap p.r.head
  have hN := p.ok.small
  have hiI : (i : Int) < (N : Int) + 1 := by omega
  have e : fieldErr m.st v n = if n < 0 ∨ ((m.blks[i]).fs.length : Int) ≤ n then 6 else 0 := by unfold fieldErr; rw [if_neg (by omega), hfs]
  rw [e]
  obtain ⟨fl, hfl⟩ : ∃ fl, (m.blks[i]).fs.length = fl := ⟨_, rfl⟩
  rw [hfl] at c1 ⊢
  obtain ⟨v1, v2⟩ := v
  simp only at hbi
  subst hbi
  have O : Hid (∀ W, Calls Tryz.prog 78 #[.agg #[.int .i64 v1, .int .i64 i]] W fun e w' => e = .returned (.int .i64 0) ∧ Below W.heap.size W w') := fun W => (checkRef_any (v1, (i : Int)) W).mono fun e w' ⟨h1, h2⟩ => ⟨h1.trans (ret_int he), h2⟩
  have OLD : Hid (∀ W, Below w.heap.size w W → W.cell? ⟨h, 5, none⟩ = some (.slice (some ⟨g, 0, none⟩) (N + 1) capB) ∧ W.cell? ⟨g, i * 3 + 2, none⟩ = some (.slice fo fl fc)) := fun W hb =>
    ⟨(hb.cell (p := ⟨h, 5, none⟩) hh).trans cB, (hb.cell (p := ⟨g, i * 3 + 2, none⟩) hg).trans c1⟩
  clear p e hv he hfs hobj hvB hvF hfl cB c1
  by_cases hn0 : n < 0
  · rw [if_pos (.inl hn0)]
    have hd : decide (n < 0) = true := by simpa using hn0
    go_enter Tryz.func75, Tryz.ntmps75
    go_wp2_with fail
    refine Calls.mono (O.out _) ?_
    rintro e w1 ⟨rfl, hb⟩
    have B : Hid (Below w.heap.size w w1) := ((Below.refl _ _).alloc (Nat.le_refl _) _).trans (hb.mono (by simp))
    have l1 : w1.cell? ⟨w.heap.size, 1, none⟩ = some (.int .i64 i) := cell_of_heap (boxed' hb) rfl
    obtain ⟨d0, d1⟩ := OLD.out w1 B.out
    clear hb O
    go_wp2_with fail
    go_quiet (fail)
    go_wp2
    go_ret
    exact ⟨rfl, below_drewN B.out _⟩
  · have hd : decide (n < 0) = false := by simpa using hn0
    by_cases hnl : (fl : Int) ≤ n
    · rw [if_pos (.inr hnl)]
      have hd2 : decide ((fl : Int) ≤ n) = true := by simpa using hnl
      go_enter Tryz.func75, Tryz.ntmps75
      go_wp2_with fail
      refine Calls.mono (O.out _) ?_
      rintro e w1 ⟨rfl, hb⟩
      have B : Hid (Below w.heap.size w w1) := ((Below.refl _ _).alloc (Nat.le_refl _) _).trans (hb.mono (by simp))
      have l1 : w1.cell? ⟨w.heap.size, 1, none⟩ = some (.int .i64 i) := cell_of_heap (boxed' hb) rfl
      obtain ⟨d0, d1⟩ := OLD.out w1 B.out
      clear hb O
      go_wp2_with fail
      go_quiet (fail)
      go_wp2
      go_ret
      exact ⟨rfl, below_drewN B.out _⟩
    · rw [if_neg (by omega)]
      have hd2 : decide ((fl : Int) ≤ n) = false := by simpa using hnl
      go_enter Tryz.func75, Tryz.ntmps75
      go_wp2_with fail
      refine Calls.mono (O.out _) ?_
      rintro e w1 ⟨rfl, hb⟩
      have B : Hid (Below w.heap.size w w1) := ((Below.refl _ _).alloc (Nat.le_refl _) _).trans (hb.mono (by simp))
      have l1 : w1.cell? ⟨w.heap.size, 1, none⟩ = some (.int .i64 i) := cell_of_heap (boxed' hb) rfl
      obtain ⟨d0, d1⟩ := OLD.out w1 B.out
      clear hb O
      go_wp2_with fail
      go_quiet (fail)
      go_wp2
      go_ret
      exact ⟨rfl, below_drewN B.out _⟩

end Go.Proofs.YteekoiljkklnmaaGreatDoor

/- OUR OWN. The program's heap: load, store. -/
namespace Go.Proofs.YteekoiljkklnmaaGreatDoor
open Go.RowKit
set_option linter.unusedVariables false
set_option linter.unusedSimpArgs false

theorem loadS_err {d : Int} {s : St} {n : Int} (hc : ¬ s.stack.length < 1) (he : fieldErr s (s.down 0) n ≠ 0) : loadS d s n = (s, 0, fieldErr s (s.down 0) n) := by
  unfold loadS
  rw [if_neg hc]
  unfold fieldErr at he ⊢
  by_cases h1 : objErr (s.down 0) ≠ 0
  · rw [if_pos h1, if_pos h1]
  · rw [if_neg h1] at he
    rw [if_neg h1, if_neg h1]
    by_cases h2 : n < 0 ∨ ((s.fields (s.down 0).2).length : Int) ≤ n
    · rw [if_pos h2, if_pos h2]
    · rw [if_neg h2] at he; exact absurd rfl he
theorem field_ok {s : St} {v : Int × Int} {n : Int} (he : fieldErr s v n = 0) : objErr v = 0 ∧ ¬ n < 0 ∧ ¬ ((s.fields v.2).length : Int) ≤ n := by
  unfold fieldErr at he
  by_cases h1 : objErr v ≠ 0
  · rw [if_pos h1] at he; exact absurd he h1
  · rw [if_neg h1] at he
    by_cases h2 : n < 0 ∨ ((s.fields v.2).length : Int) ≤ n
    · rw [if_pos h2] at he; cases he
    · exact ⟨by omega, fun e => h2 (.inl e), fun e => h2 (.inr e)⟩
theorem storeS_err {c : Cf} {s : St} {n : Int} (hc : ¬ s.stack.length < 2) (he : fieldErr s (s.down 1) n ≠ 0) : storeS c s n = (s, 0, fieldErr s (s.down 1) n) := by
  unfold storeS
  rw [if_neg hc]
  unfold fieldErr at he ⊢
  by_cases h1 : objErr (s.down 1) ≠ 0
  · rw [if_pos h1, if_pos h1]
  · rw [if_neg h1] at he
    rw [if_neg h1, if_neg h1]
    by_cases h2 : n < 0 ∨ ((s.fields (s.down 1).2).length : Int) ≤ n
    · rw [if_pos h2, if_pos h2]
    · rw [if_neg h2] at he; exact absurd rfl he

theorem HeapAt.fieldView {w : World} {h : Nat} {m : HeapM} (r : HeapAt w h m) (i : Nat) (hi : i < m.blks.length) (hs : 0 < (m.blks[i]).fs.length) :
    ∃ g cap, (m.blks[i]).vF = .slice (some ⟨g, 0, none⟩) (m.blks[i]).fs.length cap ∧ g < w.heap.size ∧ g ≠ h ∧ (m.blks[i]).vF.ownBlock = some g ∧ (∀ j, w.frozen? ⟨g, j, none⟩ = false) ∧
      ∀ j (hj : j < (m.blks[i]).fs.length), w.cell? ⟨g, j * 2, none⟩ = some (.int .i64 ((m.blks[i]).fs[j]).1) ∧ w.cell? ⟨g, j * 2 + 1, none⟩ = some (.int .i64 ((m.blks[i]).fs[j]).2) := by
  obtain ⟨g, cap, hv, hg, hb, hc, hcell, hf⟩ := own_view (r.fields _ (List.getElem_mem hi)) hs
  refine ⟨g, cap, hv, hg, fun e => r.ne (x := (m.blks[i]).row) (by simp only [HeapM.rows, List.mem_cons, List.mem_map]; exact .inr (.inr (.inr (.inr ⟨_, List.getElem_mem hi, rfl⟩)))) (by rw [← e]; exact hb), hb, hf, fun j hj => ⟨?_, ?_⟩⟩
  · exact hcell _ _ (by have := flat_get valCells 2 (fun _ => rfl) (m.blks[i]).fs j 0 (by decide); simpa [hj, valCells] using this)
  · exact hcell _ _ (by have := flat_get valCells 2 (fun _ => rfl) (m.blks[i]).fs j 1 (by decide); simpa [hj, valCells] using this)

/-- the head's cell of the blocks, the object i's cell of its fields, the field k -/
theorem HPre.facts {h N : Nat} {w : World} {m : HeapM} (p : HPre h N w m) (i : Nat) (o : HObj) (hi : m.blks[i]? = some o) (k : Nat) (hk : k < o.fs.length) :
    ∃ g capB fg fc, m.vB = .slice (some ⟨g, 0, none⟩) (N + 1) capB ∧ o.vF = .slice (some ⟨fg, 0, none⟩) o.fs.length fc ∧ g < w.heap.size ∧ fg < w.heap.size ∧ w.cell? ⟨h, 5, none⟩ = some (.slice (some ⟨g, 0, none⟩) (N + 1) capB) ∧
      w.cell? ⟨g, i * 3 + 2, none⟩ = some (.slice (some ⟨fg, 0, none⟩) o.fs.length fc) ∧ w.cell? ⟨fg, k * 2, none⟩ = some (.int .i64 (o.fs[k]).1) ∧ w.cell? ⟨fg, k * 2 + 1, none⟩ = some (.int .i64 (o.fs[k]).2) ∧
      w.frozen? ⟨fg, k * 2, none⟩ = false ∧ w.frozen? ⟨fg, k * 2 + 1, none⟩ = false := by
  obtain ⟨g, capB, hvB, hg, _, _, _, hobj⟩ := p.r.view p.ok.len
  have hil : i < m.blks.length := (List.getElem?_eq_some_iff.1 hi).1
  have hio : m.blks[i] = o := (List.getElem?_eq_some_iff.1 hi).2
  obtain ⟨fg, fc, hvF, hfg, _, _, hfz, hfc⟩ := p.r.fieldView i hil (by rw [hio]; omega)
  have c1 := (hobj i hil).2.2
  rw [hvF] at c1
  simp only [hio] at *
  exact ⟨g, capB, fg, fc, hvB, hvF, hg, hfg, by rw [p.r.cell.2.2.2.1, hvB], c1, (hfc k hk).1, (hfc k hk).2, hfz _, hfz _⟩

set_option maxHeartbeats 1600000 in
theorem hload_do (h N : Nat) (w : World) (m : HeapM) (n : Int) (p : HPre h N w m) : Calls Tryz.prog 45 #[.pointer (some ⟨h, 0, none⟩), .int .i64 n] w (HDid h N w m (loadS m.room m.st n)) := by
  obtain ⟨ao, cap, cS⟩ := p.stackCell
  by_cases hc : m.stack.length < 1
  · have e : loadS m.room m.st n = (m.st, 0, 3) := by unfold loadS; exact if_pos hc
    rw [e]
    have K : Hid (∃ m', HStep h N w m w m' ∧ m'.st = m.st) := ⟨m, .refl p, rfl⟩
    obtain ⟨len, hlen⟩ : ∃ len, m.stack.length = len := ⟨_, rfl⟩
    rw [hlen] at hc cS
    clear p hlen e
    obtain rfl : len = 0 := by omega
    go_enter Tryz.func45, Tryz.ntmps45
    go_wp2
    go_ret
    exact ⟨rfl, K.out⟩
  have D : Hid _ := hdown_do p 0 (by omega)
  have K : Hid (∀ W, Below w.heap.size w W → ∃ m', HStep h N w m W m' ∧ m'.st = m.st) := fun W hb => ⟨m, .of_below p hb, rfl⟩
  have hv := p.inv.down 0
  have CK : Hid (∀ W, Below w.heap.size w W → Calls Tryz.prog 75 #[.pointer (some ⟨h, 0, none⟩), .agg #[.int .i64 (m.st.down 0).1, .int .i64 (m.st.down 0).2], .int .i64 n] W fun e w' => e = .returned (.int .i64 (fieldErr m.st (m.st.down 0) n)) ∧ Below W.heap.size W w') := fun W hb => checkField_any h N W m (p.below hb) _ n hv
  have hcI0 : ¬ m.stack.length = 0 := by omega
  have hcI1 : ((m.stack.length : Int) == 0) = false := by rw [beq_eq_false_iff_ne]; omega
  by_cases he : fieldErr m.st (m.st.down 0) n ≠ 0
  · rw [loadS_err hc he]
    obtain ⟨len, hlen⟩ : ∃ len, m.stack.length = len := ⟨_, rfl⟩
    rw [hlen] at cS hcI0 hcI1
    obtain ⟨er, her⟩ : ∃ er, fieldErr m.st (m.st.down 0) n = er := ⟨_, rfl⟩
    rw [her] at he CK ⊢
    obtain ⟨x, hx⟩ : ∃ x, m.st.down 0 = x := ⟨_, rfl⟩
    rw [hx] at D CK
    obtain ⟨x1, x2⟩ := x
    have he2 : (er == 0) = false := by simpa using he
    clear p hlen hx hv her hc
    go_enter Tryz.func45, Tryz.ntmps45
    go_wp2_with fail
    refine Calls.mono D.out ?_
    rintro e w1 ⟨rfl, hb⟩
    have B : Hid (Below w.heap.size w w1) := hb
    clear hb D
    go_wp2_with fail
    refine Calls.mono (CK.out _ (B.out.alloc B.out.size _)) ?_
    rintro e w2 ⟨rfl, hb⟩
    have B2 : Hid (Below w.heap.size w w2) := (B.out.alloc B.out.size _).trans (hb.mono (by simp; have := B.out.size; omega))
    clear hb CK
    go_wp2
    go_ret
    exact ⟨rfl, K.out _ B2.out⟩
  have he : fieldErr m.st (m.st.down 0) n = 0 := by omega
  obtain ⟨ho, hn0, hnl⟩ := field_ok he
  obtain ⟨i, hi, hbi, hiN, hfs⟩ := p.obj _ (ref_of hv ho)
  have hio : m.blks[i]? = some m.blks[i] := List.getElem?_eq_getElem hi
  obtain ⟨k, rfl⟩ : ∃ k : Nat, n = k := ⟨n.toNat, by omega⟩
  have hk : k < (m.blks[i]).fs.length := by rw [hfs] at hnl; omega
  obtain ⟨g, capB, fg, fc, hvB, hvF, hg, hfg, cB, c1, y0, y1, _, _⟩ := p.facts i _ hio k hk
  have e : loadS m.room m.st k = pushA m.room (m.st.pop 1) ((m.blks[i]).fs[k]) := by
    unfold loadS
    refine (if_neg hc).trans ((if_neg (by omega)).trans ((if_neg (by omega)).trans ?_))
    rw [hfs, Int.toNat_natCast, List.getD_eq_getElem?_getD, List.getElem?_eq_getElem hk]
    rfl
  rw [e]
  have hN := p.ok.small
  have hiI : (i : Int) < (N : Int) + 1 := by omega
  have hfl4 := p.ok.fields _ (List.getElem_mem hi)
  have AFTER : Hid (∀ W, Below w.heap.size w W → Calls Tryz.prog 74 #[.pointer (some ⟨h, 0, none⟩), .int .i64 1] W fun e w' => e = .returned (.tuple #[]) ∧
      (w'.cell? ⟨h, 5, none⟩ = some (.slice (some ⟨g, 0, none⟩) (N + 1) capB) ∧ w'.cell? ⟨g, i * 3 + 2, none⟩ = some (.slice (some ⟨fg, 0, none⟩) (m.blks[i]).fs.length fc) ∧ w'.cell? ⟨fg, k * 2, none⟩ = some (.int .i64 ((m.blks[i]).fs[k]).1) ∧ w'.cell? ⟨fg, k * 2 + 1, none⟩ = some (.int .i64 ((m.blks[i]).fs[k]).2)) ∧
      (∀ W2, Below w'.heap.size w' W2 → Calls Tryz.prog 39 #[.pointer (some ⟨h, 0, none⟩), .agg #[.int .i64 ((m.blks[i]).fs[k]).1, .int .i64 ((m.blks[i]).fs[k]).2]] W2 (fun e w'' => HDid h N w m (pushA m.room (m.st.pop 1) ((m.blks[i]).fs[k])) e w'')) ∧
      ∀ L ob, w.heap.size ≤ L → W.heap[L]? = some ob → w'.heap[L]? = some ob) := by
    intro W hb
    refine (hpop_do (p.below hb) 1 (by omega) (by omega)).mono ?_
    rintro e w' ⟨he, v', hs⟩
    have s1 : HStep h N w m w' _ := (HStep.of_below p hb).trans hs
    have p1 : HPre h N w' _ := s1.pre p (by exact (p.inv.pop 1))
    obtain ⟨g', capB', fg', fc', hvB', hvF', _, _, cB', c1', y0', y1', _, _⟩ := p1.facts i _ hio k hk
    have e1 : (Value.slice (some ⟨g', 0, none⟩) (N + 1) capB') = .slice (some ⟨g, 0, none⟩) (N + 1) capB := hvB'.symm.trans hvB
    simp at e1
    obtain ⟨rfl, rfl⟩ := e1
    have e2 : (Value.slice (some ⟨fg', 0, none⟩) (m.blks[i]).fs.length fc') = .slice (some ⟨fg, 0, none⟩) (m.blks[i]).fs.length fc := hvF'.symm.trans hvF
    simp at e2
    obtain ⟨rfl, rfl⟩ := e2
    refine ⟨he, ⟨cB', c1', y0', y1'⟩, fun W2 hb2 => ?_, fun L ob hL hW => hturn_local p hb hW hL hs.turn⟩
    exact (hpush_do (p1.below hb2) _).mono fun e w'' ⟨he, m', hs', hm⟩ => ⟨he, m', s1.trans ((HStep.of_below p1 hb2).trans hs'), hm⟩
  have hkl := hk
  obtain ⟨y, hy⟩ : ∃ y, (m.blks[i]).fs[k] = y := ⟨_, rfl⟩
  rw [hy] at AFTER ⊢
  clear hy
  obtain ⟨fl, hfl⟩ : ∃ fl, (m.blks[i]).fs.length = fl := ⟨_, rfl⟩
  rw [hfl] at AFTER hkl hfl4
  obtain ⟨len, hlen⟩ : ∃ len, m.stack.length = len := ⟨_, rfl⟩
  rw [hlen] at cS hcI0 hcI1
  rw [he] at CK
  obtain ⟨x, hx⟩ : ∃ x, m.st.down 0 = x := ⟨_, rfl⟩
  rw [hx] at D CK hbi
  obtain ⟨x1, x2⟩ := x
  simp only at hbi
  subst hbi
  obtain ⟨y1', y2'⟩ := y
  have hkI : (k : Int) < fl := by omega
  clear p hlen e hx hv he hfs hvB hvF hfl cB c1 hk y0 y1 K hc hn0 hnl ho hio
  go_enter Tryz.func45, Tryz.ntmps45
  go_wp2_with fail
  refine Calls.mono D.out ?_
  rintro e w1 ⟨rfl, hb⟩
  have B : Hid (Below w.heap.size w w1) := hb
  clear hb D
  go_wp2_with fail
  refine Calls.mono (CK.out _ (B.out.alloc B.out.size _)) ?_
  rintro e w2 ⟨rfl, hb⟩
  have B2 : Hid (Below w.heap.size w w2) := (B.out.alloc B.out.size _).trans (hb.mono (by simp; have := B.out.size; omega))
  have L1 : Hid (w2.heap[w1.heap.size]? = some (.cells #[.int .i64 x1, .int .i64 i] 81)) := boxed' hb
  clear hb CK
  go_wp2_with fail
  refine Calls.mono (AFTER.out _ B2.out) ?_
  rintro e w3 ⟨rfl, ⟨a0, a1, a2, a3⟩, hpush, hloc⟩
  have l3 : w3.cell? ⟨w1.heap.size, 1, none⟩ = some (.int .i64 i) := cell_of_heap (hloc _ _ B.out.size L1.out) rfl
  have PU : Hid _ := hpush
  clear hpush hloc AFTER L1 B B2
  go_wp2_with fail
  go_region_with (go_at_call 39; refine Calls.mono (PU.out _ (Below.refl _ _).drew) ?_; rintro e w4 ⟨rfl, hm⟩; have M : Hid _ := hm; clear hm)
  all_goals go_wp2
  all_goals go_ret
  all_goals exact ⟨rfl, M.out⟩

end Go.Proofs.YteekoiljkklnmaaGreatDoor

/- OUR OWN. The program's heap and the document's state: what is kept; what waits, what has an extra, how many. -/
namespace Go.Proofs.YteekoiljkklnmaaGreatDoor
open Go.RowKit
set_option linter.unusedVariables false
set_option linter.unusedSimpArgs false

/-- The program's heap m is the state s; the count of 'but' is one too great (a field that is let go is still counted). -/
structure HSb (but : Int) (m : HeapM) (s : St) (c : Cf) (N : Nat) : Prop where
  st : m.st = s
  deep : m.room = c.deep
  zero : m.zero = c.zero
  over : m.over = c.over
  state : ∀ o ∈ m.blks, o.state = 0 ∨ o.state = 1 ∨ o.state = 2 ∨ o.state = 3
  cnt : ∀ (i : Nat) (o : HObj), m.blks[i]? = some o → o.state = 1 ∨ o.state = 3 → o.count = s.count i + if (i : Int) = but then 1 else 0
def HS (m : HeapM) (s : St) (c : Cf) (N : Nat) : Prop := HSb 0 m s c N

structure HB (but : Int) (h : Nat) (w : World) (m : HeapM) (s : St) (c : Cf) (N : Nat) : Prop where
  r : HeapAt w h m
  hs : HSb but m s c N
  good : s.Good N
  cf : CfOk c
  small : N ≤ 99
  stack : s.stack.length ≤ 16
  globals : s.globals.length ≤ 8

theorem HB.below {but : Int} {h : Nat} {w w' : World} {m : HeapM} {s : St} {c : Cf} {N : Nat} (p : HB but h w m s c N) (hb : Below w.heap.size w w') : HB but h w' m s c N :=
  ⟨(HTurn.of_below p.r hb).here, p.hs, p.good, p.cf, p.small, p.stack, p.globals⟩
theorem HB.len {but : Int} {h : Nat} {w : World} {m : HeapM} {s : St} {c : Cf} {N : Nat} (p : HB but h w m s c N) : m.blks.length = N + 1 := by
  have := p.good.len
  rw [← p.hs.st] at this
  simpa [HeapM.st] using this
theorem HB.mstack {but : Int} {h : Nat} {w : World} {m : HeapM} {s : St} {c : Cf} {N : Nat} (p : HB but h w m s c N) : m.stack = s.stack := by rw [← p.hs.st]; rfl
theorem HB.mglobals {but : Int} {h : Nat} {w : World} {m : HeapM} {s : St} {c : Cf} {N : Nat} (p : HB but h w m s c N) : m.globals = s.globals := by rw [← p.hs.st]; rfl
theorem HB.mqueue {but : Int} {h : Nat} {w : World} {m : HeapM} {s : St} {c : Cf} {N : Nat} (p : HB but h w m s c N) : m.queue = s.queue := by rw [← p.hs.st]; rfl
theorem HB.ob {but : Int} {h : Nat} {w : World} {m : HeapM} {s : St} {c : Cf} {N : Nat} (p : HB but h w m s c N) {i : Nat} {o : HObj} (hi : m.blks[i]? = some o) : s.ob i = o.ob := by
  rw [← p.hs.st]; exact hst_ob hi
theorem HB.pre {h : Nat} {w : World} {m : HeapM} {s : St} {c : Cf} {N : Nat} {but : Int} (p : HB but h w m s c N) : HPre h N w m := by
  refine ⟨p.r, ⟨p.len, p.small, fun o ho => ?_, by rw [p.mstack]; exact p.stack, by rw [p.mglobals]; exact p.globals⟩, by rw [p.hs.st]; exact p.good.inv, by rw [p.hs.deep]; exact p.cf.deep.2⟩
  obtain ⟨i, hi⟩ := List.getElem?_of_mem ho
  have := p.good.four i
  rw [p.ob hi] at this
  exact this

/-- of a block of state and count: waits, has an extra -/
def HObj.waits (o : HObj) : Bool := decide (o.state = 1) && decide (o.count = 0)
def HObj.extra (o : HObj) : Bool := decide (o.state = 1) && decide (7 < o.count)
theorem HSb.waits {but : Int} {m : HeapM} {s : St} {c : Cf} {N : Nat} (p : HSb but m s c N) {i : Nat} {o : HObj} (hi : m.blks[i]? = some o) : o.waits = s.others but i := by
  have ho : s.ob i = o.ob := by rw [← p.st]; exact hst_ob hi
  unfold HObj.waits St.others St.waits
  rw [ho]
  unfold HObj.ob
  simp only
  rcases p.state o (List.mem_of_getElem? hi) with e | e | e | e
  · simp [e]
  · have hc := p.cnt i o hi (.inl e)
    simp only [e]
    by_cases hb : (i : Int) = but
    · rw [if_pos hb] at hc
      have : ¬ o.count = 0 := by omega
      simp [this, hb]
    · rw [if_neg hb] at hc
      have : (o.count = 0) ↔ (s.count i = 0) := by omega
      simp [this, hb]
  · simp [e]
  · simp [e]
theorem HSb.extra {m : HeapM} {s : St} {c : Cf} {N : Nat} (p : HSb 0 m s c N) (g : s.Good N) {i : Nat} {o : HObj} (hi : m.blks[i]? = some o) : o.extra = s.extra i := by
  have ho : s.ob i = o.ob := by rw [← p.st]; exact hst_ob hi
  have hob := ho
  unfold HObj.extra St.extra
  rw [ho]
  unfold HObj.ob
  simp only
  rcases p.state o (List.mem_of_getElem? hi) with e | e | e | e
  · simp [e]
  · have hc := p.cnt i o hi (.inl e)
    have hz : ¬ (i : Int) = 0 := by
      intro h0
      have h0 : i = 0 := by omega
      have := g.zero
      rw [← h0, hob] at this
      have := congrArg Ob.here this
      simp [HObj.ob, e, Ob.free] at this
    rw [if_neg hz] at hc
    have : (7 < o.count) ↔ (7 < s.count i) := by omega
    simp [e, this]
  · simp [e]
  · have hq : (s.ob i).queued = true := by rw [hob]; simp [HObj.ob, e]
    have : s.count i = 0 := g.count_gone fun ha => by have := ha.2; rw [hq] at this; cases this
    simp [e, this]

theorem waits_fn (st ct : Int) (v : Value) (w : World) :
    Calls Tryz.prog 84 #[.agg #[.int .i64 st, .int .i64 ct, v]] w fun e w' => e = .returned (.bool (decide (st = 1) && decide (ct = 0))) ∧ Below w.heap.size w w' := by
  by_cases h1 : st = 1
  · subst h1
    by_cases h2 : ct = 0
    · subst h2
      go_enter Tryz.func84, Tryz.ntmps84
      go_wp2
      go_ret
      exact ⟨rfl, (Below.refl _ _).alloc (Nat.le_refl _) _⟩
    · have h3 : (ct == 0) = false := by simpa using h2
      go_enter Tryz.func84, Tryz.ntmps84
      go_wp2
      go_ret
      exact ⟨ret_bool (by simp [h2]), (Below.refl _ _).alloc (Nat.le_refl _) _⟩
  · have h3 : (st == 1) = false := by simpa using h1
    go_enter Tryz.func84, Tryz.ntmps84
    go_wp2
    go_ret
    exact ⟨ret_bool (by simp [h1]), (Below.refl _ _).alloc (Nat.le_refl _) _⟩

theorem hasExtra_fn (st ct : Int) (v : Value) (w : World) :
    Calls Tryz.prog 85 #[.agg #[.int .i64 st, .int .i64 ct, v]] w fun e w' => e = .returned (.bool (decide (st = 1) && decide (7 < ct))) ∧ Below w.heap.size w w' := by
  by_cases h1 : st = 1
  · subst h1
    by_cases h2 : 7 < ct
    · go_enter Tryz.func85, Tryz.ntmps85
      go_wp2
      go_ret
      exact ⟨ret_bool (by simp [h2]), (Below.refl _ _).alloc (Nat.le_refl _) _⟩
    · go_enter Tryz.func85, Tryz.ntmps85
      go_wp2
      go_ret
      exact ⟨ret_bool (by simp [h2]), (Below.refl _ _).alloc (Nat.le_refl _) _⟩
  · have h3 : (st == 1) = false := by simpa using h1
    go_enter Tryz.func85, Tryz.ntmps85
    go_wp2
    go_ret
    exact ⟨ret_bool (by simp [h1]), (Below.refl _ _).alloc (Nat.le_refl _) _⟩

/-- the cells of the blocks, for a loop over them -/
theorem HB.cells {but : Int} {h : Nat} {w : World} {m : HeapM} {s : St} {c : Cf} {N : Nat} (p : HB but h w m s c N) :
    ∃ g cap, w.cell? ⟨h, 5, none⟩ = some (.slice (some ⟨g, 0, none⟩) (N + 1) cap) ∧ g < w.heap.size ∧
      ∀ i, i ≤ N → ∃ o ao fl fc, m.blks[i]? = some o ∧ o.vF = .slice ao fl fc ∧ fl = o.fs.length ∧ w.cell? ⟨g, i * 3, none⟩ = some (.int .i64 o.state) ∧ w.cell? ⟨g, i * 3 + 1, none⟩ = some (.int .i64 o.count) ∧ w.cell? ⟨g, i * 3 + 2, none⟩ = some (.slice ao fl fc) := by
  obtain ⟨g, cap, hv, hg, _, _, _, hobj⟩ := p.r.view p.len
  refine ⟨g, cap, by rw [p.r.cell.2.2.2.1, hv], hg, fun i hi => ?_⟩
  have hil : i < m.blks.length := by rw [p.len]; omega
  obtain ⟨ao, fc, hvF⟩ := own_slice (p.r.fields _ (List.getElem_mem hil))
  obtain ⟨c0, c1, c2⟩ := hobj i hil
  exact ⟨m.blks[i], ao, _, fc, List.getElem?_eq_getElem hil, hvF, rfl, c0, c1, by rw [c2, hvF]⟩

end Go.Proofs.YteekoiljkklnmaaGreatDoor

