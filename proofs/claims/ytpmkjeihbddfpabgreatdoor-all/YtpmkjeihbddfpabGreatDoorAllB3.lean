import Derived.Test.YtpmkjeihbddfpabGreatDoorAllB2
import Derived.Deep.RegionLaw
/- OUR OWN. The document's heap turned: Turn; push, pop, down, object. -/
namespace Go.Proofs.YtpmkjeihbddfpabGreatDoor
open Go.RowKit
set_option linter.unusedVariables false
set_option linter.unusedSimpArgs false

def vrow (v : Value) (l : List (Int × Int)) : SRow := ⟨84, 2, v, l.length, l.flatMap valCells⟩
def RObj.row (o : RObj) : SRow := vrow o.vF o.fs
def RefM.rows (m : RefM) : List SRow :=
  ⟨73, 4, m.vB, m.objs.length, m.objs.flatMap RObj.cells⟩ :: ⟨3, 1, m.vQ, m.queue.length, m.queue.map (Value.int .i64)⟩ :: vrow m.vS m.stack :: vrow m.vG m.globals :: m.objs.map RObj.row

theorem rows_foot (m : RefM) : rfoot m.rows = m.foot := by
  simp only [rfoot, RefM.rows, RefM.foot, List.filterMap_cons, List.filterMap_map, List.filterMap_append, SRow.ob, vrow, RObj.row, List.filterMap_nil]
  cases m.vB.ownBlock <;> cases m.vQ.ownBlock <;> cases m.vS.ownBlock <;> cases m.vG.ownBlock <;> simp <;> rfl

theorem RefAt.rowsAt {w : World} {h : Nat} {m : RefM} (r : RefAt w h m) : RowsAt w h m.rows := by
  refine ⟨fun x hx => ?_, by rw [rows_foot]; exact r.apart, lt_of_heap r.head⟩
  simp only [RefM.rows, List.mem_cons, List.mem_map] at hx
  rcases hx with rfl | rfl | rfl | rfl | ⟨o, ho, rfl⟩
  · exact r.blocks
  · exact r.queue
  · exact r.stack
  · exact r.globals
  · exact r.fields o ho

theorem RowsAt.refAt {w : World} {h : Nat} {m : RefM} (R : RowsAt w h m.rows) (hh : w.heap[h]? = some m.head) : RefAt w h m :=
  ⟨hh, R.all ⟨73, 4, m.vB, m.objs.length, m.objs.flatMap RObj.cells⟩ (by simp [RefM.rows]), R.all ⟨3, 1, m.vQ, m.queue.length, m.queue.map (Value.int .i64)⟩ (by simp [RefM.rows]), R.all (vrow m.vS m.stack) (by simp [RefM.rows]), R.all (vrow m.vG m.globals) (by simp [RefM.rows]),
    fun o ho => R.all o.row (by simp only [RefM.rows, List.mem_cons, List.mem_map]; exact .inr (.inr (.inr (.inr ⟨o, ho, rfl⟩)))), by rw [← rows_foot]; exact R.apart⟩

/-- the document's heap has become m' -/
structure Turn (h : Nat) (w : World) (m : RefM) (w' : World) (m' : RefM) : Prop where
  here : RefAt w' h m'
  foot : ∀ g ∈ m'.foot, g ∈ m.foot ∨ w.heap.size ≤ g
  off : Off (h :: m.foot) w w'

theorem Turn.refl {h : Nat} {w : World} {m : RefM} (r : RefAt w h m) : Turn h w m w m := ⟨r, fun _ hg => .inl hg, Off.refl _ _⟩
theorem Turn.of_below {h : Nat} {w w' : World} {m : RefM} (r : RefAt w h m) (hb : Below w.heap.size w w') : Turn h w m w' m :=
  ⟨r.carry fun x hx => hb.block x (r.lt x hx), fun _ hg => .inl hg, .of_below hb⟩
theorem Turn.trans {h : Nat} {w w1 w2 : World} {m m1 m2 : RefM} (a : Turn h w m w1 m1) (b : Turn h w1 m1 w2 m2) : Turn h w m w2 m2 := by
  refine ⟨b.here, fun g hg => ?_, ⟨b.off.os.trans a.off.os, b.off.tape.trans a.off.tape, b.off.output.trans a.off.output, Nat.le_trans a.off.size b.off.size, fun k hk hF => ?_⟩⟩
  · rcases b.foot g hg with e | e
    · exact a.foot g e
    · have := a.off.size; exact .inr (by omega)
  · rw [b.off.block k (by have := a.off.size; omega) ?_, a.off.block k hk hF]
    intro e
    rcases List.mem_cons.1 e with e | e
    · exact hF (by rw [e]; exact List.mem_cons_self)
    · rcases a.foot k e with e | e
      · exact hF (List.mem_cons_of_mem _ e)
      · omega
theorem Turn.after {h : Nat} {w w1 w2 : World} {m m1 : RefM} (a : Turn h w m w1 m1) (hb : Below w1.heap.size w1 w2) : Turn h w m w2 m1 := a.trans (.of_below a.here hb)

/-- one row of the heap and one cell of its head are turned -/
theorem RefAt.turn {w w' : World} {h : Nat} {m m' : RefM} (r : RefAt w h m) (p : Nat) (r0 r1 : SRow) (hp : m.rows[p]? = some r0) (hr : m'.rows = m.rows.set p r1) (hh : w'.heap[h]? = some m'.head) (h1 : r1.At w')
    (hv : ∀ g, r1.ob = some g → r0.ob = some g ∨ w.heap.size ≤ g) (ho : Off (h :: r0.ob.toList) w w') : Turn h w m w' m' := by
  have R := r.rowsAt
  have hmem : ∀ g, r0.ob = some g → g ∈ m.foot := fun g hg => by rw [← rows_foot]; exact List.mem_filterMap.2 ⟨r0, List.mem_of_getElem? hp, hg⟩
  obtain ⟨g1, g2⟩ := R.set hp r1 h1 hv (fun k hk h1 h2 => ho.block k hk (by simp; exact ⟨h1, h2⟩)) ho.size
  rw [← hr] at g1 g2
  refine ⟨g1.refAt hh, fun g hg => ?_, ho.mono fun x hx => ?_⟩
  · rw [← rows_foot] at hg ⊢
    exact g2 g hg
  · rcases List.mem_cons.1 hx with e | e
    · rw [e]; exact List.mem_cons_self
    · exact List.mem_cons_of_mem _ (hmem x (by simpa using e))

theorem RefAt.ne {w : World} {h : Nat} {m : RefM} (r : RefAt w h m) {x : SRow} (hx : x ∈ m.rows) : x.ob ≠ some h := fun e => by
  have := List.nodup_cons.1 r.rowsAt.apart
  exact this.1 (List.mem_filterMap.2 ⟨x, hx, e⟩)

theorem object_any (v : Int × Int) (w : World) :
    Calls Tryz.prog 93 #[.agg #[.int .i64 v.1, .int .i64 v.2]] w fun e w' => e = .returned (.int .i64 (if v.1 = 0 then 4 else if v.1 = 1 then 5 else 0)) ∧ Below w.heap.size w w' := by
  obtain ⟨k, n⟩ := v
  simp only
  by_cases h0 : k = 0
  · subst h0
    go_enter Tryz.func93, Tryz.ntmps93
    go_wp2
    go_ret
    exact ⟨rfl, (Below.refl _ _).alloc (Nat.le_refl _) _⟩
  · rw [if_neg h0]
    have e0 : (k == 0) = false := by simpa using h0
    by_cases h1 : k = 1
    · subst h1
      go_enter Tryz.func93, Tryz.ntmps93
      go_wp2
      go_ret
      exact ⟨rfl, (Below.refl _ _).alloc (Nat.le_refl _) _⟩
    · rw [if_neg h1]
      have e1 : (k == 1) = false := by simpa using h1
      go_enter Tryz.func93, Tryz.ntmps93
      go_wp2
      go_ret
      exact ⟨rfl, (Below.refl _ _).alloc (Nat.le_refl _) _⟩

/-- the stack's row -/
theorem RefAt.stackView {w : World} {h : Nat} {m : RefM} (r : RefAt w h m) (hs : 0 < m.stack.length) :
    ∃ g cap, m.vS = .slice (some ⟨g, 0, none⟩) m.stack.length cap ∧ g < w.heap.size ∧ g ≠ h ∧ m.vS.ownBlock = some g ∧ m.stack.length ≤ cap ∧
      ∀ i (hi : i < m.stack.length), w.cell? ⟨g, i * 2, none⟩ = some (.int .i64 (m.stack[i]).1) ∧ w.cell? ⟨g, i * 2 + 1, none⟩ = some (.int .i64 (m.stack[i]).2) := by
  obtain ⟨g, cap, hv, hg, hb, hc, hcell, _⟩ := own_view r.stack hs
  refine ⟨g, cap, hv, hg, fun e => r.ne (x := vrow m.vS m.stack) (by simp [RefM.rows]) (by rw [← e]; exact hb), hb, hc, fun i hi => ⟨?_, ?_⟩⟩
  · exact hcell _ _ (by have := flat_get valCells 2 (fun _ => rfl) m.stack i 0 (by decide); simpa [hi, valCells] using this)
  · exact hcell _ _ (by have := flat_get valCells 2 (fun _ => rfl) m.stack i 1 (by decide); simpa [hi, valCells] using this)

set_option maxHeartbeats 800000 in
theorem down_any {w : World} {h : Nat} {m : RefM} (r : RefAt w h m) (hs : m.stack.length ≤ 16) (n : Nat) (hn : n < m.stack.length) :
    Calls Tryz.prog 92 #[.pointer (some ⟨h, 0, none⟩), .int .i64 n] w
      fun e w' => e = .returned (.agg #[.int .i64 (m.stack[m.stack.length - 1 - n]'(by omega)).1, .int .i64 (m.stack[m.stack.length - 1 - n]'(by omega)).2]) ∧ Below w.heap.size w w' := by
  obtain ⟨g, cap, hv, hg, hgh, _, _, hcell⟩ := r.stackView (by omega)
  have cS : w.cell? ⟨h, 7, none⟩ = some (.slice (some ⟨g, 0, none⟩) m.stack.length cap) := by rw [r.cell.2.2.2.2.2.2.2.1, hv]
  obtain ⟨c0, c1⟩ := hcell (m.stack.length - 1 - n) (by omega)
  have hh := lt_of_heap r.head
  obtain ⟨x, hx⟩ : ∃ x, x = m.stack[m.stack.length - 1 - n]'(by omega) := ⟨_, rfl⟩
  rw [← hx] at c0 c1 ⊢
  obtain ⟨len, hlen⟩ : ∃ len, m.stack.length = len := ⟨_, rfl⟩
  rw [hlen] at cS c0 c1 hs hn
  clear r hv hcell hx hlen
  obtain ⟨x1, x2⟩ := x
  simp only at c0 c1 ⊢
  go_enter Tryz.func92, Tryz.ntmps92
  go_wp2
  go_region
  go_wp2
  refine bodyPost_ret (v := .agg #[.int .i64 x1, .int .i64 x2]) (by simp [results, Tryz.results92, go_sem]) rfl ⟨rfl, ?_⟩
  exact ((Below.refl _ _).alloc (Nat.le_refl _) _).drew

/-- the stack behind a pop -/
theorem RefAt.popped {w : World} {h : Nat} {m : RefM} (r : RefAt w h m) {g cap : Nat} (hv : m.vS = .slice (some ⟨g, 0, none⟩) m.stack.length cap) (k : Nat) (hk : k ≤ m.stack.length) :
    Turn h w m (w.setCell ⟨h, 7, none⟩ (.slice (some ⟨g, 0, none⟩) k cap)) { m with vS := .slice (some ⟨g, 0, none⟩) k cap, stack := m.stack.take k } := by
  refine r.turn 2 (vrow m.vS m.stack) (vrow (.slice (some ⟨g, 0, none⟩) k cap) (m.stack.take k)) rfl rfl ?_ ?_ ?_ ?_
  · rw [heap_setCell_at r.head]; rfl
  · have hgh : g ≠ h := fun e => r.ne (x := vrow m.vS m.stack) (by simp [RefM.rows]) (by rw [← e]; show m.vS.ownBlock = _; rw [hv]; rfl)
    have ho : w.ownsRow 0 84 2 (.slice (some ⟨g, 0, none⟩) k cap) k ((m.stack.take k).flatMap valCells) := by
      have hr := r.stack
      rw [hv] at hr
      rcases hr.2 with ⟨e, _⟩ | ⟨g', cap', cur, e, hb, hg, hnc, hcm, hcs, htake⟩
      · simp at e
      · simp at e
        obtain ⟨rfl, rfl⟩ := e
        have hl : ∀ l : List (Int × Int), (l.flatMap valCells).length = l.length * 2 := fun l => by induction l with
          | nil => rfl
          | cons a l ih => rw [List.flatMap_cons, List.length_append, ih, List.length_cons]; simp [valCells]; omega
        have ht : (m.stack.take k).flatMap valCells = (m.stack.flatMap valCells).take (k * 2) := by
          have e1 : m.stack.flatMap valCells = (m.stack.take k).flatMap valCells ++ (m.stack.drop k).flatMap valCells := by rw [← List.flatMap_append, List.take_append_drop]
          rw [e1, List.take_left' (by rw [hl, List.length_take]; omega)]
        refine ⟨by rw [hl, List.length_take]; omega, .inr ⟨g, cap, cur, rfl, hb, hg, by omega, hcm, hcs, ?_⟩⟩
        rw [ht, ← htake, List.take_take]
        congr 1
        omega
    show (w.setCell ⟨h, 7, none⟩ _).ownsRow 0 _ 2 _ (m.stack.take k).length _
    rw [List.length_take, Nat.min_eq_left hk]
    exact own_carry ho fun j hj => hso (k := j) (b := h) (fun e => hgh ((Option.some.inj hj).trans e))
  · intro j hj
    left
    show m.vS.ownBlock = some j
    rw [hv]; exact hj
  · exact (off_setCell w h 7 _).mono (by simp)

theorem Turn.drew {h : Nat} {w w' : World} {m m' : RefM} (t : Turn h w m w' m') : Turn h w m w'.drew m' := t.after ⟨rfl, rfl, rfl, Nat.le_refl _, fun _ _ => rfl⟩
theorem Turn.drewN {h : Nat} {w w' : World} {m m' : RefM} (t : Turn h w m w' m') (n : Nat) : Turn h w m (w'.drewN n) m' := t.after ⟨rfl, rfl, rfl, Nat.le_refl _, fun _ _ => rfl⟩

set_option maxHeartbeats 800000 in
theorem pop_any {w : World} {h : Nat} {m : RefM} (r : RefAt w h m) (hs : m.stack.length ≤ 16) (n : Nat) (hn : n ≤ m.stack.length) (h0 : 0 < m.stack.length) :
    Calls Tryz.prog 94 #[.pointer (some ⟨h, 0, none⟩), .int .i64 n] w
      fun e w' => e = .returned (.tuple #[]) ∧ ∃ v', Turn h w m w' { m with vS := v', stack := m.stack.take (m.stack.length - n) } := by
  obtain ⟨g, cap, hv, hg, hgh, _, hcap, _⟩ := r.stackView h0
  have cS : w.cell? ⟨h, 7, none⟩ = some (.slice (some ⟨g, 0, none⟩) m.stack.length cap) := by rw [r.cell.2.2.2.2.2.2.2.1, hv]
  have fS : w.frozen? ⟨h, 7, none⟩ = false := frozen_of_heap r.head
  have P : Hid (Turn h w m (w.setCell ⟨h, 7, none⟩ (.slice (some ⟨g, 0, none⟩) (m.stack.length - n) cap)) { m with vS := .slice (some ⟨g, 0, none⟩) (m.stack.length - n) cap, stack := m.stack.take (m.stack.length - n) }) := r.popped hv _ (by omega)
  obtain ⟨len, hlen⟩ : ∃ len, m.stack.length = len := ⟨_, rfl⟩
  rw [hlen] at cS hs hn hcap P ⊢
  clear r hv hlen
  have hnI : (n : Int) ≤ len := by omega
  go_enter Tryz.func94, Tryz.ntmps94
  go_wp2
  go_region
  go_wp2
  go_end0
  exact ⟨rfl, _, P.out.drew⟩

/-- the stack behind a push -/
theorem RefAt.pushed {w w1 : World} {h : Nat} {m : RefM} (r : RefAt w h m) {g cap : Nat} (x : Int × Int)
    (hown : w1.ownsRow 0 84 2 (.slice (some ⟨g, 0, none⟩) (m.stack.length + 1) cap) (m.stack.length + 1) (m.stack.flatMap valCells ++ valCells x))
    (hgr : w.grownBy w1 m.vS.ownBlock) (hlie : m.vS.ownBlock = some g ∨ g = w.heap.size) :
    Turn h w m (w1.setCell ⟨h, 7, none⟩ (.slice (some ⟨g, 0, none⟩) (m.stack.length + 1) cap)) { m with vS := .slice (some ⟨g, 0, none⟩) (m.stack.length + 1) cap, stack := m.stack ++ [x] } := by
  have hh := lt_of_heap r.head
  have hne : m.vS.ownBlock ≠ some h := r.ne (x := vrow m.vS m.stack) (by simp [RefM.rows])
  have hgh : g ≠ h := fun e => by
    rcases hlie with e1 | e1
    · exact hne (by rw [e1, e])
    · omega
  have hh1 : w1.heap[h]? = some m.head := by rw [hgr.block h hh (fun e => hne e.symm)]; exact r.head
  refine r.turn 2 (vrow m.vS m.stack) (vrow (.slice (some ⟨g, 0, none⟩) (m.stack.length + 1) cap) (m.stack ++ [x])) rfl rfl ?_ ?_ ?_ ?_
  · rw [heap_setCell_at hh1]; rfl
  · show (w1.setCell ⟨h, 7, none⟩ _).ownsRow 0 _ 2 _ (m.stack ++ [x]).length ((m.stack ++ [x]).flatMap valCells)
    rw [List.flatMap_append, List.length_append, List.length_singleton, List.flatMap_singleton]
    exact own_carry hown fun j hj => hso (k := j) (b := h) (fun e => hgh ((Option.some.inj hj).trans e))
  · intro j hj
    have hj' : j = g := by simpa [SRow.ob, vrow, Value.ownBlock, eq_comm] using hj
    subst hj'
    rcases hlie with e1 | e1
    · exact .inl e1
    · exact .inr (by omega)
  · exact ((off_grown hgr).mono (fun y hy => List.mem_cons_of_mem _ hy)).trans ((off_setCell w1 h 7 _).mono (by simp))

theorem Turn.pre {h : Nat} {w0 w w' : World} {m m' : RefM} (r : RefAt w0 h m) (hb : Below w0.heap.size w0 w) (t : Turn h w m w' m') : Turn h w0 m w' m' := (Turn.of_below r hb).trans t

set_option maxHeartbeats 800000 in
theorem push_full {w : World} {h : Nat} {m : RefM} (r : RefAt w h m) (hs : m.stack.length ≤ 16) (x : Int × Int) (hd : m.deep ≤ m.stack.length) :
    Calls Tryz.prog 91 #[.pointer (some ⟨h, 0, none⟩), .agg #[.int .i64 x.1, .int .i64 x.2]] w fun e w' => e = .returned (.int .i64 7) ∧ Below w.heap.size w w' := by
  obtain ⟨ao, cap, hv⟩ := own_slice r.stack
  have cS : w.cell? ⟨h, 7, none⟩ = some (.slice ao m.stack.length cap) := by rw [r.cell.2.2.2.2.2.2.2.1, hv]
  have cD := r.cell.2.1
  have hh := lt_of_heap r.head
  obtain ⟨x1, x2⟩ := x
  simp only
  obtain ⟨len, hlen⟩ : ∃ len, m.stack.length = len := ⟨_, rfl⟩
  rw [hlen] at cS hs hd
  obtain ⟨D, hD⟩ : ∃ D, m.deep = D := ⟨_, rfl⟩
  rw [hD] at cD hd
  clear r hv hlen hD
  go_enter Tryz.func91, Tryz.ntmps91
  go_wp2
  go_quiet (fail)
  go_wp2
  go_ret
  exact ⟨rfl, below_drewN ((Below.refl _ _).alloc (Nat.le_refl _) _) _⟩

set_option maxHeartbeats 800000 in
theorem push_room {w : World} {h : Nat} {m : RefM} (r : RefAt w h m) (hs : m.stack.length ≤ 16) (x : Int × Int) (hd : m.stack.length < m.deep) :
    Calls Tryz.prog 91 #[.pointer (some ⟨h, 0, none⟩), .agg #[.int .i64 x.1, .int .i64 x.2]] w
      fun e w' => e = .returned (.int .i64 0) ∧ ∃ v', Turn h w m w' { m with vS := v', stack := m.stack ++ [x] } := by
  obtain ⟨ao, cap, hv⟩ := own_slice r.stack
  have cS : w.cell? ⟨h, 7, none⟩ = some (.slice ao m.stack.length cap) := by rw [r.cell.2.2.2.2.2.2.2.1, hv]
  have cD := r.cell.2.1
  have hh := lt_of_heap r.head
  have hne : m.vS.ownBlock ≠ some h := r.ne (x := vrow m.vS m.stack) (by simp [RefM.rows])
  have FIN : Hid (∀ W w1 g cap', Below w.heap.size w W → w1.ownsRow 0 84 2 (.slice (some ⟨g, 0, none⟩) (m.stack.length + 1) cap') (m.stack.length + 1) (m.stack.flatMap valCells ++ valCells x) →
    W.grownBy w1 m.vS.ownBlock → (m.vS.ownBlock = some g ∨ g = W.heap.size) → Turn h w m (w1.setCell ⟨h, 7, none⟩ (.slice (some ⟨g, 0, none⟩) (m.stack.length + 1) cap')) { m with vS := .slice (some ⟨g, 0, none⟩) (m.stack.length + 1) cap', stack := m.stack ++ [x] } ∧
      w1.cell? ⟨h, 7, none⟩ = some m.vS ∧ w1.frozen? ⟨h, 7, none⟩ = false) := by
    intro W w1 g cap' hb ho hgr hl
    have r1 : RefAt W h m := r.carry fun y hy => hb.block y (r.lt y hy)
    have hh1 : w1.heap[h]? = some m.head := by rw [hgr.block h (lt_of_heap r1.head) (fun e => hne e.symm)]; exact r1.head
    exact ⟨Turn.pre r hb (r1.pushed x ho hgr hl), cell_of_heap hh1 rfl, frozen_of_heap hh1⟩
  have OWN : Hid (∀ W, Below w.heap.size w W → W.ownsRow 0 84 2 m.vS m.stack.length (m.stack.flatMap valCells)) := fun W hb => own_carry r.stack fun j hj => hb.block j (own_lt r.stack hj).2
  obtain ⟨x1, x2⟩ := x
  simp only at *
  rw [hv] at FIN OWN
  obtain ⟨len, hlen⟩ : ∃ len, m.stack.length = len := ⟨_, rfl⟩
  rw [hlen] at cS hs hd FIN OWN
  obtain ⟨D, hD⟩ : ∃ D, m.deep = D := ⟨_, rfl⟩
  rw [hD] at cD hd
  clear r hv hlen hD hne
  go_enter Tryz.func91, Tryz.ntmps91
  go_wp2
  go_quiet (fail)
  go_wp2_with fail
  obtain ⟨i1, hi1, hy0, hy1, hy2⟩ := info_parts infoRValue
  go_region_law (refine step_append_lies _ rfl (.tmp 19) (.tmp 21) 66 rfl 0 84 i1 _ 2 16 Tryz.underlying66 hi1 hy0 hy1 hy2 rfl (by decide) _ _ _ (by simp [Act.eval, Act.put]) (OWN.out _ ((below_drewN ((Below.refl _ _).alloc (Nat.le_refl _) _) _).alloc (by simp [World.drewN]) _)) ⟨w.heap.size + 1, 0, none⟩ 1 1 [.int .i64 x1, .int .i64 x2] (by simp [Act.eval, Act.put]) rfl (news_drewN _ _ _ _ _ (by simp)) (by intro u hu; simp at hu; rcases hu with rfl | rfl <;> rfl) (by decide) (by unfold maxLen; omega) (by omega) (Nat.zero_le _) (w.heap.size + 1 + 1) (by simp) ?_; intro g' cap1 w1 hown hgr hlie _; obtain ⟨T, hc, hf⟩ := FIN.out _ w1 g' cap1 ((below_drewN ((Below.refl _ _).alloc (Nat.le_refl _) _) _).alloc (by simp [World.drewN]) _) hown hgr (by simpa using hlie))
  all_goals go_wp2
  all_goals go_ret
  all_goals exact ⟨rfl, _, by assumption⟩

end Go.Proofs.YtpmkjeihbddfpabGreatDoor

