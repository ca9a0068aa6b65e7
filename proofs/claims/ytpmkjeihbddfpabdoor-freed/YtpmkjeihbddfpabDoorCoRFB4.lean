import Derived.Test.YtpmkjeihbddfpabDoorCoRFB3
import Derived.Deep.RegionLaw
import Derived.Deep.RegionWith
import Derived.ArgAppend
/- OUR OWN. The program's heap turned: below, pop, push. -/
namespace Go.Proofs.YtpmkjeihbddfpabDoor
open Go.RowKit
set_option linter.unusedVariables false
set_option linter.unusedSimpArgs false

theorem news_drew (w : World) (cs : List Value) (t : TypeId) (H : Nat) (hH : w.heap.size = H) : ∀ j u, cs[j]? = some u → (w.drew.alloc (.cells cs.toArray t)).cell? ((⟨H, 0, none⟩ : Addr).add j) = some u := by
  subst hH
  exact news_new w.drew cs t

def hrow (v : Value) (l : List (Int × Int)) : SRow := ⟨64, 2, v, l.length, l.flatMap valCells⟩
def HObj.row (o : HObj) : SRow := hrow o.vF o.fs
def HeapM.rows (m : HeapM) : List SRow :=
  hrow m.vS m.stack :: hrow m.vG m.globals :: ⟨56, 3, m.vB, m.blks.length, m.blks.flatMap HObj.cells⟩ :: ⟨3, 1, m.vQ, m.queue.length, m.queue.map (Value.int .i64)⟩ :: m.blks.map HObj.row

theorem hrows_foot (m : HeapM) : rfoot m.rows = m.foot := by
  simp only [rfoot, HeapM.rows, HeapM.foot, List.filterMap_cons, List.filterMap_map, List.filterMap_append, SRow.ob, hrow, HObj.row, List.filterMap_nil]
  cases m.vS.ownBlock <;> cases m.vG.ownBlock <;> cases m.vB.ownBlock <;> cases m.vQ.ownBlock <;> simp <;> rfl

theorem HeapAt.rowsAt {w : World} {h : Nat} {m : HeapM} (r : HeapAt w h m) : RowsAt w h m.rows := by
  refine ⟨fun x hx => ?_, by rw [hrows_foot]; exact r.apart, lt_of_heap r.head⟩
  simp only [HeapM.rows, List.mem_cons, List.mem_map] at hx
  rcases hx with rfl | rfl | rfl | rfl | ⟨o, ho, rfl⟩
  · exact r.stack
  · exact r.globals
  · exact r.blocks
  · exact r.queue
  · exact r.fields o ho

theorem RowsAt.heapAt {w : World} {h : Nat} {m : HeapM} (R : RowsAt w h m.rows) (hh : w.heap[h]? = some m.head) : HeapAt w h m :=
  ⟨hh, R.all (hrow m.vS m.stack) (by simp [HeapM.rows]), R.all (hrow m.vG m.globals) (by simp [HeapM.rows]), R.all ⟨56, 3, m.vB, m.blks.length, m.blks.flatMap HObj.cells⟩ (by simp [HeapM.rows]), R.all ⟨3, 1, m.vQ, m.queue.length, m.queue.map (Value.int .i64)⟩ (by simp [HeapM.rows]),
    fun o ho => R.all o.row (by simp only [HeapM.rows, List.mem_cons, List.mem_map]; exact .inr (.inr (.inr (.inr ⟨o, ho, rfl⟩)))), by rw [← hrows_foot]; exact R.apart⟩

theorem HeapAt.cell {w : World} {h : Nat} {m : HeapM} (r : HeapAt w h m) : w.cell? ⟨h, 0, none⟩ = some (.int .i64 m.room) ∧ w.cell? ⟨h, 4, none⟩ = some m.vS ∧ w.cell? ⟨h, 5, none⟩ = some m.vG ∧ w.cell? ⟨h, 6, none⟩ = some m.vB ∧ w.cell? ⟨h, 7, none⟩ = some m.vQ ∧ w.cell? ⟨h, 2, none⟩ = some (.int .i64 m.zero) ∧ w.cell? ⟨h, 3, none⟩ = some (.int .i64 m.over) ∧ ∀ j, w.frozen? ⟨h, j, none⟩ = false :=
  ⟨cell_of_heap r.head rfl, cell_of_heap r.head rfl, cell_of_heap r.head rfl, cell_of_heap r.head rfl, cell_of_heap r.head rfl, cell_of_heap r.head rfl, cell_of_heap r.head rfl, fun _ => frozen_of_heap r.head⟩

theorem HeapAt.cellBudget {w : World} {h : Nat} {m : HeapM} (r : HeapAt w h m) : w.cell? ⟨h, 1, none⟩ = some (.int .i64 m.budget) := cell_of_heap r.head rfl

/-- one row of the heap and one cell of its head are turned -/
theorem HeapAt.turn {w w' : World} {h : Nat} {m m' : HeapM} (r : HeapAt w h m) (p : Nat) (r0 r1 : SRow) (hp : m.rows[p]? = some r0) (hr : m'.rows = m.rows.set p r1) (hh : w'.heap[h]? = some m'.head) (h1 : r1.At w')
    (hv : ∀ g, r1.ob = some g → r0.ob = some g ∨ w.heap.size ≤ g) (ho : Off (h :: r0.ob.toList) w w') : HTurn h w m w' m' := by
  have R := r.rowsAt
  have hmem : ∀ g, r0.ob = some g → g ∈ m.foot := fun g hg => by rw [← hrows_foot]; exact List.mem_filterMap.2 ⟨r0, List.mem_of_getElem? hp, hg⟩
  obtain ⟨g1, g2⟩ := R.set hp r1 h1 hv (fun k hk h1 h2 => ho.block k hk (by simp; exact ⟨h1, h2⟩)) ho.size
  rw [← hr] at g1 g2
  refine ⟨g1.heapAt hh, fun g hg => ?_, ho.mono fun x hx => ?_⟩
  · rw [← hrows_foot] at hg ⊢
    exact g2 g hg
  · rcases List.mem_cons.1 hx with e | e
    · rw [e]; exact List.mem_cons_self
    · exact List.mem_cons_of_mem _ (hmem x (by simpa using e))

theorem HeapAt.ne {w : World} {h : Nat} {m : HeapM} (r : HeapAt w h m) {x : SRow} (hx : x ∈ m.rows) : x.ob ≠ some h := fun e => by
  have := List.nodup_cons.1 r.rowsAt.apart
  exact this.1 (List.mem_filterMap.2 ⟨x, hx, e⟩)

/-- the stack's row -/
theorem HeapAt.stackView {w : World} {h : Nat} {m : HeapM} (r : HeapAt w h m) (hs : 0 < m.stack.length) :
    ∃ g cap, m.vS = .slice (some ⟨g, 0, none⟩) m.stack.length cap ∧ g < w.heap.size ∧ g ≠ h ∧ m.vS.ownBlock = some g ∧ m.stack.length ≤ cap ∧
      ∀ i (hi : i < m.stack.length), w.cell? ⟨g, i * 2, none⟩ = some (.int .i64 (m.stack[i]).1) ∧ w.cell? ⟨g, i * 2 + 1, none⟩ = some (.int .i64 (m.stack[i]).2) := by
  obtain ⟨g, cap, hv, hg, hb, hc, hcell, _⟩ := own_view r.stack hs
  refine ⟨g, cap, hv, hg, fun e => r.ne (x := hrow m.vS m.stack) (by simp [HeapM.rows]) (by rw [← e]; exact hb), hb, hc, fun i hi => ⟨?_, ?_⟩⟩
  · exact hcell _ _ (by have := flat_get valCells 2 (fun _ => rfl) m.stack i 0 (by decide); simpa [hi, valCells] using this)
  · exact hcell _ _ (by have := flat_get valCells 2 (fun _ => rfl) m.stack i 1 (by decide); simpa [hi, valCells] using this)

set_option maxHeartbeats 800000 in
theorem hdown_any {w : World} {h : Nat} {m : HeapM} (r : HeapAt w h m) (hs : m.stack.length ≤ 16) (n : Nat) (hn : n < m.stack.length) :
    Calls Tryd.prog 60 #[.pointer (some ⟨h, 0, none⟩), .int .i64 n] w
      fun e w' => e = .returned (.agg #[.int .i64 (m.stack[m.stack.length - 1 - n]'(by omega)).1, .int .i64 (m.stack[m.stack.length - 1 - n]'(by omega)).2]) ∧ Below w.heap.size w w' := by
  obtain ⟨g, cap, hv, hg, hgh, _, _, hcell⟩ := r.stackView (by omega)
  have cS : w.cell? ⟨h, 4, none⟩ = some (.slice (some ⟨g, 0, none⟩) m.stack.length cap) := by rw [r.cell.2.1, hv]
  obtain ⟨c0, c1⟩ := hcell (m.stack.length - 1 - n) (by omega)
  have hh := lt_of_heap r.head
  obtain ⟨x, hx⟩ : ∃ x, x = m.stack[m.stack.length - 1 - n]'(by omega) := ⟨_, rfl⟩
  rw [← hx] at c0 c1 ⊢
  obtain ⟨len, hlen⟩ : ∃ len, m.stack.length = len := ⟨_, rfl⟩
  rw [hlen] at cS c0 c1 hs hn
  clear r hv hcell hx hlen
  obtain ⟨x1, x2⟩ := x
  simp only at c0 c1 ⊢
  go_enter Tryd.func60, Tryd.ntmps60
  go_wp2
  go_region
  go_wp2
  refine bodyPost_ret (v := .agg #[.int .i64 x1, .int .i64 x2]) (by simp [results, Tryd.results60, go_sem]) rfl ⟨rfl, ?_⟩
  exact ((Below.refl _ _).alloc (Nat.le_refl _) _).drew

/-- the stack behind a pop -/
theorem HeapAt.popped {w : World} {h : Nat} {m : HeapM} (r : HeapAt w h m) {g cap : Nat} (hv : m.vS = .slice (some ⟨g, 0, none⟩) m.stack.length cap) (k : Nat) (hk : k ≤ m.stack.length) :
    HTurn h w m (w.setCell ⟨h, 4, none⟩ (.slice (some ⟨g, 0, none⟩) k cap)) { m with vS := .slice (some ⟨g, 0, none⟩) k cap, stack := m.stack.take k } := by
  refine r.turn 0 (hrow m.vS m.stack) (hrow (.slice (some ⟨g, 0, none⟩) k cap) (m.stack.take k)) rfl rfl ?_ ?_ ?_ ?_
  · rw [heap_setCell_at r.head]; rfl
  · have hgh : g ≠ h := fun e => r.ne (x := hrow m.vS m.stack) (by simp [HeapM.rows]) (by rw [← e]; show m.vS.ownBlock = _; rw [hv]; rfl)
    have ho : w.ownsRow 0 64 2 (.slice (some ⟨g, 0, none⟩) k cap) k ((m.stack.take k).flatMap valCells) := by
      have hr := r.stack
      rw [hv] at hr
      rcases hr.2 with ⟨e, _⟩ | ⟨g', cap', cur, e, hb, hg, hnc, hcm, hcs, htake⟩
      · simp at e
      · simp at e
        obtain ⟨rfl, rfl⟩ := e
        have hl : ∀ l : List (Int × Int), (l.flatMap valCells).length = l.length * 2 := fun l => by induction l with
          | nil => rfl
          | cons a l ih => rw [List.flatMap_cons, List.length_append, ih, List.length_cons]; simp [valCells]; omega
        have ht : (m.stack.take k).flatMap valCells = (m.stack.flatMap valCells).take (k * 2) := by
          have e1 : m.stack.flatMap valCells = (m.stack.take k).flatMap valCells ++ (m.stack.drop k).flatMap valCells := by rw [← List.flatMap_append, List.take_append_drop]
          rw [e1, List.take_left' (by rw [hl, List.length_take]; omega)]
        refine ⟨by rw [hl, List.length_take]; omega, .inr ⟨g, cap, cur, rfl, hb, hg, by omega, hcm, hcs, ?_⟩⟩
        rw [ht, ← htake, List.take_take]
        congr 1
        omega
    show (w.setCell ⟨h, 4, none⟩ _).ownsRow 0 _ 2 _ (m.stack.take k).length _
    rw [List.length_take, Nat.min_eq_left hk]
    exact own_carry ho fun j hj => hso (k := j) (b := h) (fun e => hgh ((Option.some.inj hj).trans e))
  · intro j hj
    left
    show m.vS.ownBlock = some j
    rw [hv]; exact hj
  · exact (off_setCell w h 4 _).mono (by simp)

theorem HTurn.drew {h : Nat} {w w' : World} {m m' : HeapM} (t : HTurn h w m w' m') : HTurn h w m w'.drew m' := t.after ⟨rfl, rfl, rfl, Nat.le_refl _, fun _ _ => rfl⟩
theorem HTurn.drewN {h : Nat} {w w' : World} {m m' : HeapM} (t : HTurn h w m w' m') (n : Nat) : HTurn h w m (w'.drewN n) m' := t.after ⟨rfl, rfl, rfl, Nat.le_refl _, fun _ _ => rfl⟩

set_option maxHeartbeats 800000 in
theorem hpop_any {w : World} {h : Nat} {m : HeapM} (r : HeapAt w h m) (hs : m.stack.length ≤ 16) (n : Nat) (hn : n ≤ m.stack.length) (h0 : 0 < m.stack.length) :
    Calls Tryd.prog 61 #[.pointer (some ⟨h, 0, none⟩), .int .i64 n] w
      fun e w' => e = .returned (.tuple #[]) ∧ ∃ v', HTurn h w m w' { m with vS := v', stack := m.stack.take (m.stack.length - n) } := by
  obtain ⟨g, cap, hv, hg, hgh, _, hcap, _⟩ := r.stackView h0
  have cS : w.cell? ⟨h, 4, none⟩ = some (.slice (some ⟨g, 0, none⟩) m.stack.length cap) := by rw [r.cell.2.1, hv]
  have fS : w.frozen? ⟨h, 4, none⟩ = false := frozen_of_heap r.head
  have P : Hid (HTurn h w m (w.setCell ⟨h, 4, none⟩ (.slice (some ⟨g, 0, none⟩) (m.stack.length - n) cap)) { m with vS := .slice (some ⟨g, 0, none⟩) (m.stack.length - n) cap, stack := m.stack.take (m.stack.length - n) }) := r.popped hv _ (by omega)
  obtain ⟨len, hlen⟩ : ∃ len, m.stack.length = len := ⟨_, rfl⟩
  rw [hlen] at cS hs hn hcap P ⊢
  clear r hv hlen
  have hnI : (n : Int) ≤ len := by omega
  go_enter Tryd.func61, Tryd.ntmps61
  go_wp2
  go_region
  go_wp2
  go_end0
  exact ⟨rfl, _, P.out.drew⟩

/-- the stack behind a push -/
theorem HeapAt.pushed {w w1 : World} {h : Nat} {m : HeapM} (r : HeapAt w h m) {g cap : Nat} (x : Int × Int)
    (hown : w1.ownsRow 0 64 2 (.slice (some ⟨g, 0, none⟩) (m.stack.length + 1) cap) (m.stack.length + 1) (m.stack.flatMap valCells ++ valCells x))
    (hgr : w.grownBy w1 m.vS.ownBlock) (hlie : m.vS.ownBlock = some g ∨ g = w.heap.size) :
    HTurn h w m (w1.setCell ⟨h, 4, none⟩ (.slice (some ⟨g, 0, none⟩) (m.stack.length + 1) cap)) { m with vS := .slice (some ⟨g, 0, none⟩) (m.stack.length + 1) cap, stack := m.stack ++ [x] } := by
  have hh := lt_of_heap r.head
  have hne : m.vS.ownBlock ≠ some h := r.ne (x := hrow m.vS m.stack) (by simp [HeapM.rows])
  have hgh : g ≠ h := fun e => by
    rcases hlie with e1 | e1
    · exact hne (by rw [e1, e])
    · omega
  have hh1 : w1.heap[h]? = some m.head := by rw [hgr.block h hh (fun e => hne e.symm)]; exact r.head
  refine r.turn 0 (hrow m.vS m.stack) (hrow (.slice (some ⟨g, 0, none⟩) (m.stack.length + 1) cap) (m.stack ++ [x])) rfl rfl ?_ ?_ ?_ ?_
  · rw [heap_setCell_at hh1]; rfl
  · show (w1.setCell ⟨h, 4, none⟩ _).ownsRow 0 _ 2 _ (m.stack ++ [x]).length ((m.stack ++ [x]).flatMap valCells)
    rw [List.flatMap_append, List.length_append, List.length_singleton, List.flatMap_singleton]
    exact own_carry hown fun j hj => hso (k := j) (b := h) (fun e => hgh ((Option.some.inj hj).trans e))
  · intro j hj
    have hj' : j = g := by simpa [SRow.ob, hrow, Value.ownBlock, eq_comm] using hj
    subst hj'
    rcases hlie with e1 | e1
    · exact .inl e1
    · exact .inr (by omega)
  · exact ((off_grown hgr).mono (fun y hy => List.mem_cons_of_mem _ hy)).trans ((off_setCell w1 h 4 _).mono (by simp))

theorem HTurn.pre {h : Nat} {w0 w w' : World} {m m' : HeapM} (r : HeapAt w0 h m) (hb : Below w0.heap.size w0 w) (t : HTurn h w m w' m') : HTurn h w0 m w' m' := (HTurn.of_below r hb).trans t

set_option maxHeartbeats 400000 in
theorem isDeep_any {w : World} {h : Nat} {m : HeapM} (r : HeapAt w h m) :
    Calls Tryd.prog 57 #[.pointer (some ⟨h, 0, none⟩)] w fun e w' => e = .returned (.bool (decide (m.room ≤ m.stack.length))) ∧ Below w.heap.size w w' := by
  obtain ⟨ao, cap, hv⟩ := own_slice r.stack
  have cS : w.cell? ⟨h, 4, none⟩ = some (.slice ao m.stack.length cap) := by rw [r.cell.2.1, hv]
  have cD := r.cell.1
  obtain ⟨len, hlen⟩ : ∃ len, m.stack.length = len := ⟨_, rfl⟩
  rw [hlen] at cS ⊢
  obtain ⟨D, hD⟩ : ∃ D, m.room = D := ⟨_, rfl⟩
  rw [hD] at cD ⊢
  clear r hv hlen hD
  go_enter Tryd.func57, Tryd.ntmps57
  go_wp2
  go_quiet (fail)
  go_wp2
  go_ret
  exact ⟨rfl, below_drewN (Below.refl _ _) _⟩

set_option maxHeartbeats 400000 in
theorem hpush_full {w : World} {h : Nat} {m : HeapM} (r : HeapAt w h m) (x : Int × Int) (hd : m.room ≤ m.stack.length) :
    Calls Tryd.prog 26 #[.pointer (some ⟨h, 0, none⟩), .agg #[.int .i64 x.1, .int .i64 x.2]] w fun e w' => e = .returned (.int .i64 7) ∧ Below w.heap.size w w' := by
  have D : Hid (∀ ob, Calls Tryd.prog 57 #[.pointer (some ⟨h, 0, none⟩)] (w.alloc ob) fun e w' => e = .returned (.bool true) ∧ Below (w.alloc ob).heap.size (w.alloc ob) w') := fun ob =>
    (isDeep_any (r.carry fun y hy => hao (r.lt y hy))).mono fun e w' ⟨h1, h2⟩ => ⟨h1.trans (ret_bool (by simpa using hd)), h2⟩
  obtain ⟨x1, x2⟩ := x
  simp only
  clear r hd
  go_enter Tryd.func26, Tryd.ntmps26
  go_wp2_with fail
  refine Calls.mono (D.out _) ?_
  rintro e w1 ⟨rfl, hb⟩
  have B : Hid (Below w.heap.size w w1) := ((Below.refl _ _).alloc (Nat.le_refl _) _).trans (hb.mono (by simp))
  clear hb D
  go_wp2
  go_ret
  exact ⟨rfl, B.out⟩

set_option maxHeartbeats 800000 in
theorem hpush_room {w : World} {h : Nat} {m : HeapM} (r : HeapAt w h m) (hs : m.stack.length ≤ 16) (x : Int × Int) (hd : m.stack.length < m.room) :
    Calls Tryd.prog 26 #[.pointer (some ⟨h, 0, none⟩), .agg #[.int .i64 x.1, .int .i64 x.2]] w
      fun e w' => e = .returned (.int .i64 0) ∧ ∃ v', HTurn h w m w' { m with vS := v', stack := m.stack ++ [x] } := by
  obtain ⟨ao, cap, hv⟩ := own_slice r.stack
  have cS : w.cell? ⟨h, 4, none⟩ = some (.slice ao m.stack.length cap) := by rw [r.cell.2.1, hv]
  have hh := lt_of_heap r.head
  have hne : m.vS.ownBlock ≠ some h := r.ne (x := hrow m.vS m.stack) (by simp [HeapM.rows])
  have FIN : Hid (∀ W w1 g cap', Below w.heap.size w W → w1.ownsRow 0 64 2 (.slice (some ⟨g, 0, none⟩) (m.stack.length + 1) cap') (m.stack.length + 1) (m.stack.flatMap valCells ++ valCells x) →
    W.grownBy w1 m.vS.ownBlock → (m.vS.ownBlock = some g ∨ g = W.heap.size) → HTurn h w m (w1.setCell ⟨h, 4, none⟩ (.slice (some ⟨g, 0, none⟩) (m.stack.length + 1) cap')) { m with vS := .slice (some ⟨g, 0, none⟩) (m.stack.length + 1) cap', stack := m.stack ++ [x] } ∧
      w1.cell? ⟨h, 4, none⟩ = some m.vS ∧ w1.frozen? ⟨h, 4, none⟩ = false) := by
    intro W w1 g cap' hb ho hgr hl
    have r1 : HeapAt W h m := r.carry fun y hy => hb.block y (r.lt y hy)
    have hh1 : w1.heap[h]? = some m.head := by rw [hgr.block h (lt_of_heap r1.head) (fun e => hne e.symm)]; exact r1.head
    exact ⟨HTurn.pre r hb (r1.pushed x ho hgr hl), cell_of_heap hh1 rfl, frozen_of_heap hh1⟩
  have OWN : Hid (∀ W, Below w.heap.size w W → W.ownsRow 0 64 2 m.vS m.stack.length (m.stack.flatMap valCells)) := fun W hb => own_carry r.stack fun j hj => hb.block j (own_lt r.stack hj).2
  have D : Hid (∀ ob, Calls Tryd.prog 57 #[.pointer (some ⟨h, 0, none⟩)] (w.alloc ob) fun e w' => e = .returned (.bool false) ∧ Below (w.alloc ob).heap.size (w.alloc ob) w') := fun ob =>
    (isDeep_any (r.carry fun y hy => hao (r.lt y hy))).mono fun e w' ⟨h1, h2⟩ => ⟨h1.trans (ret_bool (by simp; omega)), h2⟩
  have OLD : Hid (∀ W, Below w.heap.size w W → W.cell? ⟨h, 4, none⟩ = some (.slice ao m.stack.length cap)) := fun W hb => (hb.cell (p := ⟨h, 4, none⟩) hh).trans cS
  obtain ⟨x1, x2⟩ := x
  simp only at *
  rw [hv] at FIN OWN
  obtain ⟨len, hlen⟩ : ∃ len, m.stack.length = len := ⟨_, rfl⟩
  rw [hlen] at cS hs hd FIN OWN OLD
  clear r hv hlen hne hd cS
  go_enter Tryd.func26, Tryd.ntmps26
  go_wp2_with fail
  refine Calls.mono (D.out _) ?_
  rintro e w5 ⟨rfl, hb⟩
  have B : Hid (Below w.heap.size w w5) := ((Below.refl _ _).alloc (Nat.le_refl _) _).trans (hb.mono (by simp))
  have cS := OLD.out w5 B.out
  have hbx := boxed' hb
  have x0 : w5.cell? ⟨w.heap.size, 0, none⟩ = some (.int .i64 x1) := cell_of_heap hbx rfl
  have x9 : w5.cell? ⟨w.heap.size, 1, none⟩ = some (.int .i64 x2) := cell_of_heap hbx rfl
  have hal : ∀ ob, (w5.alloc ob).cell? ⟨h, 4, none⟩ = w5.cell? ⟨h, 4, none⟩ := fun ob => World.cell?_of_block (hao (by have := B.out.size; show h < _; omega))
  clear hb D hbx
  go_wp2_with fail
  obtain ⟨i1, hi1, hy0, hy1, hy2⟩ := info_parts infoValue
  go_region_law (refine step_append_lies _ rfl (.tmp 11) (.tmp 13) 49 rfl 0 64 i1 _ 2 16 Tryd.underlying49 hi1 hy0 hy1 hy2 rfl (by decide) _ _ _ (by simp [Act.eval, Act.put]) (OWN.out _ (B.out.drew.alloc (by have := B.out.size; simpa using this) _)) ⟨w5.heap.size, 0, none⟩ 1 1 [.int .i64 x1, .int .i64 x2] (by simp [Act.eval, Act.put]) rfl (news_drew _ _ _ _ (by simp)) (by intro u hu; simp at hu; rcases hu with rfl | rfl <;> rfl) (by decide) (by unfold maxLen; omega) (by omega) (Nat.zero_le _) (w5.heap.size + 1) (by simp) ?_; intro g' cap1 w1 hown hgr hlie _; obtain ⟨T, hc, hf⟩ := FIN.out _ w1 g' cap1 (B.out.drew.alloc (by have := B.out.size; simpa using this) _) hown hgr (by simpa using hlie))
  all_goals go_wp2
  all_goals go_ret
  all_goals exact ⟨rfl, _, by assumption⟩

end Go.Proofs.YtpmkjeihbddfpabDoor

/- OUR OWN. The program's heap: operations on the stack and the globals. -/
namespace Go.Proofs.YtpmkjeihbddfpabDoor
open Go.RowKit
set_option linter.unusedVariables false
set_option linter.unusedSimpArgs false

def HObj.ob (o : HObj) : Ob := ⟨decide (o.state ≠ 0), o.fs, decide (o.state = 2), decide (o.state = 3)⟩
def HeapM.st (m : HeapM) : St := ⟨m.stack, m.globals, m.blks.map HObj.ob, m.queue⟩
/-- all but stack and globals -/
def HeapM.rest (m : HeapM) : Int × Int × Int × Int × List HObj × List Int := (m.room, m.budget, m.zero, m.over, m.blks, m.queue)

structure HeapM.Ok (m : HeapM) (N : Nat) : Prop where
  len : m.blks.length = N + 1
  small : N ≤ 99
  fields : ∀ o ∈ m.blks, o.fs.length ≤ 4
  stack : m.stack.length ≤ 16
  globals : m.globals.length ≤ 8

structure HPre (h N : Nat) (w : World) (m : HeapM) : Prop where
  r : HeapAt w h m
  ok : m.Ok N
  inv : m.st.Inv N
  deep : m.room ≤ 16

structure HStep (h N : Nat) (w : World) (m : HeapM) (w' : World) (m' : HeapM) : Prop where
  turn : HTurn h w m w' m'
  ok : m'.Ok N
  rest : m'.rest = m.rest

theorem HStep.of_below {h N : Nat} {w w' : World} {m : HeapM} (p : HPre h N w m) (hb : Below w.heap.size w w') : HStep h N w m w' m := ⟨.of_below p.r hb, p.ok, rfl⟩
theorem HStep.refl {h N : Nat} {w : World} {m : HeapM} (p : HPre h N w m) : HStep h N w m w m := ⟨.refl p.r, p.ok, rfl⟩
theorem HStep.trans {h N : Nat} {w w1 w2 : World} {m m1 m2 : HeapM} (a : HStep h N w m w1 m1) (b : HStep h N w1 m1 w2 m2) : HStep h N w m w2 m2 := ⟨a.turn.trans b.turn, b.ok, b.rest.trans a.rest⟩
theorem HStep.after {h N : Nat} {w w1 w2 : World} {m m1 : HeapM} (a : HStep h N w m w1 m1) (hb : Below w1.heap.size w1 w2) : HStep h N w m w2 m1 := ⟨a.turn.after hb, a.ok, a.rest⟩
theorem HStep.pre {h N : Nat} {w w' : World} {m m' : HeapM} (a : HStep h N w m w' m') (p : HPre h N w m) (hi : m'.st.Inv N) : HPre h N w' m' := ⟨a.turn.here, a.ok, hi, by have h1 : m'.room = m.room := congrArg Prod.fst a.rest; rw [h1]; exact p.deep⟩
theorem HPre.below {h N : Nat} {w w' : World} {m : HeapM} (p : HPre h N w m) (hb : Below w.heap.size w w') : HPre h N w' m := ⟨(HTurn.of_below p.r hb).here, p.ok, p.inv, p.deep⟩

def HDid (h N : Nat) (w : World) (m : HeapM) (p : St × Int × Int) (e : Ending) (w' : World) : Prop := e = .returned (.int .i64 p.2.2) ∧ ∃ m', HStep h N w m w' m' ∧ m'.st = p.1
def HDid2 (h N : Nat) (w : World) (m : HeapM) (p : St × Int × Int) (e : Ending) (w' : World) : Prop := e = .returned (.tuple #[.int .i64 p.2.1, .int .i64 p.2.2]) ∧ ∃ m', HStep h N w m w' m' ∧ m'.st = p.1

theorem hpush_do {h N : Nat} {w : World} {m : HeapM} (p : HPre h N w m) (x : Int × Int) :
    Calls Tryd.prog 26 #[.pointer (some ⟨h, 0, none⟩), .agg #[.int .i64 x.1, .int .i64 x.2]] w (HDid h N w m (pushA m.room m.st x)) := by
  by_cases hd : m.room ≤ m.stack.length
  · have e : pushA m.room m.st x = (m.st, 0, 7) := by unfold pushA pushS; rw [if_pos (show m.room ≤ (m.st.stack.length : Int) from hd)]
    refine (hpush_full p.r x hd).mono fun e' w' ⟨he, hb⟩ => ?_
    rw [e]
    exact ⟨he, m, .of_below p hb, rfl⟩
  · have e : pushA m.room m.st x = ({ m.st with stack := m.stack ++ [x] }, 0, 0) := by unfold pushA pushS; rw [if_neg (show ¬ m.room ≤ (m.st.stack.length : Int) from hd)]; rfl
    refine (hpush_room p.r p.ok.stack x (by omega)).mono fun e' w' ⟨he, v', ht⟩ => ?_
    rw [e]
    refine ⟨he, _, ⟨ht, ⟨p.ok.len, p.ok.small, p.ok.fields, ?_, p.ok.globals⟩, rfl⟩, rfl⟩
    have := p.deep
    simp; omega

theorem hpop_do {h N : Nat} {w : World} {m : HeapM} (p : HPre h N w m) (n : Nat) (hn : n ≤ m.stack.length) (h0 : 0 < m.stack.length) :
    Calls Tryd.prog 61 #[.pointer (some ⟨h, 0, none⟩), .int .i64 n] w fun e w' => e = .returned (.tuple #[]) ∧ ∃ v', HStep h N w m w' { m with vS := v', stack := m.stack.take (m.stack.length - n) } := by
  refine (hpop_any p.r p.ok.stack n hn h0).mono fun e' w' ⟨he, v', ht⟩ => ⟨he, v', ht, ⟨p.ok.len, p.ok.small, p.ok.fields, ?_, p.ok.globals⟩, rfl⟩
  have := p.ok.stack
  simp; omega

theorem hst_down (m : HeapM) (k : Nat) (hk : k < m.stack.length) : m.stack[m.stack.length - 1 - k]'(by omega) = m.st.down k := by
  unfold St.down
  rw [List.getD_eq_getElem?_getD]
  show _ = (m.stack[m.stack.length - 1 - k]?).getD _
  rw [List.getElem?_eq_getElem (by omega)]
  rfl

theorem hdown_do {h N : Nat} {w : World} {m : HeapM} (p : HPre h N w m) (k : Nat) (hk : k < m.stack.length) :
    Calls Tryd.prog 60 #[.pointer (some ⟨h, 0, none⟩), .int .i64 k] w
      fun e w' => e = .returned (.agg #[.int .i64 (m.st.down k).1, .int .i64 (m.st.down k).2]) ∧ Below w.heap.size w w' := by
  have := hdown_any p.r p.ok.stack k hk
  rw [hst_down m k hk] at this
  exact this

theorem HPre.stackCell {h N : Nat} {w : World} {m : HeapM} (p : HPre h N w m) : ∃ ao cap, w.cell? ⟨h, 4, none⟩ = some (.slice ao m.stack.length cap) := by
  obtain ⟨ao, cap, hv⟩ := own_slice p.r.stack
  exact ⟨ao, cap, by rw [p.r.cell.2.1, hv]⟩

theorem hturn_local {h N L : Nat} {w W w' : World} {m m' : HeapM} {ob : Obj} (p : HPre h N w m) (hb : Below w.heap.size w W) (hW : W.heap[L]? = some ob) (hL : w.heap.size ≤ L) (t : HTurn h W m w' m') : w'.heap[L]? = some ob := by
  rw [t.off.block L (lt_of_heap hW) ?_]
  · exact hW
  · intro e
    have := p.r.lt L e
    omega

theorem HPre.globalCell {h N : Nat} {w : World} {m : HeapM} (p : HPre h N w m) : ∃ ao cap, w.cell? ⟨h, 5, none⟩ = some (.slice ao m.globals.length cap) := by
  obtain ⟨ao, cap, hv⟩ := own_slice p.r.globals
  exact ⟨ao, cap, by rw [p.r.cell.2.2.1, hv]⟩

/-- the globals' row -/
theorem HeapAt.globalView {w : World} {h : Nat} {m : HeapM} (r : HeapAt w h m) (hs : 0 < m.globals.length) :
    ∃ g cap, m.vG = .slice (some ⟨g, 0, none⟩) m.globals.length cap ∧ g < w.heap.size ∧ g ≠ h ∧ m.vG.ownBlock = some g ∧ (∀ j, w.frozen? ⟨g, j, none⟩ = false) ∧
      ∀ i (hi : i < m.globals.length), w.cell? ⟨g, i * 2, none⟩ = some (.int .i64 (m.globals[i]).1) ∧ w.cell? ⟨g, i * 2 + 1, none⟩ = some (.int .i64 (m.globals[i]).2) := by
  obtain ⟨g, cap, hv, hg, hb, hc, hcell, hf⟩ := own_view r.globals hs
  refine ⟨g, cap, hv, hg, fun e => r.ne (x := hrow m.vG m.globals) (by simp [HeapM.rows]) (by rw [← e]; exact hb), hb, hf, fun i hi => ⟨?_, ?_⟩⟩
  · exact hcell _ _ (by have := flat_get valCells 2 (fun _ => rfl) m.globals i 0 (by decide); simpa [hi, valCells] using this)
  · exact hcell _ _ (by have := flat_get valCells 2 (fun _ => rfl) m.globals i 1 (by decide); simpa [hi, valCells] using this)

/-- a global is turned -/
theorem HeapAt.globalSet {w : World} {h : Nat} {m : HeapM} (r : HeapAt w h m) {g cap : Nat} (hv : m.vG = .slice (some ⟨g, 0, none⟩) m.globals.length cap) (k : Nat) (hk : k < m.globals.length) (x : Int × Int) :
    HTurn h w m ((w.setCell ⟨g, k * 2, none⟩ (.int .i64 x.1)).setCell ⟨g, k * 2 + 1, none⟩ (.int .i64 x.2)) { m with globals := m.globals.set k x } := by
  have hob : m.vG.ownBlock = some g := by rw [hv]; rfl
  have hgh : g ≠ h := fun e => r.ne (x := hrow m.vG m.globals) (by simp [HeapM.rows]) (by rw [← e]; exact hob)
  refine r.turn 1 (hrow m.vG m.globals) (hrow m.vG (m.globals.set k x)) rfl rfl ?_ ?_ ?_ ?_
  · rw [hso (fun e => hgh e.symm), hso (fun e => hgh e.symm)]; exact r.head
  · show (World.setCell _ _ _).ownsRow 0 _ 2 m.vG (m.globals.set k x).length ((m.globals.set k x).flatMap valCells)
    have hi : m.globals[k]? = some m.globals[k] := List.getElem?_eq_getElem hk
    have e1 := flat_set valCells 2 (fun _ => rfl) m.globals k 0 (by decide) _ (.int .i64 x.1) hi (x.1, (m.globals[k]).2) rfl
    have h1 : (m.globals.set k (x.1, (m.globals[k]).2))[k]? = some (x.1, (m.globals[k]).2) := by simp [hk]
    have e2 := flat_set valCells 2 (fun _ => rfl) _ k 1 (by decide) _ (.int .i64 x.2) h1 x rfl
    rw [List.set_set, e1] at e2
    rw [List.length_set, e2, Nat.add_zero]
    have hb := r.globals
    rw [hv] at hb ⊢
    exact ((hb.stored _ _).1.stored _ _).1
  · intro j hj
    exact .inl hj
  · have hm : ∀ y ∈ [g], y ∈ h :: (hrow m.vG m.globals).ob.toList := fun y hy => by simp at hy; subst hy; exact List.mem_cons_of_mem _ (by simp [SRow.ob, hrow, hob])
    exact ((off_setCell w g _ _).mono hm).trans ((off_setCell _ g _ _).mono hm)

set_option maxHeartbeats 800000 in
theorem hdup_do (h N : Nat) (w : World) (m : HeapM) (n : Int) (p : HPre h N w m) : Calls Tryd.prog 28 #[.pointer (some ⟨h, 0, none⟩), .int .i64 n] w (HDid h N w m (dupS m.room m.st n)) := by
  obtain ⟨ao, cap, cS⟩ := p.stackCell
  have hl := p.ok.stack
  by_cases hc : n < 0 ∨ (m.stack.length : Int) ≤ n
  · have e : dupS m.room m.st n = (m.st, 0, 6) := by unfold dupS; exact if_pos hc
    simp only [e]
    have K : Hid (∃ m', HStep h N w m w m' ∧ m'.st = m.st) := ⟨m, .refl p, rfl⟩
    obtain ⟨len, hlen⟩ : ∃ len, m.stack.length = len := ⟨_, rfl⟩
    rw [hlen] at hc cS hl
    clear p e hlen
    rcases hc with hc | hc
    · go_enter Tryd.func28, Tryd.ntmps28
      go_wp2
      go_ret
      exact ⟨rfl, K.out⟩
    · have hn : ¬ n < 0 := by omega
      go_enter Tryd.func28, Tryd.ntmps28
      go_wp2
      go_ret
      exact ⟨rfl, K.out⟩
  · obtain ⟨k, rfl⟩ : ∃ k : Nat, n = k := ⟨n.toNat, by omega⟩
    have hk : k < m.stack.length := by omega
    have e : dupS m.room m.st k = pushA m.room m.st (m.st.down k) := by unfold dupS; exact (if_neg hc).trans (by rw [Int.toNat_natCast])
    simp only [e]
    have DN := hdown_do p k hk
    have D : Hid _ := DN
    have PU : Hid (∀ W, Below w.heap.size w W → Calls Tryd.prog 26 #[.pointer (some ⟨h, 0, none⟩), .agg #[.int .i64 (m.st.down k).1, .int .i64 (m.st.down k).2]] W fun e w' => HDid h N w m (pushA m.room m.st (m.st.down k)) e w') :=
      fun W hb => (hpush_do (p.below hb) (m.st.down k)).mono fun e w' ⟨he, m', hs, hm⟩ => ⟨he, m', (HStep.of_below p hb).trans hs, hm⟩
    obtain ⟨len, hlen⟩ : ∃ len, m.stack.length = len := ⟨_, rfl⟩
    rw [hlen] at hc cS hl hk
    obtain ⟨x, hx⟩ : ∃ x, m.st.down k = x := ⟨_, rfl⟩
    rw [hx] at D PU ⊢
    obtain ⟨x1, x2⟩ := x
    clear p e DN hlen hx hc
    have hkI : (k : Int) < len := by omega
    go_enter Tryd.func28, Tryd.ntmps28
    go_wp2_with fail
    refine Calls.mono D.out ?_
    rintro e w1 ⟨rfl, hb⟩
    have B : Hid (Below w.heap.size w w1) := hb
    clear hb D
    go_wp2_with fail
    refine Calls.mono (PU.out _ (B.out.alloc B.out.size _)) ?_
    rintro e w2 ⟨rfl, hm⟩
    have M : Hid _ := hm
    clear hm PU
    go_wp2
    go_ret
    exact ⟨rfl, M.out⟩

set_option maxHeartbeats 400000 in
theorem hdrop_do (h N : Nat) (w : World) (m : HeapM) (p : HPre h N w m) : Calls Tryd.prog 29 #[.pointer (some ⟨h, 0, none⟩)] w (HDid h N w m (dropS m.st)) := by
  obtain ⟨ao, cap, cS⟩ := p.stackCell
  have hl := p.ok.stack
  by_cases hc : m.stack.length < 1
  · have e : dropS m.st = (m.st, 0, 3) := by unfold dropS; rw [if_pos (show m.st.stack.length < 1 from hc)]
    simp only [e]
    have K : Hid (∃ m', HStep h N w m w m' ∧ m'.st = m.st) := ⟨m, .refl p, rfl⟩
    obtain ⟨len, hlen⟩ : ∃ len, m.stack.length = len := ⟨_, rfl⟩
    rw [hlen] at hc cS hl
    clear p e hlen
    obtain rfl : len = 0 := by omega
    go_enter Tryd.func29, Tryd.ntmps29
    go_wp2
    go_ret
    exact ⟨rfl, K.out⟩
  · have e : dropS m.st = (m.st.pop 1, 0, 0) := by unfold dropS; rw [if_neg (show ¬ m.st.stack.length < 1 from hc)]
    simp only [e]
    have PO := hpop_do p 1 (by omega) (by omega)
    have P : Hid _ := PO
    obtain ⟨len, hlen⟩ : ∃ len, m.stack.length = len := ⟨_, rfl⟩
    rw [hlen] at hc cS hl
    have L : Hid (m.stack.length = len) := hlen
    clear p e hlen PO
    go_enter Tryd.func29, Tryd.ntmps29
    go_wp2_with fail
    refine Calls.mono P.out ?_
    rintro e w1 ⟨rfl, v', hm⟩
    have M : Hid (∃ m', HStep h N w m w1 m' ∧ m'.st = m.st.pop 1) := ⟨_, hm, rfl⟩
    clear hm P
    go_wp2
    go_ret
    exact ⟨rfl, M.out⟩

set_option maxHeartbeats 800000 in
theorem hget_do (h N : Nat) (w : World) (m : HeapM) (n : Int) (p : HPre h N w m) : Calls Tryd.prog 30 #[.pointer (some ⟨h, 0, none⟩), .int .i64 n] w (HDid h N w m (getS m.room m.st n)) := by
  obtain ⟨ao, cap, cG⟩ := p.globalCell
  have hl := p.ok.globals
  by_cases hc : n < 0 ∨ (m.globals.length : Int) ≤ n
  · have e : getS m.room m.st n = (m.st, 0, 6) := by unfold getS; exact if_pos hc
    simp only [e]
    have K : Hid (∃ m', HStep h N w m w m' ∧ m'.st = m.st) := ⟨m, .refl p, rfl⟩
    obtain ⟨len, hlen⟩ : ∃ len, m.globals.length = len := ⟨_, rfl⟩
    rw [hlen] at hc cG hl
    clear p e hlen
    rcases hc with hc | hc
    · go_enter Tryd.func30, Tryd.ntmps30
      go_wp2
      go_ret
      exact ⟨rfl, K.out⟩
    · have hn : ¬ n < 0 := by omega
      go_enter Tryd.func30, Tryd.ntmps30
      go_wp2
      go_ret
      exact ⟨rfl, K.out⟩
  · obtain ⟨k, rfl⟩ : ∃ k : Nat, n = k := ⟨n.toNat, by omega⟩
    have hk : k < m.globals.length := by omega
    have e : getS m.room m.st k = pushA m.room m.st m.globals[k] := by
      unfold getS
      exact (if_neg hc).trans (by rw [Int.toNat_natCast, List.getD_eq_getElem?_getD]; show pushA _ _ ((m.globals[k]?).getD _) = _; rw [List.getElem?_eq_getElem hk]; rfl)
    simp only [e]
    obtain ⟨g, cap', hv, hg, hgh, _, _, hcell⟩ := p.r.globalView (by omega)
    have cG' : w.cell? ⟨h, 5, none⟩ = some (.slice (some ⟨g, 0, none⟩) m.globals.length cap') := by rw [p.r.cell.2.2.1, hv]
    obtain ⟨c0, c1⟩ := hcell k hk
    have PU := hpush_do p m.globals[k]
    have P : Hid _ := PU
    obtain ⟨x, hx⟩ : ∃ x, m.globals[k] = x := ⟨_, rfl⟩
    rw [hx] at P c0 c1 ⊢
    obtain ⟨len, hlen⟩ : ∃ len, m.globals.length = len := ⟨_, rfl⟩
    rw [hlen] at hc cG' hl hk
    obtain ⟨x1, x2⟩ := x
    simp only at c0 c1
    clear p e PU hlen hx hc cG hcell hv
    have hkI : (k : Int) < len := by omega
    go_enter Tryd.func30, Tryd.ntmps30
    go_wp2_with fail
    refine Calls.mono P.out ?_
    rintro e w1 ⟨rfl, hm⟩
    have M : Hid _ := hm
    clear hm P
    go_wp2
    go_ret
    exact ⟨rfl, M.out⟩

set_option maxHeartbeats 1000000 in
theorem hset_do (h N : Nat) (w : World) (m : HeapM) (n : Int) (p : HPre h N w m) : Calls Tryd.prog 31 #[.pointer (some ⟨h, 0, none⟩), .int .i64 n] w (HDid h N w m (setS m.st n)) := by
  obtain ⟨ao, cap, cG⟩ := p.globalCell
  obtain ⟨so, sc, cS⟩ := p.stackCell
  have hl := p.ok.globals
  have hls := p.ok.stack
  by_cases hc : n < 0 ∨ (m.globals.length : Int) ≤ n
  · have e : setS m.st n = (m.st, 0, 6) := by unfold setS; exact if_pos hc
    simp only [e]
    have K : Hid (∃ m', HStep h N w m w m' ∧ m'.st = m.st) := ⟨m, .refl p, rfl⟩
    obtain ⟨len, hlen⟩ : ∃ len, m.globals.length = len := ⟨_, rfl⟩
    rw [hlen] at hc cG hl
    clear p e hlen
    rcases hc with hc | hc
    · go_enter Tryd.func31, Tryd.ntmps31
      go_wp2
      go_ret
      exact ⟨rfl, K.out⟩
    · have hn : ¬ n < 0 := by omega
      go_enter Tryd.func31, Tryd.ntmps31
      go_wp2
      go_ret
      exact ⟨rfl, K.out⟩
  · obtain ⟨k, rfl⟩ : ∃ k : Nat, n = k := ⟨n.toNat, by omega⟩
    have hk : k < m.globals.length := by omega
    by_cases h0 : m.stack.length < 1
    · have e : setS m.st k = (m.st, 0, 3) := by unfold setS; exact (if_neg hc).trans (if_pos h0)
      simp only [e]
      have K : Hid (∃ m', HStep h N w m w m' ∧ m'.st = m.st) := ⟨m, .refl p, rfl⟩
      obtain ⟨len, hlen⟩ : ∃ len, m.globals.length = len := ⟨_, rfl⟩
      rw [hlen] at hc cG hl hk
      obtain ⟨sl, hsl⟩ : ∃ sl, m.stack.length = sl := ⟨_, rfl⟩
      rw [hsl] at h0 cS hls
      clear p e hlen hc hsl
      obtain rfl : sl = 0 := by omega
      have hkI : (k : Int) < len := by omega
      go_enter Tryd.func31, Tryd.ntmps31
      go_wp2
      go_ret
      exact ⟨rfl, K.out⟩
    · have e : setS m.st k = ({ m.st.pop 1 with globals := m.globals.set k (m.st.down 0) }, 0, 0) := by unfold setS; exact (if_neg hc).trans ((if_neg h0).trans (by rw [Int.toNat_natCast]; rfl))
      simp only [e]
      obtain ⟨g, cap', hv, hg, hgh, _, hfz, hcell⟩ := p.r.globalView (by omega)
      have cG' : w.cell? ⟨h, 5, none⟩ = some (.slice (some ⟨g, 0, none⟩) m.globals.length cap') := by rw [p.r.cell.2.2.1, hv]
      obtain ⟨c0, c1⟩ := hcell k hk
      have hh := lt_of_heap p.r.head
      have DN : Hid (∀ W, Below w.heap.size w W → Calls Tryd.prog 60 #[.pointer (some ⟨h, 0, none⟩), .int .i64 0] W fun e w' => e = .returned (.agg #[.int .i64 (m.st.down 0).1, .int .i64 (m.st.down 0).2]) ∧ Below W.heap.size W w') := fun W hb => hdown_do (p.below hb) 0 (by show 0 < m.stack.length; omega)
      have FIN : Hid (∀ W, Below w.heap.size w W → HPre h N ((W.setCell ⟨g, k * 2, none⟩ (.int .i64 (m.st.down 0).1)).setCell ⟨g, k * 2 + 1, none⟩ (.int .i64 (m.st.down 0).2)) { m with globals := m.globals.set k (m.st.down 0) } ∧
        HStep h N w m ((W.setCell ⟨g, k * 2, none⟩ (.int .i64 (m.st.down 0).1)).setCell ⟨g, k * 2 + 1, none⟩ (.int .i64 (m.st.down 0).2)) { m with globals := m.globals.set k (m.st.down 0) }) := by
        intro W hb
        have t := HTurn.pre p.r hb ((p.below hb).r.globalSet hv k hk (m.st.down 0))
        have s : HStep h N w m _ _ := ⟨t, ⟨p.ok.len, p.ok.small, p.ok.fields, p.ok.stack, by simpa using p.ok.globals⟩, rfl⟩
        refine ⟨s.pre p ⟨p.inv.stack, fun v hv => ?_, p.inv.fields, p.inv.len⟩, s⟩
        rcases List.mem_or_eq_of_mem_set hv with e | e
        · exact p.inv.globals v e
        · subst e; exact p.inv.down 0
      have OLD : Hid (∀ W, Below w.heap.size w W → W.cell? ⟨h, 5, none⟩ = some (.slice (some ⟨g, 0, none⟩) m.globals.length cap') ∧ W.cell? ⟨g, k * 2, none⟩ = some (.int .i64 (m.globals[k]).1) ∧ W.cell? ⟨g, k * 2 + 1, none⟩ = some (.int .i64 (m.globals[k]).2) ∧ W.frozen? ⟨g, k * 2, none⟩ = false ∧ W.frozen? ⟨g, k * 2 + 1, none⟩ = false) := fun W hb =>
        ⟨(hb.cell (p := ⟨h, 5, none⟩) hh).trans cG', (hb.cell (p := ⟨g, k * 2, none⟩) hg).trans c0, (hb.cell (p := ⟨g, k * 2 + 1, none⟩) hg).trans c1, (hb.frozen (p := ⟨g, k * 2, none⟩) hg).trans (hfz _), (hb.frozen (p := ⟨g, k * 2 + 1, none⟩) hg).trans (hfz _)⟩
      have hsl : 0 < m.stack.length := by omega
      obtain ⟨x, hx⟩ : ∃ x, m.st.down 0 = x := ⟨_, rfl⟩
      rw [hx] at DN FIN ⊢
      obtain ⟨y, hy⟩ : ∃ y, m.globals[k] = y := ⟨_, rfl⟩
      rw [hy] at c0 c1 OLD
      obtain ⟨x1, x2⟩ := x
      obtain ⟨y1, y2⟩ := y
      have POP : Hid (∀ W, HPre h N W { m with globals := m.globals.set k (x1, x2) } → HStep h N w m W { m with globals := m.globals.set k (x1, x2) } → Calls Tryd.prog 61 #[.pointer (some ⟨h, 0, none⟩), .int .i64 1] W fun e w' => e = .returned (.tuple #[]) ∧ ∃ m', HStep h N w m w' m' ∧ m'.st = { m.st.pop 1 with globals := m.globals.set k (x1, x2) }) :=
        fun W hp hs => (hpop_do hp 1 hsl hsl).mono fun e w' ⟨he, v', hs'⟩ => ⟨he, _, hs.trans hs', rfl⟩
      obtain ⟨len, hlen⟩ : ∃ len, m.globals.length = len := ⟨_, rfl⟩
      rw [hlen] at hc cG' hl hk OLD
      obtain ⟨sl, hsl'⟩ : ∃ sl, m.stack.length = sl := ⟨_, rfl⟩
      rw [hsl'] at h0 cS hls hsl
      simp only at *
      clear p e hlen hx hy hc cG hcell hv hfz hsl'
      have hkI : (k : Int) < len := by omega
      go_enter Tryd.func31, Tryd.ntmps31
      go_wp2_with fail
      go_region_with (go_at_call 60; refine (DN.out _ (Below.refl _ _).drew).mono ?_; rintro e w1 ⟨rfl, hb⟩; have B1 : Hid (Below w.heap.size w w1) := ((Below.refl _ _).drew).trans hb; obtain ⟨d0, d1, d2, d3, d4⟩ := OLD.out w1 B1.out; clear hb)
      all_goals
        have FF := FIN.out _ B1.out
        clear d0 d1 d2 d3 d4
        have F1 : Hid _ := FF
        clear FF
        go_wp2_with fail
        refine Calls.mono (POP.out _ F1.out.1 F1.out.2) ?_
        rintro e w2 ⟨rfl, hm⟩
        have M : Hid _ := hm
        clear hm
        go_wp2
        go_ret
        exact ⟨rfl, M.out⟩

end Go.Proofs.YtpmkjeihbddfpabDoor

/- OUR OWN. The program's heap: operations that tell. -/
namespace Go.Proofs.YtpmkjeihbddfpabDoor
open Go.RowKit
set_option linter.unusedVariables false
set_option linter.unusedSimpArgs false

theorem checkRef_any (v : Int × Int) (w : World) :
    Calls Tryd.prog 65 #[.agg #[.int .i64 v.1, .int .i64 v.2]] w fun e w' => e = .returned (.int .i64 (if v.1 = 0 then 4 else if v.1 = 1 then 5 else 0)) ∧ Below w.heap.size w w' := by
  obtain ⟨k, n⟩ := v
  simp only
  by_cases h0 : k = 0
  · subst h0
    go_enter Tryd.func65, Tryd.ntmps65
    go_wp2
    go_ret
    exact ⟨rfl, (Below.refl _ _).alloc (Nat.le_refl _) _⟩
  · rw [if_neg h0]
    have e0 : (k == 0) = false := by simpa using h0
    by_cases h1 : k = 1
    · subst h1
      go_enter Tryd.func65, Tryd.ntmps65
      go_wp2
      go_ret
      exact ⟨rfl, (Below.refl _ _).alloc (Nat.le_refl _) _⟩
    · rw [if_neg h1]
      have e1 : (k == 1) = false := by simpa using h1
      go_enter Tryd.func65, Tryd.ntmps65
      go_wp2
      go_ret
      exact ⟨rfl, (Below.refl _ _).alloc (Nat.le_refl _) _⟩

/-- the blocks' row -/
theorem HeapAt.view {w : World} {h : Nat} {m : HeapM} {N : Nat} (r : HeapAt w h m) (hlen : m.blks.length = N + 1) :
    ∃ g cap, m.vB = .slice (some ⟨g, 0, none⟩) (N + 1) cap ∧ g < w.heap.size ∧ g ≠ h ∧ m.vB.ownBlock = some g ∧ (∀ j, w.frozen? ⟨g, j, none⟩ = false) ∧
      ∀ i (hi : i < m.blks.length), w.cell? ⟨g, i * 3, none⟩ = some (.int .i64 (m.blks[i]).state) ∧ w.cell? ⟨g, i * 3 + 1, none⟩ = some (.int .i64 (m.blks[i]).count) ∧ w.cell? ⟨g, i * 3 + 2, none⟩ = some (m.blks[i]).vF := by
  obtain ⟨g, cap, hv, hg, hb, _, hc, hf⟩ := own_view r.blocks (by rw [hlen]; omega)
  rw [hlen] at hv
  refine ⟨g, cap, hv, hg, fun e => r.ne (x := ⟨56, 3, m.vB, m.blks.length, m.blks.flatMap HObj.cells⟩) (by simp [HeapM.rows]) (by rw [← e]; exact hb), hb, hf, fun i hi => ?_⟩
  have key : ∀ j, j < 3 → ∀ u, (m.blks[i]).cells[j]? = some u → w.cell? ⟨g, i * 3 + j, none⟩ = some u := fun j hj u hu =>
    hc _ _ (by rw [flat_get HObj.cells 3 (fun _ => rfl) m.blks i j hj, List.getElem?_eq_getElem hi]; exact hu)
  exact ⟨key 0 (by decide) _ rfl, key 1 (by decide) _ rfl, key 2 (by decide) _ rfl⟩

theorem hst_ob {m : HeapM} {i : Nat} {o : HObj} (h : m.blks[i]? = some o) : m.st.ob i = o.ob := by
  refine ob_of ?_
  show (m.blks.map HObj.ob)[i]? = _
  rw [List.getElem?_map, h]; rfl
theorem HPre.obj {h N : Nat} {w : World} {m : HeapM} (p : HPre h N w m) (b : Int) (hb : 1 ≤ b ∧ b ≤ N) : ∃ (i : Nat) (hi : i < m.blks.length), b = i ∧ i ≤ N ∧ m.st.fields b = (m.blks[i]).fs := by
  refine ⟨b.toNat, by rw [p.ok.len]; omega, by omega, by omega, ?_⟩
  unfold St.fields
  rw [hst_ob (List.getElem?_eq_getElem (by rw [p.ok.len]; omega))]; rfl

theorem sameValue_any (x y : Int × Int) (w : World) :
    Calls Tryd.prog 64 #[.agg #[.int .i64 x.1, .int .i64 x.2], .agg #[.int .i64 y.1, .int .i64 y.2]] w fun e w' => e = .returned (.bool (decide (x = y))) ∧ Below w.heap.size w w' := by
  obtain ⟨x1, x2⟩ := x
  obtain ⟨y1, y2⟩ := y
  simp only
  by_cases q1 : x1 = y1
  · subst q1
    by_cases q2 : x2 = y2
    · subst q2
      go_enter Tryd.func64, Tryd.ntmps64
      go_wp2
      go_ret
      exact ⟨ret_bool (by simp), ((Below.refl _ _).alloc (Nat.le_refl _) _).alloc (by simp) _⟩
    · have q3 : (x2 == y2) = false := by simpa using q2
      go_enter Tryd.func64, Tryd.ntmps64
      go_wp2
      go_ret
      exact ⟨ret_bool (by simp [q2]), ((Below.refl _ _).alloc (Nat.le_refl _) _).alloc (by simp) _⟩
  · have q3 : (x1 == y1) = false := by simpa using q1
    go_enter Tryd.func64, Tryd.ntmps64
    go_wp2
    go_ret
    exact ⟨ret_bool (by simp [q1]), ((Below.refl _ _).alloc (Nat.le_refl _) _).alloc (by simp) _⟩

set_option maxHeartbeats 400000 in
theorem kind_empty (h N : Nat) (w : World) (m : HeapM) (p : HPre h N w m) (hc : m.stack.length < 1) :
    Calls Tryd.prog 37 #[.pointer (some ⟨h, 0, none⟩)] w (HDid2 h N w m (m.st, 0, 3)) := by
  obtain ⟨ao, cap, cS⟩ := p.stackCell
  have K : Hid (∃ m', HStep h N w m w m' ∧ m'.st = m.st) := ⟨m, .refl p, rfl⟩
  obtain ⟨len, hlen⟩ : ∃ len, m.stack.length = len := ⟨_, rfl⟩
  rw [hlen] at hc cS
  clear p hlen
  obtain rfl : len = 0 := by omega
  go_enter Tryd.func37, Tryd.ntmps37
  go_wp2
  go_ret2
  exact ⟨rfl, K.out⟩

set_option maxHeartbeats 400000 in
theorem take_empty (h N : Nat) (w : World) (m : HeapM) (p : HPre h N w m) (hc : m.stack.length < 1) :
    Calls Tryd.prog 35 #[.pointer (some ⟨h, 0, none⟩)] w (HDid2 h N w m (m.st, 0, 3)) := by
  obtain ⟨ao, cap, cS⟩ := p.stackCell
  have K : Hid (∃ m', HStep h N w m w m' ∧ m'.st = m.st) := ⟨m, .refl p, rfl⟩
  obtain ⟨len, hlen⟩ : ∃ len, m.stack.length = len := ⟨_, rfl⟩
  rw [hlen] at hc cS
  clear p hlen
  obtain rfl : len = 0 := by omega
  go_enter Tryd.func35, Tryd.ntmps35
  go_wp2
  go_ret2
  exact ⟨rfl, K.out⟩

set_option maxHeartbeats 400000 in
theorem size_empty (h N : Nat) (w : World) (m : HeapM) (p : HPre h N w m) (hc : m.stack.length < 1) :
    Calls Tryd.prog 36 #[.pointer (some ⟨h, 0, none⟩)] w (HDid2 h N w m (m.st, 0, 3)) := by
  obtain ⟨ao, cap, cS⟩ := p.stackCell
  have K : Hid (∃ m', HStep h N w m w m' ∧ m'.st = m.st) := ⟨m, .refl p, rfl⟩
  obtain ⟨len, hlen⟩ : ∃ len, m.stack.length = len := ⟨_, rfl⟩
  rw [hlen] at hc cS
  clear p hlen
  obtain rfl : len = 0 := by omega
  go_enter Tryd.func36, Tryd.ntmps36
  go_wp2
  go_ret2
  exact ⟨rfl, K.out⟩

set_option maxHeartbeats 800000 in
theorem hkind_do (h N : Nat) (w : World) (m : HeapM) (p : HPre h N w m) : Calls Tryd.prog 37 #[.pointer (some ⟨h, 0, none⟩)] w (HDid2 h N w m (kindS m.st)) := by
  by_cases hc : m.stack.length < 1
  · have e : kindS m.st = (m.st, 0, 3) := by unfold kindS; exact if_pos hc
    rw [e]
    exact kind_empty h N w m p hc
  · have e : kindS m.st = (m.st, (m.st.down 0).1, 0) := by unfold kindS; exact if_neg hc
    rw [e]
    obtain ⟨ao, cap, cS⟩ := p.stackCell
    have DN := hdown_do p 0 (by omega)
    have D : Hid _ := DN
    have K : Hid (∀ W, Below w.heap.size w W → ∃ m', HStep h N w m W m' ∧ m'.st = m.st) := fun W hb => ⟨m, .of_below p hb, rfl⟩
    obtain ⟨len, hlen⟩ : ∃ len, m.stack.length = len := ⟨_, rfl⟩
    rw [hlen] at hc cS
    obtain ⟨x, hx⟩ : ∃ x, m.st.down 0 = x := ⟨_, rfl⟩
    rw [hx] at D ⊢
    obtain ⟨x1, x2⟩ := x
    clear p hlen e DN hx
    have hcI : ((len : Int) == 0) = false := by simp; omega
    have hcJ0 : ¬ len = 0 := by omega
    go_enter Tryd.func37, Tryd.ntmps37
    go_wp2_with fail
    refine Calls.mono D.out ?_
    rintro e w1 ⟨rfl, hb⟩
    have B : Hid (Below w.heap.size w w1) := hb
    clear hb D
    go_wp2
    go_ret2
    exact ⟨rfl, K.out _ (B.out.alloc B.out.size _)⟩

set_option maxHeartbeats 800000 in
theorem htake_do (h N : Nat) (w : World) (m : HeapM) (p : HPre h N w m) : Calls Tryd.prog 35 #[.pointer (some ⟨h, 0, none⟩)] w (HDid2 h N w m (takeS m.st)) := by
  by_cases hc : m.stack.length < 1
  · have e : takeS m.st = (m.st, 0, 3) := by unfold takeS; exact if_pos hc
    rw [e]
    exact take_empty h N w m p hc
  · obtain ⟨ao, cap, cS⟩ := p.stackCell
    have DN := hdown_do p 0 (by omega)
    have D : Hid _ := DN
    have K : Hid (∀ W, Below w.heap.size w W → ∃ m', HStep h N w m W m' ∧ m'.st = m.st) := fun W hb => ⟨m, .of_below p hb, rfl⟩
    by_cases he : (m.st.down 0).1 = 1
    · have e : takeS m.st = (m.st.pop 1, (m.st.down 0).2, 0) := by unfold takeS; exact (if_neg hc).trans (if_pos he)
      rw [e]
      have POP : Hid (∀ W, Below w.heap.size w W → Calls Tryd.prog 61 #[.pointer (some ⟨h, 0, none⟩), .int .i64 1] W fun e w' => e = .returned (.tuple #[]) ∧ (∃ m', HStep h N w m w' m' ∧ m'.st = m.st.pop 1) ∧ ∀ L ob, w.heap.size ≤ L → W.heap[L]? = some ob → w'.heap[L]? = some ob) :=
        fun W hb => (hpop_do (p.below hb) 1 (by omega) (by omega)).mono fun e w' ⟨he, v', hs⟩ => ⟨he, ⟨_, (HStep.of_below p hb).trans hs, rfl⟩, fun L ob hL hW => hturn_local p hb hW hL hs.turn⟩
      obtain ⟨len, hlen⟩ : ∃ len, m.stack.length = len := ⟨_, rfl⟩
      rw [hlen] at hc cS
      obtain ⟨x, hx⟩ : ∃ x, m.st.down 0 = x := ⟨_, rfl⟩
      rw [hx] at D he ⊢
      obtain ⟨x1, x2⟩ := x
      simp only at he
      subst he
      clear p hlen e DN hx K
      have hcI : ((len : Int) == 0) = false := by simp; omega
      have hcJ0 : ¬ len = 0 := by omega
      go_enter Tryd.func35, Tryd.ntmps35
      go_wp2_with fail
      refine Calls.mono D.out ?_
      rintro e w1 ⟨rfl, hb⟩
      have B : Hid (Below w.heap.size w w1) := hb
      clear hb D
      go_wp2_with fail
      refine Calls.mono (POP.out _ (B.out.alloc B.out.size _)) ?_
      rintro e w2 ⟨rfl, hm, hloc⟩
      have l0 := hloc w1.heap.size _ B.out.size (heap_alloc_new w1 _)
      have l1 : w2.cell? ⟨w1.heap.size, 1, none⟩ = some (.int .i64 x2) := cell_of_heap l0 rfl
      have M : Hid _ := hm
      clear hm hloc l0 POP B
      go_wp2
      go_ret2
      exact ⟨rfl, M.out⟩
    · have e : takeS m.st = (m.st, 0, 5) := by unfold takeS; exact (if_neg hc).trans (if_neg he)
      rw [e]
      obtain ⟨len, hlen⟩ : ∃ len, m.stack.length = len := ⟨_, rfl⟩
      rw [hlen] at hc cS
      obtain ⟨x, hx⟩ : ∃ x, m.st.down 0 = x := ⟨_, rfl⟩
      rw [hx] at D he
      obtain ⟨x1, x2⟩ := x
      simp only at he
      have he2 : (x1 == 1) = false := by simpa using he
      clear p hlen e DN hx
      have hcI : ((len : Int) == 0) = false := by simp; omega
      have hcJ0 : ¬ len = 0 := by omega
      go_enter Tryd.func35, Tryd.ntmps35
      go_wp2_with fail
      refine Calls.mono D.out ?_
      rintro e w1 ⟨rfl, hb⟩
      have B : Hid (Below w.heap.size w w1) := hb
      clear hb D
      go_wp2
      go_ret2
      exact ⟨rfl, K.out _ (B.out.alloc B.out.size _)⟩

set_option maxHeartbeats 800000 in
theorem hsize_do (h N : Nat) (w : World) (m : HeapM) (p : HPre h N w m) : Calls Tryd.prog 36 #[.pointer (some ⟨h, 0, none⟩)] w (HDid2 h N w m (sizeS m.st)) := by
  by_cases hc : m.stack.length < 1
  · have e : sizeS m.st = (m.st, 0, 3) := by unfold sizeS; exact if_pos hc
    rw [e]
    exact size_empty h N w m p hc
  · obtain ⟨ao, cap, cS⟩ := p.stackCell
    have DN := hdown_do p 0 (by omega)
    have D : Hid _ := DN
    have K : Hid (∀ W, Below w.heap.size w W → ∃ m', HStep h N w m W m' ∧ m'.st = m.st) := fun W hb => ⟨m, .of_below p hb, rfl⟩
    have hv := p.inv.down 0
    by_cases he : objErr (m.st.down 0) ≠ 0
    · have e : sizeS m.st = (m.st, 0, objErr (m.st.down 0)) := by unfold sizeS; exact (if_neg hc).trans (if_pos he)
      rw [e]
      obtain ⟨len, hlen⟩ : ∃ len, m.stack.length = len := ⟨_, rfl⟩
      rw [hlen] at hc cS
      obtain ⟨x, hx⟩ : ∃ x, m.st.down 0 = x := ⟨_, rfl⟩
      rw [hx] at D he ⊢
      obtain ⟨x1, x2⟩ := x
      have OB := checkRef_any (x1, x2)
      have O : Hid (∀ W, Calls Tryd.prog 65 #[.agg #[.int .i64 x1, .int .i64 x2]] W fun e w' => e = .returned (.int .i64 (objErr (x1, x2))) ∧ Below W.heap.size W w') := OB
      obtain ⟨er, her⟩ : ∃ er, objErr (x1, x2) = er := ⟨_, rfl⟩
      rw [her] at he O ⊢
      have he2 : (er == 0) = false := by simpa using he
      clear p hlen e DN hx hv OB her
      have hcI : ((len : Int) == 0) = false := by simp; omega
      have hcJ0 : ¬ len = 0 := by omega
      go_enter Tryd.func36, Tryd.ntmps36
      go_wp2_with fail
      refine Calls.mono D.out ?_
      rintro e w1 ⟨rfl, hb⟩
      have B : Hid (Below w.heap.size w w1) := hb
      clear hb D
      go_wp2_with fail
      refine Calls.mono (O.out _) ?_
      rintro e w2 ⟨rfl, hb⟩
      have B2 : Hid (Below w.heap.size w w2) := (B.out.alloc B.out.size _).trans (hb.mono (by simp; have := B.out.size; omega))
      clear hb O
      go_wp2
      go_ret2
      exact ⟨rfl, K.out _ B2.out⟩
    · have he : objErr (m.st.down 0) = 0 := by omega
      have e : sizeS m.st = (m.st, ((m.st.fields (m.st.down 0).2).length : Int), 0) := by unfold sizeS; exact (if_neg hc).trans (if_neg (by omega))
      rw [e]
      obtain ⟨i, hi, hbi, hiN, hfs⟩ := p.obj _ (ref_of hv he)
      obtain ⟨g, capB, hvB, hg, _, _, _, hobj⟩ := p.r.view p.ok.len
      have cB : w.cell? ⟨h, 6, none⟩ = some (.slice (some ⟨g, 0, none⟩) (N + 1) capB) := by rw [p.r.cell.2.2.2.1, hvB]
      have c1 := (hobj i hi).2.2
      obtain ⟨fo, fc, hvF⟩ := own_slice (p.r.fields _ (List.getElem_mem hi))
      rw [hvF] at c1
      rw [hfs]
      have hh := lt_of_heap p.r.head
      obtain ⟨fl, hfl⟩ : ∃ fl, (m.blks[i]).fs.length = fl := ⟨_, rfl⟩
      rw [hfl] at c1 ⊢
      obtain ⟨len, hlen⟩ : ∃ len, m.stack.length = len := ⟨_, rfl⟩
      rw [hlen] at hc cS
      obtain ⟨x, hx⟩ : ∃ x, m.st.down 0 = x := ⟨_, rfl⟩
      rw [hx] at D he hbi
      obtain ⟨x1, x2⟩ := x
      simp only at hbi
      subst hbi
      have OB := checkRef_any (x1, (i : Int))
      have O : Hid (∀ W, Calls Tryd.prog 65 #[.agg #[.int .i64 x1, .int .i64 i]] W fun e w' => e = .returned (.int .i64 0) ∧ Below W.heap.size W w') := fun W => (OB W).mono fun e w' ⟨h1, h2⟩ => ⟨h1.trans (ret_int he), h2⟩
      have OLD : Hid (∀ W, Below w.heap.size w W → W.cell? ⟨h, 6, none⟩ = some (.slice (some ⟨g, 0, none⟩) (N + 1) capB) ∧ W.cell? ⟨g, i * 3 + 2, none⟩ = some (.slice fo fl fc)) := fun W hb =>
        ⟨(hb.cell (p := ⟨h, 6, none⟩) hh).trans cB, (hb.cell (p := ⟨g, i * 3 + 2, none⟩) hg).trans c1⟩
      have hN := p.ok.small
      clear p hlen e DN hx hv OB he hfs hobj hvB hvF hfl cB c1
      have hcI : ((len : Int) == 0) = false := by simp; omega
      have hcJ0 : ¬ len = 0 := by omega
      have hiI : (i : Int) < (N : Int) + 1 := by omega
      go_enter Tryd.func36, Tryd.ntmps36
      go_wp2_with fail
      refine Calls.mono D.out ?_
      rintro e w1 ⟨rfl, hb⟩
      have B : Hid (Below w.heap.size w w1) := hb
      clear hb D
      go_wp2_with fail
      refine Calls.mono (O.out _) ?_
      rintro e w2 ⟨rfl, hb⟩
      have B2 : Hid (Below w.heap.size w w2) := (B.out.alloc B.out.size _).trans (hb.mono (by simp; have := B.out.size; omega))
      have l1 : w2.cell? ⟨w1.heap.size, 1, none⟩ = some (.int .i64 i) := cell_of_heap (boxed' hb) rfl
      obtain ⟨d0, d1⟩ := OLD.out w2 B2.out
      clear hb O
      go_wp2
      go_quiet (fail)
      go_wp2
      go_ret2
      exact ⟨rfl, K.out _ (below_drewN B2.out _)⟩


end Go.Proofs.YtpmkjeihbddfpabDoor

/- OUR OWN. The program's heap: same, checkField, load, store. -/
namespace Go.Proofs.YtpmkjeihbddfpabDoor
open Go.RowKit
set_option linter.unusedVariables false
set_option linter.unusedSimpArgs false

set_option maxHeartbeats 1000000 in
theorem hsame_do (h N : Nat) (w : World) (m : HeapM) (p : HPre h N w m) : Calls Tryd.prog 34 #[.pointer (some ⟨h, 0, none⟩)] w (HDid2 h N w m (sameS m.st)) := by
  obtain ⟨ao, cap, cS⟩ := p.stackCell
  have hl := p.ok.stack
  by_cases hc : m.stack.length < 2
  · have e : sameS m.st = (m.st, 0, 3) := by unfold sameS; exact if_pos hc
    rw [e]
    have K : Hid (∃ m', HStep h N w m w m' ∧ m'.st = m.st) := ⟨m, .refl p, rfl⟩
    obtain ⟨len, hlen⟩ : ∃ len, m.stack.length = len := ⟨_, rfl⟩
    rw [hlen] at hc cS hl
    clear p hlen e
    have hcI : (len : Int) < 2 := by omega
    go_enter Tryd.func34, Tryd.ntmps34
    go_wp2
    go_ret2
    exact ⟨rfl, K.out⟩
  · have D0 : Hid _ := hdown_do p 0 (by omega)
    have D1 : Hid (∀ W, Below w.heap.size w W → Calls Tryd.prog 60 #[.pointer (some ⟨h, 0, none⟩), .int .i64 1] W fun e w' => e = .returned (.agg #[.int .i64 (m.st.down 1).1, .int .i64 (m.st.down 1).2]) ∧ Below W.heap.size W w') := fun W hb => hdown_do (p.below hb) 1 (by show 1 < m.stack.length; omega)
    have PO : Hid (∀ W, Below w.heap.size w W → Calls Tryd.prog 61 #[.pointer (some ⟨h, 0, none⟩), .int .i64 2] W fun e w' => e = .returned (.tuple #[]) ∧ (∀ W2, Below w'.heap.size w' W2 → ∃ m', HStep h N w m W2 m' ∧ m'.st = m.st.pop 2) ∧ ∀ L ob, w.heap.size ≤ L → W.heap[L]? = some ob → w'.heap[L]? = some ob) :=
      fun W hb => (hpop_do (p.below hb) 2 (by omega) (by omega)).mono fun e w' ⟨he, v', hs⟩ => ⟨he, fun W2 hb2 => ⟨_, ((HStep.of_below p hb).trans hs).after hb2, rfl⟩, fun L ob hL hW => hturn_local p hb hW hL hs.turn⟩
    obtain ⟨x, hx⟩ : ∃ x, m.st.down 0 = x := ⟨_, rfl⟩
    obtain ⟨y, hy⟩ : ∃ y, m.st.down 1 = y := ⟨_, rfl⟩
    have e : sameS m.st = (m.st.pop 2, if x = y then 1 else 0, 0) := by
      unfold sameS
      refine (if_neg hc).trans ?_
      rw [hx, hy]
      by_cases hxy : x = y
      · rw [if_pos hxy, if_pos hxy]
      · rw [if_neg hxy, if_neg hxy]
    rw [e]
    rw [hx] at D0
    rw [hy] at D1
    obtain ⟨ans, hans⟩ : ∃ a : Int, (if x = y then (1 : Int) else 0) = a := ⟨_, rfl⟩
    rw [hans]
    have HA : Hid ((if x = y then (1 : Int) else 0) = ans) := hans
    have SV : Hid (∀ W, Calls Tryd.prog 64 #[.agg #[.int .i64 x.1, .int .i64 x.2], .agg #[.int .i64 y.1, .int .i64 y.2]] W fun e w' => e = .returned (.bool (decide (x = y))) ∧ Below W.heap.size W w') := sameValue_any x y
    obtain ⟨len, hlen⟩ : ∃ len, m.stack.length = len := ⟨_, rfl⟩
    rw [hlen] at hc cS hl
    obtain ⟨sv, hsv⟩ : ∃ b : Bool, decide (x = y) = b := ⟨_, rfl⟩
    rw [hsv] at SV
    have HS : Hid (decide (x = y) = sv) := hsv
    clear p hlen e hx hy hans hsv
    have hcJ : ¬ (len : Int) < 2 := by omega
    obtain ⟨x1, x2⟩ := x
    obtain ⟨y1, y2⟩ := y
    go_enter Tryd.func34, Tryd.ntmps34
    go_wp2_with fail
    refine Calls.mono D0.out ?_
    rintro e w1 ⟨rfl, hb⟩
    have B : Hid (Below w.heap.size w w1) := hb
    clear hb D0
    go_wp2_with fail
    refine Calls.mono (D1.out _ (B.out.alloc B.out.size _)) ?_
    rintro e w2 ⟨rfl, hb⟩
    have B2 : Hid (Below w.heap.size w w2 ∧ w1.heap.size + 1 ≤ w2.heap.size ∧ w2.heap[w1.heap.size]? = some (.cells #[.int .i64 x1, .int .i64 x2] 64)) := ⟨(B.out.alloc B.out.size _).trans (hb.mono (by simp; have := B.out.size; omega)), by have := hb.size; simpa using this, boxed' hb⟩
    clear hb D1
    go_wp2_with fail
    refine Calls.mono (PO.out _ (B2.out.1.alloc B2.out.1.size _)) ?_
    rintro e w3 ⟨rfl, hm, hloc⟩
    have l0 := hloc w1.heap.size _ B.out.size (by rw [hao (by have := B2.out.2.1; omega)]; exact B2.out.2.2)
    have k0 := hloc w2.heap.size _ B2.out.1.size (heap_alloc_new w2 _)
    have l1 : w3.cell? ⟨w1.heap.size, 0, none⟩ = some (.int .i64 x1) := cell_of_heap l0 rfl
    have l2 : w3.cell? ⟨w1.heap.size, 1, none⟩ = some (.int .i64 x2) := cell_of_heap l0 rfl
    have k1 : w3.cell? ⟨w2.heap.size, 0, none⟩ = some (.int .i64 y1) := cell_of_heap k0 rfl
    have k2 : w3.cell? ⟨w2.heap.size, 1, none⟩ = some (.int .i64 y2) := cell_of_heap k0 rfl
    have M : Hid _ := hm
    clear hm hloc l0 k0 PO B B2
    go_wp2_with fail
    refine Calls.mono (SV.out _) ?_
    rintro e w4 ⟨rfl, hb⟩
    have MM : Hid (∃ m', HStep h N w m w4 m' ∧ m'.st = m.st.pop 2) := M.out _ hb
    clear hb M SV l1 l2 k1 k2
    cases sv with
    | true =>
      have hxy : ((x1, x2) : Int × Int) = (y1, y2) := by simpa using HS.out
      have ha := HA.out
      rw [if_pos hxy] at ha
      subst ha
      clear hxy HA HS
      go_wp2
      go_ret2
      exact ⟨rfl, MM.out⟩
    | false =>
      have hxy : ¬ ((x1, x2) : Int × Int) = (y1, y2) := by simpa using HS.out
      have ha := HA.out
      rw [if_neg hxy] at ha
      subst ha
      clear hxy HA HS
      go_wp2
      go_ret2
      exact ⟨rfl, MM.out⟩

/-- why there is no field n in what v leads to -/
def fieldErr (s : St) (v : Int × Int) (n : Int) : Int := if objErr v ≠ 0 then objErr v else if n < 0 ∨ ((s.fields v.2).length : Int) ≤ n then 6 else 0

set_option maxHeartbeats 1000000 in
theorem checkField_any (h N : Nat) (w : World) (m : HeapM) (p : HPre h N w m) (v : Int × Int) (n : Int) (hv : okV N v) :
    Calls Tryd.prog 62 #[.pointer (some ⟨h, 0, none⟩), .agg #[.int .i64 v.1, .int .i64 v.2], .int .i64 n] w fun e w' => e = .returned (.int .i64 (fieldErr m.st v n)) ∧ Below w.heap.size w w' := by
  by_cases he : objErr v ≠ 0
  · have e : fieldErr m.st v n = objErr v := by unfold fieldErr; exact if_pos he
    rw [e]
    have O : Hid (∀ W, Calls Tryd.prog 65 #[.agg #[.int .i64 v.1, .int .i64 v.2]] W fun e w' => e = .returned (.int .i64 (objErr v)) ∧ Below W.heap.size W w') := checkRef_any v
    obtain ⟨v1, v2⟩ := v
    obtain ⟨er, her⟩ : ∃ er, objErr (v1, v2) = er := ⟨_, rfl⟩
    rw [her] at he O ⊢
    have he2 : (er == 0) = false := by simpa using he
    simp only at *
    clear p e hv her
    go_enter Tryd.func62, Tryd.ntmps62
    go_wp2_with fail
    refine Calls.mono (O.out _) ?_
    rintro e w1 ⟨rfl, hb⟩
    have B : Hid (Below w.heap.size w w1) := ((Below.refl _ _).alloc (Nat.le_refl _) _).trans (hb.mono (by simp))
    clear hb O
    go_wp2
    go_ret
    exact ⟨rfl, B.out⟩
  have he : objErr v = 0 := by omega
  obtain ⟨i, hi, hbi, hiN, hfs⟩ := p.obj _ (ref_of hv he)
  obtain ⟨g, capB, hvB, hg, _, _, _, hobj⟩ := p.r.view p.ok.len
  have cB : w.cell? ⟨h, 6, none⟩ = some (.slice (some ⟨g, 0, none⟩) (N + 1) capB) := by rw [p.r.cell.2.2.2.1, hvB]
  have c1 := (hobj i hi).2.2
  obtain ⟨fo, fc, hvF⟩ := own_slice (p.r.fields _ (List.getElem_mem hi))
  rw [hvF] at c1
  have hh := lt_of_heap p.r.head
  have hN := p.ok.small
  have hiI : (i : Int) < (N : Int) + 1 := by omega
  have e : fieldErr m.st v n = if n < 0 ∨ ((m.blks[i]).fs.length : Int) ≤ n then 6 else 0 := by unfold fieldErr; rw [if_neg (by omega), hfs]
  rw [e]
  obtain ⟨fl, hfl⟩ : ∃ fl, (m.blks[i]).fs.length = fl := ⟨_, rfl⟩
  rw [hfl] at c1 ⊢
  obtain ⟨v1, v2⟩ := v
  simp only at hbi
  subst hbi
  have O : Hid (∀ W, Calls Tryd.prog 65 #[.agg #[.int .i64 v1, .int .i64 i]] W fun e w' => e = .returned (.int .i64 0) ∧ Below W.heap.size W w') := fun W => (checkRef_any (v1, (i : Int)) W).mono fun e w' ⟨h1, h2⟩ => ⟨h1.trans (ret_int he), h2⟩
  have OLD : Hid (∀ W, Below w.heap.size w W → W.cell? ⟨h, 6, none⟩ = some (.slice (some ⟨g, 0, none⟩) (N + 1) capB) ∧ W.cell? ⟨g, i * 3 + 2, none⟩ = some (.slice fo fl fc)) := fun W hb =>
    ⟨(hb.cell (p := ⟨h, 6, none⟩) hh).trans cB, (hb.cell (p := ⟨g, i * 3 + 2, none⟩) hg).trans c1⟩
  clear p e hv he hfs hobj hvB hvF hfl cB c1
  by_cases hn0 : n < 0
  · rw [if_pos (.inl hn0)]
    have hd : decide (n < 0) = true := by simpa using hn0
    go_enter Tryd.func62, Tryd.ntmps62
    go_wp2_with fail
    refine Calls.mono (O.out _) ?_
    rintro e w1 ⟨rfl, hb⟩
    have B : Hid (Below w.heap.size w w1) := ((Below.refl _ _).alloc (Nat.le_refl _) _).trans (hb.mono (by simp))
    have l1 : w1.cell? ⟨w.heap.size, 1, none⟩ = some (.int .i64 i) := cell_of_heap (boxed' hb) rfl
    obtain ⟨d0, d1⟩ := OLD.out w1 B.out
    clear hb O
    go_wp2_with fail
    go_quiet (fail)
    go_wp2
    go_ret
    exact ⟨rfl, below_drewN B.out _⟩
  · have hd : decide (n < 0) = false := by simpa using hn0
    by_cases hnl : (fl : Int) ≤ n
    · rw [if_pos (.inr hnl)]
      have hd2 : decide ((fl : Int) ≤ n) = true := by simpa using hnl
      go_enter Tryd.func62, Tryd.ntmps62
      go_wp2_with fail
      refine Calls.mono (O.out _) ?_
      rintro e w1 ⟨rfl, hb⟩
      have B : Hid (Below w.heap.size w w1) := ((Below.refl _ _).alloc (Nat.le_refl _) _).trans (hb.mono (by simp))
      have l1 : w1.cell? ⟨w.heap.size, 1, none⟩ = some (.int .i64 i) := cell_of_heap (boxed' hb) rfl
      obtain ⟨d0, d1⟩ := OLD.out w1 B.out
      clear hb O
      go_wp2_with fail
      go_quiet (fail)
      go_wp2
      go_ret
      exact ⟨rfl, below_drewN B.out _⟩
    · rw [if_neg (by omega)]
      have hd2 : decide ((fl : Int) ≤ n) = false := by simpa using hnl
      go_enter Tryd.func62, Tryd.ntmps62
      go_wp2_with fail
      refine Calls.mono (O.out _) ?_
      rintro e w1 ⟨rfl, hb⟩
      have B : Hid (Below w.heap.size w w1) := ((Below.refl _ _).alloc (Nat.le_refl _) _).trans (hb.mono (by simp))
      have l1 : w1.cell? ⟨w.heap.size, 1, none⟩ = some (.int .i64 i) := cell_of_heap (boxed' hb) rfl
      obtain ⟨d0, d1⟩ := OLD.out w1 B.out
      clear hb O
      go_wp2_with fail
      go_quiet (fail)
      go_wp2
      go_ret
      exact ⟨rfl, below_drewN B.out _⟩

end Go.Proofs.YtpmkjeihbddfpabDoor

/- OUR OWN. The program's heap: load, store. -/
namespace Go.Proofs.YtpmkjeihbddfpabDoor
open Go.RowKit
set_option linter.unusedVariables false
set_option linter.unusedSimpArgs false

theorem loadS_err {d : Int} {s : St} {n : Int} (hc : ¬ s.stack.length < 1) (he : fieldErr s (s.down 0) n ≠ 0) : loadS d s n = (s, 0, fieldErr s (s.down 0) n) := by
  unfold loadS
  rw [if_neg hc]
  unfold fieldErr at he ⊢
  by_cases h1 : objErr (s.down 0) ≠ 0
  · rw [if_pos h1, if_pos h1]
  · rw [if_neg h1] at he
    rw [if_neg h1, if_neg h1]
    by_cases h2 : n < 0 ∨ ((s.fields (s.down 0).2).length : Int) ≤ n
    · rw [if_pos h2, if_pos h2]
    · rw [if_neg h2] at he; exact absurd rfl he
theorem field_ok {s : St} {v : Int × Int} {n : Int} (he : fieldErr s v n = 0) : objErr v = 0 ∧ ¬ n < 0 ∧ ¬ ((s.fields v.2).length : Int) ≤ n := by
  unfold fieldErr at he
  by_cases h1 : objErr v ≠ 0
  · rw [if_pos h1] at he; exact absurd he h1
  · rw [if_neg h1] at he
    by_cases h2 : n < 0 ∨ ((s.fields v.2).length : Int) ≤ n
    · rw [if_pos h2] at he; cases he
    · exact ⟨by omega, fun e => h2 (.inl e), fun e => h2 (.inr e)⟩
theorem storeS_err {c : Cf} {s : St} {n : Int} (hc : ¬ s.stack.length < 2) (he : fieldErr s (s.down 1) n ≠ 0) : storeS c s n = (s, 0, fieldErr s (s.down 1) n) := by
  unfold storeS
  rw [if_neg hc]
  unfold fieldErr at he ⊢
  by_cases h1 : objErr (s.down 1) ≠ 0
  · rw [if_pos h1, if_pos h1]
  · rw [if_neg h1] at he
    rw [if_neg h1, if_neg h1]
    by_cases h2 : n < 0 ∨ ((s.fields (s.down 1).2).length : Int) ≤ n
    · rw [if_pos h2, if_pos h2]
    · rw [if_neg h2] at he; exact absurd rfl he

theorem HeapAt.fieldView {w : World} {h : Nat} {m : HeapM} (r : HeapAt w h m) (i : Nat) (hi : i < m.blks.length) (hs : 0 < (m.blks[i]).fs.length) :
    ∃ g cap, (m.blks[i]).vF = .slice (some ⟨g, 0, none⟩) (m.blks[i]).fs.length cap ∧ g < w.heap.size ∧ g ≠ h ∧ (m.blks[i]).vF.ownBlock = some g ∧ (∀ j, w.frozen? ⟨g, j, none⟩ = false) ∧
      ∀ j (hj : j < (m.blks[i]).fs.length), w.cell? ⟨g, j * 2, none⟩ = some (.int .i64 ((m.blks[i]).fs[j]).1) ∧ w.cell? ⟨g, j * 2 + 1, none⟩ = some (.int .i64 ((m.blks[i]).fs[j]).2) := by
  obtain ⟨g, cap, hv, hg, hb, hc, hcell, hf⟩ := own_view (r.fields _ (List.getElem_mem hi)) hs
  refine ⟨g, cap, hv, hg, fun e => r.ne (x := (m.blks[i]).row) (by simp only [HeapM.rows, List.mem_cons, List.mem_map]; exact .inr (.inr (.inr (.inr ⟨_, List.getElem_mem hi, rfl⟩)))) (by rw [← e]; exact hb), hb, hf, fun j hj => ⟨?_, ?_⟩⟩
  · exact hcell _ _ (by have := flat_get valCells 2 (fun _ => rfl) (m.blks[i]).fs j 0 (by decide); simpa [hj, valCells] using this)
  · exact hcell _ _ (by have := flat_get valCells 2 (fun _ => rfl) (m.blks[i]).fs j 1 (by decide); simpa [hj, valCells] using this)

/-- the head's cell of the blocks, the object i's cell of its fields, the field k -/
theorem HPre.facts {h N : Nat} {w : World} {m : HeapM} (p : HPre h N w m) (i : Nat) (o : HObj) (hi : m.blks[i]? = some o) (k : Nat) (hk : k < o.fs.length) :
    ∃ g capB fg fc, m.vB = .slice (some ⟨g, 0, none⟩) (N + 1) capB ∧ o.vF = .slice (some ⟨fg, 0, none⟩) o.fs.length fc ∧ g < w.heap.size ∧ fg < w.heap.size ∧ w.cell? ⟨h, 6, none⟩ = some (.slice (some ⟨g, 0, none⟩) (N + 1) capB) ∧
      w.cell? ⟨g, i * 3 + 2, none⟩ = some (.slice (some ⟨fg, 0, none⟩) o.fs.length fc) ∧ w.cell? ⟨fg, k * 2, none⟩ = some (.int .i64 (o.fs[k]).1) ∧ w.cell? ⟨fg, k * 2 + 1, none⟩ = some (.int .i64 (o.fs[k]).2) ∧
      w.frozen? ⟨fg, k * 2, none⟩ = false ∧ w.frozen? ⟨fg, k * 2 + 1, none⟩ = false := by
  obtain ⟨g, capB, hvB, hg, _, _, _, hobj⟩ := p.r.view p.ok.len
  have hil : i < m.blks.length := (List.getElem?_eq_some_iff.1 hi).1
  have hio : m.blks[i] = o := (List.getElem?_eq_some_iff.1 hi).2
  obtain ⟨fg, fc, hvF, hfg, _, _, hfz, hfc⟩ := p.r.fieldView i hil (by rw [hio]; omega)
  have c1 := (hobj i hil).2.2
  rw [hvF] at c1
  simp only [hio] at *
  exact ⟨g, capB, fg, fc, hvB, hvF, hg, hfg, by rw [p.r.cell.2.2.2.1, hvB], c1, (hfc k hk).1, (hfc k hk).2, hfz _, hfz _⟩

set_option maxHeartbeats 1600000 in
theorem hload_do (h N : Nat) (w : World) (m : HeapM) (n : Int) (p : HPre h N w m) : Calls Tryd.prog 32 #[.pointer (some ⟨h, 0, none⟩), .int .i64 n] w (HDid h N w m (loadS m.room m.st n)) := by
  obtain ⟨ao, cap, cS⟩ := p.stackCell
  by_cases hc : m.stack.length < 1
  · have e : loadS m.room m.st n = (m.st, 0, 3) := by unfold loadS; exact if_pos hc
    rw [e]
    have K : Hid (∃ m', HStep h N w m w m' ∧ m'.st = m.st) := ⟨m, .refl p, rfl⟩
    obtain ⟨len, hlen⟩ : ∃ len, m.stack.length = len := ⟨_, rfl⟩
    rw [hlen] at hc cS
    clear p hlen e
    obtain rfl : len = 0 := by omega
    go_enter Tryd.func32, Tryd.ntmps32
    go_wp2
    go_ret
    exact ⟨rfl, K.out⟩
  have D : Hid _ := hdown_do p 0 (by omega)
  have K : Hid (∀ W, Below w.heap.size w W → ∃ m', HStep h N w m W m' ∧ m'.st = m.st) := fun W hb => ⟨m, .of_below p hb, rfl⟩
  have hv := p.inv.down 0
  have CK : Hid (∀ W, Below w.heap.size w W → Calls Tryd.prog 62 #[.pointer (some ⟨h, 0, none⟩), .agg #[.int .i64 (m.st.down 0).1, .int .i64 (m.st.down 0).2], .int .i64 n] W fun e w' => e = .returned (.int .i64 (fieldErr m.st (m.st.down 0) n)) ∧ Below W.heap.size W w') := fun W hb => checkField_any h N W m (p.below hb) _ n hv
  have hcI0 : ¬ m.stack.length = 0 := by omega
  have hcI1 : ((m.stack.length : Int) == 0) = false := by rw [beq_eq_false_iff_ne]; omega
  by_cases he : fieldErr m.st (m.st.down 0) n ≠ 0
  · rw [loadS_err hc he]
    obtain ⟨len, hlen⟩ : ∃ len, m.stack.length = len := ⟨_, rfl⟩
    rw [hlen] at cS hcI0 hcI1
    obtain ⟨er, her⟩ : ∃ er, fieldErr m.st (m.st.down 0) n = er := ⟨_, rfl⟩
    rw [her] at he CK ⊢
    obtain ⟨x, hx⟩ : ∃ x, m.st.down 0 = x := ⟨_, rfl⟩
    rw [hx] at D CK
    obtain ⟨x1, x2⟩ := x
    have he2 : (er == 0) = false := by simpa using he
    clear p hlen hx hv her hc
    go_enter Tryd.func32, Tryd.ntmps32
    go_wp2_with fail
    refine Calls.mono D.out ?_
    rintro e w1 ⟨rfl, hb⟩
    have B : Hid (Below w.heap.size w w1) := hb
    clear hb D
    go_wp2_with fail
    refine Calls.mono (CK.out _ (B.out.alloc B.out.size _)) ?_
    rintro e w2 ⟨rfl, hb⟩
    have B2 : Hid (Below w.heap.size w w2) := (B.out.alloc B.out.size _).trans (hb.mono (by simp; have := B.out.size; omega))
    clear hb CK
    go_wp2
    go_ret
    exact ⟨rfl, K.out _ B2.out⟩
  have he : fieldErr m.st (m.st.down 0) n = 0 := by omega
  obtain ⟨ho, hn0, hnl⟩ := field_ok he
  obtain ⟨i, hi, hbi, hiN, hfs⟩ := p.obj _ (ref_of hv ho)
  have hio : m.blks[i]? = some m.blks[i] := List.getElem?_eq_getElem hi
  obtain ⟨k, rfl⟩ : ∃ k : Nat, n = k := ⟨n.toNat, by omega⟩
  have hk : k < (m.blks[i]).fs.length := by rw [hfs] at hnl; omega
  obtain ⟨g, capB, fg, fc, hvB, hvF, hg, hfg, cB, c1, y0, y1, _, _⟩ := p.facts i _ hio k hk
  have e : loadS m.room m.st k = pushA m.room (m.st.pop 1) ((m.blks[i]).fs[k]) := by
    unfold loadS
    refine (if_neg hc).trans ((if_neg (by omega)).trans ((if_neg (by omega)).trans ?_))
    rw [hfs, Int.toNat_natCast, List.getD_eq_getElem?_getD, List.getElem?_eq_getElem hk]
    rfl
  rw [e]
  have hN := p.ok.small
  have hiI : (i : Int) < (N : Int) + 1 := by omega
  have hfl4 := p.ok.fields _ (List.getElem_mem hi)
  have AFTER : Hid (∀ W, Below w.heap.size w W → Calls Tryd.prog 61 #[.pointer (some ⟨h, 0, none⟩), .int .i64 1] W fun e w' => e = .returned (.tuple #[]) ∧
      (w'.cell? ⟨h, 6, none⟩ = some (.slice (some ⟨g, 0, none⟩) (N + 1) capB) ∧ w'.cell? ⟨g, i * 3 + 2, none⟩ = some (.slice (some ⟨fg, 0, none⟩) (m.blks[i]).fs.length fc) ∧ w'.cell? ⟨fg, k * 2, none⟩ = some (.int .i64 ((m.blks[i]).fs[k]).1) ∧ w'.cell? ⟨fg, k * 2 + 1, none⟩ = some (.int .i64 ((m.blks[i]).fs[k]).2)) ∧
      (∀ W2, Below w'.heap.size w' W2 → Calls Tryd.prog 26 #[.pointer (some ⟨h, 0, none⟩), .agg #[.int .i64 ((m.blks[i]).fs[k]).1, .int .i64 ((m.blks[i]).fs[k]).2]] W2 (fun e w'' => HDid h N w m (pushA m.room (m.st.pop 1) ((m.blks[i]).fs[k])) e w'')) ∧
      ∀ L ob, w.heap.size ≤ L → W.heap[L]? = some ob → w'.heap[L]? = some ob) := by
    intro W hb
    refine (hpop_do (p.below hb) 1 (by omega) (by omega)).mono ?_
    rintro e w' ⟨he, v', hs⟩
    have s1 : HStep h N w m w' _ := (HStep.of_below p hb).trans hs
    have p1 : HPre h N w' _ := s1.pre p (by exact (p.inv.pop 1))
    obtain ⟨g', capB', fg', fc', hvB', hvF', _, _, cB', c1', y0', y1', _, _⟩ := p1.facts i _ hio k hk
    have e1 : (Value.slice (some ⟨g', 0, none⟩) (N + 1) capB') = .slice (some ⟨g, 0, none⟩) (N + 1) capB := hvB'.symm.trans hvB
    simp at e1
    obtain ⟨rfl, rfl⟩ := e1
    have e2 : (Value.slice (some ⟨fg', 0, none⟩) (m.blks[i]).fs.length fc') = .slice (some ⟨fg, 0, none⟩) (m.blks[i]).fs.length fc := hvF'.symm.trans hvF
    simp at e2
    obtain ⟨rfl, rfl⟩ := e2
    refine ⟨he, ⟨cB', c1', y0', y1'⟩, fun W2 hb2 => ?_, fun L ob hL hW => hturn_local p hb hW hL hs.turn⟩
    exact (hpush_do (p1.below hb2) _).mono fun e w'' ⟨he, m', hs', hm⟩ => ⟨he, m', s1.trans ((HStep.of_below p1 hb2).trans hs'), hm⟩
  have hkl := hk
  obtain ⟨y, hy⟩ : ∃ y, (m.blks[i]).fs[k] = y := ⟨_, rfl⟩
  rw [hy] at AFTER ⊢
  clear hy
  obtain ⟨fl, hfl⟩ : ∃ fl, (m.blks[i]).fs.length = fl := ⟨_, rfl⟩
  rw [hfl] at AFTER hkl hfl4
  obtain ⟨len, hlen⟩ : ∃ len, m.stack.length = len := ⟨_, rfl⟩
  rw [hlen] at cS hcI0 hcI1
  rw [he] at CK
  obtain ⟨x, hx⟩ : ∃ x, m.st.down 0 = x := ⟨_, rfl⟩
  rw [hx] at D CK hbi
  obtain ⟨x1, x2⟩ := x
  simp only at hbi
  subst hbi
  obtain ⟨y1', y2'⟩ := y
  have hkI : (k : Int) < fl := by omega
  clear p hlen e hx hv he hfs hvB hvF hfl cB c1 hk y0 y1 K hc hn0 hnl ho hio
  go_enter Tryd.func32, Tryd.ntmps32
  go_wp2_with fail
  refine Calls.mono D.out ?_
  rintro e w1 ⟨rfl, hb⟩
  have B : Hid (Below w.heap.size w w1) := hb
  clear hb D
  go_wp2_with fail
  refine Calls.mono (CK.out _ (B.out.alloc B.out.size _)) ?_
  rintro e w2 ⟨rfl, hb⟩
  have B2 : Hid (Below w.heap.size w w2) := (B.out.alloc B.out.size _).trans (hb.mono (by simp; have := B.out.size; omega))
  have L1 : Hid (w2.heap[w1.heap.size]? = some (.cells #[.int .i64 x1, .int .i64 i] 64)) := boxed' hb
  clear hb CK
  go_wp2_with fail
  refine Calls.mono (AFTER.out _ B2.out) ?_
  rintro e w3 ⟨rfl, ⟨a0, a1, a2, a3⟩, hpush, hloc⟩
  have l3 : w3.cell? ⟨w1.heap.size, 1, none⟩ = some (.int .i64 i) := cell_of_heap (hloc _ _ B.out.size L1.out) rfl
  have PU : Hid _ := hpush
  clear hpush hloc AFTER L1 B B2
  go_wp2_with fail
  go_region_with (go_at_call 26; refine Calls.mono (PU.out _ (Below.refl _ _).drew) ?_; rintro e w4 ⟨rfl, hm⟩; have M : Hid _ := hm; clear hm)
  all_goals go_wp2
  all_goals go_ret
  all_goals exact ⟨rfl, M.out⟩

end Go.Proofs.YtpmkjeihbddfpabDoor

/- OUR OWN. The program's heap and the document's state: what is kept; what waits, what has an extra, how many. -/
namespace Go.Proofs.YtpmkjeihbddfpabDoor
open Go.RowKit
set_option linter.unusedVariables false
set_option linter.unusedSimpArgs false

/-- The program's heap m is the state s; the count of 'but' is one too great (a field that is let go is still counted). -/
structure HSb (but : Int) (m : HeapM) (s : St) (c : Cf) (N : Nat) : Prop where
  st : m.st = s
  deep : m.room = c.deep
  zero : m.zero = c.zero
  over : m.over = c.over
  budget : m.budget = c.budget
  state : ∀ o ∈ m.blks, o.state = 0 ∨ o.state = 1 ∨ o.state = 2 ∨ o.state = 3
  cnt : ∀ (i : Nat) (o : HObj), m.blks[i]? = some o → o.state = 1 ∨ o.state = 3 → o.count = s.count i + if (i : Int) = but then 1 else 0
def HS (m : HeapM) (s : St) (c : Cf) (N : Nat) : Prop := HSb 0 m s c N

structure HB (but : Int) (h : Nat) (w : World) (m : HeapM) (s : St) (c : Cf) (N : Nat) : Prop where
  r : HeapAt w h m
  hs : HSb but m s c N
  good : s.Good N
  cf : CfOk c
  small : N ≤ 99
  stack : s.stack.length ≤ 16
  globals : s.globals.length ≤ 8

theorem HB.below {but : Int} {h : Nat} {w w' : World} {m : HeapM} {s : St} {c : Cf} {N : Nat} (p : HB but h w m s c N) (hb : Below w.heap.size w w') : HB but h w' m s c N :=
  ⟨(HTurn.of_below p.r hb).here, p.hs, p.good, p.cf, p.small, p.stack, p.globals⟩
theorem HB.len {but : Int} {h : Nat} {w : World} {m : HeapM} {s : St} {c : Cf} {N : Nat} (p : HB but h w m s c N) : m.blks.length = N + 1 := by
  have := p.good.len
  rw [← p.hs.st] at this
  simpa [HeapM.st] using this
theorem HB.mstack {but : Int} {h : Nat} {w : World} {m : HeapM} {s : St} {c : Cf} {N : Nat} (p : HB but h w m s c N) : m.stack = s.stack := by rw [← p.hs.st]; rfl
theorem HB.mglobals {but : Int} {h : Nat} {w : World} {m : HeapM} {s : St} {c : Cf} {N : Nat} (p : HB but h w m s c N) : m.globals = s.globals := by rw [← p.hs.st]; rfl
theorem HB.mqueue {but : Int} {h : Nat} {w : World} {m : HeapM} {s : St} {c : Cf} {N : Nat} (p : HB but h w m s c N) : m.queue = s.queue := by rw [← p.hs.st]; rfl
theorem HB.ob {but : Int} {h : Nat} {w : World} {m : HeapM} {s : St} {c : Cf} {N : Nat} (p : HB but h w m s c N) {i : Nat} {o : HObj} (hi : m.blks[i]? = some o) : s.ob i = o.ob := by
  rw [← p.hs.st]; exact hst_ob hi
theorem HB.pre {h : Nat} {w : World} {m : HeapM} {s : St} {c : Cf} {N : Nat} {but : Int} (p : HB but h w m s c N) : HPre h N w m := by
  refine ⟨p.r, ⟨p.len, p.small, fun o ho => ?_, by rw [p.mstack]; exact p.stack, by rw [p.mglobals]; exact p.globals⟩, by rw [p.hs.st]; exact p.good.inv, by rw [p.hs.deep]; exact p.cf.deep.2⟩
  obtain ⟨i, hi⟩ := List.getElem?_of_mem ho
  have := p.good.four i
  rw [p.ob hi] at this
  exact this

/-- of a block of state and count: waits, has an extra -/
def HObj.waits (o : HObj) : Bool := decide (o.state = 1) && decide (o.count = 0)
def HObj.extra (o : HObj) : Bool := decide (o.state = 1) && decide (7 < o.count)
theorem HSb.waits {but : Int} {m : HeapM} {s : St} {c : Cf} {N : Nat} (p : HSb but m s c N) {i : Nat} {o : HObj} (hi : m.blks[i]? = some o) : o.waits = s.others but i := by
  have ho : s.ob i = o.ob := by rw [← p.st]; exact hst_ob hi
  unfold HObj.waits St.others St.waits
  rw [ho]
  unfold HObj.ob
  simp only
  rcases p.state o (List.mem_of_getElem? hi) with e | e | e | e
  · simp [e]
  · have hc := p.cnt i o hi (.inl e)
    simp only [e]
    by_cases hb : (i : Int) = but
    · rw [if_pos hb] at hc
      have : ¬ o.count = 0 := by omega
      simp [this, hb]
    · rw [if_neg hb] at hc
      have : (o.count = 0) ↔ (s.count i = 0) := by omega
      simp [this, hb]
  · simp [e]
  · simp [e]
theorem HSb.extra {m : HeapM} {s : St} {c : Cf} {N : Nat} (p : HSb 0 m s c N) (g : s.Good N) {i : Nat} {o : HObj} (hi : m.blks[i]? = some o) : o.extra = s.extra i := by
  have ho : s.ob i = o.ob := by rw [← p.st]; exact hst_ob hi
  have hob := ho
  unfold HObj.extra St.extra
  rw [ho]
  unfold HObj.ob
  simp only
  rcases p.state o (List.mem_of_getElem? hi) with e | e | e | e
  · simp [e]
  · have hc := p.cnt i o hi (.inl e)
    have hz : ¬ (i : Int) = 0 := by
      intro h0
      have h0 : i = 0 := by omega
      have := g.zero
      rw [← h0, hob] at this
      have := congrArg Ob.here this
      simp [HObj.ob, e, Ob.free] at this
    rw [if_neg hz] at hc
    have : (7 < o.count) ↔ (7 < s.count i) := by omega
    simp [e, this]
  · simp [e]
  · have hq : (s.ob i).queued = true := by rw [hob]; simp [HObj.ob, e]
    have : s.count i = 0 := g.count_gone fun ha => by have := ha.2; rw [hq] at this; cases this
    simp [e, this]

theorem waits_fn (st ct : Int) (v : Value) (w : World) :
    Calls Tryd.prog 68 #[.agg #[.int .i64 st, .int .i64 ct, v]] w fun e w' => e = .returned (.bool (decide (st = 1) && decide (ct = 0))) ∧ Below w.heap.size w w' := by
  by_cases h1 : st = 1
  · subst h1
    by_cases h2 : ct = 0
    · subst h2
      go_enter Tryd.func68, Tryd.ntmps68
      go_wp2
      go_ret
      exact ⟨rfl, (Below.refl _ _).alloc (Nat.le_refl _) _⟩
    · have h3 : (ct == 0) = false := by simpa using h2
      go_enter Tryd.func68, Tryd.ntmps68
      go_wp2
      go_ret
      exact ⟨ret_bool (by simp [h2]), (Below.refl _ _).alloc (Nat.le_refl _) _⟩
  · have h3 : (st == 1) = false := by simpa using h1
    go_enter Tryd.func68, Tryd.ntmps68
    go_wp2
    go_ret
    exact ⟨ret_bool (by simp [h1]), (Below.refl _ _).alloc (Nat.le_refl _) _⟩

theorem hasExtra_fn (st ct : Int) (v : Value) (w : World) :
    Calls Tryd.prog 73 #[.agg #[.int .i64 st, .int .i64 ct, v]] w fun e w' => e = .returned (.bool (decide (st = 1) && decide (7 < ct))) ∧ Below w.heap.size w w' := by
  by_cases h1 : st = 1
  · subst h1
    by_cases h2 : 7 < ct
    · go_enter Tryd.func73, Tryd.ntmps73
      go_wp2
      go_ret
      exact ⟨ret_bool (by simp [h2]), (Below.refl _ _).alloc (Nat.le_refl _) _⟩
    · go_enter Tryd.func73, Tryd.ntmps73
      go_wp2
      go_ret
      exact ⟨ret_bool (by simp [h2]), (Below.refl _ _).alloc (Nat.le_refl _) _⟩
  · have h3 : (st == 1) = false := by simpa using h1
    go_enter Tryd.func73, Tryd.ntmps73
    go_wp2
    go_ret
    exact ⟨ret_bool (by simp [h1]), (Below.refl _ _).alloc (Nat.le_refl _) _⟩

theorem heldOnce_fn (st ct : Int) (v : Value) (w : World) :
    Calls Tryd.prog 80 #[.agg #[.int .i64 st, .int .i64 ct, v]] w fun e w' => e = .returned (.bool (decide (st = 1) && decide (ct = 1))) ∧ Below w.heap.size w w' := by
  by_cases h1 : st = 1
  · subst h1
    by_cases h2 : ct = 1
    · subst h2
      go_enter Tryd.func80, Tryd.ntmps80
      go_wp2
      go_ret
      exact ⟨rfl, (Below.refl _ _).alloc (Nat.le_refl _) _⟩
    · have h3 : (ct == 1) = false := by simpa using h2
      go_enter Tryd.func80, Tryd.ntmps80
      go_wp2
      go_ret
      exact ⟨ret_bool (by simp [h2]), (Below.refl _ _).alloc (Nat.le_refl _) _⟩
  · have h3 : (st == 1) = false := by simpa using h1
    go_enter Tryd.func80, Tryd.ntmps80
    go_wp2
    go_ret
    exact ⟨ret_bool (by simp [h1]), (Below.refl _ _).alloc (Nat.le_refl _) _⟩

/-- the cells of the blocks, for a loop over them -/
theorem HB.cells {but : Int} {h : Nat} {w : World} {m : HeapM} {s : St} {c : Cf} {N : Nat} (p : HB but h w m s c N) :
    ∃ g cap, w.cell? ⟨h, 6, none⟩ = some (.slice (some ⟨g, 0, none⟩) (N + 1) cap) ∧ g < w.heap.size ∧
      ∀ i, i ≤ N → ∃ o ao fl fc, m.blks[i]? = some o ∧ o.vF = .slice ao fl fc ∧ fl = o.fs.length ∧ w.cell? ⟨g, i * 3, none⟩ = some (.int .i64 o.state) ∧ w.cell? ⟨g, i * 3 + 1, none⟩ = some (.int .i64 o.count) ∧ w.cell? ⟨g, i * 3 + 2, none⟩ = some (.slice ao fl fc) := by
  obtain ⟨g, cap, hv, hg, _, _, _, hobj⟩ := p.r.view p.len
  refine ⟨g, cap, by rw [p.r.cell.2.2.2.1, hv], hg, fun i hi => ?_⟩
  have hil : i < m.blks.length := by rw [p.len]; omega
  obtain ⟨ao, fc, hvF⟩ := own_slice (p.r.fields _ (List.getElem_mem hil))
  obtain ⟨c0, c1, c2⟩ := hobj i hil
  exact ⟨m.blks[i], ao, _, fc, List.getElem?_eq_getElem hil, hvF, rfl, c0, c1, by rw [c2, hvF]⟩

end Go.Proofs.YtpmkjeihbddfpabDoor

/- OUR OWN. The program's heap: how many wait, have an extra, are in a state; isRoot. -/
namespace Go.Proofs.YtpmkjeihbddfpabDoor
open Go.RowKit
set_option linter.unusedVariables false
set_option linter.unusedSimpArgs false

set_option maxHeartbeats 800000 in
theorem waiting_any {but : Int} {h : Nat} {w : World} {m : HeapM} {s : St} {c : Cf} {N : Nat} (p : HB but h w m s c N) :
    Calls Tryd.prog 49 #[.pointer (some ⟨h, 0, none⟩)] w fun e w' => e = .returned (.int .i64 (countTo (s.others but) N)) ∧ Below w.heap.size w w' := by
  obtain ⟨g, cap, cB, hg, hobj⟩ := p.cells
  have hh := lt_of_heap p.r.head
  have hN := p.small
  have C : Hid (∀ wr, Below w.heap.size w wr → wr.cell? ⟨h, 6, none⟩ = some (.slice (some ⟨g, 0, none⟩) (N + 1) cap) ∧ ∀ i, i ≤ N → ∃ st ct ao fl fc, (decide (st = 1) && decide (ct = 0)) = s.others but i ∧ wr.cell? ⟨g, i * 3, none⟩ = some (.int .i64 st) ∧ wr.cell? ⟨g, i * 3 + 1, none⟩ = some (.int .i64 ct) ∧ wr.cell? ⟨g, i * 3 + 2, none⟩ = some (.slice ao fl fc)) := fun wr hb => by
    refine ⟨(hb.cell (p := ⟨h, 6, none⟩) hh).trans cB, fun i hi => ?_⟩
    obtain ⟨o, ao, fl, fc, ho, _, _, c0, c1, c2⟩ := hobj i hi
    exact ⟨o.state, o.count, ao, fl, fc, p.hs.waits ho, (hb.cell (p := ⟨g, _, none⟩) hg).trans c0, (hb.cell (p := ⟨g, _, none⟩) hg).trans c1, (hb.cell (p := ⟨g, _, none⟩) hg).trans c2⟩
  have WF : Hid (∀ st ct v w, Calls Tryd.prog 68 #[.agg #[.int .i64 st, .int .i64 ct, v]] w fun e w' => e = .returned (.bool (decide (st = 1) && decide (ct = 0))) ∧ Below w.heap.size w w') := waits_fn
  clear p hobj cB
  go_enter Tryd.func49, Tryd.ntmps49
  go_wp2
  go_loopw [3, 4] (fun n i wr => ∃ j : Nat, j ≤ N ∧ i = .int .i64 (j + 1) ∧ n = .int .i64 (countTo (s.others but) j) ∧ Below w.heap.size w wr) (fun _ i _ => N + 1 - (intOf i).toNat)
  case atStart => exact ⟨0, Nat.zero_le _, rfl, rfl, Below.refl _ _⟩
  case round =>
    obtain ⟨j, hj, rfl, rfl, hb⟩ := hrel
    obtain ⟨cB, hobj⟩ := C.out wr hb
    have hle := countTo_le (s.others but) j
    have HB : Hid (Below w.heap.size w wr) := hb
    have hsz := hb.size
    clear hb
    obtain ⟨k, hk⟩ : ∃ k, k = countTo (s.others but) j := ⟨_, rfl⟩
    rw [← hk] at hle ⊢
    by_cases hlt : j < N
    · obtain ⟨st, ct, ao, fl, fc, ho, c0, c1, c2⟩ := hobj (j + 1) (by omega)
      have S : Hid (countTo (s.others but) (j + 1) = k + if (decide (st = 1) && decide (ct = 0)) then 1 else 0) := by rw [hk, ho]; exact countTo_succ _ _
      clear hk hobj ho
      have X := WF.out st ct
      have X1 : Hid _ := X
      clear X
      go_wp2_with fail
      refine Calls.mono (X1.out _ _) ?_
      rintro e w1 ⟨rfl, hb1⟩
      have HB1 : Hid (Below w.heap.size w w1) := HB.out.trans (hb1.mono hsz)
      clear hb1 X1 c0 c1 c2 cB
      cases hx : (decide (st = 1) && decide (ct = 0)) with
      | true =>
        rw [hx] at S
        clear hx
        go_wp2
        go_roundw
        case rel => exact ⟨j + 1, by omega, by go_num, by rw [S.out]; go_num, HB1.out⟩
        case measure => simp [intOf]; omega
      | false =>
        rw [hx] at S
        clear hx
        go_wp2
        go_roundw
        case rel => exact ⟨j + 1, by omega, by go_num, by rw [S.out]; go_num, HB1.out⟩
        case measure => simp [intOf]; omega
    · obtain rfl : j = N := by omega
      have HC : Hid (k = countTo (s.others but) j) := hk
      clear hk hobj
      go_wp2
      go_ret
      exact ⟨ret_int (by rw [HC.out]), HB.out⟩

set_option maxHeartbeats 800000 in
theorem hextras_any {h : Nat} {w : World} {m : HeapM} {s : St} {c : Cf} {N : Nat} (p : HB 0 h w m s c N) :
    Calls Tryd.prog 50 #[.pointer (some ⟨h, 0, none⟩)] w fun e w' => e = .returned (.int .i64 (countTo s.extra N)) ∧ Below w.heap.size w w' := by
  obtain ⟨g, cap, cB, hg, hobj⟩ := p.cells
  have hh := lt_of_heap p.r.head
  have hN := p.small
  have C : Hid (∀ wr, Below w.heap.size w wr → wr.cell? ⟨h, 6, none⟩ = some (.slice (some ⟨g, 0, none⟩) (N + 1) cap) ∧ ∀ i, i ≤ N → ∃ st ct ao fl fc, (decide (st = 1) && decide (7 < ct)) = s.extra i ∧ wr.cell? ⟨g, i * 3, none⟩ = some (.int .i64 st) ∧ wr.cell? ⟨g, i * 3 + 1, none⟩ = some (.int .i64 ct) ∧ wr.cell? ⟨g, i * 3 + 2, none⟩ = some (.slice ao fl fc)) := fun wr hb => by
    refine ⟨(hb.cell (p := ⟨h, 6, none⟩) hh).trans cB, fun i hi => ?_⟩
    obtain ⟨o, ao, fl, fc, ho, _, _, c0, c1, c2⟩ := hobj i hi
    exact ⟨o.state, o.count, ao, fl, fc, p.hs.extra p.good ho, (hb.cell (p := ⟨g, _, none⟩) hg).trans c0, (hb.cell (p := ⟨g, _, none⟩) hg).trans c1, (hb.cell (p := ⟨g, _, none⟩) hg).trans c2⟩
  have WF : Hid (∀ st ct v w, Calls Tryd.prog 73 #[.agg #[.int .i64 st, .int .i64 ct, v]] w fun e w' => e = .returned (.bool (decide (st = 1) && decide (7 < ct))) ∧ Below w.heap.size w w') := hasExtra_fn
  clear p hobj cB
  go_enter Tryd.func50, Tryd.ntmps50
  go_wp2
  go_loopw [3, 4] (fun n i wr => ∃ j : Nat, j ≤ N ∧ i = .int .i64 (j + 1) ∧ n = .int .i64 (countTo s.extra j) ∧ Below w.heap.size w wr) (fun _ i _ => N + 1 - (intOf i).toNat)
  case atStart => exact ⟨0, Nat.zero_le _, rfl, rfl, Below.refl _ _⟩
  case round =>
    obtain ⟨j, hj, rfl, rfl, hb⟩ := hrel
    obtain ⟨cB, hobj⟩ := C.out wr hb
    have hle := countTo_le s.extra j
    have HB : Hid (Below w.heap.size w wr) := hb
    have hsz := hb.size
    clear hb
    obtain ⟨k, hk⟩ : ∃ k, k = countTo s.extra j := ⟨_, rfl⟩
    rw [← hk] at hle ⊢
    by_cases hlt : j < N
    · obtain ⟨st, ct, ao, fl, fc, ho, c0, c1, c2⟩ := hobj (j + 1) (by omega)
      have S : Hid (countTo s.extra (j + 1) = k + if (decide (st = 1) && decide (7 < ct)) then 1 else 0) := by rw [hk, ho]; exact countTo_succ _ _
      clear hk hobj ho
      have X := WF.out st ct
      have X1 : Hid _ := X
      clear X
      go_wp2_with fail
      refine Calls.mono (X1.out _ _) ?_
      rintro e w1 ⟨rfl, hb1⟩
      have HB1 : Hid (Below w.heap.size w w1) := HB.out.trans (hb1.mono hsz)
      clear hb1 X1 c0 c1 c2 cB
      cases hx : (decide (st = 1) && decide (7 < ct)) with
      | true =>
        rw [hx] at S
        clear hx
        go_wp2
        go_roundw
        case rel => exact ⟨j + 1, by omega, by go_num, by rw [S.out]; go_num, HB1.out⟩
        case measure => simp [intOf]; omega
      | false =>
        rw [hx] at S
        clear hx
        go_wp2
        go_roundw
        case rel => exact ⟨j + 1, by omega, by go_num, by rw [S.out]; go_num, HB1.out⟩
        case measure => simp [intOf]; omega
    · obtain rfl : j = N := by omega
      have HC : Hid (k = countTo s.extra j) := hk
      clear hk hobj
      go_wp2
      go_ret
      exact ⟨ret_int (by rw [HC.out]), HB.out⟩

/-- of the blocks: in that state -/
def HeapM.inB (m : HeapM) (st : Int) (i : Nat) : Bool := match m.blks[i]? with
  | some o => decide (o.state = st)
  | none => false

set_option maxHeartbeats 800000 in
theorem inState_any {but : Int} {h : Nat} {w : World} {m : HeapM} {s : St} {c : Cf} {N : Nat} (p : HB but h w m s c N) (x : Int) :
    Calls Tryd.prog 48 #[.pointer (some ⟨h, 0, none⟩), .int .i64 x] w fun e w' => e = .returned (.int .i64 (countTo (m.inB x) N)) ∧ w' = w := by
  obtain ⟨g, cap, cB, hg, hobj⟩ := p.cells
  have hN := p.small
  have C : Hid (∀ i, i ≤ N → ∃ st, decide (st = x) = m.inB x i ∧ w.cell? ⟨g, i * 3, none⟩ = some (.int .i64 st)) := fun i hi => by
    obtain ⟨o, ao, fl, fc, ho, _, _, c0, c1, c2⟩ := hobj i hi
    exact ⟨o.state, by unfold HeapM.inB; rw [ho], c0⟩
  clear p hobj
  go_enter Tryd.func48, Tryd.ntmps48
  go_wp2
  go_loop [5, 6] (fun n i => ∃ j : Nat, j ≤ N ∧ i = .int .i64 (j + 1) ∧ n = .int .i64 (countTo (m.inB x) j)) (fun _ i => N + 1 - (intOf i).toNat)
  case atStart => exact ⟨0, Nat.zero_le _, rfl, rfl⟩
  case round =>
    obtain ⟨j, hj, rfl, rfl⟩ := hrel
    have hle := countTo_le (m.inB x) j
    obtain ⟨k, hk⟩ : ∃ k, k = countTo (m.inB x) j := ⟨_, rfl⟩
    rw [← hk] at hle ⊢
    by_cases hlt : j < N
    · obtain ⟨st, ho, c0⟩ := C.out (j + 1) (by omega)
      have S : Hid (countTo (m.inB x) (j + 1) = k + if decide (st = x) then 1 else 0) := by rw [hk, ho]; exact countTo_succ _ _
      clear hk ho
      by_cases hx : st = x
      · subst hx
        have S2 : Hid (countTo (m.inB st) (j + 1) = k + 1) := by have := S.out; simp at this; exact this
        clear S
        go_wp2
        go_round
        case rel => exact ⟨j + 1, by omega, by go_num, by rw [S2.out]; go_num⟩
        case measure => simp [intOf]; omega
      · have S2 : Hid (countTo (m.inB x) (j + 1) = k) := by have := S.out; simp [hx] at this; exact this
        have hx2 : (st == x) = false := by simpa using hx
        clear S
        go_wp2
        go_round
        case rel => exact ⟨j + 1, by omega, by go_num, by rw [S2.out]⟩
        case measure => simp [intOf]; omega
    · obtain rfl : j = N := by omega
      have HC : Hid (k = countTo (m.inB x) j) := hk
      clear hk
      go_wp2
      go_ret
      exact ⟨ret_int (by rw [HC.out]), rfl⟩

set_option maxHeartbeats 800000 in
theorem hasValue_any (v : Value) (l : List (Int × Int)) (x : Int × Int) (w : World) (ho : w.ownsRow 0 64 2 v l.length (l.flatMap valCells)) (hn : l.length ≤ 1000) :
    Calls Tryd.prog 79 #[v, .agg #[.int .i64 x.1, .int .i64 x.2]] w fun e w' => e = .returned (.bool (decide (x ∈ l))) ∧ Below w.heap.size w w' := by
  obtain ⟨ao, cap, hv⟩ := own_slice ho
  have C : Hid (∀ k (hk : k < l.length), ∃ g, ao = some ⟨g, 0, none⟩ ∧ ∀ wr, Below w.heap.size w wr → wr.cell? ⟨g, k * 2, none⟩ = some (.int .i64 (l[k]).1) ∧ wr.cell? ⟨g, k * 2 + 1, none⟩ = some (.int .i64 (l[k]).2)) := fun k hk => by
    obtain ⟨g, cap', hv', hg, _, _, hcell, _⟩ := own_view ho (by omega)
    rw [hv] at hv'
    simp at hv'
    refine ⟨g, hv'.1, fun wr hb => ⟨(hb.cell (p := ⟨g, _, none⟩) hg).trans (hcell _ _ ?_), (hb.cell (p := ⟨g, _, none⟩) hg).trans (hcell _ _ ?_)⟩⟩
    · have := flat_get valCells 2 (fun _ => rfl) l k 0 (by decide); simpa [hk, valCells] using this
    · have := flat_get valCells 2 (fun _ => rfl) l k 1 (by decide); simpa [hk, valCells] using this
  have SV : Hid (∀ (a b : Int × Int) W, Calls Tryd.prog 64 #[.agg #[.int .i64 a.1, .int .i64 a.2], .agg #[.int .i64 b.1, .int .i64 b.2]] W fun e w' => e = .returned (.bool (decide (a = b))) ∧ Below W.heap.size W w') := sameValue_any
  subst hv
  obtain ⟨len, hlen⟩ : ∃ len, l.length = len := ⟨_, rfl⟩
  rw [hlen] at hn ⊢
  have L : Hid (l.length = len) := hlen
  obtain ⟨x1, x2⟩ := x
  clear hlen ho
  simp only
  go_enter Tryd.func79, Tryd.ntmps79
  go_wp2
  go_loopw [5] (fun i wr => ∃ k : Nat, k ≤ len ∧ i = .int .i64 k ∧ (∀ y ∈ l.take k, y ≠ (x1, x2)) ∧ Below w.heap.size w wr ∧ wr.heap[w.heap.size]? = some (.cells #[.int .i64 x1, .int .i64 x2] 64)) (fun i _ => len - (intOf i).toNat)
  case atStart => exact ⟨0, Nat.zero_le _, rfl, fun y hy => by simp at hy, (Below.refl _ _).alloc (Nat.le_refl _) _, heap_alloc_new w _⟩
  case round =>
    obtain ⟨k, hk, rfl, hno, hb, hbox⟩ := hrel
    have NO : Hid (∀ y ∈ l.take k, y ≠ (x1, x2)) := hno
    have B : Hid (Below w.heap.size w wr ∧ wr.heap[w.heap.size]? = some (.cells #[.int .i64 x1, .int .i64 x2] 64)) := ⟨hb, hbox⟩
    have b0 : wr.cell? ⟨w.heap.size, 0, none⟩ = some (.int .i64 x1) := cell_of_heap hbox rfl
    have b1 : wr.cell? ⟨w.heap.size, 1, none⟩ = some (.int .i64 x2) := cell_of_heap hbox rfl
    have hsz := hb.size
    have hsz1 := lt_of_heap hbox
    clear hno hbox
    by_cases hlt : k < len
    · have hk' : k < l.length := by rw [L.out]; exact hlt
      obtain ⟨g, rfl, hc⟩ := C.out k hk'
      obtain ⟨c0, c1⟩ := hc wr hb
      obtain ⟨y, hy⟩ : ∃ y, y = l[k] := ⟨_, rfl⟩
      rw [← hy] at c0 c1
      have Y : Hid (l.take (k + 1) = l.take k ++ [y]) := by show l.take (k + 1) = _; rw [hy]; exact take_snoc l k hk'
      have YM : Hid (y ∈ l) := by show y ∈ l; rw [hy]; exact List.getElem_mem hk'
      obtain ⟨y1, y2⟩ := y
      simp only at c0 c1
      have S1 : Hid (∀ W, Calls Tryd.prog 64 #[.agg #[.int .i64 y1, .int .i64 y2], .agg #[.int .i64 x1, .int .i64 x2]] W fun e w' => e = .returned (.bool (decide ((y1, y2) = (x1, x2)))) ∧ Below W.heap.size W w') := SV.out (y1, y2) (x1, x2)
      clear hc hb hy
      have YN : Hid (¬ ((y1, y2) : Int × Int) = (x1, x2) → ∀ y ∈ l.take (k + 1), y ≠ (x1, x2)) := fun hx y hy => by
        rw [Y.out] at hy
        rcases List.mem_append.1 hy with e | e
        · exact NO.out y e
        · rw [List.mem_singleton.1 e]; exact hx
      have YY : Hid (((y1, y2) : Int × Int) = (x1, x2) → decide ((x1, x2) ∈ l) = true) := fun hx => by have := YM.out; rw [hx] at this; simpa using this
      have BB : Hid (∀ w1, Below wr.heap.size wr w1 → Below w.heap.size w w1 ∧ w1.heap[w.heap.size]? = some (.cells #[.int .i64 x1, .int .i64 x2] 64)) := fun w1 hb1 => ⟨B.out.1.trans (hb1.mono hsz), by rw [hb1.block _ hsz1]; exact B.out.2⟩
      obtain ⟨sv, hsv⟩ : ∃ sv, decide (((y1, y2) : Int × Int) = (x1, x2)) = sv := ⟨_, rfl⟩
      rw [hsv] at S1
      cases sv with
      | true =>
        have FF : Hid (decide ((x1, x2) ∈ l) = true) := YY.out (by simpa using hsv)
        clear hsv YY YN NO Y YM
        go_wp2_with fail
        go_region_with (go_at_call 64; refine Calls.mono (S1.out _) ?_; rintro e w1 ⟨rfl, hb1⟩; have B1 : Hid _ := BB.out w1 ((Below.refl _ _).drew.trans hb1); clear hb1)
        all_goals go_wp2
        all_goals go_ret
        all_goals exact ⟨ret_bool FF.out.symm, B1.out.1⟩
      | false =>
        have FF : Hid _ := YN.out (by simpa using hsv)
        clear hsv YY YN NO Y YM
        go_wp2_with fail
        go_region_with (go_at_call 64; refine Calls.mono (S1.out _) ?_; rintro e w1 ⟨rfl, hb1⟩; have B1 : Hid _ := BB.out w1 ((Below.refl _ _).drew.trans hb1); clear hb1)
        all_goals go_wp2
        all_goals go_roundw
        all_goals first
          | exact ⟨k + 1, by omega, by go_num, FF.out, B1.out.1, B1.out.2⟩
          | (simp [intOf]; omega)
    · obtain rfl : k = len := by omega
      have FF : Hid (decide ((x1, x2) ∈ l) = false) := by
        have := NO.out
        rw [List.take_of_length_le (by rw [L.out]; exact Nat.le_refl _)] at this
        simp
        intro e; exact this _ e rfl
      clear hb
      go_wp2
      go_ret
      exact ⟨ret_bool FF.out.symm, B.out.1⟩

end Go.Proofs.YtpmkjeihbddfpabDoor

/- OUR OWN. The program's heap: isRoot. -/
namespace Go.Proofs.YtpmkjeihbddfpabDoor
open Go.RowKit
set_option linter.unusedVariables false
set_option linter.unusedSimpArgs false

theorem mem_refs {l : List (Int × Int)} {b : Int} : (decide (((2, b) : Int × Int) ∈ l)) = decide (0 < refsN l b) := by
  have : ((2, b) : Int × Int) ∈ l ↔ 0 < refsN l b := by
    constructor
    · intro h; exact refs_pos h rfl rfl
    · intro h
      obtain ⟨⟨v1, v2⟩, hv, h1, h2⟩ := refs_some h
      simp only at h1 h2
      subst h1 h2; exact hv
  simp [this]

set_option maxRecDepth 20000 in
set_option maxHeartbeats 4000000 in
theorem isRoot_any {but : Int} {h : Nat} {w : World} {m : HeapM} {s : St} {c : Cf} {N : Nat} (p : HB but h w m s c N) (b : Int) :
    Calls Tryd.prog 69 #[.pointer (some ⟨h, 0, none⟩), .int .i64 b] w fun e w' => e = .returned (.bool (s.rooted b)) ∧ Below w.heap.size w w' := by
  have hh := lt_of_heap p.r.head
  have RR : Hid (s.rooted b = (decide (((2, b) : Int × Int) ∈ m.stack) || decide (((2, b) : Int × Int) ∈ m.globals))) := by
    show s.rooted b = _
    rw [mem_refs, mem_refs, p.mstack, p.mglobals]
    unfold St.rooted
    by_cases h1 : 0 < refsN s.stack b <;> by_cases h2 : 0 < refsN s.globals b <;> simp [h1, h2] <;> omega
  have cS := p.r.cell.2.1
  have cG := p.r.cell.2.2.1
  have K : Hid (∀ W, Below w.heap.size w W → W.cell? ⟨h, 4, none⟩ = some m.vS ∧ W.cell? ⟨h, 5, none⟩ = some m.vG ∧
      (Calls Tryd.prog 79 #[m.vS, .agg #[.int .i64 2, .int .i64 b]] W fun e w' => e = .returned (.bool (decide (((2, b) : Int × Int) ∈ m.stack))) ∧ Below W.heap.size W w') ∧
      (Calls Tryd.prog 79 #[m.vG, .agg #[.int .i64 2, .int .i64 b]] W fun e w' => e = .returned (.bool (decide (((2, b) : Int × Int) ∈ m.globals))) ∧ Below W.heap.size W w')) := fun W hb => by
    have pW := p.below hb
    exact ⟨(hb.cell (p := ⟨h, 4, none⟩) hh).trans cS, (hb.cell (p := ⟨h, 5, none⟩) hh).trans cG, hasValue_any m.vS m.stack (2, b) W pW.r.stack (by rw [p.mstack]; have := p.stack; omega), hasValue_any m.vG m.globals (2, b) W pW.r.globals (by rw [p.mglobals]; have := p.globals; omega)⟩
  obtain ⟨ra, hra⟩ : ∃ x, decide (((2, b) : Int × Int) ∈ m.stack) = x := ⟨_, rfl⟩
  obtain ⟨rb, hrb⟩ : ∃ x, decide (((2, b) : Int × Int) ∈ m.globals) = x := ⟨_, rfl⟩
  rw [hra, hrb] at RR K
  obtain ⟨s0, c0, hvS⟩ := own_slice p.r.stack
  obtain ⟨g0, d0, hvG⟩ := own_slice p.r.globals
  rw [hvS, hvG] at K
  obtain ⟨l1, hl1⟩ : ∃ x, m.stack.length = x := ⟨_, rfl⟩
  obtain ⟨l2, hl2⟩ : ∃ x, m.globals.length = x := ⟨_, rfl⟩
  rw [hl1, hl2] at K
  clear p cS cG hra hrb hvS hvG hl1 hl2
  have K2 : Hid (∀ W w1, Below w.heap.size w W → W.heap[w.heap.size]? = some (.cells #[.int .i64 2, .int .i64 b] 64) → Below W.heap.size W w1 → Below w.heap.size w w1 ∧ w1.cell? ⟨w.heap.size, 0, none⟩ = some (.int .i64 2) ∧ w1.cell? ⟨w.heap.size, 1, none⟩ = some (.int .i64 b) ∧ w1.cell? ⟨h, 4, none⟩ = some (.slice s0 l1 c0) ∧ w1.cell? ⟨h, 5, none⟩ = some (.slice g0 l2 d0)) := fun W w1 hb hx hb1 => by
    have hbb : Below w.heap.size w w1 := hb.trans (hb1.mono hb.size)
    have hx1 : w1.heap[w.heap.size]? = some (.cells #[.int .i64 2, .int .i64 b] 64) := by rw [hb1.block _ (lt_of_heap hx)]; exact hx
    exact ⟨hbb, cell_of_heap hx1 rfl, cell_of_heap hx1 rfl, (K.out w1 hbb).1, (K.out w1 hbb).2.1⟩
  have K3 : Hid (∀ W w1, Below w.heap.size w W → W.cell? ⟨w.heap.size, 0, none⟩ = some (.int .i64 2) → W.cell? ⟨w.heap.size, 1, none⟩ = some (.int .i64 b) → Below W.heap.size W w1 → Below w.heap.size w w1 ∧ w1.cell? ⟨w.heap.size, 0, none⟩ = some (.int .i64 2) ∧ w1.cell? ⟨w.heap.size, 1, none⟩ = some (.int .i64 b) ∧ w1.cell? ⟨h, 4, none⟩ = some (.slice s0 l1 c0) ∧ w1.cell? ⟨h, 5, none⟩ = some (.slice g0 l2 d0)) := fun W w1 hb hx hy hb1 => by
    have hbb : Below w.heap.size w w1 := hb.trans (hb1.mono hb.size)
    have hlt : w.heap.size < W.heap.size := World.block_lt_of_cell? W _ hx
    exact ⟨hbb, (hb1.cell (p := ⟨w.heap.size, 0, none⟩) hlt).trans hx, (hb1.cell (p := ⟨w.heap.size, 1, none⟩) hlt).trans hy, (K.out w1 hbb).1, (K.out w1 hbb).2.1⟩
  obtain ⟨a0, a1, _, _⟩ := K.out (w.alloc (.cells #[.int .i64 2, .int .i64 b] 64)) ((Below.refl _ _).alloc (Nat.le_refl _) _)
  cases ra with
  | true =>
    go_enter Tryd.func69, Tryd.ntmps69
    go_wp2_with fail
    first | go_region_with (go_at_call 79; refine Calls.mono (K.out _ ((Below.refl _ _).alloc (Nat.le_refl _) _).drew).2.2.1 ?_; rintro e w1 ⟨rfl, hb1⟩; obtain ⟨b1, x0, x1, x2, x3⟩ := K2.out _ w1 ((Below.refl _ _).alloc (Nat.le_refl _) _).drew (heap_alloc_new w _) hb1; have B1 : Hid _ := b1; clear b1 hb1) | fail "region"
    all_goals go_wp2
    all_goals go_ret
    all_goals exact ⟨ret_bool (by rw [RR.out]; rfl), by first | exact B1.out | exact B1.out.drew | exact below_drewN B1.out _⟩
  | false =>
    go_enter Tryd.func69, Tryd.ntmps69
    go_wp2_with fail
    first | go_region_with (first | (go_at_call 79; refine Calls.mono (K.out _ B1.out).2.2.2 ?_; rintro e w2 ⟨rfl, hb2⟩; obtain ⟨b2, y0, y1, y2, y3⟩ := K3.out _ w2 B1.out x0 x1 hb2; have B2 : Hid _ := b2; clear b2 hb2) | (go_at_call 79; refine Calls.mono (K.out _ ((Below.refl _ _).alloc (Nat.le_refl _) _).drew).2.2.1 ?_; rintro e w1 ⟨rfl, hb1⟩; obtain ⟨b1, x0, x1, x2, x3⟩ := K2.out _ w1 ((Below.refl _ _).alloc (Nat.le_refl _) _).drew (heap_alloc_new w _) hb1; have B1 : Hid _ := b1; clear b1 hb1)) | fail "region"
    all_goals go_wp2
    all_goals go_ret
    all_goals exact ⟨ret_bool (by rw [RR.out]; cases rb <;> rfl), by first | exact B2.out | exact B2.out.drew | exact below_drewN B2.out _⟩

end Go.Proofs.YtpmkjeihbddfpabDoor

/- OUR OWN. The program's heap: enqueue, sortWaiting, makeRoomToWait. -/
namespace Go.Proofs.YtpmkjeihbddfpabDoor
open Go.RowKit
set_option linter.unusedVariables false
set_option linter.unusedSimpArgs false

/-- one cell of a block is turned -/
theorem HeapAt.flagged {w : World} {h : Nat} {m : HeapM} {N : Nat} (r : HeapAt w h m) (hlen : m.blks.length = N + 1) {g cap : Nat} (hv : m.vB = .slice (some ⟨g, 0, none⟩) (N + 1) cap) (i : Nat) {o : HObj} (hi : m.blks[i]? = some o) (o' : HObj) (j : Nat) (hj : j < 3) (u : Value)
    (hc : o'.cells = o.cells.set j u) (hr : o'.row = o.row) :
    HTurn h w m (w.setCell ⟨g, i * 3 + j, none⟩ u) { m with blks := m.blks.set i o' } := by
  have hob : m.vB.ownBlock = some g := by rw [hv]; rfl
  have hgh : g ≠ h := fun e => r.ne (x := ⟨56, 3, m.vB, m.blks.length, m.blks.flatMap HObj.cells⟩) (by simp [HeapM.rows]) (by rw [← e]; exact hob)
  refine r.turn 2 ⟨56, 3, m.vB, m.blks.length, m.blks.flatMap HObj.cells⟩ ⟨56, 3, m.vB, (m.blks.set i o').length, (m.blks.set i o').flatMap HObj.cells⟩ rfl ?_ ?_ ?_ ?_ ?_
  · simp only [HeapM.rows, List.set_cons_zero, List.set_cons_succ, map_set_same HObj.row m.blks i o o' hi hr]
  · rw [hso (fun e => hgh e.symm)]; exact r.head
  · have hb := r.blocks
    show (w.setCell _ u).ownsRow 0 _ 3 m.vB (m.blks.set i o').length _
    rw [List.length_set, flat_set HObj.cells 3 (fun _ => rfl) m.blks i j hj o u hi o' hc]
    rw [hv, hlen] at hb ⊢
    exact (hb.stored (i * 3 + j) u).1
  · intro x hx
    exact .inl hx
  · exact (off_setCell w g (i * 3 + j) u).mono (fun x hx => by simp at hx; subst hx; exact List.mem_cons_of_mem _ (by simp [SRow.ob, hob]))

theorem HeapAt.requeued {w w1 : World} {h : Nat} {m : HeapM} (r : HeapAt w h m) (v' : Value) (q' : List Int) (hown : ownsWin w1 3 v' q'.length (q'.map (Value.int .i64)))
    (hoff : Off m.vQ.ownBlock.toList w w1) (hlie : ∀ g, v'.ownBlock = some g → m.vQ.ownBlock = some g ∨ w.heap.size ≤ g) : HTurn h w m (w1.setCell ⟨h, 7, none⟩ v') { m with vQ := v', queue := q' } := by
  have hh := lt_of_heap r.head
  have hne : m.vQ.ownBlock ≠ some h := r.ne (x := ⟨3, 1, m.vQ, m.queue.length, m.queue.map (Value.int .i64)⟩) (by simp [HeapM.rows])
  have hgh : ∀ g, v'.ownBlock = some g → g ≠ h := fun g hg e => by
    rcases hlie g hg with e1 | e1
    · exact hne (by rw [e1, e])
    · omega
  have hh1 : w1.heap[h]? = some m.head := by rw [hoff.block h hh (fun e => hne (by simpa using e))]; exact r.head
  refine r.turn 3 ⟨3, 1, m.vQ, m.queue.length, m.queue.map (Value.int .i64)⟩ ⟨3, 1, v', q'.length, q'.map (Value.int .i64)⟩ rfl rfl ?_ ?_ hlie ?_
  · rw [heap_setCell_at hh1]; rfl
  · show ownsWin (w1.setCell ⟨h, 7, none⟩ _) 3 v' q'.length (q'.map (Value.int .i64))
    exact win_carry hown fun g hg => hso (k := g) (b := h) (hgh g hg)
  · exact (hoff.mono (fun y hy => List.mem_cons_of_mem _ hy)).trans ((off_setCell w1 h 7 _).mono (by simp))

def HeapM.put (m : HeapM) (i : Nat) (o : HObj) : HeapM := { m with blks := m.blks.set i o }
theorem hput_st (m : HeapM) (i : Nat) (o : HObj) : (m.put i o).st = m.st.put i o.ob := by
  simp [HeapM.st, HeapM.put, St.put, List.map_set]
def HeapM.enq (m : HeapM) (i : Nat) (o : HObj) (v : Value) : HeapM := { m with blks := m.blks.set i { o with state := 3 }, queue := m.queue ++ [(i : Int)], vQ := v }

theorem list_bound {l : List Int} (N : Nat) (hn : l.Nodup) (h : ∀ b ∈ l, 0 ≤ b ∧ b ≤ N) : l.length ≤ N + 1 := by
  have h2 : (l.map Int.toNat).Nodup := by
    refine List.nodup_iff_pairwise_ne.2 ?_
    rw [List.pairwise_map]
    exact List.Pairwise.imp_of_mem (fun {a b} ha hb hab e => hab (by have h1 := h a ha; have h2 := h b hb; omega)) (List.nodup_iff_pairwise_ne.1 hn)
  have := nodup_le (l' := List.range (N + 1)) h2 fun x hx => by
    obtain ⟨b, hb, rfl⟩ := List.mem_map.1 hx
    have := h b hb
    exact List.mem_range.2 (by omega)
  simpa using this
theorem St.Good.queue_len {s : St} {N : Nat} (g : s.Good N) : s.queue.length ≤ N + 1 := by
  refine list_bound N g.once fun b hb => ?_
  have h0 := g.nat b hb
  have hq := (g.inq b.toNat).1 (by rw [Int.toNat_of_nonneg h0]; exact hb)
  have := g.ne_zero (g.queued_here hq)
  omega

set_option maxHeartbeats 1600000 in
theorem enqueue_mem {w : World} {h : Nat} {m : HeapM} {N : Nat} (r : HeapAt w h m) (hlen : m.blks.length = N + 1) (hql : m.queue.length ≤ 100) (hN : N ≤ 99) (i : Nat) (hi : i ≤ N) {o : HObj} (hio : m.blks[i]? = some o) :
    Calls Tryd.prog 70 #[.pointer (some ⟨h, 0, none⟩), .int .i64 i] w fun e w' => e = .returned (.tuple #[]) ∧ ∃ v', HTurn h w m w' (m.enq i o v') := by
  obtain ⟨g, cap, hv, hg, hgh, hob, hfz, hobj⟩ := r.view hlen
  have hil : i < m.blks.length := by rw [hlen]; omega
  have c3 := (hobj i hil).1
  have cB : w.cell? ⟨h, 6, none⟩ = some (.slice (some ⟨g, 0, none⟩) (N + 1) cap) := by rw [r.cell.2.2.2.1, hv]
  have f3 := hfz (i * 3)
  have T1 := r.flagged hlen hv i hio { o with state := 3 } 0 (by decide) (.int .i64 3) rfl rfl
  rw [Nat.add_zero] at T1
  have r1 := T1.here
  have hsz : (w.setCell ⟨g, i * 3, none⟩ (.int .i64 3)).heap.size = w.heap.size := by simp [World.setCell]
  have hne : m.vQ.ownBlock ≠ some h := r.ne (x := ⟨3, 1, m.vQ, m.queue.length, m.queue.map (Value.int .i64)⟩) (by simp [HeapM.rows])
  have OWN : Hid (∀ W, Below w.heap.size (w.setCell ⟨g, i * 3, none⟩ (.int .i64 3)) W → ownsWin W 3 m.vQ m.queue.length (m.queue.map (Value.int .i64))) :=
    fun W hb => win_carry r1.queue fun j hj => hb.block j (by rw [← hsz]; exact win_lt r1.queue hj)
  have FIN : Hid (∀ W w1 v', Below w.heap.size (w.setCell ⟨g, i * 3, none⟩ (.int .i64 3)) W → ownsWin w1 3 v' (m.queue.length + 1) (m.queue.map (Value.int .i64) ++ [.int .i64 i]) → Off m.vQ.ownBlock.toList W w1 →
    (∀ b, v'.ownBlock = some b → m.vQ.ownBlock = some b ∨ W.heap.size ≤ b) → HTurn h w m (w1.setCell ⟨h, 7, none⟩ v') (m.enq i o v') ∧ w1.cell? ⟨h, 7, none⟩ = some m.vQ ∧ w1.frozen? ⟨h, 7, none⟩ = false) := by
    intro W w1 v' hb ho hgr hl
    have hb' : Below (w.setCell ⟨g, i * 3, none⟩ (.int .i64 3)).heap.size (w.setCell ⟨g, i * 3, none⟩ (.int .i64 3)) W := by rw [hsz]; exact hb
    have r2 : HeapAt W h _ := r1.carry fun y hy => hb'.block y (r1.lt y hy)
    have hh1 : w1.heap[h]? = some m.head := by rw [hgr.block h (lt_of_heap r2.head) (fun e => hne (by simpa using e))]; exact r2.head
    have T2 := (T1.after hb').trans (r2.requeued v' (m.queue ++ [(i : Int)]) (by simpa using ho) hgr hl)
    exact ⟨T2, cell_of_heap hh1 rfl, frozen_of_heap hh1⟩
  have cQ : (w.setCell ⟨g, i * 3, none⟩ (.int .i64 3)).cell? ⟨h, 7, none⟩ = some m.vQ := r1.cell.2.2.2.2.1
  obtain ⟨xs, hxs⟩ : ∃ xs, m.queue.map (Value.int .i64) = xs := ⟨_, rfl⟩
  rw [hxs] at FIN OWN
  obtain ⟨len, hlq⟩ : ∃ len, m.queue.length = len := ⟨_, rfl⟩
  rw [hlq] at hql FIN OWN
  have hxl : xs.length = len := by rw [← hxs, List.length_map, hlq]
  have hiI : (i : Int) < (N : Int) + 1 := by omega
  obtain ⟨qd, hqd⟩ : ∃ qd, (m.blks[i]).state = qd := ⟨_, rfl⟩
  rw [hqd] at c3
  have SHAPE := (OWN.out _ (Below.refl _ _)).2
  clear r r1 T1 hv hobj hob hfz hio hlq hne hqd hil hxs hlen
  obtain ⟨i1, hi1, hy0, hy1, hy2⟩ := info_parts infoInt
  rcases SHAPE with ⟨hvq, hl0⟩ | ⟨qg, off, qc, cur, hvq, q1, q2, q3, q4, q5⟩
  · rw [hvq] at FIN OWN cQ
    subst hl0
    clear hvq
    have HI : Hid _ := hi1
    have HY : Hid _ := And.intro hy0 (And.intro hy1 hy2)
    clear hi1 hy0 hy1 hy2
    go_enter Tryd.func70, Tryd.ntmps70
    go_wp2_with (at_builtin; refine wpList_append_grows _ rfl (.tmp 15) (.tmp 17) 51 rfl 3 i1 _ 1 8 Tryd.underlying51 HI.out HY.out.1 HY.out.2.1 HY.out.2.2 rfl (by decide) none 0 0 xs rfl (fun _ => ⟨rfl, rfl⟩) (by omega) (fun b hb => by cases hb) ⟨w.heap.size, 0, none⟩ 1 1 [.int .i64 i] rfl rfl ?c1 ?c2 (by decide) ?c3 ?c4 ?_)
    case c1 => have := news_new (w.setCell ⟨g, i * 3, none⟩ (.int .i64 3)) [.int .i64 i] 3; rw [hsz] at this; exact this
    case c2 => intro u hu; simp at hu; subst hu; rfl
    case c3 => unfold maxLen; omega
    case c4 => omega
    intro v' w1 hown hgr
    obtain ⟨ao', cp', rfl⟩ := win_slice (win_of_row hown)
    obtain ⟨T, hc, hf⟩ := FIN.out _ w1 _ ((Below.refl _ _).alloc (by rw [hsz]; exact Nat.le_refl _) _) (win_of_row hown) ((off_grown hgr).mono (by simp)) (fun b hb => .inr (by have := (own_lt hown hb).1; simp [hsz] at this ⊢; omega))
    have TT : Hid _ := T
    clear hown hgr FIN OWN T HI HY
    go_wp2
    go_end0
    exact ⟨rfl, _, TT.out⟩
  · rw [hvq] at FIN OWN cQ
    clear hvq q1 q2 q3 q4 q5
    have HI : Hid _ := hi1
    have HY : Hid _ := And.intro hy0 (And.intro hy1 hy2)
    clear hi1 hy0 hy1 hy2
    go_enter Tryd.func70, Tryd.ntmps70
    go_wp2_with (at_builtin; refine wpList_append_arg _ rfl (.tmp 15) (.tmp 17) 51 rfl 3 i1 _ 1 8 Tryd.underlying51 HI.out HY.out.1 HY.out.2.1 HY.out.2.2 rfl (by decide) qg off len qc xs rfl (by omega) ?c0 ⟨w.heap.size, 0, none⟩ 1 1 [.int .i64 i] rfl rfl ?c1 ?c2 ?c5 ?c3 ?c4 ?room ?grow)
    case c0 =>
      intro j u hu
      obtain ⟨_, hh⟩ := OWN.out _ ((Below.refl _ _).alloc (by rw [hsz]; exact Nat.le_refl _) (.cells #[.int .i64 (i : Int)] 3))
      rcases hh with ⟨hv, _⟩ | ⟨g', off', cap', cur', hv, h1, _, _, _, h5⟩
      · cases hv
      · simp at hv
        obtain ⟨⟨rfl, rfl⟩, rfl⟩ := hv
        exact cell_of_heap h1 (h5 j u hu)
    case c1 => have := news_new (w.setCell ⟨g, i * 3, none⟩ (.int .i64 3)) [.int .i64 i] 3; rw [hsz] at this; exact this
    case c2 => intro u hu; simp at hu; subst hu; rfl
    case c3 => unfold maxLen; omega
    case c4 => omega
    case c5 =>
      intro hr j hj
      simp at hj
      subst hj
      have := (win_room (OWN.out _ ((Below.refl _ _).alloc (by rw [hsz]; exact Nat.le_refl _) (.cells #[.int .i64 (i : Int)] 3))) (by omega) (.int .i64 (i : Int))).2
      rw [Nat.mul_one, Nat.add_zero]
      exact this
    case room =>
      intro hr
      have R := (win_room (OWN.out _ ((Below.refl _ _).alloc (by rw [hsz]; exact Nat.le_refl _) (.cells #[.int .i64 (i : Int)] 3))) (by omega) (.int .i64 (i : Int))).1
      obtain ⟨w1, hw1⟩ : ∃ w1, w1 = (((w.setCell ⟨g, i * 3, none⟩ (.int .i64 3)).alloc (.cells #[.int .i64 (i : Int)] 3)).setCells qg (off + len) [.int .i64 (i : Int)]) := ⟨_, rfl⟩
      have e1 : w1 = ((w.setCell ⟨g, i * 3, none⟩ (.int .i64 3)).alloc (.cells #[.int .i64 (i : Int)] 3)).setCell ⟨qg, off + len, none⟩ (.int .i64 (i : Int)) := by rw [hw1]; rfl
      rw [← e1] at R
      obtain ⟨T, hc, hf⟩ := FIN.out _ w1 _ ((Below.refl _ _).alloc (by rw [hsz]; exact Nat.le_refl _) _) R (by rw [e1]; exact (off_setCell _ qg _ _).mono (by simp [Value.ownBlock])) (fun b hb => .inl hb)
      have TT : Hid _ := T
      have HR : Hid _ := hr
      have e2 : (((w.setCell ⟨g, i * 3, none⟩ (.int .i64 3)).alloc (.cells #[.int .i64 (i : Int)] 3)).setCells qg (off + len) [.int .i64 (i : Int)]) = w1 := hw1.symm
      rw [e2]
      clear R FIN OWN T hr e1 e2 hw1 HI HY HR
      go_wp2
      go_end0
      exact ⟨rfl, _, TT.out⟩
    case grow =>
      intro hr v' w1 hown hgr
      obtain ⟨ao', cp', rfl⟩ := win_slice (win_of_row hown)
      obtain ⟨T, hc, hf⟩ := FIN.out _ w1 _ ((Below.refl _ _).alloc (by rw [hsz]; exact Nat.le_refl _) _) (win_of_row hown) ((off_grown hgr).mono (by simp)) (fun b hb => .inr (by have := (own_lt hown hb).1; simp [hsz] at this ⊢; omega))
      have TT : Hid _ := T
      clear hown hgr FIN OWN T hr HI HY
      go_wp2
      go_end0
      exact ⟨rfl, _, TT.out⟩

theorem set_get {α : Type} {l : List α} {i j : Nat} {x y : α} (h : (l.set i x)[j]? = some y) : (j = i ∧ y = x) ∨ (j ≠ i ∧ l[j]? = some y) := by
  rw [List.getElem?_set] at h
  by_cases e : i = j
  · rw [if_pos e] at h
    split at h
    · exact .inl ⟨e.symm, (Option.some.inj h).symm⟩
    · cases h
  · rw [if_neg e] at h; exact .inr ⟨fun x => e x.symm, h⟩

/-- what goes to the queue -/
theorem HSb.enq {but : Int} {m : HeapM} {s : St} {c : Cf} {N : Nat} (p : HSb but m s c N) {i : Nat} {o : HObj} (hi : m.blks[i]? = some o) (hst : o.state = 1) (v : Value) : HSb but (m.enq i o v) (s.enq i) c N := by
  have ho : s.ob i = o.ob := by rw [← p.st]; exact hst_ob hi
  refine ⟨?_, p.deep, p.zero, p.over, p.budget, fun x hx => ?_, fun j x hx hs => ?_⟩
  · have e : ({ o with state := 3 } : HObj).ob = { s.ob i with queued := true } := by rw [ho]; simp [HObj.ob, hst]
    unfold St.enq
    rw [← e, ← p.st]
    simp [HeapM.enq, HeapM.st, List.map_set]
  · rcases List.mem_or_eq_of_mem_set hx with e | e
    · exact p.state x e
    · subst e; exact .inr (.inr (.inr rfl))
  · rw [count_enq]
    rcases set_get hx with ⟨rfl, rfl⟩ | ⟨_, e⟩
    · exact p.cnt j o hi (.inl hst)
    · exact p.cnt j x e hs

theorem enqueue_any {but : Int} {h : Nat} {w : World} {m : HeapM} {s : St} {c : Cf} {N : Nat} (p : HB but h w m s c N) (i : Nat) (hi : i ≤ N) (hw : s.sorts but i = true) :
    Calls Tryd.prog 70 #[.pointer (some ⟨h, 0, none⟩), .int .i64 i] w fun e w' => e = .returned (.tuple #[]) ∧ ∃ m', HTurn h w m w' m' ∧ HB but h w' m' (s.enq i) c N := by
  obtain ⟨o, hio⟩ : ∃ o, m.blks[i]? = some o := ⟨_, List.getElem?_eq_getElem (by rw [p.len]; omega)⟩
  obtain ⟨h1, h2, h3⟩ := sorts_iff.1 hw
  obtain ⟨w1, w2, w3⟩ := waits_iff.1 h1
  have hst : o.state = 1 := by
    have e := p.ob hio
    have a1 := w1.1; have a2 := w1.2
    rw [e] at a1 a2 w2
    rcases p.hs.state o (List.mem_of_getElem? hio) with e | e | e | e
    · simp [HObj.ob, e] at a1
    · exact e
    · simp [HObj.ob, e] at w2
    · simp [HObj.ob, e] at a2
  refine (enqueue_mem p.r p.len (by rw [p.mqueue]; have := p.good.queue_len; have := p.small; omega) p.small i hi hio).mono ?_
  rintro e w' ⟨he, v', t⟩
  exact ⟨he, _, t, t.here, p.hs.enq hio hst v', p.good.enq i w1 w2 w3 h2, p.cf, p.small, p.stack, p.globals⟩

end Go.Proofs.YtpmkjeihbddfpabDoor

/- OUR OWN. The program's heap: sortWaiting, makeRoomToWait. -/
namespace Go.Proofs.YtpmkjeihbddfpabDoor
open Go.RowKit
set_option linter.unusedVariables false
set_option linter.unusedSimpArgs false

set_option maxHeartbeats 1600000 in
theorem sortWaiting_any {but : Int} {h : Nat} {w : World} {m : HeapM} {s : St} {c : Cf} {N : Nat} (p : HB but h w m s c N) :
    Calls Tryd.prog 46 #[.pointer (some ⟨h, 0, none⟩)] w fun e w' => e = .returned (.tuple #[]) ∧ ∃ m', HTurn h w m w' m' ∧ HB but h w' m' (s.sort but) c N := by
  have hN := p.small
  have hsN : s.N = N := p.good.sN
  have START : Hid (HTurn h w m w m ∧ HB but h w m (sortTo but s 0) c N) := ⟨.refl p.r, p⟩
  -- a round: what is known at its start, what its calls do
  have ROUND : Hid (∀ wr mr (j : Nat), j < N → HTurn h w m wr mr → HB but h wr mr (sortTo but s j) c N → ∃ g cap st ct ao fl fc, wr.cell? ⟨h, 6, none⟩ = some (.slice (some ⟨g, 0, none⟩) (N + 1) cap) ∧
      wr.cell? ⟨g, (j + 1) * 3, none⟩ = some (.int .i64 st) ∧ wr.cell? ⟨g, (j + 1) * 3 + 1, none⟩ = some (.int .i64 ct) ∧ wr.cell? ⟨g, (j + 1) * 3 + 2, none⟩ = some (.slice ao fl fc) ∧
      ((decide (st = 1) && decide (ct = 0)) = false → ∀ W, Below wr.heap.size wr W → ∃ m', HTurn h w m W m' ∧ HB but h W m' (sortTo but s (j + 1)) c N) ∧
      ((decide (st = 1) && decide (ct = 0)) = true → ∀ W, Below wr.heap.size wr W → Calls Tryd.prog 69 #[.pointer (some ⟨h, 0, none⟩), .int .i64 ((j : Int) + 1)] W fun e w1 => ∃ b, e = .returned (.bool b) ∧
        (b = true → ∃ m', HTurn h w m w1 m' ∧ HB but h w1 m' (sortTo but s (j + 1)) c N) ∧
        (b = false → Calls Tryd.prog 70 #[.pointer (some ⟨h, 0, none⟩), .int .i64 ((j : Int) + 1)] w1 fun e w2 => e = .returned (.tuple #[]) ∧ ∃ m', HTurn h w m w2 m' ∧ HB but h w2 m' (sortTo but s (j + 1)) c N))) := by
    intro wr mr j hj t q
    obtain ⟨g, cap, cB, hg, hobj⟩ := q.cells
    obtain ⟨o, ao, fl, fc, ho, _, _, c0, c1, c2⟩ := hobj (j + 1) (by omega)
    have hw : (decide (o.state = 1) && decide (o.count = 0)) = (sortTo but s j).others but (j + 1) := q.hs.waits ho
    refine ⟨g, cap, o.state, o.count, ao, fl, fc, cB, c0, c1, c2, fun hx W hb => ?_, fun hx W hb => ?_⟩
    · have e : sortTo but s (j + 1) = sortTo but s j := by
        show (if _ then _ else _) = _
        rw [if_neg]
        intro hs
        obtain ⟨h1, h2, h3⟩ := sorts_iff.1 hs
        rw [hw] at hx
        unfold St.others at hx
        simp [h1] at hx
        exact h3 (by push_cast; exact hx)
      rw [e]
      exact ⟨mr, t.after hb, q.below hb⟩
    · rw [hw] at hx
      have hx2 : (sortTo but s j).waits (j + 1) = true ∧ ((j + 1 : Nat) : Int) ≠ but := by unfold St.others at hx; simpa using hx
      have q1 := q.below hb
      refine (isRoot_any q1 ((j : Int) + 1)).mono ?_
      rintro e w1 ⟨rfl, hb1⟩
      have q2 := q1.below hb1
      have t2 : HTurn h w m w1 mr := (t.after hb).after hb1
      refine ⟨_, rfl, fun hr => ?_, fun hr => ?_⟩
      · have e : sortTo but s (j + 1) = sortTo but s j := by
          show (if _ then _ else _) = _
          rw [if_neg]
          intro hs
          obtain ⟨h1, h2, h3⟩ := sorts_iff.1 hs
          have h2' : (sortTo but s j).rooted ((j : Int) + 1) = false := by have := h2; push_cast at this; exact this
          rw [hr] at h2'; cases h2'
        rw [e]
        exact ⟨mr, t2, q2⟩
      · have hs : (sortTo but s j).sorts but (j + 1) = true := sorts_iff.2 ⟨hx2.1, by push_cast; exact hr, hx2.2⟩
        have e : sortTo but s (j + 1) = (sortTo but s j).enq (j + 1) := by
          show (if _ then _ else _) = _
          rw [if_pos hs]
        rw [e]
        refine (enqueue_any q2 (j + 1) (by omega) hs).mono ?_
        rintro e w2 ⟨he, m', t3, q3⟩
        exact ⟨he, m', t2.trans t3, q3⟩
  have BLK : Hid (∀ wr mr s', HB but h wr mr s' c N → ∃ g cap, wr.cell? ⟨h, 6, none⟩ = some (.slice (some ⟨g, 0, none⟩) (N + 1) cap)) := fun wr mr s' q => by
    obtain ⟨g, cap, cB, _⟩ := q.cells
    exact ⟨g, cap, cB⟩
  have WF : Hid (∀ st ct v w, Calls Tryd.prog 68 #[.agg #[.int .i64 st, .int .i64 ct, v]] w fun e w' => e = .returned (.bool (decide (st = 1) && decide (ct = 0))) ∧ Below w.heap.size w w') := waits_fn
  have FIN : Hid (sortTo but s N = s.sort but) := by show _ = _; unfold St.sort; rw [hsN]
  clear p hsN
  go_enter Tryd.func46, Tryd.ntmps46
  go_wp2
  go_loopw [2] (fun i wr => ∃ j : Nat, j ≤ N ∧ i = .int .i64 (j + 1) ∧ ∃ mr, HTurn h w m wr mr ∧ HB but h wr mr (sortTo but s j) c N) (fun i _ => N + 1 - (intOf i).toNat)
  case atStart => exact ⟨0, Nat.zero_le _, rfl, m, START.out⟩
  case round =>
    obtain ⟨j, hj, rfl, mr, ht, hq⟩ := hrel
    by_cases hlt : j < N
    · obtain ⟨g, cap, st, ct, ao, fl, fc, cB, c0, c1, c2, hno, hyes⟩ := ROUND.out wr mr j hlt ht hq
      have NO : Hid _ := hno
      have YES : Hid _ := hyes
      have X : Hid _ := WF.out st ct
      clear hno hyes ht hq
      go_wp2_with fail
      refine Calls.mono (X.out _ _) ?_
      rintro e w1 ⟨rfl, hb1⟩
      have B1 : Hid (Below wr.heap.size wr w1) := hb1
      clear hb1 X c0 c1 c2 cB
      cases hx : (decide (st = 1) && decide (ct = 0)) with
      | false =>
        have F : Hid (∃ m', HTurn h w m w1 m' ∧ HB but h w1 m' (sortTo but s (j + 1)) c N) := NO.out hx w1 B1.out
        clear hx NO YES B1
        go_wp2
        go_roundw
        case rel => exact ⟨j + 1, by omega, by go_num, F.out⟩
        case measure => simp [intOf]; omega
      | true =>
        have Y : Hid _ := YES.out hx w1 B1.out
        clear hx NO YES B1
        go_wp2_with fail
        refine Calls.mono Y.out ?_
        rintro e w2 ⟨b, rfl, hbt, hbf⟩
        have BT : Hid _ := hbt
        have BF : Hid _ := hbf
        clear hbt hbf Y
        cases b with
        | true =>
          have F : Hid (∃ m', HTurn h w m w2 m' ∧ HB but h w2 m' (sortTo but s (j + 1)) c N) := BT.out rfl
          clear BT BF
          go_wp2
          go_roundw
          case rel => exact ⟨j + 1, by omega, by go_num, F.out⟩
          case measure => simp [intOf]; omega
        | false =>
          have F : Hid _ := BF.out rfl
          clear BT BF
          go_wp2_with fail
          refine Calls.mono F.out ?_
          rintro e w3 ⟨rfl, hm⟩
          have M : Hid _ := hm
          clear hm F
          go_wp2
          go_roundw
          case rel => exact ⟨j + 1, by omega, by go_num, M.out⟩
          case measure => simp [intOf]; omega
    · obtain rfl : j = N := by omega
      obtain ⟨g, cap, cB⟩ := BLK.out wr mr _ hq
      have F : Hid (∃ m', HTurn h w m wr m' ∧ HB but h wr m' (s.sort but) c j) := by rw [← FIN.out]; exact ⟨mr, ht, hq⟩
      clear ht hq
      go_wp2
      go_end0
      exact ⟨rfl, F.out⟩

set_option maxHeartbeats 800000 in
theorem makeRoom_any {but : Int} {h : Nat} {w : World} {m : HeapM} {s : St} {c : Cf} {N : Nat} (p : HB but h w m s c N) :
    Calls Tryd.prog 59 #[.pointer (some ⟨h, 0, none⟩)] w fun e w' => e = .returned (.tuple #[]) ∧ ∃ m', HTurn h w m w' m' ∧ HB but h w' m' (s.enter c.zero but) c N := by
  have hsN : s.N = N := p.good.sN
  have cZ : w.cell? ⟨h, 2, none⟩ = some (.int .i64 c.zero) := by rw [p.r.cell.2.2.2.2.2.1, p.hs.zero]
  have hh := lt_of_heap p.r.head
  have W0 : Hid _ := waiting_any p
  have K : Hid (∀ W, Below w.heap.size w W → W.cell? ⟨h, 2, none⟩ = some (.int .i64 c.zero) ∧ (¬ c.zero ≤ countTo (s.others but) N → ∃ m', HTurn h w m W m' ∧ HB but h W m' (s.enter c.zero but) c N) ∧
      (c.zero ≤ countTo (s.others but) N → Calls Tryd.prog 46 #[.pointer (some ⟨h, 0, none⟩)] W fun e w' => e = .returned (.tuple #[]) ∧ ∃ m', HTurn h w m w' m' ∧ HB but h w' m' (s.enter c.zero but) c N)) := fun W hb => by
    refine ⟨(hb.cell (p := ⟨h, 2, none⟩) hh).trans cZ, fun hz => ?_, fun hz => ?_⟩
    · have e : s.enter c.zero but = s := by unfold St.enter; rw [hsN, if_neg hz]
      rw [e]
      exact ⟨m, .of_below p.r hb, p.below hb⟩
    · have e : s.enter c.zero but = s.sort but := by unfold St.enter; rw [hsN, if_pos hz]
      rw [e]
      refine (sortWaiting_any (p.below hb)).mono ?_
      rintro e w' ⟨he, m', t, q⟩
      exact ⟨he, m', .pre p.r hb t, q⟩
  obtain ⟨n, hn⟩ : ∃ n, countTo (s.others but) N = n := ⟨_, rfl⟩
  rw [hn] at W0 K
  obtain ⟨z, hz⟩ : ∃ z, c.zero = z := ⟨_, rfl⟩
  rw [hz] at K ⊢
  clear p hsN cZ hn hz
  go_enter Tryd.func59, Tryd.ntmps59
  go_wp2_with fail
  refine Calls.mono W0.out ?_
  rintro e w1 ⟨rfl, hb⟩
  obtain ⟨c0, k1, k2⟩ := K.out w1 hb
  have K1 : Hid _ := k1
  have K2 : Hid _ := k2
  clear hb K W0 k1 k2
  by_cases hzn : z ≤ (n : Int)
  · have F : Hid _ := K2.out hzn
    clear K1 K2
    go_wp2_with fail
    refine Calls.mono F.out ?_
    rintro e w2 ⟨rfl, hm⟩
    have M : Hid _ := hm
    clear hm F
    go_wp2
    go_end0
    exact ⟨rfl, M.out⟩
  · have F : Hid _ := K1.out (by omega)
    have hz2 : decide (z ≤ (n : Int)) = false := by simpa using hzn
    clear K1 K2
    go_wp2
    go_end0
    exact ⟨rfl, F.out⟩

end Go.Proofs.YtpmkjeihbddfpabDoor

/- OUR OWN. The program's heap: countField, uncountField. -/
namespace Go.Proofs.YtpmkjeihbddfpabDoor
open Go.RowKit
set_option linter.unusedVariables false
set_option linter.unusedSimpArgs false

theorem refs_length (l : List (Int × Int)) (b : Int) : refsN l b ≤ l.length := List.countP_le_length
/-- another one is counted too much -/
theorem HSb.but {b b' : Int} {m : HeapM} {s : St} {c : Cf} {N : Nat} (p : HSb b m s c N) (h : ∀ (i : Nat) (o : HObj), m.blks[i]? = some o → o.state = 1 ∨ o.state = 3 → ((i : Int) = b ↔ (i : Int) = b')) : HSb b' m s c N := by
  refine ⟨p.st, p.deep, p.zero, p.over, p.budget, p.state, fun i o hi hs => ?_⟩
  have h1 := h i o hi hs
  rw [p.cnt i o hi hs]
  by_cases e : (i : Int) = b
  · rw [if_pos e, if_pos (h1.1 e)]
  · rw [if_neg e, if_neg (fun x => e (h1.2 x))]
theorem HSb.pos {b : Int} {m : HeapM} {s : St} {c : Cf} {N : Nat} (p : HSb b m s c N) (g : s.Good N) {i : Nat} {o : HObj} (hi : m.blks[i]? = some o) (hs : o.state = 1 ∨ o.state = 3) : ¬ (i : Int) = 0 := fun h0 => by
  have h0 : i = 0 := by omega
  have ho : s.ob i = o.ob := by rw [← p.st]; exact hst_ob hi
  have := g.zero
  rw [← h0, ho] at this
  have := congrArg Ob.here this
  rcases hs with e | e <;> simp [HObj.ob, e, Ob.free] at this

/-- the object's count alone is turned -/
theorem HSb.recount {b b' : Int} {m : HeapM} {s : St} {c : Cf} {N : Nat} (p : HSb b m s c N) {j : Nat} {o : HObj} (hj : m.blks[j]? = some o) (x : Int) (hx : o.state = 1 ∨ o.state = 3 → x = s.count j + if (j : Int) = b' then 1 else 0)
    (h : ∀ (i : Nat) (o : HObj), i ≠ j → m.blks[i]? = some o → o.state = 1 ∨ o.state = 3 → ((i : Int) = b ↔ (i : Int) = b')) : HSb b' (m.put j { o with count := x }) s c N := by
  have ho : s.ob j = o.ob := by rw [← p.st]; exact hst_ob hj
  refine ⟨?_, p.deep, p.zero, p.over, p.budget, fun y hy => ?_, fun i y hy hs => ?_⟩
  · rw [hput_st, p.st]
    have : ({ o with count := x } : HObj).ob = s.ob j := ho.symm
    rw [this]
    unfold St.put
    have hl : j < s.objs.length := by rw [← p.st]; simpa [HeapM.st] using (List.getElem?_eq_some_iff.1 hj).1
    have e : s.objs.set j (s.ob j) = s.objs := by
      have : s.ob j = s.objs[j] := ob_of (List.getElem?_eq_getElem hl)
      rw [this]; exact List.set_getElem_self hl
    rw [e]
  · rcases List.mem_or_eq_of_mem_set hy with e | e
    · exact p.state y e
    · subst e; exact p.state o (List.mem_of_getElem? hj)
  · rcases set_get hy with ⟨rfl, rfl⟩ | ⟨hne, e⟩
    · exact hx hs
    · have h1 := h i y hne e hs
      rw [p.cnt i y e hs]
      by_cases e : (i : Int) = b
      · rw [if_pos e, if_pos (h1.1 e)]
      · rw [if_neg e, if_neg (fun x => e (h1.2 x))]

/-- the object is stuck from now on -/
theorem HSb.stick {m : HeapM} {s : St} {c : Cf} {N : Nat} (p : HSb 0 m s c N) (g : s.Good N) {j : Nat} {o : HObj} (hj : m.blks[j]? = some o) (h1 : o.state = 1) : HSb j (m.put j { o with state := 2 }) (s.stick j) c N := by
  have ho : s.ob j = o.ob := by rw [← p.st]; exact hst_ob hj
  refine ⟨?_, p.deep, p.zero, p.over, p.budget, fun y hy => ?_, fun i y hy hs => ?_⟩
  · rw [hput_st, p.st]
    unfold St.stick
    have : ({ o with state := 2 } : HObj).ob = { s.ob j with stuck := true } := by rw [ho]; simp [HObj.ob, h1]
    rw [this]
  · rcases List.mem_or_eq_of_mem_set hy with e | e
    · exact p.state y e
    · subst e; exact .inr (.inr (.inl rfl))
  · rw [count_stick]
    rcases set_get hy with ⟨rfl, rfl⟩ | ⟨hne, e⟩
    · rcases hs with e | e <;> simp at e
    · have := p.cnt i y e hs
      rw [if_neg (p.pos g e hs)] at this
      rw [this, if_neg (by omega)]

theorem alive_state {b : Int} {m : HeapM} {s : St} {c : Cf} {N : Nat} (p : HSb b m s c N) {j : Nat} {o : HObj} (hj : m.blks[j]? = some o) (ha : s.alive j) : (o.state = 1 ∧ (s.ob j).stuck = false) ∨ (o.state = 2 ∧ (s.ob j).stuck = true) := by
  have ho : s.ob j = o.ob := by rw [← p.st]; exact hst_ob hj
  obtain ⟨a1, a2⟩ := ha
  rw [ho] at a1 a2 ⊢
  rcases p.state o (List.mem_of_getElem? hj) with e | e | e | e
  · simp [HObj.ob, e] at a1
  · exact .inl ⟨e, by simp [HObj.ob, e]⟩
  · exact .inr ⟨e, by simp [HObj.ob, e]⟩
  · simp [HObj.ob, e] at a2

theorem stick_stuck {s : St} {j : Nat} (hl : j < s.objs.length) (h : (s.ob j).stuck = true) : s.stick j = s := by
  unfold St.stick St.put
  have e : ({ s.ob j with stuck := true } : Ob) = s.objs[j] := by
    have e2 : s.ob j = s.objs[j] := ob_of (List.getElem?_eq_getElem hl)
    rw [← e2, ← h]
  rw [e, List.set_getElem_self hl]

set_option maxHeartbeats 1600000 in
theorem countField_any {h : Nat} {w : World} {m : HeapM} {s : St} {c : Cf} {N : Nat} (p : HB 0 h w m s c N) (j : Nat) (ha : s.alive j) :
    Calls Tryd.prog 77 #[.pointer (some ⟨h, 0, none⟩), .int .i64 j] w fun e w' => e = .returned (.tuple #[]) ∧ ∃ m', HTurn h w m w' m' ∧ HB j h w' m' (stickS c.over s (2, (j : Int))) c N := by
  obtain ⟨hj1, hjN⟩ := p.good.ne_zero ha.1
  obtain ⟨g, cap, hv, hg, hgh, hob, hfz, hobj⟩ := p.r.view p.len
  have hil : j < m.blks.length := by rw [p.len]; omega
  have cB : w.cell? ⟨h, 6, none⟩ = some (.slice (some ⟨g, 0, none⟩) (N + 1) cap) := by rw [p.r.cell.2.2.2.1, hv]
  have cO : w.cell? ⟨h, 3, none⟩ = some (.int .i64 c.over) := by rw [p.r.cell.2.2.2.2.2.2.1, p.hs.over]
  have hh := lt_of_heap p.r.head
  obtain ⟨o, hio⟩ : ∃ o, m.blks[j]? = some o := ⟨_, List.getElem?_eq_getElem hil⟩
  have hoe : m.blks[j] = o := (List.getElem?_eq_some_iff.1 hio).2
  obtain ⟨c0, c1, c2⟩ := hobj j hil
  rw [hoe] at c0 c1 c2
  have hN := p.small
  have hjI : (j : Int) < (N : Int) + 1 := by omega
  have hcl := p.good.count_le j
  have gst := (p.good.stickS c.over (x := (2, (j : Int))) (.inr (.inr ⟨rfl, j, rfl, ha⟩))).1
  have DONE : ∀ W m', HTurn h w m W m' → HSb j m' (stickS c.over s (2, (j : Int))) c N → ∃ m', HTurn h w m W m' ∧ HB j h W m' (stickS c.over s (2, (j : Int))) c N := fun W m' t q =>
    ⟨m', t, t.here, q, gst, p.cf, p.small, by
      have : (stickS c.over s (2, (j : Int))).stack = s.stack := by unfold stickS; split <;> rfl
      rw [this]; exact p.stack, by
      have : (stickS c.over s (2, (j : Int))).globals = s.globals := by unfold stickS; split <;> rfl
      rw [this]; exact p.globals⟩
  rcases alive_state p.hs hio ha with ⟨hst, hsk⟩ | ⟨hst, hsk⟩
  · have hct : o.count = s.count j := by have := p.hs.cnt j o hio (.inl hst); rw [if_neg (p.hs.pos p.good hio (.inl hst))] at this; omega
    -- one more is counted
    have INC : ∀ W, Below w.heap.size w W → stickS c.over s (2, (j : Int)) = s → ∃ m', HTurn h w m (W.setCell ⟨g, j * 3 + 1, none⟩ (.int .i64 (o.count + 1))) m' ∧ HB j h (W.setCell ⟨g, j * 3 + 1, none⟩ (.int .i64 (o.count + 1))) m' (stickS c.over s (2, (j : Int))) c N := fun W hb e => by
      have t := (p.below hb).r.flagged p.len hv j hio { o with count := o.count + 1 } 1 (by decide) (.int .i64 (o.count + 1)) rfl rfl
      refine DONE _ _ (.pre p.r hb t) ?_
      rw [e]
      refine p.hs.recount hio _ (fun _ => by rw [if_pos rfl, hct]) fun i y hne hy hs => ⟨fun e => absurd e (p.hs.pos p.good hy hs), fun e => absurd (by omega) hne⟩
    by_cases h7 : o.count = 7
    · have X : Hid _ := hextras_any p
      have hex : countTo s.extra N = s.extras := by unfold St.extras; rw [p.good.sN]
      rw [hex] at X
      by_cases hov : c.over ≤ s.extras
      · have e : stickS c.over s (2, (j : Int)) = s.stick j := by
          unfold stickS
          rw [if_pos ⟨rfl, by have : (s.count j : Int) = 7 := by omega
                              exact_mod_cast this, hov⟩]
          simp
        have FIN : Hid (∀ W, Below w.heap.size w W → W.cell? ⟨h, 3, none⟩ = some (.int .i64 c.over) ∧ W.cell? ⟨h, 6, none⟩ = some (.slice (some ⟨g, 0, none⟩) (N + 1) cap) ∧ W.cell? ⟨g, j * 3, none⟩ = some (.int .i64 1) ∧ W.frozen? ⟨g, j * 3, none⟩ = false ∧
            ∃ m', HTurn h w m (W.setCell ⟨g, j * 3, none⟩ (.int .i64 2)) m' ∧ HB j h (W.setCell ⟨g, j * 3, none⟩ (.int .i64 2)) m' (stickS c.over s (2, (j : Int))) c N) := fun W hb => by
          refine ⟨(hb.cell (p := ⟨h, 3, none⟩) hh).trans cO, (hb.cell (p := ⟨h, 6, none⟩) hh).trans cB, by rw [hb.cell (p := ⟨g, j * 3, none⟩) hg, c0, hst], (hb.frozen (p := ⟨g, j * 3, none⟩) hg).trans (hfz _), ?_⟩
          have t := (p.below hb).r.flagged p.len hv j hio { o with state := 2 } 0 (by decide) (.int .i64 2) rfl rfl
          rw [Nat.add_zero] at t
          refine DONE _ _ (.pre p.r hb t) ?_
          rw [e]
          exact p.hs.stick p.good hio hst
        rw [hst] at c0
        rw [h7] at c1
        obtain ⟨ex, hexx⟩ : ∃ ex, s.extras = ex := ⟨_, rfl⟩
        rw [hexx] at X hov
        obtain ⟨ov, hovv⟩ : ∃ ov, c.over = ov := ⟨_, rfl⟩
        rw [hovv] at FIN hov cO ⊢
        clear p hobj hv hob hfz hio hoe c2 hcl gst DONE INC hct e hex hexx hovv
        go_enter Tryd.func77, Tryd.ntmps77
        go_wp2_with fail
        refine Calls.mono X.out ?_
        rintro e w1 ⟨rfl, hb⟩
        obtain ⟨d0, d1, d2, d3, hm⟩ := FIN.out w1 hb
        have M : Hid _ := hm
        clear hm hb FIN X c0 c1 cB cO
        go_wp2
        first | go_end0 | refine bodyPost_ret (results_none rfl _ _ _) rfl ?_
        exact ⟨rfl, M.out⟩
      · have e : stickS c.over s (2, (j : Int)) = s := by
          unfold stickS
          rw [if_neg]
          rintro ⟨_, _, h3⟩; exact hov h3
        have FIN : Hid (∀ W, Below w.heap.size w W → W.cell? ⟨h, 3, none⟩ = some (.int .i64 c.over) ∧ W.cell? ⟨h, 6, none⟩ = some (.slice (some ⟨g, 0, none⟩) (N + 1) cap) ∧ W.cell? ⟨g, j * 3 + 1, none⟩ = some (.int .i64 7) ∧ W.frozen? ⟨g, j * 3 + 1, none⟩ = false ∧
            ∃ m', HTurn h w m (W.setCell ⟨g, j * 3 + 1, none⟩ (.int .i64 8)) m' ∧ HB j h (W.setCell ⟨g, j * 3 + 1, none⟩ (.int .i64 8)) m' (stickS c.over s (2, (j : Int))) c N) := fun W hb => by
          refine ⟨(hb.cell (p := ⟨h, 3, none⟩) hh).trans cO, (hb.cell (p := ⟨h, 6, none⟩) hh).trans cB, by rw [hb.cell (p := ⟨g, j * 3 + 1, none⟩) hg, c1, h7], (hb.frozen (p := ⟨g, j * 3 + 1, none⟩) hg).trans (hfz _), ?_⟩
          have := INC W hb e
          rw [h7] at this
          exact this
        rw [hst] at c0
        rw [h7] at c1
        obtain ⟨ex, hexx⟩ : ∃ ex, s.extras = ex := ⟨_, rfl⟩
        rw [hexx] at X hov
        obtain ⟨ov, hovv⟩ : ∃ ov, c.over = ov := ⟨_, rfl⟩
        rw [hovv] at FIN hov cO ⊢
        have hov2 : decide (ov ≤ (ex : Int)) = false := by simpa using hov
        clear p hobj hv hob hfz hio hoe c2 hcl gst DONE INC hct e hex hexx hovv
        go_enter Tryd.func77, Tryd.ntmps77
        go_wp2_with fail
        refine Calls.mono X.out ?_
        rintro e w1 ⟨rfl, hb⟩
        obtain ⟨d0, d1, d2, d3, hm⟩ := FIN.out w1 hb
        have M : Hid _ := hm
        clear hm hb FIN X c0 c1 cB cO
        go_wp2
        first | go_end0 | refine bodyPost_ret (results_none rfl _ _ _) rfl ?_
        exact ⟨rfl, M.out⟩
    · have e : stickS c.over s (2, (j : Int)) = s := by
        unfold stickS
        rw [if_neg]
        rintro ⟨_, h3, _⟩
        have h3 : s.count j = 7 := h3
        omega
      have M : Hid _ := INC w (Below.refl _ _) e
      have f1 := hfz (j * 3 + 1)
      have hcs : 0 ≤ o.count ∧ o.count ≤ 400 := by omega
      rw [hst] at c0
      obtain ⟨ct, hctt⟩ : ∃ ct, o.count = ct := ⟨_, rfl⟩
      rw [hctt] at c1 M h7 hcs
      have h72 : (ct == 7) = false := by simpa using h7
      clear p hobj hv hob hfz hio hoe c2 hcl gst DONE INC hct e hctt
      go_enter Tryd.func77, Tryd.ntmps77
      go_wp2
      first | go_end0 | refine bodyPost_ret (results_none rfl _ _ _) rfl ?_
      exact ⟨rfl, M.out⟩
  · have e : stickS c.over s (2, (j : Int)) = s := by
      unfold stickS
      split
      · simp; exact stick_stuck (here_lt ha.1) hsk
      · rfl
    have M : Hid (∃ m', HTurn h w m w m' ∧ HB j h w m' (stickS c.over s (2, (j : Int))) c N) := by
      refine DONE w m (.refl p.r) ?_
      rw [e]
      refine p.hs.but fun i y hy hs => ⟨fun e => absurd e (p.hs.pos p.good hy hs), fun e => ?_⟩
      have : i = j := by omega
      subst this
      rw [hio] at hy; cases hy
      rcases hs with e | e <;> omega
    rw [hst] at c0
    clear p hobj hv hob hfz hio hoe c2 hcl gst DONE e
    go_enter Tryd.func77, Tryd.ntmps77
    go_wp2
    first | go_end0 | refine bodyPost_ret (results_none rfl _ _ _) rfl ?_
    exact ⟨rfl, M.out⟩

set_option maxHeartbeats 1600000 in
theorem uncountField_any {h : Nat} {w : World} {m : HeapM} {s : St} {c : Cf} {N : Nat} (j : Nat) (p : HB j h w m s c N) (ha : s.alive j) :
    Calls Tryd.prog 78 #[.pointer (some ⟨h, 0, none⟩), .int .i64 j] w fun e w' => e = .returned (.tuple #[]) ∧ ∃ m', HTurn h w m w' m' ∧ HB 0 h w' m' (dropS' c.zero s (2, (j : Int))) c N := by
  obtain ⟨hj1, hjN⟩ := p.good.ne_zero ha.1
  obtain ⟨g, cap, hv, hg, hgh, hob, hfz, hobj⟩ := p.r.view p.len
  have hil : j < m.blks.length := by rw [p.len]; omega
  have cB : w.cell? ⟨h, 6, none⟩ = some (.slice (some ⟨g, 0, none⟩) (N + 1) cap) := by rw [p.r.cell.2.2.2.1, hv]
  have hh := lt_of_heap p.r.head
  obtain ⟨o, hio⟩ : ∃ o, m.blks[j]? = some o := ⟨_, List.getElem?_eq_getElem hil⟩
  have hoe : m.blks[j] = o := (List.getElem?_eq_some_iff.1 hio).2
  obtain ⟨c0, c1, c2⟩ := hobj j hil
  rw [hoe] at c0 c1 c2
  have hN := p.small
  have hjI : (j : Int) < (N : Int) + 1 := by omega
  have hcl := p.good.count_le j
  -- one less is counted, whatever the world
  have DEC : ∀ {W : World} {m' : HeapM} {s' : St}, HB j h W m' s' c N → ∀ o', m'.blks[j]? = some o' → o'.state = 1 → ∀ g' cap', m'.vB = .slice (some ⟨g', 0, none⟩) (N + 1) cap' →
      ∃ m'', HTurn h W m' (W.setCell ⟨g', j * 3 + 1, none⟩ (.int .i64 (o'.count - 1))) m'' ∧ HB 0 h (W.setCell ⟨g', j * 3 + 1, none⟩ (.int .i64 (o'.count - 1))) m'' s' c N := fun {W m' s'} q o' ho' hs' g' cap' hv' => by
    have t := q.r.flagged q.len hv' j ho' { o' with count := o'.count - 1 } 1 (by decide) (.int .i64 (o'.count - 1)) rfl rfl
    refine ⟨_, t, t.here, ?_, q.good, q.cf, q.small, q.stack, q.globals⟩
    refine q.hs.recount ho' _ (fun _ => ?_) fun i y hne hy hs => ⟨fun e => absurd (by omega) hne, fun e => absurd e (q.hs.pos q.good hy hs)⟩
    have := q.hs.cnt j o' ho' (.inl hs')
    rw [if_pos rfl] at this
    rw [if_neg (q.hs.pos q.good ho' (.inl hs')), this]
    omega
  rcases alive_state p.hs hio ha with ⟨hst, hsk⟩ | ⟨hst, hsk⟩
  · have hct : o.count = s.count j + 1 := by have := p.hs.cnt j o hio (.inl hst); rw [if_pos rfl] at this; exact this
    by_cases h1 : o.count = 1
    · have e : dropS' c.zero s (2, (j : Int)) = s.enter c.zero j := by
        unfold dropS'
        rw [if_pos ⟨rfl, by simpa using hsk, by show s.count j = 0; omega⟩]
      have MR : Hid (∀ W, Below w.heap.size w W → Calls Tryd.prog 59 #[.pointer (some ⟨h, 0, none⟩)] W fun e w' => e = .returned (.tuple #[]) ∧ ∃ g' cap', w'.cell? ⟨h, 6, none⟩ = some (.slice (some ⟨g', 0, none⟩) (N + 1) cap') ∧
          w'.cell? ⟨g', j * 3 + 1, none⟩ = some (.int .i64 1) ∧ w'.frozen? ⟨g', j * 3 + 1, none⟩ = false ∧ ∃ m', HTurn h w m (w'.setCell ⟨g', j * 3 + 1, none⟩ (.int .i64 0)) m' ∧ HB 0 h (w'.setCell ⟨g', j * 3 + 1, none⟩ (.int .i64 0)) m' (dropS' c.zero s (2, (j : Int))) c N) := by
        intro W hbW
        refine (makeRoom_any (p.below hbW)).mono ?_
        rintro e' w' ⟨he, m', t0, q⟩
        have t : HTurn h w m w' m' := .pre p.r hbW t0
        refine ⟨he, ?_⟩
        obtain ⟨g', cap', hv', hg', _, _, hfz', hobj'⟩ := q.r.view q.len
        have hil' : j < m'.blks.length := by rw [q.len]; omega
        have hio' : m'.blks[j]? = some m'.blks[j] := List.getElem?_eq_getElem hil'
        have hob' : (s.enter c.zero j).ob j = (m'.blks[j]).ob := q.ob hio'
        rw [enter_but rfl, p.ob hio] at hob'
        have hst' : (m'.blks[j]).state = 1 := by
          have a1 := congrArg Ob.here hob'
          have a2 := congrArg Ob.stuck hob'
          have a3 := congrArg Ob.queued hob'
          rcases q.hs.state _ (List.getElem_mem hil') with e | e | e | e
          · simp [HObj.ob, hst, e] at a1
          · exact e
          · simp [HObj.ob, hst, e] at a2
          · simp [HObj.ob, hst, e] at a3
        have hct' : (m'.blks[j]).count = 1 := by
          have := q.hs.cnt j _ hio' (.inl hst')
          rw [if_pos rfl, count_enter] at this
          omega
        obtain ⟨m'', t2, q2⟩ := DEC q _ hio' hst' g' cap' hv'
        rw [hct'] at t2 q2
        refine ⟨g', cap', by rw [q.r.cell.2.2.2.1, hv'], by rw [(hobj' j hil').2.1, hct'], hfz' _, m'', t.trans t2, ?_⟩
        rw [e]; exact q2
      have HO : Hid (∀ W v, Calls Tryd.prog 80 #[.agg #[.int .i64 1, .int .i64 1, v]] W fun e w' => e = .returned (.bool true) ∧ Below W.heap.size W w') := fun W v => heldOnce_fn 1 1 v W
      obtain ⟨ao, fc, hvF⟩ := own_slice (p.r.fields o (List.mem_of_getElem? hio))
      rw [hvF] at c2
      obtain ⟨fl, hfl⟩ : ∃ fl, o.fs.length = fl := ⟨_, rfl⟩
      rw [hfl] at c2
      rw [hst] at c0
      rw [h1] at c1
      clear p hobj hv hob hfz hio hoe hcl DEC hct e hvF hfl
      go_enter Tryd.func78, Tryd.ntmps78
      go_wp2_with fail
      refine Calls.mono (HO.out _ _) ?_
      rintro e w0 ⟨rfl, hb0⟩
      have B0 : Hid (Below w.heap.size w w0) := hb0
      clear hb0 HO c0 c1 c2 cB
      go_wp2_with fail
      refine Calls.mono (MR.out _ B0.out) ?_
      rintro e w1 ⟨rfl, g', cap', d0, d1, d2, hm⟩
      have M : Hid _ := hm
      clear hm MR
      go_wp2
      first | go_end0 | refine bodyPost_ret (results_none rfl _ _ _) rfl ?_
      exact ⟨rfl, M.out⟩
    · have e : dropS' c.zero s (2, (j : Int)) = s := by
        unfold dropS'
        rw [if_neg]
        rintro ⟨_, _, h3⟩
        have h3 : s.count j = 0 := h3
        omega
      have M : Hid (∀ W, Below w.heap.size w W → W.cell? ⟨h, 6, none⟩ = some (.slice (some ⟨g, 0, none⟩) (N + 1) cap) ∧ W.cell? ⟨g, j * 3 + 1, none⟩ = some (.int .i64 o.count) ∧ W.frozen? ⟨g, j * 3 + 1, none⟩ = false ∧
          ∃ m', HTurn h w m (W.setCell ⟨g, j * 3 + 1, none⟩ (.int .i64 (o.count - 1))) m' ∧ HB 0 h (W.setCell ⟨g, j * 3 + 1, none⟩ (.int .i64 (o.count - 1))) m' (dropS' c.zero s (2, (j : Int))) c N) := fun W hb => by
        obtain ⟨m'', t2, q2⟩ := DEC (p.below hb) o hio hst g cap hv
        exact ⟨(hb.cell (p := ⟨h, 6, none⟩) hh).trans cB, (hb.cell (p := ⟨g, j * 3 + 1, none⟩) hg).trans c1, (hb.frozen (p := ⟨g, j * 3 + 1, none⟩) hg).trans (hfz _), m'', .pre p.r hb t2, by rw [e]; exact q2⟩
      have hcs : 1 ≤ o.count ∧ o.count ≤ 401 := by omega
      rw [hst] at c0
      obtain ⟨ct, hctt⟩ : ∃ ct, o.count = ct := ⟨_, rfl⟩
      rw [hctt] at c1 M h1 hcs
      have h72 : (ct == 1) = false := by simpa using h1
      have HO : Hid (∀ W v, Calls Tryd.prog 80 #[.agg #[.int .i64 1, .int .i64 ct, v]] W fun e w' => e = .returned (.bool false) ∧ Below W.heap.size W w') := fun W v => (heldOnce_fn 1 ct v W).mono fun e w' ⟨a, b⟩ => ⟨a.trans (ret_bool (by simp [h1])), b⟩
      obtain ⟨ao, fc, hvF⟩ := own_slice (p.r.fields o (List.mem_of_getElem? hio))
      rw [hvF] at c2
      obtain ⟨fl, hfl⟩ : ∃ fl, o.fs.length = fl := ⟨_, rfl⟩
      rw [hfl] at c2
      clear p hobj hv hob hfz hio hoe hcl DEC hct e hctt hvF hfl
      go_enter Tryd.func78, Tryd.ntmps78
      go_wp2_with fail
      refine Calls.mono (HO.out _ _) ?_
      rintro e w0 ⟨rfl, hb0⟩
      obtain ⟨d0, d1, d2, hm⟩ := M.out w0 hb0
      have MM : Hid _ := hm
      clear hm M hb0 HO c0 c1 c2 cB
      go_wp2
      first | go_end0 | refine bodyPost_ret (results_none rfl _ _ _) rfl ?_
      exact ⟨rfl, MM.out⟩
  · have e : dropS' c.zero s (2, (j : Int)) = s := by
      unfold dropS'
      rw [if_neg]
      rintro ⟨_, h2, _⟩
      rw [Int.toNat_natCast, hsk] at h2; cases h2
    have M : Hid (∃ m', HTurn h w m w m' ∧ HB 0 h w m' (dropS' c.zero s (2, (j : Int))) c N) := by
      rw [e]
      refine ⟨m, .refl p.r, p.r, ?_, p.good, p.cf, p.small, p.stack, p.globals⟩
      refine p.hs.but fun i y hy hs => ⟨fun e => ?_, fun e => absurd e (p.hs.pos p.good hy hs)⟩
      have : i = j := by omega
      subst this
      rw [hio] at hy; cases hy
      rcases hs with e | e <;> omega
    rw [hst] at c0
    clear p hobj hv hob hfz hio hoe c2 hcl DEC e
    go_enter Tryd.func78, Tryd.ntmps78
    go_wp2
    first | go_end0 | refine bodyPost_ret (results_none rfl _ _ _) rfl ?_
    exact ⟨rfl, M.out⟩

end Go.Proofs.YtpmkjeihbddfpabDoor

/- OUR OWN. The program's heap: freeBlock; a block that gets an object. -/
namespace Go.Proofs.YtpmkjeihbddfpabDoor
open Go.RowKit
set_option linter.unusedVariables false
set_option linter.unusedSimpArgs false

def HRoom (m : HeapM) (N : Nat) (v : Int) : Prop :=
  (v = 0 ∧ ∀ j, j < N → ∃ o, m.blks[j + 1]? = some o ∧ o.state ≠ 0) ∨
  ∃ k : Nat, k < N ∧ v = (k : Int) + 1 ∧ (∃ o, m.blks[k + 1]? = some o ∧ o.state = 0) ∧ ∀ j, j < k → ∃ o, m.blks[j + 1]? = some o ∧ o.state ≠ 0

set_option maxHeartbeats 800000 in
theorem freeBlock_any {w : World} {h : Nat} {m : HeapM} {N : Nat} (r : HeapAt w h m) (hlen : m.blks.length = N + 1) (hN : N ≤ 99) :
    Calls Tryd.prog 76 #[.pointer (some ⟨h, 0, none⟩)] w fun e w' => ∃ v, e = .returned (.int .i64 v) ∧ HRoom m N v ∧ w' = w := by
  obtain ⟨g, cap, hv, _, _, _, _, hobj⟩ := r.view hlen
  have cB : w.cell? ⟨h, 6, none⟩ = some (.slice (some ⟨g, 0, none⟩) (N + 1) cap) := by rw [r.cell.2.2.2.1, hv]
  have OBJ : Hid (∀ j, j < N → ∃ o : HObj, m.blks[j + 1]? = some o ∧ w.cell? ⟨g, (j + 1) * 3, none⟩ = some (.int .i64 o.state)) := fun j hj => by
    have hi : j + 1 < m.blks.length := by rw [hlen]; omega
    exact ⟨m.blks[j + 1], List.getElem?_eq_getElem hi, (hobj (j + 1) hi).1⟩
  clear hobj r hlen hv
  go_enter Tryd.func76, Tryd.ntmps76
  go_wp2
  go_loop [3] (fun i => ∃ j : Nat, j ≤ N ∧ i = .int .i64 (j + 1) ∧ ∀ k, k < j → ∃ o, m.blks[k + 1]? = some o ∧ o.state ≠ 0) (fun i => N + 1 - (intOf i).toNat)
  case atStart => exact ⟨0, Nat.zero_le _, rfl, fun k hk => absurd hk (Nat.not_lt_zero _)⟩
  case round =>
    obtain ⟨j, hj, rfl, hall⟩ := hrel
    have A : Hid (∀ k, k < j → ∃ o, m.blks[k + 1]? = some o ∧ o.state ≠ 0) := hall
    clear hall
    by_cases hlt : j < N
    · obtain ⟨o, ho, c0⟩ := OBJ.out j hlt
      obtain ⟨st, ct, vF, fs⟩ := o
      simp only at c0
      have HO : Hid (m.blks[j + 1]? = some ⟨st, ct, vF, fs⟩) := ho
      clear ho
      by_cases h0 : st = 0
      · subst h0
        go_wp2
        go_ret
        exact ⟨_, rfl, .inr ⟨j, hlt, rfl, ⟨_, HO.out, rfl⟩, A.out⟩, rfl⟩
      · have h1 : (st == 0) = false := by simpa using h0
        go_wp2
        go_round
        case rel =>
          refine ⟨j + 1, by omega, by go_num, fun k hk => ?_⟩
          by_cases hkj : k = j
          · subst hkj; exact ⟨_, HO.out, h0⟩
          · exact A.out k (by omega)
        case measure => simp [intOf]; omega
    · obtain rfl : j = N := by omega
      go_wp2
      go_ret
      exact ⟨_, rfl, .inl ⟨rfl, A.out⟩, rfl⟩

/-- The three cells of a block that gets an object. -/
def layBlk (w : World) (g i : Nat) (o : HObj) : World := ((w.setCell ⟨g, i * 3, none⟩ (.int .i64 o.state)).setCell ⟨g, i * 3 + 1, none⟩ (.int .i64 o.count)).setCell ⟨g, i * 3 + 2, none⟩ o.vF

theorem hflat_set3 (l : List HObj) (i : Nat) (o o' : HObj) (h : l[i]? = some o) :
    (l.set i o').flatMap HObj.cells = (((l.flatMap HObj.cells).set (i * 3) (.int .i64 o'.state)).set (i * 3 + 1) (.int .i64 o'.count)).set (i * 3 + 2) o'.vF := by
  have hl : i < l.length := (List.getElem?_eq_some_iff.1 h).1
  have e1 := flat_set HObj.cells 3 (fun _ => rfl) l i 0 (by decide) o (.int .i64 o'.state) h { o with state := o'.state } rfl
  have h1 : (l.set i { o with state := o'.state })[i]? = some { o with state := o'.state } := by simp [hl]
  have e2 := flat_set HObj.cells 3 (fun _ => rfl) _ i 1 (by decide) _ (.int .i64 o'.count) h1 { o with state := o'.state, count := o'.count } rfl
  rw [List.set_set] at e2
  have h2 : (l.set i { o with state := o'.state, count := o'.count })[i]? = some { o with state := o'.state, count := o'.count } := by simp [hl]
  have e3 := flat_set HObj.cells 3 (fun _ => rfl) _ i 2 (by decide) _ o'.vF h2 o' rfl
  rw [List.set_set] at e3
  rw [e3, e2, e1, Nat.add_zero]

theorem hput_rows (m : HeapM) (i : Nat) (o : HObj) : (m.put i o).rows = (m.rows.set (4 + i) o.row).set 2 ⟨56, 3, m.vB, (m.blks.set i o).length, (m.blks.set i o).flatMap HObj.cells⟩ := by
  simp only [HeapM.rows, HeapM.put, show 4 + i = i + 1 + 1 + 1 + 1 by omega, List.set_cons_succ, List.set_cons_zero, List.map_set]
theorem hrow_at (m : HeapM) (i : Nat) {o : HObj} (hi : m.blks[i]? = some o) : m.rows[4 + i]? = some o.row := by
  simp only [HeapM.rows, show 4 + i = i + 1 + 1 + 1 + 1 by omega, List.getElem?_cons_succ, List.getElem?_map, hi]; rfl

theorem HeapAt.placed {w w1 : World} {h : Nat} {m : HeapM} {N : Nat} (r : HeapAt w h m) (hlen : m.blks.length = N + 1) (hb : Below w.heap.size w w1) {g cap : Nat} (hv : m.vB = .slice (some ⟨g, 0, none⟩) (N + 1) cap) (i : Nat) {o0 : HObj} (hi : m.blks[i]? = some o0) (o : HObj)
    (ho : o.row.At w1) (hg : ∀ b, o.vF.ownBlock = some b → w.heap.size ≤ b) : HTurn h w m (layBlk w1 g i o) (m.put i o) := by
  have hob : m.vB.ownBlock = some g := by rw [hv]; rfl
  have hmem0 : (⟨56, 3, m.vB, m.blks.length, m.blks.flatMap HObj.cells⟩ : SRow) ∈ m.rows := by simp [HeapM.rows]
  have hgh : g ≠ h := fun e => r.ne hmem0 (by rw [← e]; exact hob)
  obtain ⟨R1, F1⟩ := r.rowsAt.set (hrow_at m i hi) o.row ho (fun b hbb => .inr (hg b hbb)) (fun k hk _ _ => hb.block k hk) hb.size
  have hlay : ∀ k, k ≠ g → (layBlk w1 g i o).heap[k]? = w1.heap[k]? := fun k hk => by unfold layBlk; rw [hso hk, hso hk, hso hk]
  have hsz : (layBlk w1 g i o).heap.size = w1.heap.size := by unfold layBlk; simp [World.setCell]
  have h0 : (m.rows.set (4 + i) o.row)[2]? = some ⟨56, 3, m.vB, m.blks.length, m.blks.flatMap HObj.cells⟩ := by
    simp [HeapM.rows, show 4 + i = i + 1 + 1 + 1 + 1 by omega]
  have hblk : (⟨56, 3, m.vB, (m.blks.set i o).length, (m.blks.set i o).flatMap HObj.cells⟩ : SRow).At (layBlk w1 g i o) := by
    show (layBlk w1 g i o).ownsRow 0 _ 3 m.vB (m.blks.set i o).length _
    rw [List.length_set, hflat_set3 m.blks i o0 o hi]
    have hb0 : w1.ownsRow 0 56 3 m.vB m.blks.length (m.blks.flatMap HObj.cells) := own_carry r.blocks fun j hj => hb.block j (own_lt r.blocks hj).2
    rw [hv, hlen] at hb0 ⊢
    unfold layBlk
    exact (((hb0.stored _ _).1.stored _ _).1.stored _ _).1
  obtain ⟨R2, F2⟩ := R1.set h0 _ hblk (fun b hbb => .inl hbb) (fun k _ _ h2 => hlay k (fun e => h2 (by rw [e]; exact hob))) (by rw [hsz]; exact Nat.le_refl _)
  rw [← hput_rows] at R2 F2
  refine ⟨R2.heapAt ?_, fun b hbb => ?_, ⟨?_, ?_, ?_, ?_, ?_⟩⟩
  · rw [hlay h (fun e => hgh e.symm), hb.block h (lt_of_heap r.head)]; exact r.head
  · rw [← hrows_foot] at hbb ⊢
    rcases F2 b hbb with e | e
    · exact F1 b e
    · have := hb.size; exact .inr (by omega)
  · exact hb.os
  · exact hb.tape
  · exact hb.output
  · rw [hsz]; exact hb.size
  · intro k hk hF
    have hkg : k ≠ g := fun e => hF (by rw [e, ← hrows_foot]; exact List.mem_cons_of_mem _ (List.mem_filterMap.2 ⟨_, hmem0, hob⟩))
    rw [hlay k hkg, hb.block k hk]

theorem alloc_setCell {w : World} {ob : Obj} {g i : Nat} {v : Value} (h : g < w.heap.size) : (w.alloc ob).setCell ⟨g, i, none⟩ v = (w.setCell ⟨g, i, none⟩ v).alloc ob := by
  have e : ((w.alloc ob).setCell ⟨g, i, none⟩ v).heap = ((w.setCell ⟨g, i, none⟩ v).alloc ob).heap := by
    apply Array.ext_getElem?
    intro k
    by_cases hk : k < w.heap.size
    · rw [hao (by simpa [World.setCell] using hk)]
      by_cases hg : k = g
      · subst hg
        simp only [World.setCell, Array.getElem?_modify]
        rw [show (w.alloc ob).heap[k]? = w.heap[k]? from hao hk]
      · rw [hso hg, hso hg, hao hk]
    · rw [hso (by omega)]
      have e1 : (w.alloc ob).heap = w.heap.push ob := rfl
      have e2 : ((w.setCell ⟨g, i, none⟩ v).alloc ob).heap = (w.setCell ⟨g, i, none⟩ v).heap.push ob := rfl
      have e3 : (w.setCell ⟨g, i, none⟩ v).heap.size = w.heap.size := by simp [World.setCell]
      rw [e1, e2, Array.getElem?_push, Array.getElem?_push, e3]
      split
      · rfl
      · rw [Array.getElem?_eq_none (by omega), Array.getElem?_eq_none (by rw [e3]; omega)]
  have key : ∀ a b : World, a.heap = b.heap → a.tape = b.tape → a.drawn = b.drawn → a.os = b.os → a.output = b.output → a = b := fun a b h1 h2 h3 h4 h5 => by
    cases a; cases b
    simp only at h1 h2 h3 h4 h5
    subst h1 h2 h3 h4 h5
    rfl
  exact key _ _ e rfl rfl rfl rfl

/-- a new object is laid into the free block b -/
theorem HSb.lay {m : HeapM} {s : St} {c : Cf} {N : Nat} (p : HSb 0 m s c N) (g : s.Good N) {b n : Nat} {o0 : HObj} (hi : m.blks[b]? = some o0) (h0 : o0.state = 0) (h1 : 1 ≤ b) (v : Value) : HSb 0 (m.put b ⟨1, 0, v, List.replicate n (0, 0)⟩) (s.put b (newOb n)) c N := by
  have ho : s.ob b = o0.ob := by rw [← p.st]; exact hst_ob hi
  have hb : (s.ob b).here = false := by rw [ho]; simp [HObj.ob, h0]
  have hl : b < s.objs.length := by rw [← p.st]; simpa [HeapM.st] using (List.getElem?_eq_some_iff.1 hi).1
  refine ⟨?_, p.deep, p.zero, p.over, p.budget, fun y hy => ?_, fun i y hy hs => ?_⟩
  · rw [hput_st, p.st]; rfl
  · rcases List.mem_or_eq_of_mem_set hy with e | e
    · exact p.state y e
    · subst e; exact .inr (.inl rfl)
  · have hc : (s.put b (newOb n)).count i = s.count i := count_lay g hb hl h1 i
    rw [hc]
    rcases set_get hy with ⟨rfl, rfl⟩ | ⟨_, e⟩
    · have : s.count i = 0 := g.count_gone fun ha => by have := ha.1; rw [hb] at this; cases this
      rw [this, if_neg (by omega)]; rfl
    · exact p.cnt i y e hs

end Go.Proofs.YtpmkjeihbddfpabDoor

/- OUR OWN. The program's heap: setField, store. -/
namespace Go.Proofs.YtpmkjeihbddfpabDoor
open Go.RowKit
set_option linter.unusedVariables false
set_option linter.unusedSimpArgs false

theorem HeapAt.fieldSet {w : World} {h : Nat} {m : HeapM} (r : HeapAt w h m) (i : Nat) {o : HObj} (hi : m.blks[i]? = some o) {g cap : Nat} (hv : o.vF = .slice (some ⟨g, 0, none⟩) o.fs.length cap) (k : Nat) (hk : k < o.fs.length) (x : Int × Int) :
    HTurn h w m ((w.setCell ⟨g, k * 2, none⟩ (.int .i64 x.1)).setCell ⟨g, k * 2 + 1, none⟩ (.int .i64 x.2)) (m.put i { o with fs := o.fs.set k x }) := by
  have hob : o.vF.ownBlock = some g := by rw [hv]; rfl
  have hmem : o.row ∈ m.rows := by simp only [HeapM.rows, List.mem_cons, List.mem_map]; exact .inr (.inr (.inr (.inr ⟨o, List.mem_of_getElem? hi, rfl⟩)))
  have hgh : g ≠ h := fun e => r.ne hmem (by rw [← e]; exact hob)
  refine r.turn (4 + i) o.row ({ o with fs := o.fs.set k x } : HObj).row (hrow_at m i hi) ?_ ?_ ?_ ?_ ?_
  · rw [hput_rows, flat_same HObj.cells m.blks i o { o with fs := o.fs.set k x } hi rfl, List.length_set]
    simp only [HeapM.rows, show 4 + i = i + 1 + 1 + 1 + 1 by omega, List.set_cons_succ, List.set_cons_zero]
  · rw [hso (fun e => hgh e.symm), hso (fun e => hgh e.symm)]; exact r.head
  · show (World.setCell _ _ _).ownsRow 0 _ 2 o.vF (o.fs.set k x).length ((o.fs.set k x).flatMap valCells)
    have hik : o.fs[k]? = some o.fs[k] := List.getElem?_eq_getElem hk
    have e1 := flat_set valCells 2 (fun _ => rfl) o.fs k 0 (by decide) _ (.int .i64 x.1) hik (x.1, (o.fs[k]).2) rfl
    have h1 : (o.fs.set k (x.1, (o.fs[k]).2))[k]? = some (x.1, (o.fs[k]).2) := by simp [hk]
    have e2 := flat_set valCells 2 (fun _ => rfl) _ k 1 (by decide) _ (.int .i64 x.2) h1 x rfl
    rw [List.set_set, e1] at e2
    rw [List.length_set, e2, Nat.add_zero]
    have hb := r.fields o (List.mem_of_getElem? hi)
    rw [hv] at hb ⊢
    exact ((hb.stored _ _).1.stored _ _).1
  · intro j hj
    exact .inl hj
  · have hm : ∀ y ∈ [g], y ∈ h :: o.row.ob.toList := fun y hy => by simp at hy; subst hy; exact List.mem_cons_of_mem _ (by simp [SRow.ob, HObj.row, hrow, hob])
    exact ((off_setCell w g _ _).mono hm).trans ((off_setCell _ g _ _).mono hm)

def refTo (v : Int × Int) : Int := if v.1 = 2 then v.2 else 0
theorem getD_of {l : List (Int × Int)} {k : Nat} (hk : k < l.length) : l.getD k (0, 0) = l[k] := by rw [List.getD_eq_getElem?_getD, List.getElem?_eq_getElem hk]; rfl

/-- the field has the new value; the old one is still counted -/
theorem HSb.field {m : HeapM} {s1 : St} {c : Cf} {N : Nat} {x : Int × Int} (g1 : s1.Good N) (p : HSb (refTo x) m s1 c N) {i k : Nat} {o : HObj} (hi : m.blks[i]? = some o) (hk : k < o.fs.length) :
    HSb (refTo ((s1.ob i).fs.getD k (0, 0))) (m.put i { o with fs := o.fs.set k x }) (s1.field i k x) c N := by
  have ho : s1.ob i = o.ob := by rw [← p.st]; exact hst_ob hi
  have hk1 : k < (s1.ob i).fs.length := by rw [ho]; exact hk
  refine ⟨?_, p.deep, p.zero, p.over, p.budget, fun y hy => ?_, fun j y hy hs => ?_⟩
  · rw [hput_st, p.st]
    unfold St.field
    have : ({ o with fs := o.fs.set k x } : HObj).ob = { s1.ob i with fs := (s1.ob i).fs.set k x } := by rw [ho]; rfl
    rw [this]
  · rcases List.mem_or_eq_of_mem_set hy with e | e
    · exact p.state y e
    · subst e; exact p.state o (List.mem_of_getElem? hi)
  · have hcf := count_field g1 hk1 x (j : Int)
    have key : ∀ (ob : HObj), m.blks[j]? = some ob → ob.state = 1 ∨ ob.state = 3 → ob.count = (s1.field i k x).count j + if (j : Int) = refTo ((s1.ob i).fs.getD k (0, 0)) then 1 else 0 := fun ob hob hst => by
      have h0 := p.pos g1 hob hst
      have h1 := p.cnt j ob hob hst
      have ex : (if (j : Int) = refTo x then (1 : Int) else 0) = (isRef x j : Int) := by
        unfold refTo isRef
        by_cases e : x.1 = 2
        · rw [if_pos e]
          by_cases e2 : x.2 = j
          · rw [if_pos e2.symm, if_pos ⟨e, e2⟩]; rfl
          · rw [if_neg (fun h => e2 h.symm), if_neg (fun h => e2 h.2)]; rfl
        · rw [if_neg e, if_neg h0, if_neg (fun h => e h.1)]; rfl
      have ey : (if (j : Int) = refTo ((s1.ob i).fs.getD k (0, 0)) then (1 : Int) else 0) = (isRef ((s1.ob i).fs.getD k (0, 0)) j : Int) := by
        unfold refTo isRef
        by_cases e : ((s1.ob i).fs.getD k (0, 0)).1 = 2
        · rw [if_pos e]
          by_cases e2 : ((s1.ob i).fs.getD k (0, 0)).2 = j
          · rw [if_pos e2.symm, if_pos ⟨e, e2⟩]; rfl
          · rw [if_neg (fun h => e2 h.symm), if_neg (fun h => e2 h.2)]; rfl
        · rw [if_neg e, if_neg h0, if_neg (fun h => e h.1)]; rfl
      rw [h1, ex, ey]
      omega
    rcases set_get hy with ⟨rfl, rfl⟩ | ⟨_, e⟩
    · exact key o hi hs
    · exact key y e hs

theorem leads_alive {s : St} {v : Int × Int} (h : s.leads v) (h1 : v.1 = 2) : ∃ j : Nat, v = (2, (j : Int)) ∧ s.alive j := by
  obtain ⟨j, hj, ha⟩ := leads_ref h h1
  exact ⟨j, by rw [← hj, ← h1], ha⟩
theorem hobj_ref {h : Nat} {w : World} {m m' : HeapM} {W w' : World} {but : Int} {s : St} {c : Cf} {N : Nat} (p : HB but h w m s c N) (hb : Below w.heap.size w W) (t : HTurn h W m w' m') (L : Nat) (ob : Obj) (hL : w.heap.size ≤ L) (hW : W.heap[L]? = some ob) : w'.heap[L]? = some ob := hturn_local p.pre hb hW hL t

/-- what is known ahead of the field's store -/
def StoreAt (h i k N : Nat) (w : World) (x : Int × Int) (W w2 : World) (P : World → Prop) : Prop :=
  ∃ g capB fg fl fc u v, w2.cell? ⟨h, 6, none⟩ = some (.slice (some ⟨g, 0, none⟩) (N + 1) capB) ∧ w2.cell? ⟨g, i * 3 + 2, none⟩ = some (.slice (some ⟨fg, 0, none⟩) fl fc) ∧ k < fl ∧ w2.cell? ⟨fg, k * 2, none⟩ = some (.int .i64 u) ∧ w2.cell? ⟨fg, k * 2 + 1, none⟩ = some (.int .i64 v) ∧
    w2.frozen? ⟨fg, k * 2, none⟩ = false ∧ w2.frozen? ⟨fg, k * 2 + 1, none⟩ = false ∧
    (∀ L ob, w.heap.size ≤ L → W.heap[L]? = some ob → w2.heap[L]? = some ob) ∧
    ∀ w3, w3 = (w2.setCell ⟨fg, k * 2, none⟩ (.int .i64 x.1)).setCell ⟨fg, k * 2 + 1, none⟩ (.int .i64 x.2) → (∀ L ob, w.heap.size ≤ L → W.heap[L]? = some ob → w3.heap[L]? = some ob) ∧ P w3

/-- what setField's calls do -/
structure SetEnv (h i k N : Nat) (w : World) (x y : Int × Int) (Done : World → Prop) : Prop where
  same : y = x → ∀ W, Below w.heap.size w W → Done W
  count : ¬ y = x → x.1 = 2 → ∀ W, Below w.heap.size w W → Calls Tryd.prog 77 #[.pointer (some ⟨h, 0, none⟩), .int .i64 x.2] W fun e w2 => e = .returned (.tuple #[]) ∧
    StoreAt h i k N w x W w2 fun w3 => ∀ W3, Below w3.heap.size w3 W3 → (¬ y.1 = 2 → Done W3) ∧ (y.1 = 2 → Calls Tryd.prog 78 #[.pointer (some ⟨h, 0, none⟩), .int .i64 y.2] W3 fun e w4 => e = .returned (.tuple #[]) ∧ Done w4)
  plain : ¬ y = x → ¬ x.1 = 2 → ∀ W, Below w.heap.size w W → StoreAt h i k N w x W W fun w3 => ∀ W3, Below w3.heap.size w3 W3 → (¬ y.1 = 2 → Done W3) ∧ (y.1 = 2 → Calls Tryd.prog 78 #[.pointer (some ⟨h, 0, none⟩), .int .i64 y.2] W3 fun e w4 => e = .returned (.tuple #[]) ∧ Done w4)

theorem set_env {h : Nat} {w : World} {m : HeapM} {s : St} {c : Cf} {N : Nat} (p : HB 0 h w m s c N) (i k : Nat) (x : Int × Int) (hk : k < (s.ob i).fs.length) (hx : s.leads x) :
    SetEnv h i k N w x ((s.ob i).fs.getD k (0, 0)) fun W => ∃ m', HTurn h w m W m' ∧ HB 0 h W m' (putS c s i k x ((s.ob i).fs.getD k (0, 0))) c N := by
  have hh : (s.ob i).here = true := by
    cases e : (s.ob i).here with
    | true => rfl
    | false => rw [p.good.gone i e] at hk; simp [Ob.free] at hk
  obtain ⟨hi1, hiN⟩ := p.good.ne_zero hh
  obtain ⟨y, hy⟩ : ∃ y, (s.ob i).fs.getD k (0, 0) = y := ⟨_, rfl⟩
  have hyl : s.leads y := by rw [← hy]; exact leads_getD (p.good.fields i) k
  -- behind the count: the field, then the old value's
  have MID : ¬ y = x → ∀ W w2 m2, Below w.heap.size w W → HTurn h W m w2 m2 → HB (refTo x) h w2 m2 (stickS c.over s x) c N →
      StoreAt h i k N w x W w2 fun w3 => ∀ W3, Below w3.heap.size w3 W3 → (¬ y.1 = 2 → ∃ m', HTurn h w m W3 m' ∧ HB 0 h W3 m' (putS c s i k x y) c N) ∧ (y.1 = 2 → Calls Tryd.prog 78 #[.pointer (some ⟨h, 0, none⟩), .int .i64 y.2] W3 fun e w4 => e = .returned (.tuple #[]) ∧ ∃ m', HTurn h w m w4 m' ∧ HB 0 h w4 m' (putS c s i k x y) c N) := by
    intro hne W w2 m2 hb t q
    have ho1 : ((stickS c.over s x).ob i).fs = (s.ob i).fs := by
      unfold stickS
      split
      · rename_i hc
        obtain ⟨j, hj, ha⟩ := leads_alive hx hc.1
        rw [hj]
        unfold St.stick
        rw [Int.toNat_natCast, ob_put _ i (here_lt ha.1)]
        split
        · rename_i e; rw [e]
        · rfl
      · rfl
    obtain ⟨o, hio⟩ : ∃ o, m2.blks[i]? = some o := ⟨_, List.getElem?_eq_getElem (by rw [q.len]; omega)⟩
    have hof : o.fs = (s.ob i).fs := by rw [← ho1, q.ob hio]; rfl
    have hko : k < o.fs.length := by rw [hof]; exact hk
    obtain ⟨g, capB, fg, fc, hvB, hvF, hg, hfg, cB, c1, y0, y1, f0, f1⟩ := q.pre.facts i o hio k hko
    refine ⟨g, capB, fg, _, fc, _, _, cB, c1, hko, y0, y1, f0, f1, fun L ob hL hW => hobj_ref p hb t L ob hL hW, ?_⟩
    rintro w3 rfl
    have t3 := q.r.fieldSet i hio hvF k hko x
    have t23 := t.trans t3
    refine ⟨fun L ob hL hW => hobj_ref p hb t23 L ob hL hW, fun W3 hb3 => ?_⟩
    have hs3 := q.hs.field q.good hio hko
    rw [ho1, hy] at hs3
    obtain ⟨gs, ls⟩ := p.good.stickS c.over hx
    have g3 : ((stickS c.over s x).field i k x).Good N := gs.setField i k (ls x hx)
    have q3 : HB (refTo y) h W3 _ ((stickS c.over s x).field i k x) c N := ⟨(t3.after hb3).here, hs3, g3, p.cf, p.small, q.stack, q.globals⟩
    have T3 : HTurn h w m W3 _ := (HTurn.pre p.r hb t23).after hb3
    have e : putS c s i k x y = dropS' c.zero ((stickS c.over s x).field i k x) y := by
      unfold putS
      rw [if_neg (fun h => hne h.2)]
    rw [e]
    refine ⟨fun h2 => ?_, fun h2 => ?_⟩
    · have e2 : dropS' c.zero ((stickS c.over s x).field i k x) y = (stickS c.over s x).field i k x := by
        unfold dropS'
        rw [if_neg (fun h => h2 h.1)]
      rw [e2]
      have e3 : refTo y = 0 := by unfold refTo; rw [if_neg h2]
      rw [e3] at q3
      exact ⟨_, T3, q3⟩
    · obtain ⟨j, hj, ha⟩ := leads_alive hyl h2
      have e3 : refTo y = (j : Int) := by rw [hj]; rfl
      rw [e3] at q3
      have ha3 : ((stickS c.over s x).field i k x).alive j := by
        have a1 : (stickS c.over s x).alive j := by
          unfold stickS
          split
          · exact (alive_put (s := s) (i := x.2.toNat) (o := { s.ob x.2.toNat with stuck := true }) rfl rfl j).2 ha
          · exact ha
        exact (alive_put (s := stickS c.over s x) (i := i) (o := { (stickS c.over s x).ob i with fs := ((stickS c.over s x).ob i).fs.set k x }) rfl rfl j).2 a1
      rw [hj]
      refine (uncountField_any j q3 ha3).mono ?_
      rintro e w4 ⟨he, m4, t4, q4⟩
      exact ⟨he, m4, T3.trans t4, q4⟩
  rw [hy]
  refine ⟨fun e W hb => ?_, fun hne h2 W hb => ?_, fun hne h2 W hb => ?_⟩
  · have e2 : putS c s i k x y = s := by
      unfold putS
      by_cases hx2 : x.1 = 2
      · rw [if_pos ⟨hx2, e⟩]
      · rw [if_neg (fun h => hx2 h.1)]
        have s1 : stickS c.over s x = s := by unfold stickS; rw [if_neg (fun h => hx2 h.1)]
        have s2 : s.field i k x = s := by
          unfold St.field St.put
          have hl := here_lt hh
          have e3 : (s.ob i).fs.set k x = (s.ob i).fs := by
            rw [← e, ← hy, getD_of hk]; exact List.set_getElem_self hk
          rw [e3]
          have e4 : s.objs.set i (s.ob i) = s.objs := by
            have : s.ob i = s.objs[i] := ob_of (List.getElem?_eq_getElem hl)
            rw [this]; exact List.set_getElem_self hl
          rw [show ({ s.ob i with fs := (s.ob i).fs } : Ob) = s.ob i from rfl, e4]
        rw [s1, s2]
        unfold dropS'
        rw [if_neg (fun h => hx2 (by rw [← e]; exact h.1))]
    rw [e2]
    exact ⟨m, .of_below p.r hb, p.below hb⟩
  · obtain ⟨j, hj, ha⟩ := leads_alive hx h2
    have pW := p.below hb
    rw [show x.2 = (j : Int) by rw [hj]]
    refine (countField_any pW j ha).mono ?_
    rintro e w2 ⟨he, m2, t, q⟩
    rw [← hj] at q
    exact ⟨he, MID hne W w2 m2 hb t (by rw [show refTo x = (j : Int) by rw [hj]; rfl]; exact q)⟩
  · have s1 : stickS c.over s x = s := by unfold stickS; rw [if_neg (fun h => h2 h.1)]
    have e3 : refTo x = 0 := by unfold refTo; rw [if_neg h2]
    exact MID hne W W m hb (.refl (p.below hb).r) (by rw [s1, e3]; exact p.below hb)

/-- what setField's loads find -/
structure SetCells (h i k N : Nat) (w : World) (y : Int × Int) (g capB fg fl fc : Nat) : Prop where
  cB : w.cell? ⟨h, 6, none⟩ = some (.slice (some ⟨g, 0, none⟩) (N + 1) capB)
  c1 : w.cell? ⟨g, i * 3 + 2, none⟩ = some (.slice (some ⟨fg, 0, none⟩) fl fc)
  y0 : w.cell? ⟨fg, k * 2, none⟩ = some (.int .i64 y.1)
  y1 : w.cell? ⟨fg, k * 2 + 1, none⟩ = some (.int .i64 y.2)
  hh : h < w.heap.size
  hg : g < w.heap.size
  hf : fg < w.heap.size
  hi : i ≤ N
  hN : N ≤ 99
  hk : k < fl
  hfl : fl ≤ 4

set_option maxHeartbeats 4000000 in
theorem setField_core (h i k N : Nat) (w : World) (x y : Int × Int) (g capB fg fl fc : Nat) (C : SetCells h i k N w y g capB fg fl fc) (Done : World → Prop) (E : SetEnv h i k N w x y Done) :
    Calls Tryd.prog 63 #[.pointer (some ⟨h, 0, none⟩), .int .i64 i, .int .i64 k, .agg #[.int .i64 x.1, .int .i64 x.2]] w fun e w' => e = .returned (.tuple #[]) ∧ Done w' := by
  obtain ⟨cB, c1, y0, y1, hh, hg, hf, hi, hN, hk, hfl⟩ := C
  have SV : Hid (∀ W, Calls Tryd.prog 64 #[.agg #[.int .i64 y.1, .int .i64 y.2], .agg #[.int .i64 x.1, .int .i64 x.2]] W fun e w' => e = .returned (.bool (decide (y = x))) ∧ Below W.heap.size W w') := sameValue_any y x
  have EE : Hid _ := E
  have hiI : (i : Int) < (N : Int) + 1 := by omega
  have hkI : (k : Int) < fl := by omega
  clear E
  obtain ⟨x1, x2⟩ := x
  obtain ⟨y1', y2'⟩ := y
  simp only at y0 y1
  have al : ∀ (ob : Obj) (b o : Nat), b < w.heap.size → (w.alloc ob).cell? ⟨b, o, none⟩ = w.cell? ⟨b, o, none⟩ := fun ob b o hlt => World.cell?_of_block (hao hlt)
  have t0 : ∀ ob, (w.alloc ob).cell? ⟨h, 6, none⟩ = w.cell? ⟨h, 6, none⟩ := fun ob => al ob h 6 hh
  have t1 : ∀ ob, (w.alloc ob).cell? ⟨g, i * 3 + 2, none⟩ = w.cell? ⟨g, i * 3 + 2, none⟩ := fun ob => al ob g _ hg
  have t2 : ∀ ob, (w.alloc ob).cell? ⟨fg, k * 2, none⟩ = w.cell? ⟨fg, k * 2, none⟩ := fun ob => al ob fg _ hf
  have t3 : ∀ ob, (w.alloc ob).cell? ⟨fg, k * 2 + 1, none⟩ = w.cell? ⟨fg, k * 2 + 1, none⟩ := fun ob => al ob fg _ hf
  clear al
  go_enter Tryd.func63, Tryd.ntmps63
  go_wp2_with fail
  refine Calls.mono (SV.out _) ?_
  rintro e w1 ⟨rfl, hb⟩
  have B1 : Hid (Below w.heap.size w w1 ∧ w1.heap[w.heap.size]? = some (.cells #[.int .i64 x1, .int .i64 x2] 64) ∧ w1.heap[w.heap.size + 1]? = some (.cells #[.int .i64 y1', .int .i64 y2'] 64)) := by
    refine ⟨(((Below.refl _ _).alloc (Nat.le_refl _) _).alloc (by simp) _).trans (hb.mono (by simp; omega)), ?_, ?_⟩
    · rw [hb.block _ (by simp; omega), hao (by simp)]; exact heap_alloc_new w _
    · have := boxed' hb
      simpa using this
  have p0 : w1.cell? ⟨w.heap.size, 0, none⟩ = some (.int .i64 x1) := cell_of_heap B1.out.2.1 rfl
  have p1 : w1.cell? ⟨w.heap.size, 1, none⟩ = some (.int .i64 x2) := cell_of_heap B1.out.2.1 rfl
  have o0' : w1.cell? ⟨w.heap.size + 1, 0, none⟩ = some (.int .i64 y1') := cell_of_heap B1.out.2.2 rfl
  clear hb SV t0 t1 t2 t3 cB c1 y0 y1
  by_cases hxy : ((y1', y2') : Int × Int) = (x1, x2)
  · have F : Hid (Done w1) := EE.out.same hxy w1 B1.out.1
    have hd : decide (((y1', y2') : Int × Int) = (x1, x2)) = true := by simpa using hxy
    rw [hd]
    clear hxy hd
    go_wp2
    first | go_end0 | refine bodyPost_ret (results_none rfl _ _ _) rfl ?_
    exact ⟨rfl, F.out⟩
  · have hd : decide (((y1', y2') : Int × Int) = (x1, x2)) = false := by simpa using hxy
    rw [hd]
    clear hd
    by_cases hx : x1 = 2
    · subst hx
      have C : Hid _ := EE.out.count hxy rfl w1 B1.out.1
      clear EE
      by_cases hy : y1' = 2
      · subst hy
        clear hxy
        go_wp2_with fail
        refine Calls.mono C.out ?_
        rintro e w2 ⟨rfl, ST⟩
        clear C p0 p1 o0'
        obtain ⟨g', capB', fg', fl', fc', u', v', d0, d1, hk', d2, d3, f0, f1, hloc, h3⟩ := ST
        have hkI' : (k : Int) < fl' := by omega
        have l0 := hloc _ _ (Nat.le_refl _) B1.out.2.1
        have v0 : w2.cell? ⟨w.heap.size, 0, none⟩ = some (.int .i64 2) := cell_of_heap l0 rfl
        have v1 : w2.cell? ⟨w.heap.size, 1, none⟩ = some (.int .i64 x2) := cell_of_heap l0 rfl
        obtain ⟨w3, hw3⟩ : ∃ w3, (w2.setCell ⟨fg', k * 2, none⟩ (.int .i64 2)).setCell ⟨fg', k * 2 + 1, none⟩ (.int .i64 x2) = w3 := ⟨_, rfl⟩
        obtain ⟨hloc3, h4⟩ := h3 w3 hw3.symm
        have l3 := hloc3 _ _ (Nat.le_succ _) B1.out.2.2
        have o0 : w3.cell? ⟨w.heap.size + 1, 0, none⟩ = some (.int .i64 2) := cell_of_heap l3 rfl
        have o1 : w3.cell? ⟨w.heap.size + 1, 1, none⟩ = some (.int .i64 y2') := cell_of_heap l3 rfl
        have H4 : Hid _ := h4
        have E3 : Hid _ := hw3
        clear hloc h3 hloc3 h4 l0 l3 hw3
        go_wp2_with fail
        go_region
        all_goals rw [E3.out]
        all_goals go_wp2_with fail
        all_goals refine Calls.mono ((H4.out _ (Below.refl _ _).drew).2 (by first | rfl | trivial)) ?_
        all_goals rintro e w4 ⟨rfl, hd⟩
        all_goals have D : Hid _ := hd
        all_goals clear hd
        all_goals go_wp2
        all_goals (first | go_end0 | refine bodyPost_ret (results_none rfl _ _ _) rfl ?_)
        all_goals exact ⟨rfl, D.out⟩
      · have hy2 : (y1' == 2) = false := by simpa using hy
        clear hxy
        go_wp2_with fail
        refine Calls.mono C.out ?_
        rintro e w2 ⟨rfl, ST⟩
        clear C p0 p1 o0'
        obtain ⟨g', capB', fg', fl', fc', u', v', d0, d1, hk', d2, d3, f0, f1, hloc, h3⟩ := ST
        have hkI' : (k : Int) < fl' := by omega
        have l0 := hloc _ _ (Nat.le_refl _) B1.out.2.1
        have v0 : w2.cell? ⟨w.heap.size, 0, none⟩ = some (.int .i64 2) := cell_of_heap l0 rfl
        have v1 : w2.cell? ⟨w.heap.size, 1, none⟩ = some (.int .i64 x2) := cell_of_heap l0 rfl
        obtain ⟨w3, hw3⟩ : ∃ w3, (w2.setCell ⟨fg', k * 2, none⟩ (.int .i64 2)).setCell ⟨fg', k * 2 + 1, none⟩ (.int .i64 x2) = w3 := ⟨_, rfl⟩
        obtain ⟨hloc3, h4⟩ := h3 w3 hw3.symm
        have l3 := hloc3 _ _ (Nat.le_succ _) B1.out.2.2
        have o0 : w3.cell? ⟨w.heap.size + 1, 0, none⟩ = some (.int .i64 y1') := cell_of_heap l3 rfl
        have o1 : w3.cell? ⟨w.heap.size + 1, 1, none⟩ = some (.int .i64 y2') := cell_of_heap l3 rfl
        have H4 : Hid _ := h4
        have E3 : Hid _ := hw3
        clear hloc h3 hloc3 h4 l0 l3 hw3
        go_wp2_with fail
        go_region
        all_goals rw [E3.out]
        all_goals have D : Hid _ := (H4.out _ (Below.refl _ _).drew).1 hy
        all_goals go_wp2
        all_goals (first | go_end0 | refine bodyPost_ret (results_none rfl _ _ _) rfl ?_)
        all_goals exact ⟨rfl, D.out⟩
    · have hx2 : (x1 == 2) = false := by simpa using hx
      have ST := EE.out.plain hxy hx w1 B1.out.1
      clear EE
      by_cases hy : y1' = 2
      · subst hy
        clear hxy hx p0 p1 o0'
        obtain ⟨g', capB', fg', fl', fc', u', v', d0, d1, hk', d2, d3, f0, f1, hloc, h3⟩ := ST
        have hkI' : (k : Int) < fl' := by omega
        have l0 := hloc _ _ (Nat.le_refl _) B1.out.2.1
        have v0 : w1.cell? ⟨w.heap.size, 0, none⟩ = some (.int .i64 x1) := cell_of_heap l0 rfl
        have v1 : w1.cell? ⟨w.heap.size, 1, none⟩ = some (.int .i64 x2) := cell_of_heap l0 rfl
        obtain ⟨w3, hw3⟩ : ∃ w3, (w1.setCell ⟨fg', k * 2, none⟩ (.int .i64 x1)).setCell ⟨fg', k * 2 + 1, none⟩ (.int .i64 x2) = w3 := ⟨_, rfl⟩
        obtain ⟨hloc3, h4⟩ := h3 w3 hw3.symm
        have l3 := hloc3 _ _ (Nat.le_succ _) B1.out.2.2
        have o0 : w3.cell? ⟨w.heap.size + 1, 0, none⟩ = some (.int .i64 2) := cell_of_heap l3 rfl
        have o1 : w3.cell? ⟨w.heap.size + 1, 1, none⟩ = some (.int .i64 y2') := cell_of_heap l3 rfl
        have H4 : Hid _ := h4
        have E3 : Hid _ := hw3
        clear hloc h3 hloc3 h4 l0 l3 hw3
        go_wp2_with fail
        go_region
        all_goals rw [E3.out]
        all_goals go_wp2_with fail
        all_goals refine Calls.mono ((H4.out _ (Below.refl _ _).drew).2 (by first | rfl | trivial)) ?_
        all_goals rintro e w4 ⟨rfl, hd⟩
        all_goals have D : Hid _ := hd
        all_goals clear hd
        all_goals go_wp2
        all_goals (first | go_end0 | refine bodyPost_ret (results_none rfl _ _ _) rfl ?_)
        all_goals exact ⟨rfl, D.out⟩
      · have hy2 : (y1' == 2) = false := by simpa using hy
        clear hxy hx p0 p1 o0'
        obtain ⟨g', capB', fg', fl', fc', u', v', d0, d1, hk', d2, d3, f0, f1, hloc, h3⟩ := ST
        have hkI' : (k : Int) < fl' := by omega
        have l0 := hloc _ _ (Nat.le_refl _) B1.out.2.1
        have v0 : w1.cell? ⟨w.heap.size, 0, none⟩ = some (.int .i64 x1) := cell_of_heap l0 rfl
        have v1 : w1.cell? ⟨w.heap.size, 1, none⟩ = some (.int .i64 x2) := cell_of_heap l0 rfl
        obtain ⟨w3, hw3⟩ : ∃ w3, (w1.setCell ⟨fg', k * 2, none⟩ (.int .i64 x1)).setCell ⟨fg', k * 2 + 1, none⟩ (.int .i64 x2) = w3 := ⟨_, rfl⟩
        obtain ⟨hloc3, h4⟩ := h3 w3 hw3.symm
        have l3 := hloc3 _ _ (Nat.le_succ _) B1.out.2.2
        have o0 : w3.cell? ⟨w.heap.size + 1, 0, none⟩ = some (.int .i64 y1') := cell_of_heap l3 rfl
        have o1 : w3.cell? ⟨w.heap.size + 1, 1, none⟩ = some (.int .i64 y2') := cell_of_heap l3 rfl
        have H4 : Hid _ := h4
        have E3 : Hid _ := hw3
        clear hloc h3 hloc3 h4 l0 l3 hw3
        go_wp2_with fail
        go_region
        all_goals rw [E3.out]
        all_goals have D : Hid _ := (H4.out _ (Below.refl _ _).drew).1 hy
        all_goals go_wp2
        all_goals (first | go_end0 | refine bodyPost_ret (results_none rfl _ _ _) rfl ?_)
        all_goals exact ⟨rfl, D.out⟩

theorem setField_any {h : Nat} {w : World} {m : HeapM} {s : St} {c : Cf} {N : Nat} (p : HB 0 h w m s c N) (i k : Nat) (x : Int × Int) (hk : k < (s.ob i).fs.length) (hx : s.leads x) :
    Calls Tryd.prog 63 #[.pointer (some ⟨h, 0, none⟩), .int .i64 i, .int .i64 k, .agg #[.int .i64 x.1, .int .i64 x.2]] w fun e w' => e = .returned (.tuple #[]) ∧
      ∃ m', HTurn h w m w' m' ∧ HB 0 h w' m' (putS c s i k x ((s.ob i).fs.getD k (0, 0))) c N := by
  have hh : (s.ob i).here = true := by
    cases e : (s.ob i).here with
    | true => rfl
    | false => rw [p.good.gone i e] at hk; simp [Ob.free] at hk
  obtain ⟨hi1, hiN⟩ := p.good.ne_zero hh
  obtain ⟨o, hio⟩ : ∃ o, m.blks[i]? = some o := ⟨_, List.getElem?_eq_getElem (by rw [p.len]; omega)⟩
  have hof : o.fs = (s.ob i).fs := by rw [p.ob hio]; rfl
  have hko : k < o.fs.length := by rw [hof]; exact hk
  obtain ⟨g, capB, fg, fc, hvB, hvF, hg, hfg, cB, c1, y0, y1, f0, f1⟩ := p.pre.facts i o hio k hko
  have hy : o.fs[k] = (s.ob i).fs.getD k (0, 0) := by
    rw [← hof, getD_of hko]
  have h4 := p.good.four i
  exact setField_core h i k N w x _ g capB fg o.fs.length fc ⟨cB, c1, by rw [y0, hy], by rw [y1, hy], lt_of_heap p.r.head, hg, hfg, hiN, p.small, hko, by rw [hof]; exact h4⟩ _ (set_env p i k x hk hx)

end Go.Proofs.YtpmkjeihbddfpabDoor

/- OUR OWN. The program's heap: the queue's row; shiftQueue. -/
namespace Go.Proofs.YtpmkjeihbddfpabDoor
open Go.RowKit
set_option linter.unusedVariables false
set_option linter.unusedSimpArgs false

/-- one cell of a window is turned -/
theorem win_set {w : World} {e : TypeId} {g off n cap : Nat} {xs : List Value} (h : ownsWin w e (.slice (some ⟨g, off, none⟩) n cap) n xs) (j : Nat) (x : Value) :
    ownsWin (w.setCell ⟨g, off + j, none⟩ x) e (.slice (some ⟨g, off, none⟩) n cap) n (xs.set j x) := by
  rcases h.2 with ⟨hv, _⟩ | ⟨g', off', cap', cur, hv, h1, h2, h3, h4, h5⟩
  · cases hv
  · simp at hv
    obtain ⟨⟨rfl, rfl⟩, rfl⟩ := hv
    refine ⟨by simp [h.1], .inr ⟨g, off, cap, cur.setIfInBounds (off + j) x, rfl, heap_setCell_at h1 x, h2, h3, by simpa using h4, fun i u hu => ?_⟩⟩
    rw [Array.getElem?_setIfInBounds]
    rcases set_get hu with ⟨rfl, rfl⟩ | ⟨hne, hu⟩
    · have hi : i < (xs.set i u).length := (List.getElem?_eq_some_iff.1 hu).1
      have := h.1
      simp at hi
      rw [if_pos rfl, if_pos (by omega)]
    · rw [if_neg (by omega)]; exact h5 i u hu
/-- a window cut at its end -/
theorem win_take {w : World} {e : TypeId} {g off n cap : Nat} {xs : List Value} (h : ownsWin w e (.slice (some ⟨g, off, none⟩) n cap) n xs) (k : Nat) (hk : k ≤ n) :
    ownsWin w e (.slice (some ⟨g, off, none⟩) k cap) k (xs.take k) := by
  rcases h.2 with ⟨hv, _⟩ | ⟨g', off', cap', cur, hv, h1, h2, h3, h4, h5⟩
  · cases hv
  · simp at hv
    obtain ⟨⟨rfl, rfl⟩, rfl⟩ := hv
    refine ⟨by rw [List.length_take, h.1]; omega, .inr ⟨g, off, cap, cur, rfl, h1, by omega, h3, h4, fun i u hu => ?_⟩⟩
    rw [List.getElem?_take] at hu
    split at hu
    · exact h5 i u hu
    · cases hu

/-- one of the queue is turned -/
theorem HeapAt.queueSet {w : World} {h : Nat} {m : HeapM} (r : HeapAt w h m) {g off n cap : Nat} (hv : m.vQ = .slice (some ⟨g, off, none⟩) n cap) (hn : m.queue.length = n) (j : Nat) (x : Int) :
    HTurn h w m (w.setCell ⟨g, off + j, none⟩ (.int .i64 x)) { m with queue := m.queue.set j x } := by
  have hob : m.vQ.ownBlock = some g := by rw [hv]; rfl
  have hgh : g ≠ h := fun e => r.ne (x := ⟨3, 1, m.vQ, m.queue.length, m.queue.map (Value.int .i64)⟩) (by simp [HeapM.rows]) (by rw [← e]; exact hob)
  refine r.turn 3 ⟨3, 1, m.vQ, m.queue.length, m.queue.map (Value.int .i64)⟩ ⟨3, 1, m.vQ, (m.queue.set j x).length, (m.queue.set j x).map (Value.int .i64)⟩ rfl rfl ?_ ?_ ?_ ?_
  · rw [hso (fun e => hgh e.symm)]; exact r.head
  · show ownsWin (w.setCell _ _) 3 m.vQ (m.queue.set j x).length ((m.queue.set j x).map (Value.int .i64))
    have hq := r.queue
    rw [List.length_set, List.map_set]
    rw [hn, hv] at hq ⊢
    exact win_set hq j _
  · intro y hy; exact .inl hy
  · exact (off_setCell w g (off + j) _).mono (fun y hy => by simp at hy; subst hy; exact List.mem_cons_of_mem _ (by simp [SRow.ob, hob]))

/-- the queue in the midst of the shift: j of it have moved up -/
def shifted (q : List Int) (j : Nat) : List Int := q.tail.take j ++ q.drop j
theorem shifted_zero (q : List Int) : shifted q 0 = q := by simp [shifted]
theorem shifted_len {q : List Int} {l j : Nat} (hq : q.length = l + 1) (hj : j ≤ l) : (shifted q j).length = l + 1 := by
  simp [shifted]; omega
theorem shifted_get {q : List Int} {l j : Nat} (hq : q.length = l + 1) (hj : j < l) : (shifted q j)[j + 1]? = q[j + 1]? := by
  unfold shifted
  have h1 : (q.tail.take j).length = j := by simp; omega
  rw [List.getElem?_append_right (by omega), h1, List.getElem?_drop]
  congr 1
  omega
theorem shifted_next {q : List Int} {l j : Nat} (hq : q.length = l + 1) (hj : j < l) {x : Int} (hx : q[j + 1]? = some x) : (shifted q j).set j x = shifted q (j + 1) := by
  apply List.ext_getElem?
  intro i
  unfold shifted
  have h1 : (q.tail.take j).length = j := by simp; omega
  have h2 : (q.tail.take (j + 1)).length = j + 1 := by simp; omega
  rw [List.getElem?_set]
  by_cases e : j = i
  · subst e
    rw [if_pos rfl, if_pos (by simp; omega), List.getElem?_append_left (by omega), List.getElem?_take, if_pos (by omega), List.getElem?_tail, hx]
  · rw [if_neg e]
    by_cases hi : i < j
    · rw [List.getElem?_append_left (by omega), List.getElem?_append_left (by omega), List.getElem?_take, List.getElem?_take, if_pos hi, if_pos (by omega)]
    · rw [List.getElem?_append_right (by omega), List.getElem?_append_right (by omega), h1, h2, List.getElem?_drop, List.getElem?_drop]
      congr 1
      omega
theorem shifted_end {q : List Int} {l : Nat} (hq : q.length = l + 1) : (shifted q l).take l = q.tail := by
  unfold shifted
  have h1 : (q.tail.take l).length = l := by simp; omega
  rw [List.take_append_of_le_length (by omega), List.take_take, Nat.min_self, List.take_of_length_le (by simp; omega)]

set_option maxHeartbeats 800000 in
theorem shiftQueue_mem {w : World} {h : Nat} {m : HeapM} {l : Nat} (r : HeapAt w h m) (hl : m.queue.length = l + 1) (hl9 : l ≤ 99) :
    Calls Tryd.prog 72 #[.pointer (some ⟨h, 0, none⟩)] w fun e w' => e = .returned (.tuple #[]) ∧ ∃ v', HTurn h w m w' { m with vQ := v', queue := m.queue.tail } := by
  obtain ⟨g, off, cap, hv, hg, _, hcap, _, _⟩ := win_view r.queue (by omega)
  rw [hl] at hv hcap
  have START : Hid (HTurn h w m w { m with queue := shifted m.queue 0 }) := by rw [shifted_zero]; exact .refl r
  have CELL : Hid (∀ wr (j : Nat), j ≤ l → HTurn h w m wr { m with queue := shifted m.queue j } → wr.cell? ⟨h, 7, none⟩ = some (.slice (some ⟨g, off, none⟩) (l + 1) cap)) := fun wr j hj t => by
    rw [t.here.cell.2.2.2.2.1]; show some m.vQ = _; rw [hv]
  have ROUND : Hid (∀ wr (j : Nat), j < l → HTurn h w m wr { m with queue := shifted m.queue j } → ∃ x y, wr.cell? ⟨g, off + (j + 1), none⟩ = some (.int .i64 x) ∧ wr.cell? ⟨g, off + j, none⟩ = some (.int .i64 y) ∧ wr.frozen? ⟨g, off + j, none⟩ = false ∧
      HTurn h w m (wr.setCell ⟨g, off + j, none⟩ (.int .i64 x)) { m with queue := shifted m.queue (j + 1) }) := fun wr j hj t => by
    have hlen : (shifted m.queue j).length = l + 1 := shifted_len hl (by omega)
    obtain ⟨g', off', cap', hv', _, _, _, hcell, hfz⟩ := win_view t.here.queue (by show 0 < (shifted m.queue j).length; omega)
    have e : (Value.slice (some ⟨g', off', none⟩) (shifted m.queue j).length cap') = .slice (some ⟨g, off, none⟩) (l + 1) cap := hv'.symm.trans hv
    simp at e
    obtain ⟨⟨rfl, rfl⟩, _, rfl⟩ := e
    have hx : m.queue[j + 1]? = some (m.queue[j + 1]'(by omega)) := List.getElem?_eq_getElem (by omega)
    have hy : (shifted m.queue j)[j]? = some ((shifted m.queue j)[j]'(by omega)) := List.getElem?_eq_getElem (by omega)
    refine ⟨_, _, hcell (j + 1) _ (by show ((shifted m.queue j).map _)[j + 1]? = _; rw [List.getElem?_map, shifted_get hl hj, hx]; rfl), hcell j _ (by show ((shifted m.queue j).map _)[j]? = _; rw [List.getElem?_map, hy]; rfl), hfz _, ?_⟩
    have t2 := t.here.queueSet (n := l + 1) (g := g') (off := off') (cap := cap') hv hlen j (m.queue[j + 1]'(by omega))
    rw [show (shifted m.queue j).set j (m.queue[j + 1]'(by omega)) = shifted m.queue (j + 1) from shifted_next hl hj hx] at t2
    exact t.trans t2
  have FIN : Hid (∀ wr, HTurn h w m wr { m with queue := shifted m.queue l } → wr.frozen? ⟨h, 7, none⟩ = false ∧ ∃ v', HTurn h w m (wr.setCell ⟨h, 7, none⟩ (.slice (some ⟨g, off, none⟩) l cap)) { m with vQ := v', queue := m.queue.tail }) := fun wr t => by
    have hlen : (shifted m.queue l).length = l + 1 := shifted_len hl (Nat.le_refl _)
    refine ⟨frozen_of_heap t.here.head, .slice (some ⟨g, off, none⟩) l cap, ?_⟩
    have hq : ownsWin wr 3 (.slice (some ⟨g, off, none⟩) (l + 1) cap) (l + 1) ((shifted m.queue l).map (Value.int .i64)) := by
      have := t.here.queue
      have e1 : ({ m with queue := shifted m.queue l } : HeapM).queue.length = l + 1 := hlen
      have e2 : ({ m with queue := shifted m.queue l } : HeapM).vQ = .slice (some ⟨g, off, none⟩) (l + 1) cap := hv
      rw [e1, e2] at this
      exact this
    have hq2 := win_take hq l (by omega)
    rw [← List.map_take, shifted_end hl] at hq2
    have t2 := t.here.requeued (w1 := wr) (.slice (some ⟨g, off, none⟩) l cap) m.queue.tail (by
      have : m.queue.tail.length = l := by simp; omega
      rw [this]; exact hq2) (Off.refl _ _) (fun b hb => .inl (by
      have e2 : ({ m with queue := shifted m.queue l } : HeapM).vQ = .slice (some ⟨g, off, none⟩) (l + 1) cap := hv
      rw [e2]; exact hb))
    exact t.trans t2
  have C0 := CELL.out w 0 (Nat.zero_le _) START.out
  clear r hv
  go_enter Tryd.func72, Tryd.ntmps72
  go_wp2
  go_loopw [3] (fun i wr => ∃ j : Nat, j ≤ l ∧ i = .int .i64 j ∧ HTurn h w m wr { m with queue := shifted m.queue j }) (fun i _ => l - (intOf i).toNat)
  case atStart => exact ⟨0, Nat.zero_le _, rfl, START.out⟩
  case round =>
    obtain ⟨j, hj, rfl, ht⟩ := hrel
    have cQ := CELL.out wr j hj ht
    by_cases hlt : j < l
    · obtain ⟨x, y, c1, c0, f0, ht2⟩ := ROUND.out wr j hlt ht
      have T : Hid _ := ht2
      have hjI : (j : Int) < l := by omega
      have hjI2 : (j : Int) + 1 < (l : Int) + 1 := by omega
      clear ht ht2
      go_wp2_with fail
      go_region
      go_wp2
      go_roundw
      case rel => exact ⟨j + 1, by omega, by go_num, T.out.drew⟩
      case measure => simp [intOf]; omega
    · obtain rfl : j = l := by omega
      obtain ⟨f0, hm⟩ := FIN.out wr ht
      have M : Hid _ := hm
      clear hm ht
      go_wp2
      go_end0
      exact ⟨rfl, M.out⟩

end Go.Proofs.YtpmkjeihbddfpabDoor

/- OUR OWN. The program's heap: blockToFill's answer, makeObject. -/
namespace Go.Proofs.YtpmkjeihbddfpabDoor
open Go.RowKit
set_option linter.unusedVariables false
set_option linter.unusedSimpArgs false

set_option maxHeartbeats 400000 in
theorem hnew_index {w : World} {h : Nat} (n : Int) (hn : n < 0 ∨ 4 < n) :
    Calls Tryd.prog 27 #[.pointer (some ⟨h, 0, none⟩), .int .i64 n] w fun e w' => e = .returned (.int .i64 6) ∧ w' = w := by
  rcases hn with hn | hn
  · go_enter Tryd.func27, Tryd.ntmps27
    go_wp2
    go_ret
    exact ⟨rfl, rfl⟩
  · have h0 : ¬ n < 0 := by omega
    go_enter Tryd.func27, Tryd.ntmps27
    go_wp2
    go_ret
    exact ⟨rfl, rfl⟩

set_option maxHeartbeats 400000 in
theorem hnew_deep {w : World} {h : Nat} {m : HeapM} (r : HeapAt w h m) (n : Int) (h0 : 0 ≤ n) (h4 : n ≤ 4) (hd : m.room ≤ m.stack.length) :
    Calls Tryd.prog 27 #[.pointer (some ⟨h, 0, none⟩), .int .i64 n] w fun e w' => e = .returned (.int .i64 7) ∧ Below w.heap.size w w' := by
  have D : Hid (Calls Tryd.prog 57 #[.pointer (some ⟨h, 0, none⟩)] w fun e w' => e = .returned (.bool true) ∧ Below w.heap.size w w') := (isDeep_any r).mono fun e w' ⟨h1, h2⟩ => ⟨h1.trans (ret_bool (by simpa using hd)), h2⟩
  clear r hd
  go_enter Tryd.func27, Tryd.ntmps27
  go_wp2_with fail
  refine Calls.mono D.out ?_
  rintro e w1 ⟨rfl, hb⟩
  have B : Hid (Below w.heap.size w w1) := hb
  clear hb D
  go_wp2
  go_ret
  exact ⟨rfl, B.out⟩

/-- what blockToFill is asked for: the state is the one behind what a heap does that has no free block -/
def FillSays (h N : Nat) (w : World) (m : HeapM) (s : St) (c : Cf) : Prop := ∀ W, Below w.heap.size w W →
  Calls Tryd.prog 58 #[.pointer (some ⟨h, 0, none⟩)] W fun e w' => ∃ m', HTurn h W m w' m' ∧ HB 0 h w' m' (roomS c s) c N ∧
    ((∃ k : Nat, free? (roomS c s) = some k ∧ e = .returned (.int .i64 ((k : Int) + 1))) ∨ (free? (roomS c s) = none ∧ e = .returned (.int .i64 0)))

theorem fill_mr {h N : Nat} {w : World} {m : HeapM} {s : St} {c : Cf} (p : HB 0 h w m s c N) (n : Nat) (hn : n ≤ 4) (hd : (s.stack.length : Int) < c.deep) (k : Nat) (hk : free? s = some k) :
    Calls Tryd.prog 59 #[.pointer (some ⟨h, 0, none⟩)] w fun e w2 => e = .returned (.tuple #[]) ∧ ∃ g cap u0 u1 u2, h < w2.heap.size ∧ g < w2.heap.size ∧
      w2.cell? ⟨h, 6, none⟩ = some (.slice (some ⟨g, 0, none⟩) (N + 1) cap) ∧ w2.cell? ⟨g, (k + 1) * 3, none⟩ = some u0 ∧ w2.cell? ⟨g, (k + 1) * 3 + 1, none⟩ = some u1 ∧ w2.cell? ⟨g, (k + 1) * 3 + 2, none⟩ = some u2 ∧
      w2.frozen? ⟨g, (k + 1) * 3, none⟩ = false ∧ w2.frozen? ⟨g, (k + 1) * 3 + 1, none⟩ = false ∧ w2.frozen? ⟨g, (k + 1) * 3 + 2, none⟩ = false ∧
      Calls Tryd.prog 26 #[.pointer (some ⟨h, 0, none⟩), .agg #[.int .i64 2, .int .i64 ((k : Int) + 1)]] ((((w2.setCell ⟨g, (k + 1) * 3, none⟩ (.int .i64 1)).setCell ⟨g, (k + 1) * 3 + 1, none⟩ (.int .i64 0)).setCell ⟨g, (k + 1) * 3 + 2, none⟩ (.slice (some ⟨w2.heap.size, 0, none⟩) n n)).alloc (.cells (madeCells #[.int .i64 0, .int .i64 0] (n * 2)) 64)).drew
        fun e w' => e = .returned (.int .i64 0) ∧ ∃ m', HTurn h w m w' m' ∧ HS m' (layS c.zero s (k + 1) n) c N := by
  obtain ⟨hkl, hkf, hkt⟩ := free_iff hk
  have hkN : k < N := by rw [p.good.len] at hkl; omega
  have hN := p.small
  have stOf : ∀ {W : World} {mm : HeapM} {ss : St} {j : Nat} {o : HObj}, HB 0 h W mm ss c N → mm.blks[j]? = some o → (ss.ob j).here = decide (o.state ≠ 0) := fun q ho => by rw [q.ob ho]; rfl
  refine (makeRoom_any p).mono ?_
  rintro e w2 ⟨he, m2, t, q⟩
  refine ⟨he, ?_⟩
  obtain ⟨g, cap, hv, hg, _, _, hfz, hobj⟩ := q.r.view q.len
  have hil : k + 1 < m2.blks.length := by rw [q.len]; omega
  have hio : m2.blks[k + 1]? = some m2.blks[k + 1] := List.getElem?_eq_getElem hil
  obtain ⟨c0, c1, c2⟩ := hobj (k + 1) hil
  have hst0 : (m2.blks[k + 1]).state = 0 := by
    have h1 := stOf q hio
    rw [(sh_enter c.zero 0 s).2 (k + 1), hkf] at h1
    simpa using h1.symm
  refine ⟨g, cap, _, _, _, lt_of_heap q.r.head, hg, by rw [q.r.cell.2.2.2.1, hv], c0, c1, c2, hfz _, hfz _, hfz _, ?_⟩
  have hb1 : Below w2.heap.size w2 (w2.alloc (.cells (madeCells #[.int .i64 0, .int .i64 0] (n * 2)) 64)) := (Below.refl _ _).alloc (Nat.le_refl _) _
  have t3 := q.r.placed q.len hb1 hv (k + 1) hio ⟨1, 0, .slice (some ⟨w2.heap.size, 0, none⟩) n n, List.replicate n (0, 0)⟩ (by
    show (World.alloc _ _).ownsRow 0 _ 2 _ (List.replicate n ((0, 0) : Int × Int)).length _
    have := own_made_two w2 64 (.int .i64 0) (.int .i64 0) n (by omega)
    simpa [HObj.row, hrow, flat_rep, valCells] using this) (fun b hbb => by
    have : b = w2.heap.size := by simpa [Value.ownBlock, eq_comm] using hbb
    omega)
  have hs3 := q.hs.lay (n := n) q.good hio hst0 (by omega) (.slice (some ⟨w2.heap.size, 0, none⟩) n n)
  have g3 := q.good.laid (n := n) (by rw [stOf q hio, hst0]; simp) (by rw [q.good.len]; omega) (by omega : 1 ≤ k + 1) hn
  have hes := enter_same c.zero 0 s
  have q3 : HB 0 h _ _ ((s.enter c.zero 0).put (k + 1) (newOb n)) c N := ⟨t3.drew.here, hs3, g3, p.cf, p.small, q.stack, q.globals⟩
  have hms : (m2.put (k + 1) ⟨1, 0, .slice (some ⟨w2.heap.size, 0, none⟩) n n, List.replicate n (0, 0)⟩).stack = s.stack := q3.mstack.trans hes.1
  have ew : layBlk (w2.alloc (.cells (madeCells #[.int .i64 0, .int .i64 0] (n * 2)) 64)) g (k + 1) ⟨1, 0, .slice (some ⟨w2.heap.size, 0, none⟩) n n, List.replicate n (0, 0)⟩ =
      ((((w2.setCell ⟨g, (k + 1) * 3, none⟩ (.int .i64 1)).setCell ⟨g, (k + 1) * 3 + 1, none⟩ (.int .i64 0)).setCell ⟨g, (k + 1) * 3 + 2, none⟩ (.slice (some ⟨w2.heap.size, 0, none⟩) n n)).alloc (.cells (madeCells #[.int .i64 0, .int .i64 0] (n * 2)) 64)) := by
    unfold layBlk
    simp only
    rw [alloc_setCell hg, alloc_setCell (by simpa [World.setCell] using hg), alloc_setCell (by simpa [World.setCell] using hg)]
  rw [ew] at t3 q3
  refine (hpush_room q3.r (by rw [hms]; exact p.stack) (2, (k : Int) + 1) (by rw [hms, q3.hs.deep]; exact hd)).mono ?_
  rintro e w' ⟨he, v', t4⟩
  refine ⟨he, _, (t.trans t3.drew).trans t4, ?_⟩
  have hs4 := q3.hs
  refine ⟨?_, hs4.deep, hs4.zero, hs4.over, hs4.budget, hs4.state, fun i o hio hst => ?_⟩
  · unfold layS
    rw [show (⟨true, List.replicate n (0, 0), false, false⟩ : Ob) = newOb n from rfl, lay_enter p.good c.zero hkf hkl (by omega), ← hs4.st]
    show (⟨_, _, _, _⟩ : St) = ⟨_, _, _, _⟩
    rw [hms]
    rfl
  · have := hs4.cnt i o hio hst
    have ec : (layS c.zero s (k + 1) n).count i = ((s.enter c.zero 0).put (k + 1) (newOb n)).count i := by
      unfold layS
      rw [show (⟨true, List.replicate n (0, 0), false, false⟩ : Ob) = newOb n from rfl, lay_enter p.good c.zero hkf hkl (by omega)]
      rfl
    rw [ec]; exact this

set_option maxHeartbeats 1600000 in
theorem hnew_do {h N : Nat} {w : World} {m : HeapM} {s : St} {c : Cf} (p : HB 0 h w m s c N) (n : Nat) (hn : n ≤ 4) (hd : (s.stack.length : Int) < c.deep) (fill : FillSays h N w m s c) :
    Calls Tryd.prog 27 #[.pointer (some ⟨h, 0, none⟩), .int .i64 n] w
      fun e w' => e = .returned (.int .i64 (newS c s n).2.2) ∧ ∃ m', HTurn h w m w' m' ∧ HS m' (newS c s n).1 c N := by
  have hN := p.small
  have hdm : (m.stack.length : Int) < m.room := by rw [p.mstack, p.hs.deep]; exact hd
  have hnS : newS c s n = match free? (roomS c s) with
      | none => (roomS c s, 0, 8)
      | some k => (layS c.zero (roomS c s) (k + 1) n, 0, 0) := by
    unfold newS
    refine (if_neg (by omega)).trans ((if_neg (by omega)).trans ?_)
    rw [Int.toNat_natCast]
    cases free? (roomS c s) <;> rfl
  obtain ⟨tgt, htgt⟩ : ∃ t : St × Int × Int, newS c s n = t := ⟨_, rfl⟩
  rw [htgt] at hnS ⊢
  have D : Hid (Calls Tryd.prog 57 #[.pointer (some ⟨h, 0, none⟩)] w fun e w' => e = .returned (.bool false) ∧ Below w.heap.size w w') := (isDeep_any p.r).mono fun e w' ⟨h1, h2⟩ => ⟨h1.trans (ret_bool (by simp; omega)), h2⟩
  have F : Hid (∀ W, Below w.heap.size w W → Calls Tryd.prog 58 #[.pointer (some ⟨h, 0, none⟩)] W fun e w1 =>
      (e = .returned (.int .i64 0) ∧ tgt.2.2 = 8 ∧ ∃ m', HTurn h w m w1 m' ∧ HS m' tgt.1 c N) ∨
      ∃ k : Nat, k < N ∧ e = .returned (.int .i64 ((k : Int) + 1)) ∧ tgt.2.2 = 0 ∧ Calls Tryd.prog 59 #[.pointer (some ⟨h, 0, none⟩)] w1 fun e w2 => e = .returned (.tuple #[]) ∧ ∃ g cap u0 u1 u2, h < w2.heap.size ∧ g < w2.heap.size ∧
        w2.cell? ⟨h, 6, none⟩ = some (.slice (some ⟨g, 0, none⟩) (N + 1) cap) ∧ w2.cell? ⟨g, (k + 1) * 3, none⟩ = some u0 ∧ w2.cell? ⟨g, (k + 1) * 3 + 1, none⟩ = some u1 ∧ w2.cell? ⟨g, (k + 1) * 3 + 2, none⟩ = some u2 ∧
        w2.frozen? ⟨g, (k + 1) * 3, none⟩ = false ∧ w2.frozen? ⟨g, (k + 1) * 3 + 1, none⟩ = false ∧ w2.frozen? ⟨g, (k + 1) * 3 + 2, none⟩ = false ∧
        Calls Tryd.prog 26 #[.pointer (some ⟨h, 0, none⟩), .agg #[.int .i64 2, .int .i64 ((k : Int) + 1)]] ((((w2.setCell ⟨g, (k + 1) * 3, none⟩ (.int .i64 1)).setCell ⟨g, (k + 1) * 3 + 1, none⟩ (.int .i64 0)).setCell ⟨g, (k + 1) * 3 + 2, none⟩ (.slice (some ⟨w2.heap.size, 0, none⟩) n n)).alloc (.cells (madeCells #[.int .i64 0, .int .i64 0] (n * 2)) 64)).drew
          fun e w' => e = .returned (.int .i64 0) ∧ ∃ m', HTurn h w m w' m' ∧ HS m' tgt.1 c N) := by
    intro W hb
    refine (fill W hb).mono ?_
    rintro e w1 ⟨m1, t1, q1, hf⟩
    have T1 : HTurn h w m w1 m1 := .pre p.r hb t1
    rcases hf with ⟨k, hk, rfl⟩ | ⟨hk, rfl⟩
    · rw [hk] at hnS
      subst hnS
      obtain ⟨hkl, _, _⟩ := free_iff hk
      refine .inr ⟨k, by rw [q1.good.len] at hkl; omega, rfl, rfl, (fill_mr q1 n hn (by rw [room_stack]; exact hd) k hk).mono ?_⟩
      rintro e w2 ⟨he, g, cap, u0, u1, u2, a1, a2, a3, a4, a5, a6, a7, a8, a9, hp⟩
      refine ⟨he, g, cap, u0, u1, u2, a1, a2, a3, a4, a5, a6, a7, a8, a9, hp.mono ?_⟩
      rintro e w3 ⟨he, m', t2, hs⟩
      exact ⟨he, m', T1.trans t2, hs⟩
    · rw [hk] at hnS
      subst hnS
      exact .inl ⟨rfl, rfl, m1, T1, q1.hs⟩
  have hnI : ¬ (n : Int) < 0 := by omega
  have hn4 : ¬ (4 : Int) < n := by omega
  have mk1 := run_make_two (P := Tryd.prog) 49 64 (.int .i64 0) (.int .i64 0) 16 Tryd.underlying49 infoValue .i64 .i64 n (by omega) (by omega)
  clear p fill hd hdm htgt hnS
  obtain ⟨ts, t0, te⟩ := tgt
  simp only at F ⊢
  go_enter Tryd.func27, Tryd.ntmps27
  go_wp2_with fail
  refine Calls.mono D.out ?_
  rintro e w1 ⟨rfl, hb⟩
  have F1 : Hid _ := F.out _ hb
  clear hb D F
  go_wp2_with fail
  refine Calls.mono F1.out ?_
  rintro e w2 hf
  clear F1
  rcases hf with ⟨rfl, rfl, hm⟩ | ⟨k, hkN, rfl, rfl, hmr⟩
  · have M : Hid _ := hm
    clear hm
    go_wp2
    go_ret
    exact ⟨rfl, M.out⟩
  have MR : Hid _ := hmr
  clear hmr
  have hk0 : ((k : Int) + 1 == 0) = false := by simp; omega
  have hk1 : ¬ ((k : Int) + 1 = 0) := by omega
  have hkI : (k : Int) + 1 < (N : Int) + 1 := by omega
  go_wp2_with fail
  refine Calls.mono MR.out ?_
  rintro e w3 ⟨rfl, g, cap, u0, u1, u2, hh, hg, a0, a1, a2, a3, f1, f2, f3, hpush⟩
  have PU : Hid _ := hpush
  clear hpush MR
  have al : ∀ (ob : Obj) (b o : Nat), b < w3.heap.size → (w3.alloc ob).cell? ⟨b, o, none⟩ = w3.cell? ⟨b, o, none⟩ := fun ob b o hlt => World.cell?_of_block (hao hlt)
  have t0 : ∀ ob, (w3.alloc ob).cell? ⟨h, 6, none⟩ = w3.cell? ⟨h, 6, none⟩ := fun ob => al ob h 6 hh
  have t1 : ∀ ob, (w3.alloc ob).cell? ⟨g, (k + 1) * 3, none⟩ = w3.cell? ⟨g, (k + 1) * 3, none⟩ := fun ob => al ob g _ hg
  have t2 : ∀ ob, (w3.alloc ob).cell? ⟨g, (k + 1) * 3 + 1, none⟩ = w3.cell? ⟨g, (k + 1) * 3 + 1, none⟩ := fun ob => al ob g _ hg
  have t3 : ∀ ob, (w3.alloc ob).cell? ⟨g, (k + 1) * 3 + 2, none⟩ = w3.cell? ⟨g, (k + 1) * 3 + 2, none⟩ := fun ob => al ob g _ hg
  have z1 : ∀ ob, (w3.alloc ob).frozen? ⟨g, (k + 1) * 3, none⟩ = w3.frozen? ⟨g, (k + 1) * 3, none⟩ := fun ob => World.frozen?_of_block (hao hg)
  have z2 : ∀ ob, (w3.alloc ob).frozen? ⟨g, (k + 1) * 3 + 1, none⟩ = w3.frozen? ⟨g, (k + 1) * 3 + 1, none⟩ := fun ob => World.frozen?_of_block (hao hg)
  have z3 : ∀ ob, (w3.alloc ob).frozen? ⟨g, (k + 1) * 3 + 2, none⟩ = w3.frozen? ⟨g, (k + 1) * 3 + 2, none⟩ := fun ob => World.frozen?_of_block (hao hg)
  clear al
  go_wp2_with fail
  go_region
  all_goals go_wp2_with fail
  all_goals refine Calls.mono PU.out ?_
  all_goals rintro e w4 ⟨rfl, hm⟩
  all_goals have M : Hid _ := hm
  all_goals clear hm
  all_goals go_wp2
  all_goals go_ret
  all_goals exact ⟨rfl, M.out⟩

end Go.Proofs.YtpmkjeihbddfpabDoor

