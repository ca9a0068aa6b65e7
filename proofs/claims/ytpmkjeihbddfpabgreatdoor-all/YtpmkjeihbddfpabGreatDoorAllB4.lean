import Derived.Test.YtpmkjeihbddfpabGreatDoorAllB3
import Derived.ArgAppend
/- OUR OWN. The document's heap: queued, sort, enter, room. -/
namespace Go.Proofs.YtpmkjeihbddfpabGreatDoor
open Go.RowKit
set_option linter.unusedVariables false
set_option linter.unusedSimpArgs false

/-- the object in block i is in the queue -/
def qset (l : List RObj) (i : Nat) : List RObj := match l[i]? with
  | some o => l.set i { o with queued := true }
  | none => l
theorem qset_eq {l : List RObj} {i : Nat} {o : RObj} (h : l[i]? = some o) : qset l i = l.set i { o with queued := true } := by unfold qset; rw [h]
def RefM.enq (m : RefM) (i : Nat) (v : Value) : RefM := { m with objs := qset m.objs i, queue := m.queue ++ [(i : Int)], vQ := v }

theorem RefAt.flagged0 {w : World} {h : Nat} {m : RefM} {N : Nat} (r : RefAt w h m) (hlen : m.objs.length = N + 1) {g cap : Nat} (hv : m.vB = .slice (some ⟨g, 0, none⟩) (N + 1) cap) (i : Nat) {o : RObj} (hi : m.objs[i]? = some o) (o' : RObj) (j : Nat) (hj : j < 4) (u : Value)
    (hc : o'.cells = o.cells.set j u) (hr : o'.row = o.row) :
    Turn h w m (w.setCell ⟨g, i * 4 + j, none⟩ u) { m with objs := m.objs.set i o' } := by
  have hob : m.vB.ownBlock = some g := by rw [hv]; rfl
  have hgh : g ≠ h := fun e => r.ne (x := ⟨73, 4, m.vB, m.objs.length, m.objs.flatMap RObj.cells⟩) (by simp [RefM.rows]) (by rw [← e]; exact hob)
  refine r.turn 0 ⟨73, 4, m.vB, m.objs.length, m.objs.flatMap RObj.cells⟩ ⟨73, 4, m.vB, (m.objs.set i o').length, (m.objs.set i o').flatMap RObj.cells⟩ rfl ?_ ?_ ?_ ?_ ?_
  · simp only [RefM.rows, List.set_cons_zero, map_set_same RObj.row m.objs i o o' hi hr]
  · rw [hso (fun e => hgh e.symm)]; exact r.head
  · have hb := r.blocks
    show (w.setCell _ u).ownsRow 0 _ 4 m.vB (m.objs.set i o').length _
    rw [List.length_set, flat_set RObj.cells 4 (fun _ => rfl) m.objs i j hj o u hi o' hc]
    rw [hv, hlen] at hb ⊢
    exact (hb.stored (i * 4 + j) u).1
  · intro x hx
    exact .inl hx
  · exact (off_setCell w g (i * 4 + j) u).mono (fun x hx => by simp at hx; subst hx; exact List.mem_cons_of_mem _ (by simp [SRow.ob, hob]))
theorem RefAt.flagged {w : World} {h : Nat} {m : RefM} {N : Nat} (r : RefAt w h m) (ok : m.Ok N) {g cap : Nat} (hv : m.vB = .slice (some ⟨g, 0, none⟩) (N + 1) cap) (i : Nat) {o : RObj} (hi : m.objs[i]? = some o) (o' : RObj) (j : Nat) (hj : j < 4) (u : Value)
    (hc : o'.cells = o.cells.set j u) (hr : o'.row = o.row) :
    Turn h w m (w.setCell ⟨g, i * 4 + j, none⟩ u) { m with objs := m.objs.set i o' } := r.flagged0 ok.len hv i hi o' j hj u hc hr

theorem RefAt.requeued {w w1 : World} {h : Nat} {m : RefM} (r : RefAt w h m) (v' : Value) (q' : List Int) (hown : ownsWin w1 3 v' q'.length (q'.map (Value.int .i64)))
    (hoff : Off m.vQ.ownBlock.toList w w1) (hlie : ∀ g, v'.ownBlock = some g → m.vQ.ownBlock = some g ∨ w.heap.size ≤ g) : Turn h w m (w1.setCell ⟨h, 6, none⟩ v') { m with vQ := v', queue := q' } := by
  have hh := lt_of_heap r.head
  have hne : m.vQ.ownBlock ≠ some h := r.ne (x := ⟨3, 1, m.vQ, m.queue.length, m.queue.map (Value.int .i64)⟩) (by simp [RefM.rows])
  have hgh : ∀ g, v'.ownBlock = some g → g ≠ h := fun g hg e => by
    rcases hlie g hg with e1 | e1
    · exact hne (by rw [e1, e])
    · omega
  have hh1 : w1.heap[h]? = some m.head := by rw [hoff.block h hh (fun e => hne (by simpa using e))]; exact r.head
  refine r.turn 1 ⟨3, 1, m.vQ, m.queue.length, m.queue.map (Value.int .i64)⟩ ⟨3, 1, v', q'.length, q'.map (Value.int .i64)⟩ rfl rfl ?_ ?_ hlie ?_
  · rw [heap_setCell_at hh1]; rfl
  · show ownsWin (w1.setCell ⟨h, 6, none⟩ _) 3 v' q'.length (q'.map (Value.int .i64))
    exact win_carry hown fun g hg => hso (k := g) (b := h) (hgh g hg)
  · exact (hoff.mono (fun y hy => List.mem_cons_of_mem _ hy)).trans ((off_setCell w1 h 6 _).mono (by simp))

theorem countP_set {l : List RObj} {i : Nat} {o : RObj} (h : l[i]? = some o) (hq : o.queued = false) : (qset l i).countP RObj.queued = l.countP RObj.queued + 1 := by
  rw [qset_eq h]
  induction l generalizing i with
  | nil => simp at h
  | cons a l ih =>
    cases i with
    | zero => simp at h; subst h; simp [List.countP_cons, hq]
    | succ i => simp at h; rw [List.set_cons_succ, List.countP_cons, List.countP_cons, ih h]; omega

theorem RefM.Ok.enq {m : RefM} {N : Nat} (ok : m.Ok N) {i : Nat} {o : RObj} (h : m.objs[i]? = some o) (hq : o.queued = false) (v : Value) : (m.enq i v).Ok N := by
  refine ⟨ok.most, ?_, ok.small, ?_, ok.stack, ok.globals, ?_⟩
  · show (qset m.objs i).length = _
    rw [qset_eq h, List.length_set]; exact ok.len
  · intro x hx
    have hx' : x ∈ m.objs.set i { o with queued := true } := by rw [← qset_eq h]; exact hx
    rcases List.mem_or_eq_of_mem_set hx' with e | e
    · exact ok.fields x e
    · subst e; exact ok.fields o (List.mem_of_getElem? h)
  · show (m.queue ++ [(i : Int)]).length ≤ (qset m.objs i).countP RObj.queued
    rw [countP_set h hq, List.length_append, List.length_singleton]
    have := ok.queue; omega

set_option maxHeartbeats 1600000 in
theorem queued_any {w : World} {h : Nat} {m : RefM} {N : Nat} (r : RefAt w h m) (ok : m.Ok N) (i : Nat) (hi : i ≤ N) :
    Calls Tryz.prog 69 #[.pointer (some ⟨h, 0, none⟩), .int .i64 i] w fun e w' => e = .returned (.tuple #[]) ∧ ∃ v', Turn h w m w' (m.enq i v') := by
  obtain ⟨g, cap, hv, hg, hgh, hob, hfz, hobj⟩ := r.view ok
  have hil : i < m.objs.length := by rw [ok.len]; omega
  have hio : m.objs[i]? = some m.objs[i] := List.getElem?_eq_getElem hil
  have c3 := (hobj i hil).2.2.2
  have cB : w.cell? ⟨h, 5, none⟩ = some (.slice (some ⟨g, 0, none⟩) (N + 1) cap) := by rw [r.cell.2.2.2.2.2.1, hv]
  have f3 := hfz (i * 4 + 3)
  have T1 := r.flagged ok hv i hio { m.objs[i] with queued := true } 3 (by decide) (.bool true) rfl rfl
  have hql : m.queue.length ≤ 100 := by
    have h1 := ok.queue
    have h2 : m.objs.countP RObj.queued ≤ m.objs.length := List.countP_le_length
    have := ok.len; have := ok.small; omega
  have r1 := T1.here
  have hsz : (w.setCell ⟨g, i * 4 + 3, none⟩ (.bool true)).heap.size = w.heap.size := by simp [World.setCell]
  have hne : m.vQ.ownBlock ≠ some h := r.ne (x := ⟨3, 1, m.vQ, m.queue.length, m.queue.map (Value.int .i64)⟩) (by simp [RefM.rows])
  have OWN : Hid (∀ W, Below w.heap.size (w.setCell ⟨g, i * 4 + 3, none⟩ (.bool true)) W → ownsWin W 3 m.vQ m.queue.length (m.queue.map (Value.int .i64))) :=
    fun W hb => win_carry r1.queue fun j hj => hb.block j (by rw [← hsz]; exact win_lt r1.queue hj)
  have FIN : Hid (∀ W w1 v', Below w.heap.size (w.setCell ⟨g, i * 4 + 3, none⟩ (.bool true)) W → ownsWin w1 3 v' (m.queue.length + 1) (m.queue.map (Value.int .i64) ++ [.int .i64 i]) → Off m.vQ.ownBlock.toList W w1 →
    (∀ b, v'.ownBlock = some b → m.vQ.ownBlock = some b ∨ W.heap.size ≤ b) → Turn h w m (w1.setCell ⟨h, 6, none⟩ v') (m.enq i v') ∧ w1.cell? ⟨h, 6, none⟩ = some m.vQ ∧ w1.frozen? ⟨h, 6, none⟩ = false) := by
    intro W w1 v' hb ho hgr hl
    have hb' : Below (w.setCell ⟨g, i * 4 + 3, none⟩ (.bool true)).heap.size (w.setCell ⟨g, i * 4 + 3, none⟩ (.bool true)) W := by rw [hsz]; exact hb
    have r2 : RefAt W h _ := r1.carry fun y hy => hb'.block y (r1.lt y hy)
    have hh1 : w1.heap[h]? = some m.head := by rw [hgr.block h (lt_of_heap r2.head) (fun e => hne (by simpa using e))]; exact r2.head
    have T2 := (T1.after hb').trans (r2.requeued v' (m.queue ++ [(i : Int)]) (by simpa using ho) hgr hl)
    refine ⟨?_, cell_of_heap hh1 rfl, frozen_of_heap hh1⟩
    unfold RefM.enq
    rw [qset_eq hio]
    exact T2
  have cQ : (w.setCell ⟨g, i * 4 + 3, none⟩ (.bool true)).cell? ⟨h, 6, none⟩ = some m.vQ := r1.cell.2.2.2.2.2.2.1
  obtain ⟨xs, hxs⟩ : ∃ xs, m.queue.map (Value.int .i64) = xs := ⟨_, rfl⟩
  rw [hxs] at FIN OWN
  obtain ⟨len, hlen⟩ : ∃ len, m.queue.length = len := ⟨_, rfl⟩
  rw [hlen] at hql FIN OWN
  have hxl : xs.length = len := by rw [← hxs, List.length_map, hlen]
  have hN := ok.small
  have hiI : (i : Int) < (N : Int) + 1 := by omega
  obtain ⟨qd, hqd⟩ : ∃ qd, (m.objs[i]).queued = qd := ⟨_, rfl⟩
  rw [hqd] at c3
  have SHAPE := (OWN.out _ (Below.refl _ _)).2
  clear r r1 T1 hv hobj hob hfz hio hlen hne ok hqd hil hxs
  obtain ⟨i1, hi1, hy0, hy1, hy2⟩ := info_parts infoInt
  rcases SHAPE with ⟨hvq, hl0⟩ | ⟨qg, off, qc, cur, hvq, q1, q2, q3, q4, q5⟩
  · rw [hvq] at FIN OWN cQ
    subst hl0
    clear hvq
    have HI : Hid _ := hi1
    have HY : Hid _ := And.intro hy0 (And.intro hy1 hy2)
    clear hi1 hy0 hy1 hy2
    go_enter Tryz.func69, Tryz.ntmps69
    go_wp2_with (at_builtin; refine wpList_append_grows _ rfl (.tmp 15) (.tmp 17) 61 rfl 3 i1 _ 1 8 Tryz.underlying61 HI.out HY.out.1 HY.out.2.1 HY.out.2.2 rfl (by decide) none 0 0 xs rfl (fun _ => ⟨rfl, rfl⟩) (by omega) (fun b hb => by cases hb) ⟨w.heap.size, 0, none⟩ 1 1 [.int .i64 i] rfl rfl ?c1 ?c2 (by decide) ?c3 ?c4 ?_)
    case c1 => have := news_new (w.setCell ⟨g, i * 4 + 3, none⟩ (.bool true)) [.int .i64 i] 3; rw [hsz] at this; exact this
    case c2 => intro u hu; simp at hu; subst hu; rfl
    case c3 => unfold maxLen; omega
    case c4 => omega
    intro v' w1 hown hgr
    obtain ⟨ao', cp', rfl⟩ := win_slice (win_of_row hown)
    obtain ⟨T, hc, hf⟩ := FIN.out _ w1 _ ((Below.refl _ _).alloc (by rw [hsz]; exact Nat.le_refl _) _) (win_of_row hown) ((off_grown hgr).mono (by simp)) (fun b hb => .inr (by have := (own_lt hown hb).1; simp [hsz] at this ⊢; omega))
    have TT : Hid _ := T
    clear hown hgr FIN OWN T HI HY
    go_wp2
    go_end0
    exact ⟨rfl, _, TT.out⟩
  · rw [hvq] at FIN OWN cQ
    clear hvq q1 q2 q3 q4 q5
    have HI : Hid _ := hi1
    have HY : Hid _ := And.intro hy0 (And.intro hy1 hy2)
    clear hi1 hy0 hy1 hy2
    go_enter Tryz.func69, Tryz.ntmps69
    go_wp2_with (at_builtin; refine wpList_append_arg _ rfl (.tmp 15) (.tmp 17) 61 rfl 3 i1 _ 1 8 Tryz.underlying61 HI.out HY.out.1 HY.out.2.1 HY.out.2.2 rfl (by decide) qg off len qc xs rfl (by omega) ?c0 ⟨w.heap.size, 0, none⟩ 1 1 [.int .i64 i] rfl rfl ?c1 ?c2 ?c5 ?c3 ?c4 ?room ?grow)
    case c0 =>
      intro j u hu
      obtain ⟨_, hh⟩ := OWN.out _ ((Below.refl _ _).alloc (by rw [hsz]; exact Nat.le_refl _) (.cells #[.int .i64 (i : Int)] 3))
      rcases hh with ⟨hv, _⟩ | ⟨g', off', cap', cur', hv, h1, _, _, _, h5⟩
      · cases hv
      · simp at hv
        obtain ⟨⟨rfl, rfl⟩, rfl⟩ := hv
        exact cell_of_heap h1 (h5 j u hu)
    case c1 => have := news_new (w.setCell ⟨g, i * 4 + 3, none⟩ (.bool true)) [.int .i64 i] 3; rw [hsz] at this; exact this
    case c2 => intro u hu; simp at hu; subst hu; rfl
    case c3 => unfold maxLen; omega
    case c4 => omega
    case c5 =>
      intro hr j hj
      simp at hj
      subst hj
      have := (win_room (OWN.out _ ((Below.refl _ _).alloc (by rw [hsz]; exact Nat.le_refl _) (.cells #[.int .i64 (i : Int)] 3))) (by omega) (.int .i64 (i : Int))).2
      rw [Nat.mul_one, Nat.add_zero]
      exact this
    case room =>
      intro hr
      have R := (win_room (OWN.out _ ((Below.refl _ _).alloc (by rw [hsz]; exact Nat.le_refl _) (.cells #[.int .i64 (i : Int)] 3))) (by omega) (.int .i64 (i : Int))).1
      obtain ⟨w1, hw1⟩ : ∃ w1, w1 = (((w.setCell ⟨g, i * 4 + 3, none⟩ (.bool true)).alloc (.cells #[.int .i64 (i : Int)] 3)).setCells qg (off + len) [.int .i64 (i : Int)]) := ⟨_, rfl⟩
      have e1 : w1 = ((w.setCell ⟨g, i * 4 + 3, none⟩ (.bool true)).alloc (.cells #[.int .i64 (i : Int)] 3)).setCell ⟨qg, off + len, none⟩ (.int .i64 (i : Int)) := by rw [hw1]; rfl
      rw [← e1] at R
      obtain ⟨T, hc, hf⟩ := FIN.out _ w1 _ ((Below.refl _ _).alloc (by rw [hsz]; exact Nat.le_refl _) _) R (by rw [e1]; exact (off_setCell _ qg _ _).mono (by simp [Value.ownBlock])) (fun b hb => .inl hb)
      have TT : Hid _ := T
      have HR : Hid _ := hr
      have e2 : (((w.setCell ⟨g, i * 4 + 3, none⟩ (.bool true)).alloc (.cells #[.int .i64 (i : Int)] 3)).setCells qg (off + len) [.int .i64 (i : Int)]) = w1 := hw1.symm
      rw [e2]
      clear R FIN OWN T hr e1 e2 hw1 HI HY HR
      go_wp2
      go_end0
      exact ⟨rfl, _, TT.out⟩
    case grow =>
      intro hr v' w1 hown hgr
      obtain ⟨ao', cp', rfl⟩ := win_slice (win_of_row hown)
      obtain ⟨T, hc, hf⟩ := FIN.out _ w1 _ ((Below.refl _ _).alloc (by rw [hsz]; exact Nat.le_refl _) _) (win_of_row hown) ((off_grown hgr).mono (by simp)) (fun b hb => .inr (by have := (own_lt hown hb).1; simp [hsz] at this ⊢; omega))
      have TT : Hid _ := T
      clear hown hgr FIN OWN T hr HI HY
      go_wp2
      go_end0
      exact ⟨rfl, _, TT.out⟩

def sortB (m : RefM) (but : Int) (k : Nat) : Bool := m.waitsB k && !m.rootedB k && decide ((k : Int) ≠ but)

/-- what a sorting has done behind block k -/
def SortRel (but : Int) (m : RefM) : Nat → RefM → Prop
  | 0, m' => m' = m
  | k + 1, m' => ∃ m1, SortRel but m k m1 ∧ ((sortB m1 but (k + 1) = true ∧ ∃ v, m' = m1.enq (k + 1) v) ∨ (sortB m1 but (k + 1) = false ∧ m' = m1))

set_option maxHeartbeats 800000 in
theorem sort_any {w : World} {h : Nat} {m : RefM} {N : Nat} (r : RefAt w h m) (ok : m.Ok N) (but : Int) :
    Calls Tryz.prog 26 #[.pointer (some ⟨h, 0, none⟩), .int .i64 but] w fun e w' => e = .returned (.tuple #[]) ∧ ∃ m', SortRel but m N m' ∧ Turn h w m w' m' ∧ m'.Ok N := by
  have hN := ok.small
  have R0 : Hid (RefAt w h m ∧ m.Ok N) := ⟨r, ok⟩
  have cM0 : w.cell? ⟨h, 0, none⟩ = some (.int .i64 N) := by rw [r.cell.1, ok.most]
  clear r ok
  go_enter Tryz.func26, Tryz.ntmps26
  go_wp2
  go_loopw [4] (fun i wr => ∃ (j : Nat) (m1 : RefM), j ≤ N ∧ i = .int .i64 (j + 1) ∧ SortRel but m j m1 ∧ Turn h w m wr m1 ∧ m1.Ok N) (fun i _ => N + 1 - (intOf i).toNat)
  case atStart => exact ⟨0, m, Nat.zero_le _, rfl, rfl, Turn.refl R0.out.1, R0.out.2⟩
  case round =>
    obtain ⟨j, m1, hj, rfl, hS, hT, hok⟩ := hrel
    have cM : wr.cell? ⟨h, 0, none⟩ = some (.int .i64 N) := by rw [hT.here.cell.1, hok.most]
    have K : Hid (SortRel but m j m1 ∧ Turn h w m wr m1 ∧ m1.Ok N) := ⟨hS, hT, hok⟩
    clear hS hT hok cM0
    by_cases hlt : j < N
    · have W1 : Hid (Calls Tryz.prog 43 #[.pointer (some ⟨h, 0, none⟩), .int .i64 ((j : Int) + 1)] wr fun e w' => e = .returned (.bool (m1.waitsB (j + 1))) ∧ Below wr.heap.size wr w') := waits_any K.out.2.1.here K.out.2.2 (j + 1) (by omega)
      go_wp2_with fail
      refine W1.out.mono ?_
      rintro e w1 ⟨rfl, hb1⟩
      have T1 := K.out.2.1.after hb1
      have X1 : Hid (Calls Tryz.prog 68 #[.pointer (some ⟨h, 0, none⟩), .int .i64 ((j : Int) + 1)] w1 fun e w' => e = .returned (.bool (m1.rootedB ((j : Int) + 1))) ∧ w' = w1) := rooted_any T1.here K.out.2.2 ((j : Int) + 1)
      have K1 : Hid (Turn h w m w1 m1) := T1
      clear T1 hb1 W1
      go_wp2_with fail
      refine X1.out.mono ?_
      rintro e w2 ⟨rfl, hw2⟩
      subst hw2
      have cM2 : w2.cell? ⟨h, 0, none⟩ = some (.int .i64 N) := by rw [K1.out.here.cell.1, K.out.2.2.most]
      clear X1
      have Q1 : Hid (Calls Tryz.prog 69 #[.pointer (some ⟨h, 0, none⟩), .int .i64 ((j : Int) + 1)] w2 fun e w' => e = .returned (.tuple #[]) ∧ ∃ v', Turn h w2 m1 w' (m1.enq (j + 1) v')) := queued_any K1.out.here K.out.2.2 (j + 1) (by omega)
      have HB : Hid (sortB m1 but (j + 1) = (m1.waitsB (j + 1) && !m1.rootedB ((j : Int) + 1) && decide ((j : Int) + 1 ≠ but))) := by show sortB m1 but (j + 1) = _; unfold sortB; simp
      have NOQ : Hid (m1.waitsB (j + 1) = true → ∃ o, m1.objs[j + 1]? = some o ∧ o.queued = false) := by
        intro hw
        unfold RefM.waitsB at hw
        cases ho : m1.objs[j + 1]? with
        | none => rw [ho] at hw; cases hw
        | some o => rw [ho] at hw; simp at hw; exact ⟨o, rfl, hw.1.2⟩
      have IDLE : Hid (sortB m1 but (j + 1) = false → ∃ (j' : Nat) (m' : RefM), j' ≤ N ∧ (.int .i64 ((j : Int) + 1 + 1) : Value) = .int .i64 (j' + 1) ∧ SortRel but m j' m' ∧ Turn h w m w2 m' ∧ m'.Ok N) := fun hb => ⟨j + 1, m1, by omega, by go_num, ⟨m1, K.out.1, .inr ⟨hb, rfl⟩⟩, K1.out, K.out.2.2⟩
      cases hw : m1.waitsB (j + 1) with
      | false =>
        rw [hw] at HB
        have I := IDLE.out (by rw [HB.out]; rfl)
        have II : Hid _ := I
        clear I IDLE NOQ HB hw Q1 K1 K R0
        go_wp2
        go_roundw
        case rel => exact II.out
        case measure => simp [intOf]; omega
      | true =>
        cases hr : m1.rootedB ((j : Int) + 1) with
        | true =>
          rw [hw, hr] at HB
          have I := IDLE.out (by rw [HB.out]; rfl)
          have II : Hid _ := I
          clear I IDLE NOQ HB hw hr Q1 K1 K R0
          go_wp2
          go_roundw
          case rel => exact II.out
          case measure => simp [intOf]; omega
        | false =>
          rw [hw, hr] at HB
          by_cases hbt : (j : Int) + 1 = but
          · have I := IDLE.out (by rw [HB.out]; simp [hbt])
            have II : Hid _ := I
            have hbt2 : ((j : Int) + 1 == but) = true := by simpa using hbt
            clear I IDLE NOQ HB hw hr Q1 K1 K R0
            subst hbt
            go_wp2
            go_roundw
            case rel => exact II.out
            case measure => simp [intOf]; omega
          · have hbt2 : ((j : Int) + 1 == but) = false := by simpa using hbt
            obtain ⟨o, ho1, ho2⟩ := NOQ.out hw
            have FIN : Hid (∀ w3 v', Turn h w2 m1 w3 (m1.enq (j + 1) v') → ∃ (j' : Nat) (m' : RefM), j' ≤ N ∧ (.int .i64 ((j : Int) + 1 + 1) : Value) = .int .i64 (j' + 1) ∧ SortRel but m j' m' ∧ Turn h w m w3 m' ∧ m'.Ok N) :=
              fun w3 v' t => ⟨j + 1, m1.enq (j + 1) v', by omega, by go_num, ⟨m1, K.out.1, .inl ⟨by rw [HB.out]; simp [hbt], v', rfl⟩⟩, K1.out.trans t, K.out.2.2.enq ho1 ho2 v'⟩
            clear IDLE NOQ HB hw hr K1 K R0 ho1 ho2
            go_wp2_with fail
            refine Q1.out.mono ?_
            rintro e w3 ⟨rfl, v', T3⟩
            have F3 := FIN.out w3 v' T3
            have FF : Hid _ := F3
            clear F3 T3 FIN Q1
            go_wp2
            go_roundw
            case rel => exact FF.out
            case measure => simp [intOf]; omega
    · obtain rfl : j = N := by omega
      go_wp2
      go_end0
      exact ⟨rfl, m1, K.out.1, K.out.2.1, K.out.2.2⟩

end Go.Proofs.YtpmkjeihbddfpabGreatDoor

/- OUR OWN. The document's heap: enter, room. -/
namespace Go.Proofs.YtpmkjeihbddfpabGreatDoor
open Go.RowKit
set_option linter.unusedVariables false
set_option linter.unusedSimpArgs false

def othersB (m : RefM) (but : Int) (k : Nat) : Bool := m.waitsB k && decide ((k : Int) ≠ but)
def EnterRel (but : Int) (m : RefM) (N : Nat) (m' : RefM) : Prop := if m.zero ≤ countTo (othersB m but) N then SortRel but m N m' else m' = m

set_option maxHeartbeats 800000 in
theorem enter_any {w : World} {h : Nat} {m : RefM} {N : Nat} (r : RefAt w h m) (ok : m.Ok N) (but : Int) :
    Calls Tryz.prog 70 #[.pointer (some ⟨h, 0, none⟩), .int .i64 but] w fun e w' => e = .returned (.tuple #[]) ∧ ∃ m', EnterRel but m N m' ∧ Turn h w m w' m' ∧ m'.Ok N := by
  have hN := ok.small
  have R0 : Hid (RefAt w h m ∧ m.Ok N) := ⟨r, ok⟩
  clear r ok
  go_enter Tryz.func70, Tryz.ntmps70
  go_wp2
  go_loopw [4, 5] (fun n i wr => ∃ j : Nat, j ≤ N ∧ i = .int .i64 (j + 1) ∧ n = .int .i64 (countTo (othersB m but) j) ∧ Below w.heap.size w wr) (fun _ i _ => N + 1 - (intOf i).toNat)
  case atStart => exact ⟨0, Nat.zero_le _, rfl, rfl, Below.refl _ _⟩
  case round =>
    obtain ⟨j, hj, rfl, rfl, hb⟩ := hrel
    have T0 : Turn h w m wr m := .of_below R0.out.1 hb
    have cM : wr.cell? ⟨h, 0, none⟩ = some (.int .i64 N) := by rw [T0.here.cell.1, R0.out.2.most]
    have cZ : wr.cell? ⟨h, 3, none⟩ = some (.int .i64 m.zero) := T0.here.cell.2.2.2.1
    have hle := countTo_le (othersB m but) j
    have hsz := hb.size
    have K : Hid (Below w.heap.size w wr ∧ RefAt wr h m) := ⟨hb, T0.here⟩
    clear hb T0
    obtain ⟨c, hc⟩ : ∃ c, c = countTo (othersB m but) j := ⟨_, rfl⟩
    rw [← hc] at hle ⊢
    have HC : Hid (c = countTo (othersB m but) j) := hc
    clear hc
    by_cases hlt : j < N
    · have W1 : Hid (Calls Tryz.prog 43 #[.pointer (some ⟨h, 0, none⟩), .int .i64 ((j : Int) + 1)] wr fun e w' => e = .returned (.bool (m.waitsB (j + 1))) ∧ Below wr.heap.size wr w') := waits_any K.out.2 R0.out.2 (j + 1) (by omega)
      have S : Hid (countTo (othersB m but) (j + 1) = c + if m.waitsB (j + 1) && decide ((j : Int) + 1 ≠ but) then 1 else 0) := by
        show countTo (othersB m but) (j + 1) = _
        rw [countTo_succ, HC.out]; unfold othersB; simp
      go_wp2_with fail
      refine W1.out.mono ?_
      rintro e w1 ⟨rfl, hb1⟩
      have K1 : Hid (Below w.heap.size w w1) := K.out.1.trans (hb1.mono hsz)
      clear hb1 W1
      cases hw : m.waitsB (j + 1) with
      | false =>
        rw [hw] at S
        clear hw
        go_wp2
        go_roundw
        case rel => exact ⟨j + 1, by omega, by go_num, by rw [S.out]; go_num, K1.out⟩
        case measure => simp [intOf]; omega
      | true =>
        rw [hw] at S
        clear hw
        by_cases hbt : (j : Int) + 1 = but
        · have S2 : Hid (countTo (othersB m but) (j + 1) = c) := by show countTo (othersB m but) (j + 1) = c; rw [S.out]; simp [hbt]
          clear S
          subst hbt
          go_wp2
          go_roundw
          case rel => exact ⟨j + 1, by omega, by go_num, by rw [S2.out], K1.out⟩
          case measure => simp [intOf]; omega
        · have S2 : Hid (countTo (othersB m but) (j + 1) = c + 1) := by show countTo (othersB m but) (j + 1) = c + 1; rw [S.out]; simp [hbt]
          have hbt2 : ((j : Int) + 1 == but) = false := by simpa using hbt
          clear S
          go_wp2
          go_roundw
          case rel => exact ⟨j + 1, by omega, by go_num, by rw [S2.out]; go_num, K1.out⟩
          case measure => simp [intOf]; omega
    · obtain rfl : j = N := by omega
      by_cases hz : m.zero ≤ c
      · have SO : Hid (Calls Tryz.prog 26 #[.pointer (some ⟨h, 0, none⟩), .int .i64 but] wr fun e w' => e = .returned (.tuple #[]) ∧ ∃ m', SortRel but m j m' ∧ Turn h wr m w' m' ∧ m'.Ok j) := sort_any K.out.2 R0.out.2 but
        have E : Hid (∀ m', SortRel but m j m' → EnterRel but m j m') := fun m' hs => by unfold EnterRel; rw [if_pos (by rw [← HC.out]; exact hz)]; exact hs
        go_wp2_with fail
        refine SO.out.mono ?_
        rintro e w1 ⟨rfl, m', hs, ht, hok⟩
        have FF : Hid (∃ m', EnterRel but m j m' ∧ Turn h w m w1 m' ∧ m'.Ok j) := ⟨m', E.out m' hs, Turn.pre R0.out.1 K.out.1 ht, hok⟩
        clear hs ht hok SO E
        go_wp2
        go_end0
        exact ⟨rfl, FF.out⟩
      · have FF : Hid (∃ m', EnterRel but m j m' ∧ Turn h w m wr m' ∧ m'.Ok j) := ⟨m, by unfold EnterRel; rw [if_neg (by rw [← HC.out]; exact hz)], .of_below R0.out.1 K.out.1, R0.out.2⟩
        have hz2 : decide (m.zero ≤ (c : Int)) = false := by simpa using hz
        go_wp2
        go_end0
        exact ⟨rfl, FF.out⟩

/-- which block is free, the least, of those from 1 to k that are all taken -/
def RoomSays (m : RefM) (N : Nat) (v : Int) : Prop :=
  (v = 0 ∧ ∀ j, j < N → ∃ o, m.objs[j + 1]? = some o ∧ o.here = true) ∨
  ∃ k : Nat, k < N ∧ v = (k : Int) + 1 ∧ (∃ o, m.objs[k + 1]? = some o ∧ o.here = false) ∧ ∀ j, j < k → ∃ o, m.objs[j + 1]? = some o ∧ o.here = true

set_option maxHeartbeats 800000 in
theorem room_any {w : World} {h : Nat} {m : RefM} {N : Nat} (r : RefAt w h m) (ok : m.Ok N) :
    Calls Tryz.prog 90 #[.pointer (some ⟨h, 0, none⟩)] w fun e w' => ∃ v, e = .returned (.int .i64 v) ∧ RoomSays m N v ∧ w' = w := by
  obtain ⟨g, cap, hv, _, _, _, _, hobj⟩ := r.view ok
  have cM : w.cell? ⟨h, 0, none⟩ = some (.int .i64 N) := by rw [r.cell.1, ok.most]
  have cB : w.cell? ⟨h, 5, none⟩ = some (.slice (some ⟨g, 0, none⟩) (N + 1) cap) := by rw [r.cell.2.2.2.2.2.1, hv]
  have OBJ : Hid (∀ j, j < N → ∃ o : RObj, m.objs[j + 1]? = some o ∧ w.cell? ⟨g, (j + 1) * 4, none⟩ = some (.bool o.here)) := fun j hj => by
    have hi : j + 1 < m.objs.length := by rw [ok.len]; omega
    exact ⟨m.objs[j + 1], List.getElem?_eq_getElem hi, (hobj (j + 1) hi).1⟩
  have hN := ok.small
  clear hobj r ok hv
  go_enter Tryz.func90, Tryz.ntmps90
  go_wp2
  go_loop [3] (fun i => ∃ j : Nat, j ≤ N ∧ i = .int .i64 (j + 1) ∧ ∀ k, k < j → ∃ o, m.objs[k + 1]? = some o ∧ o.here = true) (fun i => N + 1 - (intOf i).toNat)
  case atStart => exact ⟨0, Nat.zero_le _, rfl, fun k hk => absurd hk (Nat.not_lt_zero _)⟩
  case round =>
    obtain ⟨j, hj, rfl, hall⟩ := hrel
    have A : Hid (∀ k, k < j → ∃ o, m.objs[k + 1]? = some o ∧ o.here = true) := hall
    clear hall
    by_cases hlt : j < N
    · obtain ⟨o, ho, c0⟩ := OBJ.out j hlt
      obtain ⟨here, vF, fs, stuck, queued⟩ := o
      simp only at c0
      have HO : Hid (m.objs[j + 1]? = some ⟨here, vF, fs, stuck, queued⟩) := ho
      clear ho
      cases here with
      | false =>
        go_wp2
        go_ret
        exact ⟨_, rfl, .inr ⟨j, hlt, rfl, ⟨_, HO.out, rfl⟩, A.out⟩, rfl⟩
      | true =>
        go_wp2
        go_round
        case rel =>
          refine ⟨j + 1, by omega, by go_num, fun k hk => ?_⟩
          by_cases hkj : k = j
          · subst hkj; exact ⟨_, HO.out, rfl⟩
          · exact A.out k (by omega)
        case measure => simp [intOf]; omega
    · obtain rfl : j = N := by omega
      go_wp2
      go_ret
      exact ⟨_, rfl, .inl ⟨rfl, A.out⟩, rfl⟩

end Go.Proofs.YtpmkjeihbddfpabGreatDoor

/- OUR OWN. The document's heap: what a sorting leaves alone; made, where a block is free. -/
namespace Go.Proofs.YtpmkjeihbddfpabGreatDoor
open Go.RowKit
set_option linter.unusedVariables false
set_option linter.unusedSimpArgs false

/-- an object but for the queue -/
def RObj.strip (o : RObj) : Bool × Value × List (Int × Int) × Bool := (o.here, o.vF, o.fs, o.stuck)

structure Alikeq (m m' : RefM) : Prop where
  most : m'.most = m.most
  deep : m'.deep = m.deep
  budget : m'.budget = m.budget
  zero : m'.zero = m.zero
  over : m'.over = m.over
  stack : m'.stack = m.stack
  globals : m'.globals = m.globals
  objs : m'.objs.map RObj.strip = m.objs.map RObj.strip

theorem Alikeq.refl (m : RefM) : Alikeq m m := ⟨rfl, rfl, rfl, rfl, rfl, rfl, rfl, rfl⟩
theorem Alikeq.trans {a b c : RefM} (h : Alikeq a b) (k : Alikeq b c) : Alikeq a c :=
  ⟨k.most.trans h.most, k.deep.trans h.deep, k.budget.trans h.budget, k.zero.trans h.zero, k.over.trans h.over, k.stack.trans h.stack, k.globals.trans h.globals, k.objs.trans h.objs⟩
theorem alikeq_enq (m : RefM) (i : Nat) (v : Value) : Alikeq m (m.enq i v) := by
  refine ⟨rfl, rfl, rfl, rfl, rfl, rfl, rfl, ?_⟩
  show (qset m.objs i).map RObj.strip = _
  cases h : m.objs[i]? with
  | none => unfold qset; rw [h]
  | some o => rw [qset_eq h, map_set_same RObj.strip m.objs i o { o with queued := true } h rfl]
theorem SortRel.alike {but : Int} {m : RefM} : ∀ {k : Nat} {m' : RefM}, SortRel but m k m' → Alikeq m m' := by
  intro k
  induction k with
  | zero => intro m' h; rw [show m' = m from h]; exact .refl m
  | succ k ih =>
    rintro m' ⟨m1, h1, ⟨_, v, rfl⟩ | ⟨_, rfl⟩⟩
    · exact (ih h1).trans (alikeq_enq _ _ _)
    · exact ih h1
theorem EnterRel.alike {but : Int} {m m' : RefM} {N : Nat} (h : EnterRel but m N m') : Alikeq m m' := by
  unfold EnterRel at h
  split at h
  · exact h.alike
  · rw [h]; exact .refl m

/-! ### An object is laid into a block -/
def RefM.put (m : RefM) (i : Nat) (o : RObj) : RefM := { m with objs := m.objs.set i o }

theorem put_rows (m : RefM) (i : Nat) (o : RObj) : (m.put i o).rows = (m.rows.set (4 + i) o.row).set 0 ⟨73, 4, m.vB, (m.objs.set i o).length, (m.objs.set i o).flatMap RObj.cells⟩ := by
  simp only [RefM.rows, RefM.put, show 4 + i = i + 1 + 1 + 1 + 1 by omega, List.set_cons_succ, List.set_cons_zero, List.map_set]

theorem flat_set4 (l : List RObj) (i : Nat) (o o' : RObj) (h : l[i]? = some o) :
    (l.set i o').flatMap RObj.cells = (((((l.flatMap RObj.cells).set (i * 4) (.bool o'.here)).set (i * 4 + 1) o'.vF).set (i * 4 + 2) (.bool o'.stuck)).set (i * 4 + 3) (.bool o'.queued)) := by
  have hl : i < l.length := (List.getElem?_eq_some_iff.1 h).1
  have e1 := flat_set RObj.cells 4 (fun _ => rfl) l i 0 (by decide) o (.bool o'.here) h { o with here := o'.here } rfl
  have h1 : (l.set i { o with here := o'.here })[i]? = some { o with here := o'.here } := by simp [hl]
  have e2 := flat_set RObj.cells 4 (fun _ => rfl) _ i 1 (by decide) _ o'.vF h1 { o with here := o'.here, vF := o'.vF } rfl
  rw [List.set_set] at e2
  have h2 : (l.set i { o with here := o'.here, vF := o'.vF })[i]? = some { o with here := o'.here, vF := o'.vF } := by simp [hl]
  have e3 := flat_set RObj.cells 4 (fun _ => rfl) _ i 2 (by decide) _ (.bool o'.stuck) h2 { o with here := o'.here, vF := o'.vF, stuck := o'.stuck } rfl
  rw [List.set_set] at e3
  have h3 : (l.set i { o with here := o'.here, vF := o'.vF, stuck := o'.stuck })[i]? = some { o with here := o'.here, vF := o'.vF, stuck := o'.stuck } := by simp [hl]
  have e4 := flat_set RObj.cells 4 (fun _ => rfl) _ i 3 (by decide) _ (.bool o'.queued) h3 o' rfl
  rw [List.set_set] at e4
  rw [e4, e3, e2, e1, Nat.add_zero]

/-- The four cells of an object that is laid into block i. -/
def layObj (w : World) (g i : Nat) (o : RObj) : World :=
  (((w.setCell ⟨g, i * 4, none⟩ (.bool o.here)).setCell ⟨g, i * 4 + 1, none⟩ o.vF).setCell ⟨g, i * 4 + 2, none⟩ (.bool o.stuck)).setCell ⟨g, i * 4 + 3, none⟩ (.bool o.queued)

theorem RefAt.placed0 {w w1 : World} {h : Nat} {m : RefM} {N : Nat} (r : RefAt w h m) (hlen : m.objs.length = N + 1) (hb : Below w.heap.size w w1) {g cap : Nat} (hv : m.vB = .slice (some ⟨g, 0, none⟩) (N + 1) cap) (i : Nat) {o0 : RObj} (hi : m.objs[i]? = some o0) (o : RObj)
    (ho : o.row.At w1) (hg : ∀ b, o.vF.ownBlock = some b → w.heap.size ≤ b) : Turn h w m (layObj w1 g i o) (m.put i o) := by
  have hob : m.vB.ownBlock = some g := by rw [hv]; rfl
  have hmem0 : (⟨73, 4, m.vB, m.objs.length, m.objs.flatMap RObj.cells⟩ : SRow) ∈ m.rows := by simp [RefM.rows]
  have hgh : g ≠ h := fun e => r.ne hmem0 (by rw [← e]; exact hob)
  have hglt : g < w.heap.size := rows_lt r.rowsAt g (List.mem_cons_of_mem _ (List.mem_filterMap.2 ⟨_, hmem0, hob⟩))
  have hrow : m.rows[4 + i]? = some o0.row := by
    simp only [RefM.rows, show 4 + i = i + 1 + 1 + 1 + 1 by omega, List.getElem?_cons_succ, List.getElem?_map, hi]; rfl
  obtain ⟨R1, F1⟩ := r.rowsAt.set hrow o.row ho (fun b hbb => .inr (hg b hbb)) (fun k hk _ _ => hb.block k hk) hb.size
  have hlay : ∀ k, k ≠ g → (layObj w1 g i o).heap[k]? = w1.heap[k]? := fun k hk => by unfold layObj; rw [hso hk, hso hk, hso hk, hso hk]
  have hsz : (layObj w1 g i o).heap.size = w1.heap.size := by unfold layObj; simp [World.setCell]
  have h0 : (m.rows.set (4 + i) o.row)[0]? = some ⟨73, 4, m.vB, m.objs.length, m.objs.flatMap RObj.cells⟩ := by
    simp [RefM.rows, show 4 + i = i + 1 + 1 + 1 + 1 by omega]
  have hblk : (⟨73, 4, m.vB, (m.objs.set i o).length, (m.objs.set i o).flatMap RObj.cells⟩ : SRow).At (layObj w1 g i o) := by
    show (layObj w1 g i o).ownsRow 0 _ 4 m.vB (m.objs.set i o).length _
    rw [List.length_set, flat_set4 m.objs i o0 o hi]
    have hb0 : w1.ownsRow 0 73 4 m.vB m.objs.length (m.objs.flatMap RObj.cells) := own_carry r.blocks fun j hj => hb.block j (own_lt r.blocks hj).2
    rw [hv, hlen] at hb0 ⊢
    unfold layObj
    exact ((((hb0.stored _ _).1.stored _ _).1.stored _ _).1.stored _ _).1
  obtain ⟨R2, F2⟩ := R1.set h0 _ hblk (fun b hbb => .inl hbb) (fun k _ _ h2 => hlay k (fun e => h2 (by rw [e]; exact hob))) (by rw [hsz]; exact Nat.le_refl _)
  rw [← put_rows] at R2 F2
  refine ⟨R2.refAt ?_, fun b hbb => ?_, ⟨?_, ?_, ?_, ?_, ?_⟩⟩
  · rw [hlay h (fun e => hgh e.symm), hb.block h (lt_of_heap r.head)]; exact r.head
  · rw [← rows_foot] at hbb ⊢
    rcases F2 b hbb with e | e
    · exact F1 b e
    · have := hb.size; exact .inr (by omega)
  · exact hb.os
  · exact hb.tape
  · exact hb.output
  · rw [hsz]; exact hb.size
  · intro k hk hF
    have hkg : k ≠ g := fun e => hF (by rw [e, ← rows_foot]; exact List.mem_cons_of_mem _ (List.mem_filterMap.2 ⟨_, hmem0, hob⟩))
    rw [hlay k hkg, hb.block k hk]
theorem RefAt.placed {w w1 : World} {h : Nat} {m : RefM} {N : Nat} (r : RefAt w h m) (ok : m.Ok N) (hb : Below w.heap.size w w1) {g cap : Nat} (hv : m.vB = .slice (some ⟨g, 0, none⟩) (N + 1) cap) (i : Nat) {o0 : RObj} (hi : m.objs[i]? = some o0) (o : RObj)
    (ho : o.row.At w1) (hg : ∀ b, o.vF.ownBlock = some b → w.heap.size ≤ b) : Turn h w m (layObj w1 g i o) (m.put i o) := r.placed0 ok.len hb hv i hi o ho hg

theorem RefM.Ok.put {m : RefM} {N : Nat} (ok : m.Ok N) {i : Nat} {o0 : RObj} (hi : m.objs[i]? = some o0) (hq : o0.queued = false) (o : RObj) (hf : o.fs.length ≤ 4) : (m.put i o).Ok N := by
  refine ⟨ok.most, by simp [RefM.put, ok.len], ok.small, fun x hx => ?_, ok.stack, ok.globals, ?_⟩
  · rcases List.mem_or_eq_of_mem_set hx with e | e
    · exact ok.fields x e
    · subst e; exact hf
  · have hc : ∀ (l : List RObj) (i : Nat), l[i]? = some o0 → l.countP RObj.queued ≤ (l.set i o).countP RObj.queued := by
      intro l
      induction l with
      | nil => intro i h; simp at h
      | cons a l ih =>
        intro i h
        cases i with
        | zero => simp at h; subst h; simp [List.countP_cons, hq]
        | succ i => simp at h; rw [List.set_cons_succ, List.countP_cons, List.countP_cons]; have := ih i h; omega
    exact Nat.le_trans ok.queue (hc _ _ hi)

end Go.Proofs.YtpmkjeihbddfpabGreatDoor

/- OUR OWN. The document's heap: what it is without memory. -/
namespace Go.Proofs.YtpmkjeihbddfpabGreatDoor
open Go.RowKit
set_option linter.unusedVariables false
set_option linter.unusedSimpArgs false

def RObj.ob (o : RObj) : Ob := ⟨o.here, o.fs, o.stuck, o.queued⟩
def RefM.st (m : RefM) : St := ⟨m.stack, m.globals, m.objs.map RObj.ob, m.queue⟩
def RefM.cf (m : RefM) : Cf := ⟨m.deep, m.budget, m.zero, m.over⟩

theorem st_ob {m : RefM} {i : Nat} {o : RObj} (h : m.objs[i]? = some o) : m.st.ob i = o.ob := by
  unfold St.ob RefM.st
  rw [List.getD_eq_getElem?_getD, List.getElem?_map, h]; rfl
theorem st_ob_none {m : RefM} {i : Nat} (h : m.objs[i]? = none) : m.st.ob i = Ob.free := by
  unfold St.ob RefM.st
  rw [List.getD_eq_getElem?_getD, List.getElem?_map, h]; rfl
theorem st_count (m : RefM) (b : Int) : m.st.count b = m.count b := by
  unfold St.count RefM.count countObjs RefM.live RefM.st
  rw [← List.map_tail, List.map_map]
  rfl
theorem st_rooted (m : RefM) (b : Int) : m.st.rooted b = m.rootedB b := rfl
theorem st_waits (m : RefM) (i : Nat) : m.st.waits i = m.waitsB i := by
  unfold St.waits RefM.waitsB
  rw [st_count]
  cases h : m.objs[i]? with
  | none => rw [st_ob_none h]; rfl
  | some o => rw [st_ob h]; rfl
theorem st_extra (m : RefM) (i : Nat) : m.st.extra i = m.extraB i := by
  unfold St.extra RefM.extraB
  rw [st_count]
  cases h : m.objs[i]? with
  | none => rw [st_ob_none h]; rfl
  | some o => rw [st_ob h]; rfl
theorem st_N {m : RefM} {N : Nat} (ok : m.Ok N) : m.st.N = N := by unfold St.N RefM.st; rw [List.length_map, ok.len]; rfl
theorem st_extras {m : RefM} {N : Nat} (ok : m.Ok N) : m.st.extras = m.extrasN N := by
  unfold St.extras RefM.extrasN
  rw [st_N ok, show m.st.extra = m.extraB from funext (st_extra m)]
theorem st_others (m : RefM) (but : Int) : m.st.others but = othersB m but := by
  funext k
  unfold St.others othersB
  rw [st_waits]
theorem st_sorts (m : RefM) (but : Int) (k : Nat) : m.st.sorts but k = sortB m but k := by
  unfold St.sorts sortB
  rw [st_waits]; rfl

theorem put_st (m : RefM) (i : Nat) (o : RObj) : (m.put i o).st = m.st.put i o.ob := by
  unfold RefM.put RefM.st St.put
  simp only [List.map_set]
theorem enq_st (m : RefM) (i : Nat) (v : Value) : (m.enq i v).st = m.st.enq i := by
  unfold St.enq
  cases h : m.objs[i]? with
  | some o =>
    rw [st_ob h]
    show (⟨m.stack, m.globals, (qset m.objs i).map RObj.ob, m.queue ++ [(i : Int)]⟩ : St) = _
    rw [qset_eq h, List.map_set]
    rfl
  | none =>
    show (⟨m.stack, m.globals, (qset m.objs i).map RObj.ob, m.queue ++ [(i : Int)]⟩ : St) = ⟨m.stack, m.globals, (m.objs.map RObj.ob).set i _, m.queue ++ [(i : Int)]⟩
    have hl : m.objs.length ≤ i := by simpa using h
    rw [List.set_eq_of_length_le (by simpa using hl)]
    unfold qset
    rw [h]
theorem SortRel.st {but : Int} {m : RefM} : ∀ {k : Nat} {m' : RefM}, SortRel but m k m' → m'.st = sortTo but m.st k := by
  intro k
  induction k with
  | zero => intro m' h; rw [show m' = m from h]; rfl
  | succ k ih =>
    rintro m' ⟨m1, h1, ⟨hs, v, rfl⟩ | ⟨hs, rfl⟩⟩
    · unfold sortTo
      rw [← ih h1, st_sorts, hs, enq_st]; rfl
    · unfold sortTo
      rw [← ih h1, st_sorts, hs]; rfl
theorem EnterRel.st {but : Int} {m m' : RefM} {N : Nat} (ok : m.Ok N) (h : EnterRel but m N m') : m'.st = m.st.enter m.zero but := by
  unfold EnterRel at h
  unfold St.enter St.sort
  rw [st_N ok, st_others]
  split at h
  · rename_i hz; rw [if_pos hz]; exact h.st
  · rename_i hz; rw [if_neg hz, h]
theorem Alikeq.cf {m m' : RefM} (a : Alikeq m m') : m'.cf = m.cf := by unfold RefM.cf; rw [a.deep, a.budget, a.zero, a.over]

end Go.Proofs.YtpmkjeihbddfpabGreatDoor

/- OUR OWN. The document's heap: made, where a block is free. -/
namespace Go.Proofs.YtpmkjeihbddfpabGreatDoor
open Go.RowKit
set_option linter.unusedVariables false
set_option linter.unusedSimpArgs false

set_option maxHeartbeats 400000 in
theorem made_index {w : World} {h : Nat} (n : Int) (hn : n < 0 ∨ 4 < n) :
    Calls Tryz.prog 58 #[.pointer (some ⟨h, 0, none⟩), .int .i64 n] w fun e w' => e = .returned (.int .i64 6) ∧ w' = w := by
  rcases hn with hn | hn
  · go_enter Tryz.func58, Tryz.ntmps58
    go_wp2
    go_ret
    exact ⟨rfl, rfl⟩
  · have h0 : ¬ n < 0 := by omega
    go_enter Tryz.func58, Tryz.ntmps58
    go_wp2
    go_ret
    exact ⟨rfl, rfl⟩

set_option maxHeartbeats 400000 in
theorem made_deep {w : World} {h : Nat} {m : RefM} (r : RefAt w h m) (hs : m.stack.length ≤ 16) (n : Int) (h0 : 0 ≤ n) (h4 : n ≤ 4) (hd : m.deep ≤ m.stack.length) :
    Calls Tryz.prog 58 #[.pointer (some ⟨h, 0, none⟩), .int .i64 n] w fun e w' => e = .returned (.int .i64 7) ∧ Below w.heap.size w w' := by
  obtain ⟨ao, cap, hv⟩ := own_slice r.stack
  have cS : w.cell? ⟨h, 7, none⟩ = some (.slice ao m.stack.length cap) := by rw [r.cell.2.2.2.2.2.2.2.1, hv]
  have cD := r.cell.2.1
  obtain ⟨len, hlen⟩ : ∃ len, m.stack.length = len := ⟨_, rfl⟩
  rw [hlen] at cS hs hd
  obtain ⟨D, hD⟩ : ∃ D, m.deep = D := ⟨_, rfl⟩
  rw [hD] at cD hd
  clear r hv hlen hD
  go_enter Tryz.func58, Tryz.ntmps58
  go_wp2
  go_quiet (fail)
  go_wp2
  go_ret
  exact ⟨rfl, below_drewN (Below.refl _ _) _⟩

/-- the new object while it is being made: block X has it, its fields are new -/
structure Making (X : Nat) (w wr : World) (v : Value) (j : Nat) : Prop where
  head : wr.heap[X]? = some (.cells #[.bool true, v, .bool false, .bool false] 73)
  row : wr.ownsRow (X + 1) 84 2 v j (nilCells j)
  below : Below X w wr

theorem Making.step {X : Nat} {w wr w1 : World} {v : Value} {j g cap : Nat} {ob : Obj} (h : Making X w wr v j)
    (hown : w1.ownsRow (X + 1) 84 2 (.slice (some ⟨g, 0, none⟩) (j + 1) cap) (j + 1) (nilCells j ++ [.int .i64 0, .int .i64 0]))
    (hgr : (wr.alloc ob).grownBy w1 v.ownBlock) :
    Making X w (w1.setCell ⟨X, 1, none⟩ (.slice (some ⟨g, 0, none⟩) (j + 1) cap)) (.slice (some ⟨g, 0, none⟩) (j + 1) cap) (j + 1) ∧ w1.cell? ⟨X, 1, none⟩ = some v ∧ w1.frozen? ⟨X, 1, none⟩ = false := by
  have hs := lt_of_heap h.head
  have hne : some X ≠ v.ownBlock := fun e => by have := own_lt h.row e.symm; omega
  have hh : w1.heap[X]? = some (.cells #[.bool true, v, .bool false, .bool false] 73) := by
    rw [hgr.block _ (by simp; omega) hne, hao hs]; exact h.head
  refine ⟨⟨?_, ?_, ?_⟩, cell_of_heap hh rfl, frozen_of_heap hh⟩
  · rw [heap_setCell_at hh]; rfl
  · rw [nilCells_succ]
    exact ownsRow_setCell_below hown (by simp) _
  · exact ((h.below.alloc (by omega) ob).grown hgr (by simp; omega) (fun k hk => by have := own_lt h.row hk; omega)).setCell (by simp) _

set_option maxHeartbeats 1600000 in
theorem made_room {w : World} {h : Nat} {m : RefM} {N : Nat} (r : RefAt w h m) (ok : m.Ok N) (n : Nat) (hn : n ≤ 4) (hd : m.stack.length < m.deep) (hd16 : m.deep ≤ 16) (k : Nat) (hk : k < N) (o0 : RObj) (ho0 : m.objs[k + 1]? = some o0) (hfree : o0.here = false) (hoq : o0.queued = false)
    (hall : ∀ j, j < k → ∃ o, m.objs[j + 1]? = some o ∧ o.here = true) :
    Calls Tryz.prog 58 #[.pointer (some ⟨h, 0, none⟩), .int .i64 n] w
      fun e w' => e = .returned (.int .i64 0) ∧ ∃ vF m2 vS, EnterRel ((k : Int) + 1) (m.put (k + 1) ⟨true, vF, List.replicate n (0, 0), false, false⟩) N m2 ∧
        Turn h w m w' { m2 with vS := vS, stack := m2.stack ++ [(2, (k : Int) + 1)] } ∧ RefM.Ok { m2 with vS := vS, stack := m2.stack ++ [(2, (k : Int) + 1)] } N := by
  obtain ⟨g, cap, hv, hg, hgh, hob, hfz, hobj⟩ := r.view ok
  obtain ⟨ao, cp, hvS⟩ := own_slice r.stack
  have cS : w.cell? ⟨h, 7, none⟩ = some (.slice ao m.stack.length cp) := by rw [r.cell.2.2.2.2.2.2.2.1, hvS]
  have cD := r.cell.2.1
  have cB : w.cell? ⟨h, 5, none⟩ = some (.slice (some ⟨g, 0, none⟩) (N + 1) cap) := by rw [r.cell.2.2.2.2.2.1, hv]
  have hh := lt_of_heap r.head
  have hN := ok.small
  have ROOM : Hid (∀ W, Below w.heap.size w W → Calls Tryz.prog 90 #[.pointer (some ⟨h, 0, none⟩)] W fun e w' => e = .returned (.int .i64 ((k : Int) + 1)) ∧ w' = W) := by
    intro W hb
    refine (room_any (r.carry fun y hy => hb.block y (r.lt y hy)) ok).mono ?_
    rintro e w' ⟨v, rfl, hs, rfl⟩
    refine ⟨?_, rfl⟩
    rcases hs with ⟨_, hs⟩ | ⟨k', hk', rfl, ⟨o1, ho1, hf1⟩, hs⟩
    · obtain ⟨o, ho, ht⟩ := hs k hk
      rw [ho0] at ho; cases ho; rw [hfree] at ht; cases ht
    · have : k' = k := by
        rcases Nat.lt_trichotomy k' k with e | e | e
        · obtain ⟨o, ho, ht⟩ := hall k' e
          rw [ho1] at ho; cases ho; rw [hf1] at ht; cases ht
        · exact e
        · obtain ⟨o, ho, ht⟩ := hs k e
          rw [ho0] at ho; cases ho; rw [hfree] at ht; cases ht
      rw [this]
  have KEEP : Hid (RefAt w h m ∧ m.Ok N ∧ m.vB = .slice (some ⟨g, 0, none⟩) (N + 1) cap ∧ m.objs[k + 1]? = some o0 ∧ o0.queued = false ∧ (m.stack.length : Int) < m.deep ∧ m.deep ≤ 16) := ⟨r, ok, hv, ho0, hoq, hd, hd16⟩
  have hcells := hobj (k + 1) (by rw [ok.len]; omega)
  obtain ⟨oo, hoo⟩ : ∃ oo, oo = m.objs[k + 1]'(by rw [ok.len]; omega) := ⟨_, rfl⟩
  rw [← hoo] at hcells
  obtain ⟨b0, b1, b2, b3⟩ := hcells
  have f0 := hfz ((k + 1) * 4)
  have f1 := hfz ((k + 1) * 4 + 1)
  have f2 := hfz ((k + 1) * 4 + 2)
  have f3 := hfz ((k + 1) * 4 + 3)
  have CB : Hid (w.cell? ⟨h, 5, none⟩ = some (.slice (some ⟨g, 0, none⟩) (N + 1) cap) ∧ w.cell? ⟨g, (k + 1) * 4, none⟩ = some (.bool oo.here) ∧ w.cell? ⟨g, (k + 1) * 4 + 1, none⟩ = some oo.vF ∧ w.cell? ⟨g, (k + 1) * 4 + 2, none⟩ = some (.bool oo.stuck) ∧
    w.cell? ⟨g, (k + 1) * 4 + 3, none⟩ = some (.bool oo.queued) ∧ (∀ j, w.frozen? ⟨g, j, none⟩ = false)) := ⟨cB, b0, b1, b2, b3, hfz⟩
  obtain ⟨len, hlen⟩ : ∃ len, m.stack.length = len := ⟨_, rfl⟩
  rw [hlen] at cS hd
  have hl16 : len ≤ 16 := by rw [← hlen]; exact ok.stack
  obtain ⟨D, hD⟩ : ∃ D, m.deep = D := ⟨_, rfl⟩
  rw [hD] at cD hd
  have hnI : ¬ (n : Int) < 0 := by omega
  have hn4 : ¬ (4 : Int) < n := by omega
  have hd2 : decide (D ≤ (len : Int)) = false := by simp; omega
  have hd3 : ¬ D ≤ (len : Int) := by omega
  clear r ok hv hvS hobj hob hfz hlen hD ho0 hfree hoq hall hoo b0 b1 b2 b3 f0 f1 f2 f3 hd16 cB hd
  go_enter Tryz.func58, Tryz.ntmps58
  go_wp2
  go_quiet (fail)
  go_wp2_with fail
  refine (ROOM.out _ (below_drewN (Below.refl _ _) _)).mono ?_
  rintro e w1 ⟨rfl, hw1⟩
  have hk0 : ((k : Int) + 1 == 0) = false := by simp; omega
  have hk1 : ¬ ((k : Int) + 1 = 0) := by omega
  have B1 : Hid (Below w.heap.size w w1) := by rw [hw1]; exact below_drewN (Below.refl _ _) _
  clear hw1 cS cD
  go_wp2
  go_loopw [7] (fun i wr => ∃ (j : Nat) (v : Value), j ≤ n ∧ i = .int .i64 j ∧ Making w1.heap.size w1 wr v j) (fun i _ => n - (intOf i).toNat)
  case atStart => exact ⟨0, _, Nat.zero_le _, rfl, ⟨heap_alloc_new w1 _, World.ownsRow_nil _ _ _ _, (Below.refl _ _).alloc (Nat.le_refl _) _⟩⟩
  case round =>
    obtain ⟨j, v, hj, rfl, hm⟩ := hrel
    by_cases hlt : j < n
    · have hcell : wr.cell? ⟨w1.heap.size, 1, none⟩ = some v := cell_of_heap hm.head rfl
      obtain ⟨i1, hi1, hy0, hy1, hy2⟩ := info_parts infoRValue
      go_wp2_with (at_builtin; refine wpList_append_lies _ rfl (.tmp 55) (.tmp 57) 66 rfl (w1.heap.size + 1) 84 i1 _ 2 16 Tryz.underlying66 hi1 hy0 hy1 hy2 rfl (by decide) _ _ _ rfl (hm.row.alloc _) ⟨wr.heap.size, 0, none⟩ 1 1 [.int .i64 0, .int .i64 0] rfl rfl ?c1 ?c2 (by decide) ?c3 ?c4 ?c5 (wr.heap.size + 1) (by simp) ?_)
      case c1 => exact news_new _ [.int .i64 0, .int .i64 0] _
      case c2 => intro u hu; simp at hu; subst hu; rfl
      case c3 => unfold maxLen; omega
      case c4 => omega
      case c5 => have := lt_of_heap hm.head; simp; omega
      intro g' cap' w2 hown hgr _ _
      obtain ⟨hm', hc', hf'⟩ := hm.step hown hgr
      have M : Hid _ := hm'
      clear hown hgr hcell hm hm' hi1 hy0 hy1 hy2
      go_wp2
      go_roundw
      case rel => exact ⟨j + 1, _, by omega, by go_num, M.out⟩
      case measure => simp [intOf]; omega
    · obtain rfl : j = n := by omega
      obtain ⟨vo, vc, hvv⟩ := own_slice (own_base hm.row (Nat.zero_le _))
      subst hvv
      obtain ⟨r, ok, hv, ho0, hoq, hd, hd16⟩ := KEEP.out
      have hb1 : Below w.heap.size w wr := B1.out.trans (hm.below.mono B1.out.size)
      have hXw : w.heap.size ≤ w1.heap.size := B1.out.size
      have PL := r.placed ok hb1 hv (k + 1) ho0 ⟨true, .slice vo j vc, List.replicate j (0, 0), false, false⟩ (by
          show wr.ownsRow 0 _ 2 _ (List.replicate j (0, 0)).length _
          have := own_base hm.row (Nat.zero_le _)
          simpa [nilCells, RObj.row, vrow] using this) (fun b hb => by have := own_lt hm.row hb; omega)
      have ok1 := ok.put ho0 hoq ⟨true, .slice vo j vc, List.replicate j (0, 0), false, false⟩ (by simpa using hn)
      have T1 : Hid (∀ W, W = layObj wr g (k + 1) ⟨true, .slice vo j vc, List.replicate j (0, 0), false, false⟩ → Turn h w m W (m.put (k + 1) ⟨true, .slice vo j vc, List.replicate j (0, 0), false, false⟩)) := fun W e => by rw [e]; exact PL
      have OK1 : Hid (RefM.Ok (m.put (k + 1) ⟨true, .slice vo j vc, List.replicate j (0, 0), false, false⟩) N ∧ (m.stack.length : Int) < m.deep ∧ m.deep ≤ 16) := ⟨ok1, hd, hd16⟩
      obtain ⟨cB, b0, b1, b2, b3, hfz⟩ := CB.out
      have old : ∀ b o, b < w.heap.size → wr.cell? ⟨b, o, none⟩ = w.cell? ⟨b, o, none⟩ := fun b o hlt => hb1.cell (p := ⟨b, o, none⟩) hlt
      have cB' := (old h 5 hh).trans cB
      have b0' := (old g ((k + 1) * 4) hg).trans b0
      have b1' := (old g ((k + 1) * 4 + 1) hg).trans b1
      have b2' := (old g ((k + 1) * 4 + 2) hg).trans b2
      have b3' := (old g ((k + 1) * 4 + 3) hg).trans b3
      have fz : ∀ o, wr.frozen? ⟨g, o, none⟩ = false := fun o => (hb1.frozen (p := ⟨g, o, none⟩) hg).trans (hfz o)
      have f0 := fz ((k + 1) * 4)
      have f1 := fz ((k + 1) * 4 + 1)
      have f2 := fz ((k + 1) * 4 + 2)
      have f3 := fz ((k + 1) * 4 + 3)
      have x0 := cell_of_heap (i := 0) hm.head rfl
      have x1 := cell_of_heap (i := 1) hm.head rfl
      have x2 := cell_of_heap (i := 2) hm.head rfl
      have x3 := cell_of_heap (i := 3) hm.head rfl
      have hgX : ¬ w1.heap.size = g := by omega
      have hkI : (k : Int) + 1 < (N : Int) + 1 := by omega
      clear cB b0 b1 b2 b3 hfz old fz hm r ok hv ho0 hoq hd hd16 hb1 PL ok1 KEEP B1 CB ROOM
      go_wp2
      go_region
      go_wp2_with fail
      refine (enter_any (T1.out _ rfl).drew.here OK1.out.1 ((k : Int) + 1)).mono ?_
      rintro e w3 ⟨rfl, m2, hE, hT, hok⟩
      have T3 := (T1.out _ rfl).drew.trans hT
      have al := hE.alike
      have hlen : (m2.stack.length : Int) < m2.deep := by rw [al.stack, al.deep]; exact OK1.out.2.1
      have PU : Hid (Calls Tryz.prog 91 #[.pointer (some ⟨h, 0, none⟩), .agg #[.int .i64 2, .int .i64 ((k : Int) + 1)]] w3
        fun e w' => e = .returned (.int .i64 0) ∧ ∃ v', Turn h w3 m2 w' { m2 with vS := v', stack := m2.stack ++ [(2, (k : Int) + 1)] }) := push_room T3.here hok.stack (2, (k : Int) + 1) hlen
      have FIN : Hid (∀ w4 v', Turn h w3 m2 w4 { m2 with vS := v', stack := m2.stack ++ [(2, (k : Int) + 1)] } → ∃ vF m2 vS, EnterRel ((k : Int) + 1) (m.put (k + 1) ⟨true, vF, List.replicate j (0, 0), false, false⟩) N m2 ∧
        Turn h w m w4 { m2 with vS := vS, stack := m2.stack ++ [(2, (k : Int) + 1)] } ∧ RefM.Ok { m2 with vS := vS, stack := m2.stack ++ [(2, (k : Int) + 1)] } N) := fun w4 v' t =>
          ⟨_, m2, v', hE, T3.trans t, ⟨hok.most, hok.len, hok.small, hok.fields, by
            have h1 : m2.deep ≤ 16 := by rw [al.deep]; exact OK1.out.2.2
            simp; omega, hok.globals, hok.queue⟩⟩
      clear hE hT hok T3 al hlen T1 OK1 cB' b0' b1' b2' b3' f0 f1 f2 f3 x0 x1 x2 x3
      go_wp2_with fail
      refine PU.out.mono ?_
      rintro e w4 ⟨rfl, v', T4⟩
      have F4 := FIN.out w4 v' T4
      have FF : Hid _ := F4
      clear F4 T4 FIN PU
      go_wp2
      go_ret
      exact ⟨rfl, FF.out⟩

end Go.Proofs.YtpmkjeihbddfpabGreatDoor

