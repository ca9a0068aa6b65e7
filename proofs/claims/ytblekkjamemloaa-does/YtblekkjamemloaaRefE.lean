/- OUR OWN. The document's heap: queued, sort, enter, room. -/
import Derived.Test.YtblekkjamemloaaRefD
namespace Go.Proofs.Ytblekkjamemloaa
open Go.RowKit
set_option linter.unusedVariables false
set_option linter.unusedSimpArgs false

/-- the object in block i is in the queue -/
def qset (l : List RObj) (i : Nat) : List RObj := match l[i]? with
  | some o => l.set i { o with queued := true }
  | none => l
theorem qset_eq {l : List RObj} {i : Nat} {o : RObj} (h : l[i]? = some o) : qset l i = l.set i { o with queued := true } := by unfold qset; rw [h]
def RefM.enq (m : RefM) (i : Nat) (v : Value) : RefM := { m with objs := qset m.objs i, queue := m.queue ++ [(i : Int)], vQ := v }

theorem map_set_same {α β : Type} (f : α → β) (l : List α) (i : Nat) (o o' : α) (h : l[i]? = some o) (hf : f o' = f o) : (l.set i o').map f = l.map f := by
  rw [List.map_set, hf]
  have : (l.map f)[i]? = some (f o) := by rw [List.getElem?_map, h]; rfl
  refine List.ext_getElem? fun j => ?_
  rw [List.getElem?_set]
  split
  · rename_i e
    subst e
    split
    · exact this.symm
    · rename_i hn
      rw [List.getElem?_eq_none (by simpa using hn)]
  · rfl

theorem RefAt.flagged {w : World} {h : Nat} {m : RefM} {N : Nat} (r : RefAt w h m) (ok : m.Ok N) {g cap : Nat} (hv : m.vB = .slice (some ⟨g, 0, none⟩) (N + 1) cap) (i : Nat) {o : RObj} (hi : m.objs[i]? = some o) (o' : RObj) (j : Nat) (hj : j < 4) (u : Value)
    (hc : o'.cells = o.cells.set j u) (hr : o'.row = o.row) :
    Turn h w m (w.setCell ⟨g, i * 4 + j, none⟩ u) { m with objs := m.objs.set i o' } := by
  have hob : m.vB.ownBlock = some g := by rw [hv]; rfl
  have hgh : g ≠ h := fun e => r.ne (x := ⟨81, 4, m.vB, m.objs.length, m.objs.flatMap RObj.cells⟩) (by simp [RefM.rows]) (by rw [← e]; exact hob)
  refine r.turn 0 ⟨81, 4, m.vB, m.objs.length, m.objs.flatMap RObj.cells⟩ ⟨81, 4, m.vB, (m.objs.set i o').length, (m.objs.set i o').flatMap RObj.cells⟩ rfl ?_ ?_ ?_ ?_ ?_
  · simp only [RefM.rows, List.set_cons_zero, map_set_same RObj.row m.objs i o o' hi hr]
  · rw [hso (fun e => hgh e.symm)]; exact r.head
  · have hb := r.blocks
    show (w.setCell _ u).ownsRow 0 _ 4 m.vB (m.objs.set i o').length _
    rw [List.length_set, flat_set RObj.cells 4 (fun _ => rfl) m.objs i j hj o u hi o' hc]
    rw [hv, ok.len] at hb ⊢
    exact (hb.stored (i * 4 + j) u).1
  · intro x hx
    exact .inl hx
  · exact (off_setCell w g (i * 4 + j) u).mono (fun x hx => by simp at hx; subst hx; exact List.mem_cons_of_mem _ (by simp [SRow.ob, hob]))

theorem RefAt.enqueued {w w1 : World} {h : Nat} {m : RefM} (r : RefAt w h m) {g cap : Nat} (x : Int)
    (hown : w1.ownsRow 0 3 1 (.slice (some ⟨g, 0, none⟩) (m.queue.length + 1) cap) (m.queue.length + 1) (m.queue.map (Value.int .i64) ++ [.int .i64 x]))
    (hgr : w.grownBy w1 m.vQ.ownBlock) (hlie : m.vQ.ownBlock = some g ∨ g = w.heap.size) :
    Turn h w m (w1.setCell ⟨h, 6, none⟩ (.slice (some ⟨g, 0, none⟩) (m.queue.length + 1) cap)) { m with vQ := .slice (some ⟨g, 0, none⟩) (m.queue.length + 1) cap, queue := m.queue ++ [x] } := by
  have hh := lt_of_heap r.head
  have hne : m.vQ.ownBlock ≠ some h := r.ne (x := ⟨3, 1, m.vQ, m.queue.length, m.queue.map (Value.int .i64)⟩) (by simp [RefM.rows])
  have hgh : g ≠ h := fun e => by
    rcases hlie with e1 | e1
    · exact hne (by rw [e1, e])
    · omega
  have hh1 : w1.heap[h]? = some m.head := by rw [hgr.block h hh (fun e => hne e.symm)]; exact r.head
  refine r.turn 1 ⟨3, 1, m.vQ, m.queue.length, m.queue.map (Value.int .i64)⟩ ⟨3, 1, .slice (some ⟨g, 0, none⟩) (m.queue.length + 1) cap, (m.queue ++ [x]).length, (m.queue ++ [x]).map (Value.int .i64)⟩ rfl rfl ?_ ?_ ?_ ?_
  · rw [heap_setCell_at hh1]; rfl
  · show (w1.setCell ⟨h, 6, none⟩ _).ownsRow 0 _ 1 _ (m.queue ++ [x]).length ((m.queue ++ [x]).map (Value.int .i64))
    rw [List.map_append, List.length_append, List.length_singleton]
    exact own_carry hown fun j hj => hso (k := j) (b := h) (fun e => hgh ((Option.some.inj hj).trans e))
  · intro j hj
    have hj' : j = g := by simpa [SRow.ob, Value.ownBlock, eq_comm] using hj
    subst hj'
    rcases hlie with e1 | e1
    · exact .inl e1
    · exact .inr (by omega)
  · exact ((off_grown hgr).mono (fun y hy => List.mem_cons_of_mem _ hy)).trans ((off_setCell w1 h 6 _).mono (by simp))

theorem countP_set {l : List RObj} {i : Nat} {o : RObj} (h : l[i]? = some o) (hq : o.queued = false) : (qset l i).countP RObj.queued = l.countP RObj.queued + 1 := by
  rw [qset_eq h]
  induction l generalizing i with
  | nil => simp at h
  | cons a l ih =>
    cases i with
    | zero => simp at h; subst h; simp [List.countP_cons, hq]
    | succ i => simp at h; rw [List.set_cons_succ, List.countP_cons, List.countP_cons, ih h]; omega

theorem RefM.Ok.enq {m : RefM} {N : Nat} (ok : m.Ok N) {i : Nat} {o : RObj} (h : m.objs[i]? = some o) (hq : o.queued = false) (v : Value) : (m.enq i v).Ok N := by
  refine ⟨ok.most, ?_, ok.small, ?_, ok.stack, ok.globals, ?_⟩
  · show (qset m.objs i).length = _
    rw [qset_eq h, List.length_set]; exact ok.len
  · intro x hx
    have hx' : x ∈ m.objs.set i { o with queued := true } := by rw [← qset_eq h]; exact hx
    rcases List.mem_or_eq_of_mem_set hx' with e | e
    · exact ok.fields x e
    · subst e; exact ok.fields o (List.mem_of_getElem? h)
  · show (m.queue ++ [(i : Int)]).length ≤ (qset m.objs i).countP RObj.queued
    rw [countP_set h hq, List.length_append, List.length_singleton]
    have := ok.queue; omega

theorem infoInt : (Try.prog.info? 3).map (fun i => (i.zero, i.size, i.bytes)) = some (some (.int .i64 0), 1, 8) := by kernel_rfl

set_option maxHeartbeats 800000 in
theorem queued_any {w : World} {h : Nat} {m : RefM} {N : Nat} (r : RefAt w h m) (ok : m.Ok N) (i : Nat) (hi : i ≤ N) :
    Calls Try.prog 73 #[.pointer (some ⟨h, 0, none⟩), .int .i64 i] w fun e w' => e = .returned (.tuple #[]) ∧ ∃ v', Turn h w m w' (m.enq i v') := by
  obtain ⟨g, cap, hv, hg, hgh, hob, hfz, hobj⟩ := r.view ok
  have hil : i < m.objs.length := by rw [ok.len]; omega
  have hio : m.objs[i]? = some m.objs[i] := List.getElem?_eq_getElem hil
  have c3 := (hobj i hil).2.2.2
  have cB : w.cell? ⟨h, 5, none⟩ = some (.slice (some ⟨g, 0, none⟩) (N + 1) cap) := by rw [r.cell.2.2.2.2.2.1, hv]
  have f3 := hfz (i * 4 + 3)
  have T1 := r.flagged ok hv i hio { m.objs[i] with queued := true } 3 (by decide) (.bool true) rfl rfl
  have hql : m.queue.length ≤ 100 := by
    have h1 := ok.queue
    have h2 : m.objs.countP RObj.queued ≤ m.objs.length := List.countP_le_length
    have := ok.len; have := ok.small; omega
  obtain ⟨ao, cp, hq⟩ := own_slice r.queue
  have r1 := T1.here
  have cQ : (w.setCell ⟨g, i * 4 + 3, none⟩ (.bool true)).cell? ⟨h, 6, none⟩ = some (.slice ao m.queue.length cp) := by rw [← hq]; exact r1.cell.2.2.2.2.2.2.1
  have hne : m.vQ.ownBlock ≠ some h := r.ne (x := ⟨3, 1, m.vQ, m.queue.length, m.queue.map (Value.int .i64)⟩) (by simp [RefM.rows])
  have FIN : Hid (∀ W w1 g' cap', Below (w.setCell ⟨g, i * 4 + 3, none⟩ (.bool true)).heap.size (w.setCell ⟨g, i * 4 + 3, none⟩ (.bool true)) W → w1.ownsRow 0 3 1 (.slice (some ⟨g', 0, none⟩) (m.queue.length + 1) cap') (m.queue.length + 1) (m.queue.map (Value.int .i64) ++ [.int .i64 i]) →
    W.grownBy w1 m.vQ.ownBlock → (m.vQ.ownBlock = some g' ∨ g' = W.heap.size) → Turn h w m (w1.setCell ⟨h, 6, none⟩ (.slice (some ⟨g', 0, none⟩) (m.queue.length + 1) cap')) (m.enq i (.slice (some ⟨g', 0, none⟩) (m.queue.length + 1) cap')) ∧
      w1.cell? ⟨h, 6, none⟩ = some m.vQ ∧ w1.frozen? ⟨h, 6, none⟩ = false) := by
    intro W w1 g' cap' hb ho hgr hl
    have r2 : RefAt W h _ := r1.carry fun y hy => hb.block y (r1.lt y hy)
    have hh1 : w1.heap[h]? = some m.head := by rw [hgr.block h (lt_of_heap r2.head) (fun e => hne e.symm)]; exact r2.head
    have T2 := (T1.after hb).trans (r2.enqueued (i : Int) ho hgr hl)
    refine ⟨?_, cell_of_heap hh1 rfl, frozen_of_heap hh1⟩
    unfold RefM.enq
    rw [qset_eq hio]
    exact T2
  have OWN : Hid (∀ W, Below (w.setCell ⟨g, i * 4 + 3, none⟩ (.bool true)).heap.size (w.setCell ⟨g, i * 4 + 3, none⟩ (.bool true)) W → W.ownsRow 0 3 1 m.vQ m.queue.length (m.queue.map (Value.int .i64))) :=
    fun W hb => own_carry r1.queue fun j hj => hb.block j (own_lt r1.queue hj).2
  have hsz : (w.setCell ⟨g, i * 4 + 3, none⟩ (.bool true)).heap.size = w.heap.size := by simp [World.setCell]
  rw [hq] at FIN OWN
  obtain ⟨len, hlen⟩ : ∃ len, m.queue.length = len := ⟨_, rfl⟩
  rw [hlen] at cQ hql FIN OWN
  have hN := ok.small
  have hiI : (i : Int) < (N : Int) + 1 := by omega
  obtain ⟨qd, hqd⟩ : ∃ qd, (m.objs[i]).queued = qd := ⟨_, rfl⟩
  rw [hqd] at c3
  clear r r1 T1 hv hobj hob hfz hio hq hlen hne ok hqd hil
  go_enter Try.func73, Try.ntmps73
  obtain ⟨i1, hi1, hy0, hy1, hy2⟩ := info_parts infoInt
  go_wp2_with (at_builtin; refine wpList_append_lies _ rfl (.tmp 15) (.tmp 17) 28 rfl 0 3 i1 _ 1 8 Try.underlying28 hi1 hy0 hy1 hy2 rfl (by decide) _ _ _ rfl (OWN.out _ ((Below.refl _ _).alloc (Nat.le_refl _) _)) ⟨w.heap.size, 0, none⟩ 1 1 [.int .i64 i] rfl rfl ?c1 ?c2 (by decide) ?c3 ?c4 (Nat.zero_le _) (w.heap.size + 1) (by simp [hsz]) ?_)
  case c1 => have := news_new (w.setCell ⟨g, i * 4 + 3, none⟩ (.bool true)) [.int .i64 i] 3; rw [hsz] at this; exact this
  case c2 => intro u hu; simp at hu; subst hu; rfl
  case c3 => unfold maxLen; omega
  case c4 => omega
  intro g' cap1 w1 hown hgr hlie _
  obtain ⟨T, hc, hf⟩ := FIN.out _ w1 g' cap1 ((Below.refl _ _).alloc (Nat.le_refl _) _) hown hgr (by rw [show ((w.setCell ⟨g, i * 4 + 3, none⟩ (.bool true)).alloc (.cells #[.int .i64 (i : Int)] 3)).heap.size = w.heap.size + 1 by simp [hsz]]; exact hlie)
  have TT : Hid _ := T
  clear hown hgr hlie FIN OWN T hi1 hy0 hy1 hy2
  go_wp2
  go_end0
  exact ⟨rfl, _, TT.out⟩

def sortB (m : RefM) (but : Int) (k : Nat) : Bool := m.waitsB k && !m.rootedB k && decide ((k : Int) ≠ but)

/-- what a sorting has done behind block k -/
def SortRel (but : Int) (m : RefM) : Nat → RefM → Prop
  | 0, m' => m' = m
  | k + 1, m' => ∃ m1, SortRel but m k m1 ∧ ((sortB m1 but (k + 1) = true ∧ ∃ v, m' = m1.enq (k + 1) v) ∨ (sortB m1 but (k + 1) = false ∧ m' = m1))

set_option maxHeartbeats 800000 in
theorem sort_any {w : World} {h : Nat} {m : RefM} {N : Nat} (r : RefAt w h m) (ok : m.Ok N) (but : Int) :
    Calls Try.prog 58 #[.pointer (some ⟨h, 0, none⟩), .int .i64 but] w fun e w' => e = .returned (.tuple #[]) ∧ ∃ m', SortRel but m N m' ∧ Turn h w m w' m' ∧ m'.Ok N := by
  have hN := ok.small
  have R0 : Hid (RefAt w h m ∧ m.Ok N) := ⟨r, ok⟩
  have cM0 : w.cell? ⟨h, 0, none⟩ = some (.int .i64 N) := by rw [r.cell.1, ok.most]
  clear r ok
  go_enter Try.func58, Try.ntmps58
  go_wp2
  go_loopw [4] (fun i wr => ∃ (j : Nat) (m1 : RefM), j ≤ N ∧ i = .int .i64 (j + 1) ∧ SortRel but m j m1 ∧ Turn h w m wr m1 ∧ m1.Ok N) (fun i _ => N + 1 - (intOf i).toNat)
  case atStart => exact ⟨0, m, Nat.zero_le _, rfl, rfl, Turn.refl R0.out.1, R0.out.2⟩
  case round =>
    obtain ⟨j, m1, hj, rfl, hS, hT, hok⟩ := hrel
    have cM : wr.cell? ⟨h, 0, none⟩ = some (.int .i64 N) := by rw [hT.here.cell.1, hok.most]
    have K : Hid (SortRel but m j m1 ∧ Turn h w m wr m1 ∧ m1.Ok N) := ⟨hS, hT, hok⟩
    clear hS hT hok cM0
    by_cases hlt : j < N
    · have W1 : Hid (Calls Try.prog 49 #[.pointer (some ⟨h, 0, none⟩), .int .i64 ((j : Int) + 1)] wr fun e w' => e = .returned (.bool (m1.waitsB (j + 1))) ∧ Below wr.heap.size wr w') := waits_any K.out.2.1.here K.out.2.2 (j + 1) (by omega)
      go_wp2_with fail
      refine W1.out.mono ?_
      rintro e w1 ⟨rfl, hb1⟩
      have T1 := K.out.2.1.after hb1
      have X1 : Hid (Calls Try.prog 72 #[.pointer (some ⟨h, 0, none⟩), .int .i64 ((j : Int) + 1)] w1 fun e w' => e = .returned (.bool (m1.rootedB ((j : Int) + 1))) ∧ w' = w1) := rooted_any T1.here K.out.2.2 ((j : Int) + 1)
      have K1 : Hid (Turn h w m w1 m1) := T1
      clear T1 hb1 W1
      go_wp2_with fail
      refine X1.out.mono ?_
      rintro e w2 ⟨rfl, hw2⟩
      subst hw2
      have cM2 : w2.cell? ⟨h, 0, none⟩ = some (.int .i64 N) := by rw [K1.out.here.cell.1, K.out.2.2.most]
      clear X1
      have Q1 : Hid (Calls Try.prog 73 #[.pointer (some ⟨h, 0, none⟩), .int .i64 ((j : Int) + 1)] w2 fun e w' => e = .returned (.tuple #[]) ∧ ∃ v', Turn h w2 m1 w' (m1.enq (j + 1) v')) := queued_any K1.out.here K.out.2.2 (j + 1) (by omega)
      have HB : Hid (sortB m1 but (j + 1) = (m1.waitsB (j + 1) && !m1.rootedB ((j : Int) + 1) && decide ((j : Int) + 1 ≠ but))) := by show sortB m1 but (j + 1) = _; unfold sortB; simp
      have NOQ : Hid (m1.waitsB (j + 1) = true → ∃ o, m1.objs[j + 1]? = some o ∧ o.queued = false) := by
        intro hw
        unfold RefM.waitsB at hw
        cases ho : m1.objs[j + 1]? with
        | none => rw [ho] at hw; cases hw
        | some o => rw [ho] at hw; simp at hw; exact ⟨o, rfl, hw.1.2⟩
      have IDLE : Hid (sortB m1 but (j + 1) = false → ∃ (j' : Nat) (m' : RefM), j' ≤ N ∧ (.int .i64 ((j : Int) + 1 + 1) : Value) = .int .i64 (j' + 1) ∧ SortRel but m j' m' ∧ Turn h w m w2 m' ∧ m'.Ok N) := fun hb => ⟨j + 1, m1, by omega, by go_num, ⟨m1, K.out.1, .inr ⟨hb, rfl⟩⟩, K1.out, K.out.2.2⟩
      cases hw : m1.waitsB (j + 1) with
      | false =>
        rw [hw] at HB
        have I := IDLE.out (by rw [HB.out]; rfl)
        have II : Hid _ := I
        clear I IDLE NOQ HB hw Q1 K1 K R0
        go_wp2
        go_roundw
        case rel => exact II.out
        case measure => simp [intOf]; omega
      | true =>
        cases hr : m1.rootedB ((j : Int) + 1) with
        | true =>
          rw [hw, hr] at HB
          have I := IDLE.out (by rw [HB.out]; rfl)
          have II : Hid _ := I
          clear I IDLE NOQ HB hw hr Q1 K1 K R0
          go_wp2
          go_roundw
          case rel => exact II.out
          case measure => simp [intOf]; omega
        | false =>
          rw [hw, hr] at HB
          by_cases hbt : (j : Int) + 1 = but
          · have I := IDLE.out (by rw [HB.out]; simp [hbt])
            have II : Hid _ := I
            have hbt2 : ((j : Int) + 1 == but) = true := by simpa using hbt
            clear I IDLE NOQ HB hw hr Q1 K1 K R0
            subst hbt
            go_wp2
            go_roundw
            case rel => exact II.out
            case measure => simp [intOf]; omega
          · have hbt2 : ((j : Int) + 1 == but) = false := by simpa using hbt
            obtain ⟨o, ho1, ho2⟩ := NOQ.out hw
            have FIN : Hid (∀ w3 v', Turn h w2 m1 w3 (m1.enq (j + 1) v') → ∃ (j' : Nat) (m' : RefM), j' ≤ N ∧ (.int .i64 ((j : Int) + 1 + 1) : Value) = .int .i64 (j' + 1) ∧ SortRel but m j' m' ∧ Turn h w m w3 m' ∧ m'.Ok N) :=
              fun w3 v' t => ⟨j + 1, m1.enq (j + 1) v', by omega, by go_num, ⟨m1, K.out.1, .inl ⟨by rw [HB.out]; simp [hbt], v', rfl⟩⟩, K1.out.trans t, K.out.2.2.enq ho1 ho2 v'⟩
            clear IDLE NOQ HB hw hr K1 K R0 ho1 ho2
            go_wp2_with fail
            refine Q1.out.mono ?_
            rintro e w3 ⟨rfl, v', T3⟩
            have F3 := FIN.out w3 v' T3
            have FF : Hid _ := F3
            clear F3 T3 FIN Q1
            go_wp2
            go_roundw
            case rel => exact FF.out
            case measure => simp [intOf]; omega
    · obtain rfl : j = N := by omega
      go_wp2
      go_end0
      exact ⟨rfl, m1, K.out.1, K.out.2.1, K.out.2.2⟩

end Go.Proofs.Ytblekkjamemloaa
