import Derived.Test.YtpmkjeihbddfpabGreatDoorAllB5
/- OUR OWN. The document's heap: Safepoint, exact. -/
namespace Go.Proofs.YtpmkjeihbddfpabGreatDoor
open Go.RowKit
set_option linter.unusedVariables false
set_option linter.unusedSimpArgs false

theorem sort_do {h N : Nat} {w : World} {m : RefM} (p : RPre h N w m) (but : Int) :
    Calls Tryz.prog 26 #[.pointer (some ⟨h, 0, none⟩), .int .i64 but] w fun e w' => e = .returned (.tuple #[]) ∧ ∃ m', RStep h N w m w' m' ∧ m'.st = m.st.sort but := by
  refine (sort_any p.r p.ok but).mono ?_
  rintro e w' ⟨he, m', hS, hT, hok⟩
  refine ⟨he, m', ⟨hT, hok, hS.alike.cf, hS.clean p.clean⟩, ?_⟩
  rw [hS.st]; unfold St.sort; rw [st_N p.ok]

/-- in the midst of a safepoint: j are freed -/
structure Sf (h N : Nat) (w : World) (m : RefM) (B : Nat) (fin : St × Nat) (j : Nat) (W : World) (m1 : RefM) : Prop where
  pre : RPre h N W m1
  step : RStep h N w m W m1
  good : m1.st.Good N
  le : j ≤ B
  st : (safeN m.zero (B - j) m1.st).1 = fin.1
  n : (safeN m.zero (B - j) m1.st).2 + j = fin.2

theorem Sf.done {h N : Nat} {w : World} {m : RefM} {B : Nat} {fin : St × Nat} {j : Nat} {W : World} {m1 : RefM} (t : Sf h N w m B fin j W m1) (hd : ¬ (j < B ∧ m1.queue.length ≠ 0)) : m1.st = fin.1 ∧ j = fin.2 := by
  have e : safeN m.zero (B - j) m1.st = (m1.st, 0) := by
    cases k : B - j with
    | zero => rfl
    | succ k => unfold safeN; exact if_pos (by show m1.queue.length = 0; have : j < B := by omega
                                               exact Classical.byContradiction fun hn => hd ⟨this, hn⟩)
  have h1 := t.st
  have h2 := t.n
  rw [e] at h1 h2
  exact ⟨h1, by simpa using h2⟩
theorem Sf.next {h N : Nat} {w : World} {m : RefM} {B : Nat} {fin : St × Nat} {j : Nat} {W W' : World} {m1 m2 : RefM} (t : Sf h N w m B fin j W m1) (hj : j < B) (hq : m1.queue.length ≠ 0) (s : RStep h N W m1 W' m2) (st : m2.st = m1.st.free m1.zero) : Sf h N w m B fin (j + 1) W' m2 := by
  have hz : m1.zero = m.zero := congrArg Cf.zero t.step.cf
  have g2 : m2.st.Good N := by rw [st]; exact t.good.freed _ hq
  have e : safeN m.zero (B - j) m1.st = ((safeN m.zero (B - (j + 1)) m2.st).1, (safeN m.zero (B - (j + 1)) m2.st).2 + 1) := by
    rw [show B - j = (B - (j + 1)) + 1 by omega, st, hz]
    show safeN m.zero (B - (j + 1) + 1) m1.st = _
    conv => lhs; unfold safeN
    exact if_neg hq
  have h1 := t.st
  have h2 := t.n
  rw [e] at h1 h2
  have h3 : (safeN m.zero (B - (j + 1)) m2.st).2 + 1 + j = fin.2 := h2
  exact ⟨s.pre t.pre g2.inv, t.step.trans s, g2, hj, h1, by omega⟩

set_option maxHeartbeats 1600000 in
theorem safe_any {h N : Nat} {w : World} {m : RefM} (p : RPre h N w m) (gd : m.st.Good N) (hbd : m.budget ≤ 99) :
    Calls Tryz.prog 11 #[.pointer (some ⟨h, 0, none⟩)] w fun e w' => e = .returned (.int .i64 (m.st.safe m.cf).2) ∧ ∃ m', RStep h N w m w' m' ∧ m'.st = (m.st.safe m.cf).1 := by
  obtain ⟨B, hB⟩ : ∃ B, m.budget.toNat = B := ⟨_, rfl⟩
  obtain ⟨fin, hfin⟩ : ∃ fin, m.st.safe m.cf = fin := ⟨_, rfl⟩
  have SORT : Hid (Calls Tryz.prog 26 #[.pointer (some ⟨h, 0, none⟩), .int .i64 0] w fun e w' => e = .returned (.tuple #[]) ∧ ∃ m', Sf h N w m B fin 0 w' m') := by
    refine (sort_do p 0).mono ?_
    rintro e w' ⟨he, m', s, st⟩
    have g' : m'.st.Good N := by rw [st]; exact gd.sort 0
    have e : fin = safeN m.zero B (m.st.sort 0) := by rw [← hfin, ← hB]; rfl
    exact ⟨he, m', s.pre p g'.inv, s, g', Nat.zero_le _, by rw [Nat.sub_zero, st, e], by rw [Nat.sub_zero, st, e]; rfl⟩
  rw [hfin]
  have FACT : Hid (∀ j W m1, Sf h N w m B fin j W m1 → W.cell? ⟨h, 2, none⟩ = some (.int .i64 m.budget) ∧ ∃ ao cp, W.cell? ⟨h, 6, none⟩ = some (.slice ao m1.queue.length cp)) := fun j W m1 t => by
    have hb : m1.budget = m.budget := congrArg Cf.budget t.step.cf
    obtain ⟨ao, cp, hv⟩ := win_slice t.pre.r.queue
    exact ⟨by rw [t.pre.r.cell.2.2.1, hb], ao, cp, by rw [t.pre.r.cell.2.2.2.2.2.2.1, hv]⟩
  have FREE : Hid (∀ j W m1, Sf h N w m B fin j W m1 → j < B → m1.queue.length ≠ 0 → ∀ W1, Below W.heap.size W W1 → Calls Tryz.prog 27 #[.pointer (some ⟨h, 0, none⟩)] W1 fun e w' => e = .returned (.tuple #[]) ∧ ∃ m2, Sf h N w m B fin (j + 1) w' m2) := fun j W m1 t hj hq W1 hb => by
    refine (free_any (t.pre.below hb) t.good hq).mono ?_
    rintro e w' ⟨he, m2, s, st, _⟩
    exact ⟨he, m2, Sf.next ⟨t.pre.below hb, t.step.after hb, t.good, t.le, t.st, t.n⟩ hj hq s st⟩
  obtain ⟨bud, hbud⟩ : ∃ bud, m.budget = bud := ⟨_, rfl⟩
  rw [hbud] at hbd hB FACT
  have LT : Hid (∀ j : Nat, ((j : Int) < bud ↔ j < B)) := fun j => by omega
  have hB99 : B ≤ 99 := by omega
  have LEN : Hid (∀ W m1, RefAt W h m1 → m1.Ok N → m1.queue.length ≤ 100) := fun W m1 r ok => by
    have h1 := ok.queue
    have h2 : m1.objs.countP RObj.queued ≤ m1.objs.length := List.countP_le_length
    have := ok.len; have := ok.small; omega
  clear p gd hfin hbud hB
  go_enter Tryz.func11, Tryz.ntmps11
  go_wp2_with fail
  refine SORT.out.mono ?_
  rintro e w1 ⟨rfl, m1, t1⟩
  have T1 : Hid (Sf h N w m B fin 0 w1 m1) := t1
  clear t1 SORT
  go_wp2
  go_loopw [3] (fun i wr => ∃ (j : Nat) (m1 : RefM), i = .int .i64 j ∧ Sf h N w m B fin j wr m1) (fun i _ => B - (intOf i).toNat)
  case atStart => exact ⟨0, m1, rfl, T1.out⟩
  case round =>
    obtain ⟨j, m2, rfl, t⟩ := hrel
    have T : Hid (Sf h N w m B fin j wr m2) := t
    have hjB := t.le
    have hql := LEN.out wr m2 t.pre.r t.pre.ok
    obtain ⟨c2, ao, cp, c6⟩ := FACT.out j wr m2 t
    obtain ⟨ql, hqe⟩ : ∃ ql, m2.queue.length = ql := ⟨_, rfl⟩
    rw [hqe] at c6 hql
    have QE : Hid (m2.queue.length = ql) := hqe
    clear t hqe T1
    by_cases hj : j < B
    · have hjI : (j : Int) < bud := (LT.out j).2 hj
      have hjd : decide ((j : Int) < bud) = true := by simpa using hjI
      by_cases hq : ql = 0
      · have hqI : ¬ (0 : Int) < ql := by omega
        have hqd : decide ((0 : Int) < ql) = false := by simpa using hqI
        have R : Hid (m2.st = fin.1 ∧ j = fin.2) := T.out.done fun h2 => h2.2 (by rw [QE.out]; exact hq)
        go_wp2
        go_ret
        exact ⟨ret_int (congrArg Int.ofNat R.out.2), m2, T.out.step, R.out.1⟩
      · have hqI : (0 : Int) < ql := by omega
        have hqd : decide ((0 : Int) < ql) = true := by simpa using hqI
        have F : Hid _ := FREE.out j wr m2 T.out hj (by rw [QE.out]; exact hq) wr (Below.refl _ _)
        go_wp2_with fail
        refine Calls.mono F.out ?_
        rintro e w3 ⟨rfl, m3, t3⟩
        have T3 : Hid (Sf h N w m B fin (j + 1) w3 m3) := t3
        clear t3 F
        go_wp2
        go_roundw
        case rel => exact ⟨j + 1, m3, by go_num, T3.out⟩
        case measure => simp [intOf]; omega
    · have hjI : ¬ (j : Int) < bud := fun hn => hj ((LT.out j).1 hn)
      have hjd : decide ((j : Int) < bud) = false := by simpa using hjI
      have R : Hid (m2.st = fin.1 ∧ j = fin.2) := T.out.done fun h2 => hj h2.1
      go_wp2
      go_ret
      exact ⟨ret_int (congrArg Int.ofNat R.out.2), m2, T.out.step, R.out.1⟩

end Go.Proofs.YtpmkjeihbddfpabGreatDoor

