/- OUR OWN. The document's heap: enter, room. -/
import Derived.Test.YtblekkjamemloaaRefE
namespace Go.Proofs.Ytblekkjamemloaa
open Go.RowKit
set_option linter.unusedVariables false
set_option linter.unusedSimpArgs false

def othersB (m : RefM) (but : Int) (k : Nat) : Bool := m.waitsB k && decide ((k : Int) ≠ but)
def EnterRel (but : Int) (m : RefM) (N : Nat) (m' : RefM) : Prop := if m.zero ≤ countTo (othersB m but) N then SortRel but m N m' else m' = m

set_option maxHeartbeats 800000 in
theorem enter_any {w : World} {h : Nat} {m : RefM} {N : Nat} (r : RefAt w h m) (ok : m.Ok N) (but : Int) :
    Calls Try.prog 74 #[.pointer (some ⟨h, 0, none⟩), .int .i64 but] w fun e w' => e = .returned (.tuple #[]) ∧ ∃ m', EnterRel but m N m' ∧ Turn h w m w' m' ∧ m'.Ok N := by
  have hN := ok.small
  have R0 : Hid (RefAt w h m ∧ m.Ok N) := ⟨r, ok⟩
  clear r ok
  go_enter Try.func74, Try.ntmps74
  go_wp2
  go_loopw [4, 5] (fun n i wr => ∃ j : Nat, j ≤ N ∧ i = .int .i64 (j + 1) ∧ n = .int .i64 (countTo (othersB m but) j) ∧ Below w.heap.size w wr) (fun _ i _ => N + 1 - (intOf i).toNat)
  case atStart => exact ⟨0, Nat.zero_le _, rfl, rfl, Below.refl _ _⟩
  case round =>
    obtain ⟨j, hj, rfl, rfl, hb⟩ := hrel
    have T0 : Turn h w m wr m := .of_below R0.out.1 hb
    have cM : wr.cell? ⟨h, 0, none⟩ = some (.int .i64 N) := by rw [T0.here.cell.1, R0.out.2.most]
    have cZ : wr.cell? ⟨h, 3, none⟩ = some (.int .i64 m.zero) := T0.here.cell.2.2.2.1
    have hle := countTo_le (othersB m but) j
    have hsz := hb.size
    have K : Hid (Below w.heap.size w wr ∧ RefAt wr h m) := ⟨hb, T0.here⟩
    clear hb T0
    obtain ⟨c, hc⟩ : ∃ c, c = countTo (othersB m but) j := ⟨_, rfl⟩
    rw [← hc] at hle ⊢
    have HC : Hid (c = countTo (othersB m but) j) := hc
    clear hc
    by_cases hlt : j < N
    · have W1 : Hid (Calls Try.prog 49 #[.pointer (some ⟨h, 0, none⟩), .int .i64 ((j : Int) + 1)] wr fun e w' => e = .returned (.bool (m.waitsB (j + 1))) ∧ Below wr.heap.size wr w') := waits_any K.out.2 R0.out.2 (j + 1) (by omega)
      have S : Hid (countTo (othersB m but) (j + 1) = c + if m.waitsB (j + 1) && decide ((j : Int) + 1 ≠ but) then 1 else 0) := by
        show countTo (othersB m but) (j + 1) = _
        rw [countTo_succ, HC.out]; unfold othersB; simp
      go_wp2_with fail
      refine W1.out.mono ?_
      rintro e w1 ⟨rfl, hb1⟩
      have K1 : Hid (Below w.heap.size w w1) := K.out.1.trans (hb1.mono hsz)
      clear hb1 W1
      cases hw : m.waitsB (j + 1) with
      | false =>
        rw [hw] at S
        clear hw
        go_wp2
        go_roundw
        case rel => exact ⟨j + 1, by omega, by go_num, by rw [S.out]; go_num, K1.out⟩
        case measure => simp [intOf]; omega
      | true =>
        rw [hw] at S
        clear hw
        by_cases hbt : (j : Int) + 1 = but
        · have S2 : Hid (countTo (othersB m but) (j + 1) = c) := by show countTo (othersB m but) (j + 1) = c; rw [S.out]; simp [hbt]
          clear S
          subst hbt
          go_wp2
          go_roundw
          case rel => exact ⟨j + 1, by omega, by go_num, by rw [S2.out], K1.out⟩
          case measure => simp [intOf]; omega
        · have S2 : Hid (countTo (othersB m but) (j + 1) = c + 1) := by show countTo (othersB m but) (j + 1) = c + 1; rw [S.out]; simp [hbt]
          have hbt2 : ((j : Int) + 1 == but) = false := by simpa using hbt
          clear S
          go_wp2
          go_roundw
          case rel => exact ⟨j + 1, by omega, by go_num, by rw [S2.out]; go_num, K1.out⟩
          case measure => simp [intOf]; omega
    · obtain rfl : j = N := by omega
      by_cases hz : m.zero ≤ c
      · have SO : Hid (Calls Try.prog 58 #[.pointer (some ⟨h, 0, none⟩), .int .i64 but] wr fun e w' => e = .returned (.tuple #[]) ∧ ∃ m', SortRel but m j m' ∧ Turn h wr m w' m' ∧ m'.Ok j) := sort_any K.out.2 R0.out.2 but
        have E : Hid (∀ m', SortRel but m j m' → EnterRel but m j m') := fun m' hs => by unfold EnterRel; rw [if_pos (by rw [← HC.out]; exact hz)]; exact hs
        go_wp2_with fail
        refine SO.out.mono ?_
        rintro e w1 ⟨rfl, m', hs, ht, hok⟩
        have FF : Hid (∃ m', EnterRel but m j m' ∧ Turn h w m w1 m' ∧ m'.Ok j) := ⟨m', E.out m' hs, Turn.pre R0.out.1 K.out.1 ht, hok⟩
        clear hs ht hok SO E
        go_wp2
        go_end0
        exact ⟨rfl, FF.out⟩
      · have FF : Hid (∃ m', EnterRel but m j m' ∧ Turn h w m wr m' ∧ m'.Ok j) := ⟨m, by unfold EnterRel; rw [if_neg (by rw [← HC.out]; exact hz)], .of_below R0.out.1 K.out.1, R0.out.2⟩
        have hz2 : decide (m.zero ≤ (c : Int)) = false := by simpa using hz
        go_wp2
        go_end0
        exact ⟨rfl, FF.out⟩

/-- which block is free, the least, of those from 1 to k that are all taken -/
def RoomSays (m : RefM) (N : Nat) (v : Int) : Prop :=
  (v = 0 ∧ ∀ j, j < N → ∃ o, m.objs[j + 1]? = some o ∧ o.here = true) ∨
  ∃ k : Nat, k < N ∧ v = (k : Int) + 1 ∧ (∃ o, m.objs[k + 1]? = some o ∧ o.here = false) ∧ ∀ j, j < k → ∃ o, m.objs[j + 1]? = some o ∧ o.here = true

set_option maxHeartbeats 800000 in
theorem room_any {w : World} {h : Nat} {m : RefM} {N : Nat} (r : RefAt w h m) (ok : m.Ok N) :
    Calls Try.prog 76 #[.pointer (some ⟨h, 0, none⟩)] w fun e w' => ∃ v, e = .returned (.int .i64 v) ∧ RoomSays m N v ∧ w' = w := by
  obtain ⟨g, cap, hv, _, _, _, _, hobj⟩ := r.view ok
  have cM : w.cell? ⟨h, 0, none⟩ = some (.int .i64 N) := by rw [r.cell.1, ok.most]
  have cB : w.cell? ⟨h, 5, none⟩ = some (.slice (some ⟨g, 0, none⟩) (N + 1) cap) := by rw [r.cell.2.2.2.2.2.1, hv]
  have OBJ : Hid (∀ j, j < N → ∃ o : RObj, m.objs[j + 1]? = some o ∧ w.cell? ⟨g, (j + 1) * 4, none⟩ = some (.bool o.here)) := fun j hj => by
    have hi : j + 1 < m.objs.length := by rw [ok.len]; omega
    exact ⟨m.objs[j + 1], List.getElem?_eq_getElem hi, (hobj (j + 1) hi).1⟩
  have hN := ok.small
  clear hobj r ok hv
  go_enter Try.func76, Try.ntmps76
  go_wp2
  go_loop [3] (fun i => ∃ j : Nat, j ≤ N ∧ i = .int .i64 (j + 1) ∧ ∀ k, k < j → ∃ o, m.objs[k + 1]? = some o ∧ o.here = true) (fun i => N + 1 - (intOf i).toNat)
  case atStart => exact ⟨0, Nat.zero_le _, rfl, fun k hk => absurd hk (Nat.not_lt_zero _)⟩
  case round =>
    obtain ⟨j, hj, rfl, hall⟩ := hrel
    have A : Hid (∀ k, k < j → ∃ o, m.objs[k + 1]? = some o ∧ o.here = true) := hall
    clear hall
    by_cases hlt : j < N
    · obtain ⟨o, ho, c0⟩ := OBJ.out j hlt
      obtain ⟨here, vF, fs, stuck, queued⟩ := o
      simp only at c0
      have HO : Hid (m.objs[j + 1]? = some ⟨here, vF, fs, stuck, queued⟩) := ho
      clear ho
      cases here with
      | false =>
        go_wp2
        go_ret
        exact ⟨_, rfl, .inr ⟨j, hlt, rfl, ⟨_, HO.out, rfl⟩, A.out⟩, rfl⟩
      | true =>
        go_wp2
        go_round
        case rel =>
          refine ⟨j + 1, by omega, by go_num, fun k hk => ?_⟩
          by_cases hkj : k = j
          · subst hkj; exact ⟨_, HO.out, rfl⟩
          · exact A.out k (by omega)
        case measure => simp [intOf]; omega
    · obtain rfl : j = N := by omega
      go_wp2
      go_ret
      exact ⟨_, rfl, .inl ⟨rfl, A.out⟩, rfl⟩

end Go.Proofs.Ytblekkjamemloaa
