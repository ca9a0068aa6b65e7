import Derived.Test.YtpmkjeihbddfpaaGreatDoorCoDSCFB3
/- OUR OWN. The program's heap: Safepoint. -/
namespace Go.Proofs.YtpmkjeihbddfpaaGreatDoor
open Go.RowKit
set_option linter.unusedVariables false
set_option linter.unusedSimpArgs false

theorem safeN_end (z : Int) (k : Nat) (s : St) (h : k = 0 ∨ s.queue.length = 0) : safeN z k s = (s, 0) := by
  cases k with
  | zero => rfl
  | succ k =>
    rcases h with h | h
    · cases h
    · unfold safeN; rw [if_pos h]

set_option maxHeartbeats 1600000 in
theorem safepoint_any {h : Nat} {w : World} {m : HeapM} {s : St} {c : Cf} {N : Nat} (p : HB 0 h w m s c N) :
    Calls Tryz.prog 18 #[.pointer (some ⟨h, 0, none⟩)] w fun e w' => e = .returned (.int .i64 (s.safe c).2) ∧ ∃ m', HTurn h w m w' m' ∧ HS m' (s.safe c).1 c N := by
  obtain ⟨T, hT⟩ : ∃ T, s.safe c = T := ⟨_, rfl⟩
  rw [hT]
  obtain ⟨B, hB⟩ : ∃ B : Nat, c.budget = B := ⟨c.budget.toNat, by have := p.cf.budget; omega⟩
  have hB9 : B ≤ 99 := by have := p.cf.budget; omega
  have hT' : safeN c.zero B (s.sort 0) = T := by rw [← hT]; unfold St.safe; rw [hB, Int.toNat_natCast]
  have Inv : ∃ I : Nat → World → Prop, I = fun j wr => j ≤ B ∧ ∃ mr sj, HTurn h w m wr mr ∧ HB 0 h wr mr sj c N ∧ T.1 = (safeN c.zero (B - j) sj).1 ∧ T.2 = (safeN c.zero (B - j) sj).2 + j := ⟨_, rfl⟩
  obtain ⟨I, hI⟩ := Inv
  have SORT : Hid (Calls Tryz.prog 33 #[.pointer (some ⟨h, 0, none⟩)] w fun e w' => e = .returned (.tuple #[]) ∧ I 0 w') := by
    refine (sortWaiting_any p).mono ?_
    rintro e w' ⟨he, m', t, q⟩
    rw [hI]
    exact ⟨he, Nat.zero_le _, m', _, t, q, by rw [Nat.sub_zero, hT'], by rw [Nat.sub_zero, hT']; rfl⟩
  have CELL : Hid (∀ j wr, I j wr → j ≤ B ∧ wr.cell? ⟨h, 1, none⟩ = some (.int .i64 B) ∧ ∃ ao ql qc, wr.cell? ⟨h, 7, none⟩ = some (.slice ao ql qc) ∧ ql ≤ 100 ∧
      (j = B ∨ ql = 0 → ∀ W, Below wr.heap.size wr W → T.2 = j ∧ ∃ m', HTurn h w m W m' ∧ HS m' T.1 c N) ∧
      (j < B → ql ≠ 0 → ∀ W, Below wr.heap.size wr W → Calls Tryz.prog 34 #[.pointer (some ⟨h, 0, none⟩)] W fun e w' => e = .returned (.tuple #[]) ∧ I (j + 1) w')) := by
    intro j wr hi
    rw [hI] at hi
    obtain ⟨hj, mr, sj, t, q, h1, h2⟩ := hi
    obtain ⟨ao, qc, hvQ⟩ := win_slice q.r.queue
    refine ⟨hj, by rw [q.r.cellBudget, q.hs.budget, hB], ao, sj.queue.length, qc, by rw [q.r.cell.2.2.2.2.1, hvQ, q.mqueue], by have := q.good.queue_len; have := q.small; omega, fun he W hb => ?_, fun hlt hne W hb => ?_⟩
    · have e := safeN_end c.zero (B - j) sj (by omega)
      rw [e] at h1 h2
      exact ⟨by simpa using h2, mr, t.after hb, by rw [h1]; exact q.hs⟩
    · refine (freeFirst_any (q.below hb) hne).mono ?_
      rintro e w' ⟨he, m', t2, q2⟩
      rw [hI]
      obtain ⟨k, hk⟩ : ∃ k, B - j = k + 1 := ⟨B - j - 1, by omega⟩
      have hk1 : B - (j + 1) = k := by omega
      have es : safeN c.zero (B - j) sj = ((safeN c.zero k (sj.free c.zero)).1, (safeN c.zero k (sj.free c.zero)).2 + 1) := by rw [hk]; show (if _ then _ else _) = _; rw [if_neg hne]
      rw [es] at h1 h2
      exact ⟨he, by omega, m', _, (t.after hb).trans t2, q2, by rw [hk1, h1], by rw [hk1]; simp at h2; omega⟩
  clear p hT hT' hB hI
  go_enter Tryz.func18, Tryz.ntmps18
  go_wp2_with fail
  refine Calls.mono SORT.out ?_
  rintro e w1 ⟨rfl, hi⟩
  have I0 : Hid _ := hi
  clear hi SORT
  go_wp2
  go_loopw [3] (fun i wr => ∃ j : Nat, i = .int .i64 j ∧ I j wr) (fun i _ => B - (intOf i).toNat)
  case atStart => exact ⟨0, rfl, I0.out⟩
  case round =>
    obtain ⟨j, rfl, hi⟩ := hrel
    obtain ⟨hj, cB, ao, ql, qc, cQ, hql, hend, hgo⟩ := CELL.out j wr hi
    have EN : Hid _ := hend
    have GO : Hid _ := hgo
    clear hi hend hgo
    by_cases hlt : j < B
    · by_cases h0 : ql = 0
      · subst h0
        obtain ⟨hT, hm⟩ := EN.out (.inr rfl) wr (Below.refl _ _)
        have M : Hid _ := hm
        have hjI : (j : Int) < B := by omega
        clear hm EN GO
        obtain ⟨T1, T2⟩ := T
        simp only at hT M ⊢
        subst hT
        go_wp2
        go_ret
        exact ⟨rfl, M.out⟩
      · have R : Hid _ := GO.out hlt h0
        have hjI : (j : Int) < B := by omega
        have hqI : (0 : Int) < ql := by omega
        clear EN GO
        go_wp2_with fail
        refine Calls.mono (R.out _ (Below.refl _ _)) ?_
        rintro e w2 ⟨rfl, hm⟩
        have M : Hid _ := hm
        clear hm R cB cQ
        go_wp2
        go_roundw
        case rel => exact ⟨j + 1, by go_num, M.out⟩
        case measure => simp [intOf]; omega
    · obtain rfl : j = B := by omega
      obtain ⟨hT, hm⟩ := EN.out (.inl rfl) wr (Below.refl _ _)
      have M : Hid _ := hm
      clear hm EN GO
      obtain ⟨T1, T2⟩ := T
      simp only at hT M ⊢
      subst hT
      go_wp2
      go_ret
      exact ⟨rfl, M.out⟩

theorem safe_pact : SafePact HS := by
  intro x N w hm s c hat hs g cf hN h16 h8
  exact safepoint_any ⟨hat, hs, g, cf, hN, h16, h8⟩

end Go.Proofs.YtpmkjeihbddfpaaGreatDoor

