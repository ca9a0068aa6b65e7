/- OUR OWN. May, num, pick. -/
import Derived.Test.YtblekkjamemloaaBase
namespace Go.Proofs.Ytblekkjamemloaa
open Go.RowKit

theorem num_any (e : Int) (w : World) :
    Calls Try.prog 52 #[.int .i64 e] w fun r w' => r = .returned (.int .i64 e) ∧ w' = w := by
  go_enter Try.func52, Try.ntmps52
  go_wp2
  go_ret
  exact ⟨rfl, rfl⟩

/-- which of n things the raw number c speaks of -/
def pickN (c : Int) (n : Nat) : Nat := ((if c < 0 then -(c + 1) else c) % n).toNat

theorem pickN_lt (c : Int) (n : Nat) (h : 0 < n) : pickN c n < n := by
  unfold pickN
  have := Int.emod_lt_of_pos (if c < 0 then -(c + 1) else c) (show (0 : Int) < n by omega)
  omega

set_option maxHeartbeats 400000 in
theorem pick_any (c : Int) (n : Nat) (w : World) (hc : -9223372036854775808 ≤ c ∧ c ≤ 9223372036854775807) (hn : 0 < n) (hm : n ≤ 2000000000000) :
    Calls Try.prog 33 #[.int .i64 c, .int .i64 n] w fun r w' => r = .returned (.int .i64 (pickN c n)) ∧ w' = w := by
  obtain ⟨c1, c2⟩ := hc
  have hp : (0 : Int) < n := by omega
  have hne : ((n : Int) == 0) = false := by simp; omega
  by_cases h : c < 0
  · have e : (pickN c n : Int) = -((c + 1).tmod n) := by
      rw [← Int.neg_tmod, Int.tmod_eq_emod_of_nonneg (by omega)]
      unfold pickN; rw [if_pos h]; have := Int.emod_nonneg (-(c + 1)) (show (n : Int) ≠ 0 by omega); omega
    have E : Hid ((pickN c n : Int) = -((c + 1).tmod n)) := e
    clear e
    go_enter Try.func33, Try.ntmps33
    go_wp2
    go_ret
    rw [E.out]
    exact ⟨rfl, rfl⟩
  · have e : (pickN c n : Int) = c % n := by
      unfold pickN; rw [if_neg h]; have := Int.emod_nonneg c (show (n : Int) ≠ 0 by omega); omega
    have E : Hid ((pickN c n : Int) = c % n) := e
    clear e
    go_enter Try.func33, Try.ntmps33
    go_wp2
    go_ret
    rw [E.out]
    exact ⟨rfl, rfl⟩

set_option maxHeartbeats 800000 in
theorem may_yes (b s g u z o : Int) (w : World) (h : cfgB b s g u z o = true) :
    Calls Try.prog 51 #[.int .i64 b, .int .i64 s, .int .i64 g, .int .i64 u, .int .i64 z, .int .i64 o] w
      fun e w' => e = .returned (.bool true) ∧ w' = w := by
  have ⟨h1, h2, h3, h4, h5, h6, h7, h8, h9, h10, h11, h12⟩ : 1 ≤ b ∧ b ≤ 99 ∧ 1 ≤ s ∧ s ≤ 16 ∧ 0 ≤ g ∧ g ≤ 8 ∧ 1 ≤ u ∧ u ≤ 99 ∧ s + g < z ∧ z ≤ 99 ∧ 0 ≤ o ∧ o ≤ 9 := by simpa [cfgB] using h
  clear h
  go_enter Try.func51, Try.ntmps51
  go_wp2
  go_ret
  exact ⟨rfl, rfl⟩

theorem cfg_cases {b s g u z o : Int} (h : cfgB b s g u z o = false) :
    (b < 1) ∨
    (1 ≤ b ∧ 99 < b) ∨
    (1 ≤ b ∧ b ≤ 99 ∧ s < 1) ∨
    (1 ≤ b ∧ b ≤ 99 ∧ 1 ≤ s ∧ 16 < s) ∨
    (1 ≤ b ∧ b ≤ 99 ∧ 1 ≤ s ∧ s ≤ 16 ∧ g < 0) ∨
    (1 ≤ b ∧ b ≤ 99 ∧ 1 ≤ s ∧ s ≤ 16 ∧ 0 ≤ g ∧ 8 < g) ∨
    (1 ≤ b ∧ b ≤ 99 ∧ 1 ≤ s ∧ s ≤ 16 ∧ 0 ≤ g ∧ g ≤ 8 ∧ u < 1) ∨
    (1 ≤ b ∧ b ≤ 99 ∧ 1 ≤ s ∧ s ≤ 16 ∧ 0 ≤ g ∧ g ≤ 8 ∧ 1 ≤ u ∧ 99 < u) ∨
    (1 ≤ b ∧ b ≤ 99 ∧ 1 ≤ s ∧ s ≤ 16 ∧ 0 ≤ g ∧ g ≤ 8 ∧ 1 ≤ u ∧ u ≤ 99 ∧ z ≤ s + g) ∨
    (1 ≤ b ∧ b ≤ 99 ∧ 1 ≤ s ∧ s ≤ 16 ∧ 0 ≤ g ∧ g ≤ 8 ∧ 1 ≤ u ∧ u ≤ 99 ∧ s + g < z ∧ 99 < z) ∨
    (1 ≤ b ∧ b ≤ 99 ∧ 1 ≤ s ∧ s ≤ 16 ∧ 0 ≤ g ∧ g ≤ 8 ∧ 1 ≤ u ∧ u ≤ 99 ∧ s + g < z ∧ z ≤ 99 ∧ o < 0) ∨
    (1 ≤ b ∧ b ≤ 99 ∧ 1 ≤ s ∧ s ≤ 16 ∧ 0 ≤ g ∧ g ≤ 8 ∧ 1 ≤ u ∧ u ≤ 99 ∧ s + g < z ∧ z ≤ 99 ∧ 0 ≤ o ∧ 9 < o) := by
  by_cases a0 : b < 1
  · exact Or.inl a0
  by_cases a1 : 99 < b
  · exact Or.inr (Or.inl (⟨Int.not_lt.1 a0, a1⟩))
  by_cases a2 : s < 1
  · exact Or.inr (Or.inr (Or.inl (⟨Int.not_lt.1 a0, Int.not_lt.1 a1, a2⟩)))
  by_cases a3 : 16 < s
  · exact Or.inr (Or.inr (Or.inr (Or.inl (⟨Int.not_lt.1 a0, Int.not_lt.1 a1, Int.not_lt.1 a2, a3⟩))))
  by_cases a4 : g < 0
  · exact Or.inr (Or.inr (Or.inr (Or.inr (Or.inl (⟨Int.not_lt.1 a0, Int.not_lt.1 a1, Int.not_lt.1 a2, Int.not_lt.1 a3, a4⟩)))))
  by_cases a5 : 8 < g
  · exact Or.inr (Or.inr (Or.inr (Or.inr (Or.inr (Or.inl (⟨Int.not_lt.1 a0, Int.not_lt.1 a1, Int.not_lt.1 a2, Int.not_lt.1 a3, Int.not_lt.1 a4, a5⟩))))))
  by_cases a6 : u < 1
  · exact Or.inr (Or.inr (Or.inr (Or.inr (Or.inr (Or.inr (Or.inl (⟨Int.not_lt.1 a0, Int.not_lt.1 a1, Int.not_lt.1 a2, Int.not_lt.1 a3, Int.not_lt.1 a4, Int.not_lt.1 a5, a6⟩)))))))
  by_cases a7 : 99 < u
  · exact Or.inr (Or.inr (Or.inr (Or.inr (Or.inr (Or.inr (Or.inr (Or.inl (⟨Int.not_lt.1 a0, Int.not_lt.1 a1, Int.not_lt.1 a2, Int.not_lt.1 a3, Int.not_lt.1 a4, Int.not_lt.1 a5, Int.not_lt.1 a6, a7⟩))))))))
  by_cases a8 : z ≤ s + g
  · exact Or.inr (Or.inr (Or.inr (Or.inr (Or.inr (Or.inr (Or.inr (Or.inr (Or.inl (⟨Int.not_lt.1 a0, Int.not_lt.1 a1, Int.not_lt.1 a2, Int.not_lt.1 a3, Int.not_lt.1 a4, Int.not_lt.1 a5, Int.not_lt.1 a6, Int.not_lt.1 a7, a8⟩)))))))))
  by_cases a9 : 99 < z
  · exact Or.inr (Or.inr (Or.inr (Or.inr (Or.inr (Or.inr (Or.inr (Or.inr (Or.inr (Or.inl (⟨Int.not_lt.1 a0, Int.not_lt.1 a1, Int.not_lt.1 a2, Int.not_lt.1 a3, Int.not_lt.1 a4, Int.not_lt.1 a5, Int.not_lt.1 a6, Int.not_lt.1 a7, Int.not_le.1 a8, a9⟩))))))))))
  by_cases a10 : o < 0
  · exact Or.inr (Or.inr (Or.inr (Or.inr (Or.inr (Or.inr (Or.inr (Or.inr (Or.inr (Or.inr (Or.inl (⟨Int.not_lt.1 a0, Int.not_lt.1 a1, Int.not_lt.1 a2, Int.not_lt.1 a3, Int.not_lt.1 a4, Int.not_lt.1 a5, Int.not_lt.1 a6, Int.not_lt.1 a7, Int.not_le.1 a8, Int.not_lt.1 a9, a10⟩)))))))))))
  by_cases a11 : 9 < o
  · exact Or.inr (Or.inr (Or.inr (Or.inr (Or.inr (Or.inr (Or.inr (Or.inr (Or.inr (Or.inr (Or.inr (⟨Int.not_lt.1 a0, Int.not_lt.1 a1, Int.not_lt.1 a2, Int.not_lt.1 a3, Int.not_lt.1 a4, Int.not_lt.1 a5, Int.not_lt.1 a6, Int.not_lt.1 a7, Int.not_le.1 a8, Int.not_lt.1 a9, Int.not_lt.1 a10, a11⟩)))))))))))
  exfalso
  simp only [cfgB, decide_eq_false_iff_not] at h
  exact h ⟨Int.not_lt.1 a0, Int.not_lt.1 a1, Int.not_lt.1 a2, Int.not_lt.1 a3, Int.not_lt.1 a4, Int.not_lt.1 a5, Int.not_lt.1 a6, Int.not_lt.1 a7, Int.not_le.1 a8, Int.not_lt.1 a9, Int.not_lt.1 a10, Int.not_lt.1 a11⟩

set_option maxHeartbeats 1600000 in
theorem may_no (b s g u z o : Int) (w : World) (h : cfgB b s g u z o = false) :
    Calls Try.prog 51 #[.int .i64 b, .int .i64 s, .int .i64 g, .int .i64 u, .int .i64 z, .int .i64 o] w
      fun e w' => e = .returned (.bool false) ∧ w' = w := by
  have h' := cfg_cases h
  clear h
  rcases h' with h | h | h | h | h | h | h | h | h | h | h | h
  all_goals
    (repeat (obtain ⟨hx, h⟩ := h))
    go_enter Try.func51, Try.ntmps51
    go_wp2
    go_ret
    first | exact ⟨rfl, rfl⟩ | exact ⟨ret_bool (by simp; omega), rfl⟩

end Go.Proofs.Ytblekkjamemloaa
