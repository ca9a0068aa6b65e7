/- OUR OWN. isConfig, May, num, pick. -/
import Derived.Test.YtblekkjamemloaaBase
namespace Go.Proofs.Ytblekkjamemloaa
open Go.RowKit

theorem cfg_parts {b s g u z o : Int} (h : cfgB b s g u z o = true) :
    inB b 1 99 = true ∧ inB s 1 16 = true ∧ inB g 0 8 = true ∧ inB u 1 99 = true ∧ inB o 0 9 = true ∧ inB z (s + g + 1) 99 = true := by
  simp [cfgB, inB] at h ⊢; omega

theorem cfg_not {b s g u z o : Int} (h1 : inB b 1 99 = true) (h2 : inB s 1 16 = true) (h3 : inB g 0 8 = true) (h4 : inB u 1 99 = true) (h5 : inB o 0 9 = true) (h : cfgB b s g u z o = false) :
    inB z (s + g + 1) 99 = false := by
  simp [cfgB, inB] at *; omega

set_option maxHeartbeats 400000 in
theorem isConfig_yes (b s g u z o : Int) (w : World) (h : cfgB b s g u z o = true) :
    Calls Try.prog 41 #[.agg #[.int .i64 b, .int .i64 s, .int .i64 g, .int .i64 u, .int .i64 z, .int .i64 o]] w
      fun e w' => e = .returned (.bool true) ∧ Below w.heap.size w w' := by
  have ⟨h1, h2, h3, h4, h5, h6⟩ := cfg_parts h
  have ⟨b1, b2⟩ : 0 ≤ s ∧ s ≤ 16 := by simp [inB] at h2; omega
  have ⟨b3, b4⟩ : 0 ≤ g ∧ g ≤ 8 := by simp [inB] at h3; omega
  clear h
  go_enter Try.func41, Try.ntmps41
  go_wp2_with (go_at_call 62; refine (within_yes _ _ _ _ (by assumption)).mono ?_; rintro e w' ⟨rfl, rfl⟩)
  go_ret
  exact ⟨rfl, (Below.refl _ _).alloc (Nat.le_refl _) _⟩

set_option maxHeartbeats 800000 in
theorem isConfig_no (b s g u z o : Int) (w : World) (h : cfgB b s g u z o = false) :
    Calls Try.prog 41 #[.agg #[.int .i64 b, .int .i64 s, .int .i64 g, .int .i64 u, .int .i64 z, .int .i64 o]] w
      fun e w' => e = .returned (.bool false) ∧ Below w.heap.size w w' := by
  have H : Hid (cfgB b s g u z o = false) := h
  clear h
  rcases h1 : inB b 1 99 with _ | _
  · go_enter Try.func41, Try.ntmps41
    go_wp2_with (first | (go_at_call 62; refine (within_yes _ _ _ _ (by assumption)).mono ?_; rintro e w' ⟨rfl, rfl⟩) | (go_at_call 62; refine (within_no _ _ _ _ (by assumption)).mono ?_; rintro e w' ⟨rfl, rfl⟩))
    go_ret
    exact ⟨rfl, (Below.refl _ _).alloc (Nat.le_refl _) _⟩
  rcases h2 : inB s 1 16 with _ | _
  · go_enter Try.func41, Try.ntmps41
    go_wp2_with (first | (go_at_call 62; refine (within_yes _ _ _ _ (by assumption)).mono ?_; rintro e w' ⟨rfl, rfl⟩) | (go_at_call 62; refine (within_no _ _ _ _ (by assumption)).mono ?_; rintro e w' ⟨rfl, rfl⟩))
    go_ret
    exact ⟨rfl, (Below.refl _ _).alloc (Nat.le_refl _) _⟩
  rcases h3 : inB g 0 8 with _ | _
  · go_enter Try.func41, Try.ntmps41
    go_wp2_with (first | (go_at_call 62; refine (within_yes _ _ _ _ (by assumption)).mono ?_; rintro e w' ⟨rfl, rfl⟩) | (go_at_call 62; refine (within_no _ _ _ _ (by assumption)).mono ?_; rintro e w' ⟨rfl, rfl⟩))
    go_ret
    exact ⟨rfl, (Below.refl _ _).alloc (Nat.le_refl _) _⟩
  rcases h4 : inB u 1 99 with _ | _
  · go_enter Try.func41, Try.ntmps41
    go_wp2_with (first | (go_at_call 62; refine (within_yes _ _ _ _ (by assumption)).mono ?_; rintro e w' ⟨rfl, rfl⟩) | (go_at_call 62; refine (within_no _ _ _ _ (by assumption)).mono ?_; rintro e w' ⟨rfl, rfl⟩))
    go_ret
    exact ⟨rfl, (Below.refl _ _).alloc (Nat.le_refl _) _⟩
  rcases h5 : inB o 0 9 with _ | _
  · go_enter Try.func41, Try.ntmps41
    go_wp2_with (first | (go_at_call 62; refine (within_yes _ _ _ _ (by assumption)).mono ?_; rintro e w' ⟨rfl, rfl⟩) | (go_at_call 62; refine (within_no _ _ _ _ (by assumption)).mono ?_; rintro e w' ⟨rfl, rfl⟩))
    go_ret
    exact ⟨rfl, (Below.refl _ _).alloc (Nat.le_refl _) _⟩
  have h6 := cfg_not h1 h2 h3 h4 h5 H.out
  have ⟨b1, b2⟩ : 0 ≤ s ∧ s ≤ 16 := by simp [inB] at h2; omega
  have ⟨b3, b4⟩ : 0 ≤ g ∧ g ≤ 8 := by simp [inB] at h3; omega
  go_enter Try.func41, Try.ntmps41
  go_wp2_with (first | (go_at_call 62; refine (within_yes _ _ _ _ (by assumption)).mono ?_; rintro e w' ⟨rfl, rfl⟩) | (go_at_call 62; refine (within_no _ _ _ _ (by assumption)).mono ?_; rintro e w' ⟨rfl, rfl⟩))
  go_ret
  exact ⟨rfl, (Below.refl _ _).alloc (Nat.le_refl _) _⟩

end Go.Proofs.Ytblekkjamemloaa
