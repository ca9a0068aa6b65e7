/- OUR OWN. step: New, and what does nothing. -/
import Derived.Test.YtblekkjamemloaaLate
namespace Go.Proofs.Ytblekkjamemloaa
open Go.RowKit

variable {Sim : HeapM → RefM → Int → Prop}

theorem cfg_nats {b s g u z o : Int} (h : cfgB b s g u z o = true) : ∃ b' s' g' u' z' o' : Nat, b = b' ∧ s = s' ∧ g = g' ∧ u = u' ∧ z = z' ∧ o = o' := by
  simp [cfgB] at h
  exact ⟨b.toNat, s.toNat, g.toNat, u.toNat, z.toNat, o.toNat, by omega, by omega, by omega, by omega, by omega, by omega⟩

/-- A fresh heap and the document's are alike. -/
def FreshSim (Sim : HeapM → RefM → Int → Prop) : Prop :=
  ∀ (b s g u z o : Nat), cfgB b s g u z o = true → ∀ vG vB rB rG, Sim (newM b s g vG vB) (freshM b s g u z o rB rG) 0

set_option maxHeartbeats 800000 in
theorem step_new {B : Nat} {w : World} {wb : Nat} {v : Value} {ps : List PairM} (r : LawAt Sim B w wb v ps) (hF : FreshSim Sim) (hB : B ≤ w.heap.size) (hlen : ps.length ≤ 2000000000000) (t : StepM) (hk : t.kind = 1) :
    Calls Try.prog 18 #[ptr wb, t.val] w
      fun e w' => ∃ v' ps', e = .returned (.bool true) ∧ ps'.length ≤ ps.length + 1 ∧ LawAt Sim B w' wb v' ps' ∧ Off (allFoot wb v ps) w w' := by
  obtain ⟨kind, a, op, n, b, s, g, u, z, o⟩ := t
  simp only at hk
  subst hk
  have rb : ∀ ob, LawAt Sim B (w.alloc ob) wb v ps := fun ob => r.below ((Below.refl _ _).alloc (Nat.le_refl _) ob)
  have hw := lt_of_heap r.head
  cases hc : cfgB b s g u z o with
  | false =>
    have MK : Hid (∀ ob, Calls Try.prog 35 #[.pointer (some ⟨wb, 0, none⟩), .agg #[.int .i64 b, .int .i64 s, .int .i64 g, .int .i64 u, .int .i64 z, .int .i64 o]] (w.alloc ob)
      fun e w' => e = .returned (.bool true) ∧ LawAt Sim B w' wb v ps ∧ Off (allFoot wb v ps) (w.alloc ob) w') := fun ob => made_no (rb ob) b s g u z o hc
    clear r rb hF hc
    unfold ptr StepM.val
    go_enter Try.func18, Try.ntmps18
    go_wp2_with (go_at_call 35; refine (MK.out _).mono ?_; rintro e w1 ⟨rfl, hl, hbel⟩)
    go_ret
    exact ⟨v, ps, rfl, by omega, hl, (Off.of_below ((Below.refl _ w).alloc (Nat.le_refl _) _)).trans hbel⟩
  | true =>
    obtain ⟨b', s', g', u', z', o', rfl, rfl, rfl, rfl, rfl, rfl⟩ := cfg_nats hc
    have MK : Hid (∀ ob, Calls Try.prog 35 #[.pointer (some ⟨wb, 0, none⟩), .agg #[.int .i64 b', .int .i64 s', .int .i64 g', .int .i64 u', .int .i64 z', .int .i64 o']] (w.alloc ob)
      fun e w' => ∃ v' q, e = .returned (.bool true) ∧ LawAt Sim B w' wb v' (ps ++ [q]) ∧ Off (allFoot wb v ps) (w.alloc ob) w') := fun ob => made_yes (rb ob) (by simp; omega) hlen b' s' g' u' z' o' hc (hF _ _ _ _ _ _ hc)
    clear r rb hF hc
    unfold ptr StepM.val
    go_enter Try.func18, Try.ntmps18
    go_wp2_with (go_at_call 35; refine (MK.out _).mono ?_; rintro e w1 ⟨v', q, rfl, hl, hbel⟩)
    go_ret
    exact ⟨v', ps ++ [q], rfl, by simp, hl, (Off.of_below ((Below.refl _ w).alloc (Nat.le_refl _) _)).trans hbel⟩

set_option maxHeartbeats 400000 in
theorem step_none {B : Nat} {w : World} {wb : Nat} {v : Value} (r : LawAt Sim B w wb v []) (t : StepM) (hk : t.kind ≠ 1) :
    Calls Try.prog 18 #[ptr wb, t.val] w fun e w' => e = .returned (.bool true) ∧ Below w.heap.size w w' := by
  obtain ⟨kind, a, op, n, b, s, g, u, z, o⟩ := t
  simp only at hk
  have hk2 : (kind == 1) = false := by simpa using hk
  have hw := lt_of_heap r.head
  have hc : w.cell? ⟨wb, 0, none⟩ = some v := cell_of_heap r.head rfl
  obtain ⟨ao, cap, hv⟩ : ∃ ao cap, v = .slice ao 0 cap := by
    rcases r.row.2 with ⟨hv, _⟩ | ⟨g, cap, cur, hv, _⟩
    · exact ⟨_, _, hv⟩
    · exact ⟨_, _, hv⟩
  subst hv
  clear r
  unfold ptr StepM.val
  go_enter Try.func18, Try.ntmps18
  go_wp2
  go_ret
  exact ⟨rfl, (Below.refl _ _).alloc (Nat.le_refl _) _⟩

set_option maxHeartbeats 800000 in
theorem idle_core (w : World) (wb gb cap len k qp : Nat) (kind a op n b s g u z o : Int) (hw : wb < w.heap.size) (hgb : gb < w.heap.size)
    (hc : w.cell? ⟨wb, 0, none⟩ = some (.slice (some ⟨gb, 0, none⟩) len cap)) (hc1 : w.cell? ⟨gb, k, none⟩ = some (.pointer (some ⟨qp, 0, none⟩)))
    (hp : 0 < len) (hk : k < len) (PK : ∀ w, Calls Try.prog 33 #[.int .i64 a, .int .i64 len] w fun r w' => r = .returned (.int .i64 k) ∧ w' = w)
    (h1 : ¬ kind = 1) (h2 : ¬ kind = 2) (h3 : ¬ kind = 3) (h4 : ¬ kind = 4) (h5 : ¬ kind = 5) (h6 : ¬ kind = 6) :
    Calls Try.prog 18 #[.pointer (some ⟨wb, 0, none⟩), .agg #[.int .i64 kind, .int .i64 a, .int .i64 op, .int .i64 n, .int .i64 b, .int .i64 s, .int .i64 g, .int .i64 u, .int .i64 z, .int .i64 o]] w fun e w' =>
      e = .returned (.bool true) ∧ Below w.heap.size w w' := by
  have hkI : (k : Int) < len := by omega
  have hne : ((len : Int) == 0) = false := by simp; omega
  have hl0 : ¬ len = 0 := by omega
  have e1 : (kind == 1) = false := by simpa using h1
  have e2 : (kind == 2) = false := by simpa using h2
  have e3 : (kind == 3) = false := by simpa using h3
  have e4 : (kind == 4) = false := by simpa using h4
  have e5 : (kind == 5) = false := by simpa using h5
  have e6 : (kind == 6) = false := by simpa using h6
  go_enter Try.func18, Try.ntmps18
  go_wp2_with fail
  go_quiet ((go_at_call 33; exact Calls.quiet_of_same (PK _)))
  go_wp2
  go_ret
  exact ⟨rfl, below_drewN ((Below.refl _ _).alloc (Nat.le_refl _) _) _⟩

theorem step_idle {B : Nat} {w : World} {wb : Nat} {v : Value} {ps : List PairM} (r : LawAt Sim B w wb v ps) (t : StepM) (h1 : ¬ t.kind = 1) (h2 : ¬ t.kind = 2) (h3 : ¬ t.kind = 3) (h4 : ¬ t.kind = 4) (h5 : ¬ t.kind = 5) (h6 : ¬ t.kind = 6)
    (ha : fits t.a) (hm : ps.length ≤ 2000000000000) :
    Calls Try.prog 18 #[ptr wb, t.val] w fun e w' => e = .returned (.bool true) ∧ Below w.heap.size w w' := by
  rcases Nat.eq_zero_or_pos ps.length with hp | hp
  · obtain rfl : ps = [] := List.eq_nil_of_length_eq_zero hp
    exact step_none r t h1
  · obtain ⟨kind, a, op, n, b, s, g, u, z, o⟩ := t
    obtain ⟨gb, cap, rfl, hgb, hrow⟩ := r.form hp
    have hk := pickN_lt a ps.length hp
    exact idle_core w wb gb cap ps.length (pickN a ps.length) _ kind a op n b s g u z o (lt_of_heap r.head) hgb (cell_of_heap r.head rfl) (hrow _ hk) hp hk
      (fun w => pick_any a ps.length w ha hp hm) h1 h2 h3 h4 h5 h6

end Go.Proofs.Ytblekkjamemloaa
