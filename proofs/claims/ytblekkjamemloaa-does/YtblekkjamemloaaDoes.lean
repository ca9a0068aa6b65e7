/- OUR OWN. Does: the statement. -/
import Derived.Test.YtblekkjamemloaaScript
import Derived.Test.YtblekkjamemloaaDC
namespace Go.Proofs.Ytblekkjamemloaa
open Go.ChangeShapes Go.WideShapes Go.ChangeAt Go.RowKit Go.Deep
set_option linter.unusedVariables false
set_option linter.unusedSimpArgs false

theorem step_says_does : StepSays DoSim 2 2 2 (fun t ps => t.kind = 2 → t.op = 2 → ∀ hp : 0 < ps.length, (ps[pickN t.a ps.length]'(pickN_lt _ _ hp)).news < (ps[pickN t.a ps.length]'(pickN_lt _ _ hp)).rm.most) := by
  intro B w wb v ps t r hB hm hok hk hgood
  by_cases h1 : t.kind = 1
  · exact (step_new r doSim_fresh hB hm t h1).mono fun e w' ⟨v', ps', he, hl, hr, ho⟩ => ⟨true, v', ps', he, fun _ => rfl, hl, hr, ho⟩
  by_cases h2 : t.kind = 2
  · rcases Nat.eq_zero_or_pos ps.length with hp | hp
    · obtain rfl : ps = [] := List.eq_nil_of_length_eq_zero hp
      exact (step_none r t h1).mono fun e w' ⟨he, hb⟩ => ⟨true, v, [], he, fun _ => rfl, by simp, r.below hb, .of_below hb⟩
    · exact (step_do r hB t h2 hok.2.1 hm hp (fun ho => hgood h2 ho hp)).mono fun e w' ⟨he, ps', hl, hr, ho⟩ => ⟨true, v, ps', he, fun _ => rfl, by omega, hr, ho⟩
  · exact (step_idle r t h1 h2 (by omega) (by omega) (by omega) (by omega) hok.2.1 hm).mono fun e w' ⟨he, hb⟩ => ⟨true, v, ps, he, fun _ => rfl, by omega, r.below hb, .of_below hb⟩

theorem does_walk (a0 : Option Addr) (len cap : Nat) (w : World) (hL : len * 80 ≤ 140737488351232)
    (h : len = 0 ∨ ∃ sb off st, a0 = some ⟨sb, off, none⟩ ∧ sb < w.heap.size ∧ ScriptAt w sb off len st) :
    Calls Try.prog 4 #[.slice a0 len cap] w fun e w' => e = .returned (.bool true) ∧ Below w.heap.size w w' := by
  have U : Hid (Calls Try.prog 10 #[.slice a0 len cap, .int .i64 2, .int .i64 1, .int .i64 2, .int .i64 2] w fun e w' => e = .returned (.int .i64 (-1)) ∧ Below w.heap.size w w') := by
    rcases h with rfl | ⟨sb, off, st, rfl, hsb, hS⟩
    · exact upto_empty _ _ _ _ _ _ _
    · exact upto_any sb off len cap st 2 1 2 2 w hL hsb hS _ (late_says DoSim 2) step_says_does
  clear h
  go_enter Try.func4, Try.ntmps4
  go_wp2_with (go_at_call 10; refine U.out.mono ?_; rintro e w1 ⟨rfl, hb⟩)
  go_ret
  exact ⟨rfl, hb⟩

set_option maxRecDepth 100000 in
theorem does_lifted (os : Os) (started : os.Started) (H : Type) (enc : TypeId × Value → H) :
    ReturnsInHanded {} Try.checked os 4 .any (Rows.doesSpec.pre6 enc Try.prog Try.f4 Rows.doesRow.domain false) (Rows.doesSpec.post enc Try.prog Try.f4 false true false false) := by
  refine returnsInHanded_of_change_sized (C := Try.checked) own started (by kernel_rfl) Try.func4
    (ChangeSpec.witness6 (enc := enc) (C := Try.checked) false ⟨#[], #[.slice none 0 0], []⟩ 8 (by kernel_rfl) (by kernel_rfl) (by kernel_rfl) (by kernel_rfl)) ?_
  intro W base args ds gs before hval0 hW _ hsz0 _
  have hsz : (DataW.weightsEach Try.prog (Try.f4.params.toList ++ Rows.doesSpec.plain.varTypes Try.prog) (ds ++ gs)).all (· ≤ reachBytes) = true := hsz0
  clear hsz0
  have hval : ∀ (j : Nat) t v, Try.f4.params[j]? = some t → args[j]? = some v → Value.okWide Try.prog W .any base t v := hval0
  have hW' := hW
  obtain ⟨p, q, hA0, hV, rfl, hfz, hnd⟩ := hW
  have hA : DataW.TrodAll enc Try.prog W 0 (fun _ => true) true Try.f4.params.toList args.toList ds p := hA0
  rw [Try.params4] at hA hval hsz
  obtain ⟨v0, vs0, d0, ds0, p0, q0, hargs, rfl, rfl, h0, r0⟩ := trodAll_cons hA
  obtain ⟨rfl, rfl, rfl⟩ := trodAll_nil r0
  obtain rfl : args = #[v0] := by cases args; simp_all
  obtain ⟨rfl, rfl⟩ := trodVars_none hV
  obtain ⟨a0, len0, cap0, rfl⟩ := okWide_slice Try.underlying22 (hval 0 22 v0 rfl rfl)
  have k0 := h0
  have lt0 : ∀ x ∈ p0, x.block < W.heap.size := by obtain ⟨m, hm⟩ := k0; exact DataW.trod_lt m _ _ _ hm
  obtain ⟨fuel, hf⟩ := h0
  have hf' : DataW.trod enc Try.prog W 0 (fun _ => true) true fuel 22 [.slice a0 len0 cap0] = some (d0, p0) := by simpa [Value.cells] using hf
  have hL : len0 * 80 ≤ 140737488351232 := by
    rcases open_slice Try.underlying22 hf' with ⟨hc, _⟩ | ⟨a, l, c, m, n, D, Pl, hc, _, _, _, _, hx, _⟩
    · simp at hc; rw [hc.2.1]; omega
    · simp at hc
      obtain ⟨rfl, rfl, rfl⟩ := hc
      simp only [Prod.mk.injEq] at hx
      have hd := hx.1
      subst hd
      have := sized_slice hsz (j := 0) (t := 22) (e := 45) rfl rfl Try.underlying22
      rw [bytesStep] at this
      simp only [List.length_map, List.length_range, reachBytes] at this
      omega
  have hS := script_of hf'
  clear hA0 hval0
  refine (does_walk a0 len0 cap0 W hL hS).mono fun e W' ⟨he, bel⟩ => ?_
  subst he
  exact ⟨_, rfl, _, _, _, [], _, [], hW', trodAll_mk1 (shut_bool Try.underlying4 _), (trodAll_cons_mk (Below.trod laidOut (by kernel_rfl) (of_decide_eq_true (by kernel_rfl)) k0 bel lt0) trodAll_mk0), rfl, bel.frame _, fun h => by cases h⟩

/-- P4 to P6. -/
theorem does_holds : Rows.DoesSaid :=
  OpenClaim.holds_of_wide 4 Try.f4 rfl rfl rfl rfl rfl rfl rfl ⟨rfl, rfl, rfl, rfl, rfl⟩ rfl rfl rfl rfl rfl (by kernel_rfl) Try.func4 (by kernel_rfl)
    (of_decide_eq_true (by kernel_rfl)) (by unfold Func.isWrapper; rw [if_neg (of_decide_eq_false (by kernel_rfl))]; exact ⟨rfl, rfl⟩)
    (fun os started H enc _ => does_lifted os started H enc)

#print axioms does_holds

end Go.Proofs.Ytblekkjamemloaa
