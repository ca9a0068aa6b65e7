import Derived.Test.YtpmkjeihbddfpaaGreatDoorSafepointsB1
import Derived.SevenTiedAt
/- OUR OWN. The statements that play a script, out of what its steps say (laid by wip/law.py). -/
namespace Go.Proofs.YtpmkjeihbddfpaaGreatDoor
open Go.ChangeShapes Go.WideShapes Go.ChangeAt Go.RowKit Go.Deep
set_option linter.unusedVariables false
set_option linter.unusedSimpArgs false

/-! ### Safepoints -/
theorem safepoints_walk (Sim : HeapM → RefM → Int → Prop) (G : StepM → List PairM → Prop) (late : LateSays Sim 2 5 G) (step : StepSays Sim 5 2 5 G) (a0 : Option Addr) (len cap : Nat) (w : World) (hL : len * 80 ≤ 140737488351232) (htab : Tab w.heap.size w)
    (h : len = 0 ∨ ∃ sb off st, a0 = some ⟨sb, off, none⟩ ∧ sb < w.heap.size ∧ ScriptAt w sb off len st) :
    Calls Tryz.prog 6 #[.slice a0 len cap] w fun e w' => e = .returned (.bool true) ∧ Below w.heap.size w w' := by
  have U : Hid (Calls Tryz.prog 9 #[.slice a0 len cap, .int .i64 5, .int .i64 2, .int .i64 2, .int .i64 5] w fun e w' => e = .returned (.int .i64 (-1)) ∧ Below w.heap.size w w') := by
    rcases h with rfl | ⟨sb, off, st, rfl, hsb, hS⟩
    · exact upto_empty _ _ _ _ _ _ _
    · exact upto_any sb off len cap st 5 2 2 5 w hL hsb hS htab _ late step
  clear h late step htab
  go_enter Tryz.func6, Tryz.ntmps6
  go_wp2_with (go_at_call 9; refine U.out.mono ?_; rintro e w1 ⟨rfl, hb⟩)
  go_ret
  exact ⟨rfl, hb⟩

set_option maxRecDepth 100000 in
theorem safepoints_lifted (Sim : HeapM → RefM → Int → Prop) (G : StepM → List PairM → Prop) (late : LateSays Sim 2 5 G) (step : StepSays Sim 5 2 5 G) (os : Os) (started : os.Started) (H : Type) (enc : TypeId × Value → H) :
    ReturnsInHanded {} Tryz.checked os 6 .any (fun w args => (Rows.safepointsSpec.pre enc Tryz.prog Tryz.f6 [] false w args ∧ laidMetH Tryz.prog laid3 w) ∧ sizedMet enc Tryz.prog Tryz.f6 (OpenSpec.ofChange Rows.safepointsSpec) false w args) (Rows.safepointsSpec.post enc Tryz.prog Tryz.f6 false true false false) := by
  refine returnsInHanded_of_change_and (C := Tryz.checked) (X := fun w _ => laidMetH Tryz.prog laid3 w) (fun _ _ _ hh h => h.of_heap hh) own started (by kernel_rfl) Tryz.func6
    (ChangeSpec.witness_shaped (enc := enc) (C := Tryz.checked) (os := os) (X := fun w _ => laidMetH Tryz.prog laid3 w) false (World.doorLaid Tryz.prog 400 os) #[.slice none 0 0] 8 rfl (World.shaped_of_RefB (by kernel_rfl) (by kernel_rfl)) (by kernel_rfl) (by kernel_rfl) (by kernel_rfl) (door_met os _)) ?_
  intro W base args ds gs before hval0 hW _ hsz0 hLaid _
  have hsz : (DataW.weightsEach Tryz.prog (Tryz.f6.params.toList ++ Rows.safepointsSpec.plain.varTypes Tryz.prog) (ds ++ gs)).all (· ≤ reachBytes) = true := hsz0
  clear hsz0
  have hval : ∀ (j : Nat) t v, Tryz.f6.params[j]? = some t → args[j]? = some v → Value.okWide Tryz.prog W .any base t v := hval0
  have hW' := hW
  obtain ⟨p, q, hA0, hV, rfl, hfz, hnd⟩ := hW
  have hA : DataW.TrodAll enc Tryz.prog W 0 (fun _ => true) true Tryz.f6.params.toList args.toList ds p := hA0
  rw [Tryz.params6] at hA hval hsz
  obtain ⟨v0, vs0, d0, ds0, p0, q0, hargs, rfl, rfl, h0, r0⟩ := trodAll_cons hA
  obtain ⟨rfl, rfl, rfl⟩ := trodAll_nil r0
  obtain rfl : args = #[v0] := by cases args; simp_all
  obtain ⟨rfl, rfl⟩ := trodVars_none hV
  obtain ⟨a0, len0, cap0, rfl⟩ := okWide_slice Tryz.underlying22 (hval 0 22 v0 rfl rfl)
  have k0 := h0
  have lt0 : ∀ x ∈ p0, x.block < W.heap.size := by obtain ⟨m, hm⟩ := k0; exact DataW.trod_lt m _ _ _ hm
  obtain ⟨fuel, hf⟩ := h0
  have hf' : DataW.trod enc Tryz.prog W 0 (fun _ => true) true fuel 22 [.slice a0 len0 cap0] = some (d0, p0) := by simpa [Value.cells] using hf
  have hL : len0 * 80 ≤ 140737488351232 := by
    rcases open_slice Tryz.underlying22 hf' with ⟨hc, _⟩ | ⟨a, l, c, m, n, D, Pl, hc, _, _, _, _, hx, _⟩
    · simp at hc; rw [hc.2.1]; omega
    · simp at hc
      obtain ⟨rfl, rfl, rfl⟩ := hc
      simp only [Prod.mk.injEq] at hx
      have hd := hx.1
      subst hd
      have := sized_slice hsz (j := 0) (t := 22) (e := 32) rfl rfl Tryz.underlying22
      rw [bytesStep] at this
      simp only [List.length_map, List.length_range, reachBytes] at this
      omega
  have hS := script_of hf'
  clear hA0 hval0
  refine (safepoints_walk Sim G late step a0 len0 cap0 W hL (tab_of_laid hLaid) hS).mono fun e W' ⟨he, bel⟩ => ?_
  subst he
  exact ⟨_, rfl, _, _, _, [], _, [], hW', trodAll_mk1 (shut_bool Tryz.underlying4 _), (trodAll_cons_mk (Below.trod laidOut (by kernel_rfl) (of_decide_eq_true (by kernel_rfl)) k0 bel lt0) trodAll_mk0), rfl, bel.frame _, fun h => by cases h⟩

theorem safepoints_of (Sim : HeapM → RefM → Int → Prop) (G : StepM → List PairM → Prop) (late : LateSays Sim 2 5 G) (step : StepSays Sim 5 2 5 G) : Rows.SafepointsSaid :=
  OpenClaim.holds_of_wide 6 Tryz.f6 rfl rfl rfl rfl rfl rfl rfl ⟨rfl, rfl, rfl, rfl, rfl⟩ rfl rfl rfl rfl rfl (by kernel_rfl) Tryz.func6 (by kernel_rfl)
    (of_decide_eq_true (by kernel_rfl)) (by unfold Func.isWrapper; rw [if_neg (of_decide_eq_false (by kernel_rfl))]; exact ⟨rfl, rfl⟩)
    (fun os started H enc _ => safepoints_lifted Sim G late step os started H enc)

theorem safepoints_card (hs : Rows.SafepointsSaid) : Rows.SafepointsCardSaid :=
  Claim7.holds_tied_plain_at .later [] [.data, .data, .data] true Rows.safepointsCard.stood.harness false
    hs (fun _ h => by cases h) (by kernel_rfl) (fun _ h => by cases h) safepoints_row_tie rfl ⟨rfl, rfl⟩ (by kernel_rfl) rfl
    (fun f fn hf hfn => by
      obtain rfl : f = 6 := Option.some.inj ((show Tryz.prog.funcNamed "reclaim/reclaimlaw.Safepoints" = some 6 by kernel_rfl).symm.trans hf) |>.symm
      obtain rfl : fn = Tryz.f6 := (Option.some.inj (Tryz.func6.symm.trans hfn)).symm
      exact ⟨by kernel_rfl, fun j t ht => by
        rw [Tryz.params6] at ht
        have hm : t ∈ [22] := by simpa using Array.mem_of_getElem? ht
        have hall : ([22].all fun u => !Tryz.prog.wantsStandIn u) = true := by kernel_rfl
        exact (show Tryz.prog.wantsStandIn t = false by simpa using List.all_eq_true.1 hall t hm)⟩)
    (by kernel_rfl)

end Go.Proofs.YtpmkjeihbddfpaaGreatDoor

/- OUR OWN. Safepoints: the statement. -/
namespace Go.Proofs.YtpmkjeihbddfpaaGreatDoor
set_option linter.unusedVariables false
set_option linter.unusedSimpArgs false

/-- P5, P9: every Do and every Safepoint's answer, and every Gauge and Dump behind them, where no OpNew asks for a collection. -/
theorem safepoints_holds : Rows.SafepointsCardSaid :=
  safepoints_card (safepoints_of _ _ (late_unswept_says HS anyK 5) (step_law (HS := HS) (K := anyK) (Room := room3) 5 2 5 unsweptG (fresh_sim (fun _ _ => trivial) fresh_hs) do_pact (fun _ => gauge_pact) (fun _ => dump_pact) (fun _ => safe_pact) (fun h => absurd h (by decide))
    (fun q N sm hg => unswept_room q N sm hg) (fun _ _ _ _ _ _ => trivial) (fun _ _ _ _ => trivial) (fun h => absurd h (by decide))))

#print axioms safepoints_holds

end Go.Proofs.YtpmkjeihbddfpaaGreatDoor

