import Derived.Test.YtpmkjeihbddfpaaGreatDoorCoDSCFB3
import Derived.SevenTiedAt
/- OUR OWN. The statements that play a script, out of what its steps say (laid by wip/law.py). -/
namespace Go.Proofs.YtpmkjeihbddfpaaGreatDoor
open Go.ChangeShapes Go.WideShapes Go.ChangeAt Go.RowKit Go.Deep
set_option linter.unusedVariables false
set_option linter.unusedSimpArgs false

/-! ### Dumps -/
theorem dumps_walk (Sim : HeapM → RefM → Int → Prop) (G : StepM → List PairM → Prop) (late : LateSays Sim 1 4 G) (step : StepSays Sim 4 3 4 G) (a0 : Option Addr) (len cap : Nat) (w : World) (hL : len * 80 ≤ 140737488351232) (htab : Tab w.heap.size w)
    (h : len = 0 ∨ ∃ sb off st, a0 = some ⟨sb, off, none⟩ ∧ sb < w.heap.size ∧ ScriptAt w sb off len st) :
    Calls Tryz.prog 5 #[.slice a0 len cap] w fun e w' => e = .returned (.bool true) ∧ Below w.heap.size w w' := by
  have U : Hid (Calls Tryz.prog 9 #[.slice a0 len cap, .int .i64 4, .int .i64 1, .int .i64 3, .int .i64 4] w fun e w' => e = .returned (.int .i64 (-1)) ∧ Below w.heap.size w w') := by
    rcases h with rfl | ⟨sb, off, st, rfl, hsb, hS⟩
    · exact upto_empty _ _ _ _ _ _ _
    · exact upto_any sb off len cap st 4 1 3 4 w hL hsb hS htab _ late step
  clear h late step htab
  go_enter Tryz.func5, Tryz.ntmps5
  go_wp2_with (go_at_call 9; refine U.out.mono ?_; rintro e w1 ⟨rfl, hb⟩)
  go_ret
  exact ⟨rfl, hb⟩

set_option maxRecDepth 100000 in
theorem dumps_lifted (Sim : HeapM → RefM → Int → Prop) (G : StepM → List PairM → Prop) (late : LateSays Sim 1 4 G) (step : StepSays Sim 4 3 4 G) (os : Os) (started : os.Started) (H : Type) (enc : TypeId × Value → H) :
    ReturnsInHanded {} Tryz.checked os 5 .any (fun w args => (Rows.dumpsSpec.pre enc Tryz.prog Tryz.f5 [] false w args ∧ laidMetH Tryz.prog laid3 w) ∧ sizedMet enc Tryz.prog Tryz.f5 (OpenSpec.ofChange Rows.dumpsSpec) false w args) (Rows.dumpsSpec.post enc Tryz.prog Tryz.f5 false true false false) := by
  refine returnsInHanded_of_change_and (C := Tryz.checked) (X := fun w _ => laidMetH Tryz.prog laid3 w) (fun _ _ _ hh h => h.of_heap hh) own started (by kernel_rfl) Tryz.func5
    (ChangeSpec.witness_shaped (enc := enc) (C := Tryz.checked) (os := os) (X := fun w _ => laidMetH Tryz.prog laid3 w) false (World.doorLaid Tryz.prog 400 os) #[.slice none 0 0] 8 rfl (World.shaped_of_RefB (by kernel_rfl) (by kernel_rfl)) (by kernel_rfl) (by kernel_rfl) (by kernel_rfl) (door_met os _)) ?_
  intro W base args ds gs before hval0 hW _ hsz0 hLaid _
  have hsz : (DataW.weightsEach Tryz.prog (Tryz.f5.params.toList ++ Rows.dumpsSpec.plain.varTypes Tryz.prog) (ds ++ gs)).all (· ≤ reachBytes) = true := hsz0
  clear hsz0
  have hval : ∀ (j : Nat) t v, Tryz.f5.params[j]? = some t → args[j]? = some v → Value.okWide Tryz.prog W .any base t v := hval0
  have hW' := hW
  obtain ⟨p, q, hA0, hV, rfl, hfz, hnd⟩ := hW
  have hA : DataW.TrodAll enc Tryz.prog W 0 (fun _ => true) true Tryz.f5.params.toList args.toList ds p := hA0
  rw [Tryz.params5] at hA hval hsz
  obtain ⟨v0, vs0, d0, ds0, p0, q0, hargs, rfl, rfl, h0, r0⟩ := trodAll_cons hA
  obtain ⟨rfl, rfl, rfl⟩ := trodAll_nil r0
  obtain rfl : args = #[v0] := by cases args; simp_all
  obtain ⟨rfl, rfl⟩ := trodVars_none hV
  obtain ⟨a0, len0, cap0, rfl⟩ := okWide_slice Tryz.underlying22 (hval 0 22 v0 rfl rfl)
  have k0 := h0
  have lt0 : ∀ x ∈ p0, x.block < W.heap.size := by obtain ⟨m, hm⟩ := k0; exact DataW.trod_lt m _ _ _ hm
  obtain ⟨fuel, hf⟩ := h0
  have hf' : DataW.trod enc Tryz.prog W 0 (fun _ => true) true fuel 22 [.slice a0 len0 cap0] = some (d0, p0) := by simpa [Value.cells] using hf
  have hL : len0 * 80 ≤ 140737488351232 := by
    rcases open_slice Tryz.underlying22 hf' with ⟨hc, _⟩ | ⟨a, l, c, m, n, D, Pl, hc, _, _, _, _, hx, _⟩
    · simp at hc; rw [hc.2.1]; omega
    · simp at hc
      obtain ⟨rfl, rfl, rfl⟩ := hc
      simp only [Prod.mk.injEq] at hx
      have hd := hx.1
      subst hd
      have := sized_slice hsz (j := 0) (t := 22) (e := 32) rfl rfl Tryz.underlying22
      rw [bytesStep] at this
      simp only [List.length_map, List.length_range, reachBytes] at this
      omega
  have hS := script_of hf'
  clear hA0 hval0
  refine (dumps_walk Sim G late step a0 len0 cap0 W hL (tab_of_laid hLaid) hS).mono fun e W' ⟨he, bel⟩ => ?_
  subst he
  exact ⟨_, rfl, _, _, _, [], _, [], hW', trodAll_mk1 (shut_bool Tryz.underlying4 _), (trodAll_cons_mk (Below.trod laidOut (by kernel_rfl) (of_decide_eq_true (by kernel_rfl)) k0 bel lt0) trodAll_mk0), rfl, bel.frame _, fun h => by cases h⟩

theorem dumps_of (Sim : HeapM → RefM → Int → Prop) (G : StepM → List PairM → Prop) (late : LateSays Sim 1 4 G) (step : StepSays Sim 4 3 4 G) : Rows.DumpsSaid :=
  OpenClaim.holds_of_wide 5 Tryz.f5 rfl rfl rfl rfl rfl rfl rfl ⟨rfl, rfl, rfl, rfl, rfl⟩ rfl rfl rfl rfl rfl (by kernel_rfl) Tryz.func5 (by kernel_rfl)
    (of_decide_eq_true (by kernel_rfl)) (by unfold Func.isWrapper; rw [if_neg (of_decide_eq_false (by kernel_rfl))]; exact ⟨rfl, rfl⟩)
    (fun os started H enc _ => dumps_lifted Sim G late step os started H enc)

theorem dumps_card (hs : Rows.DumpsSaid) : Rows.DumpsCardSaid :=
  Claim7.holds_tied_plain_at .later [] [.data, .data, .data] true Rows.dumpsCard.stood.harness false
    hs (fun _ h => by cases h) (by kernel_rfl) (fun _ h => by cases h) dumps_row_tie rfl ⟨rfl, rfl⟩ (by kernel_rfl) rfl
    (fun f fn hf hfn => by
      obtain rfl : f = 5 := Option.some.inj ((show Tryz.prog.funcNamed "reclaim/reclaimlaw.Dumps" = some 5 by kernel_rfl).symm.trans hf) |>.symm
      obtain rfl : fn = Tryz.f5 := (Option.some.inj (Tryz.func5.symm.trans hfn)).symm
      exact ⟨by kernel_rfl, fun j t ht => by
        rw [Tryz.params5] at ht
        have hm : t ∈ [22] := by simpa using Array.mem_of_getElem? ht
        have hall : ([22].all fun u => !Tryz.prog.wantsStandIn u) = true := by kernel_rfl
        exact (show Tryz.prog.wantsStandIn t = false by simpa using List.all_eq_true.1 hall t hm)⟩)
    (by kernel_rfl)

end Go.Proofs.YtpmkjeihbddfpaaGreatDoor

/- OUR OWN. Dumps: the statement. -/
namespace Go.Proofs.YtpmkjeihbddfpaaGreatDoor
set_option linter.unusedVariables false
set_option linter.unusedSimpArgs false

/-- P5 to P8: every Gauge and Dump among Dos, of heaps that are never full. -/
theorem dumps_holds : Rows.DumpsCardSaid :=
  dumps_card (dumps_of _ _ (late_early_says _ 4) (step_law (HS := HS) (K := earlyK) (Room := room2) 4 3 4 earlyG (fresh_sim early_fresh fresh_hs) do_pact2 (fun _ => gauge_pact) (fun _ => dump_pact) (fun h => absurd h (by decide)) (fun h => absurd h (by decide))
    early_room early_do (fun h => absurd h (by decide)) (fun h => absurd h (by decide))))

#print axioms dumps_holds

end Go.Proofs.YtpmkjeihbddfpaaGreatDoor

