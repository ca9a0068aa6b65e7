import Derived.Test.YtpmkjeihbddfpabGreatDoorAllB18
import Derived.SevenTiedAt
/- OUR OWN. All: the statement, out of the program's contracts. -/
namespace Go.Proofs.YtpmkjeihbddfpabGreatDoor
open Go.ChangeShapes Go.WideShapes Go.ChangeAt Go.RowKit Go.Deep
set_option linter.unusedVariables false
set_option linter.unusedSimpArgs false

variable {HS : HeapM → St → Cf → Nat → Prop} {K : St → Int → Nat → Prop}

theorem all_empty (a0 : Option Addr) (cap : Nat) (w : World) : Calls Tryz.prog 3 #[.slice a0 0 cap] w fun e w' => e = .returned (.bool true) ∧ Below w.heap.size w w' := by
  go_enter Tryz.func3, Tryz.ntmps3
  go_wp2
  go_loopw [4] (fun i wr => i = .int .i64 0 ∧ Below w.heap.size w wr) (fun _ _ => 0)
  case atStart => exact ⟨rfl, (Below.refl _ _).alloc (Nat.le_refl _) _⟩
  case round =>
    obtain ⟨rfl, hb⟩ := hrel
    have B : Hid (Below w.heap.size w wr) := hb
    clear hb
    go_wp2
    go_ret
    exact ⟨rfl, B.out⟩

theorem all_walk (step : StepIs HS K) (du : LooksAt HS K 5) (ga : LooksAt HS K 6) (a0 : Option Addr) (len cap : Nat) (w : World) (hL : len * 80 ≤ 140737488351232) (htab : Tab w.heap.size w)
    (h : len = 0 ∨ ∃ sb off st, a0 = some ⟨sb, off, none⟩ ∧ sb < w.heap.size ∧ ScriptAt w sb off len st) :
    Calls Tryz.prog 3 #[.slice a0 len cap] w fun e w' => e = .returned (.bool true) ∧ Below w.heap.size w w' := by
  rcases h with rfl | ⟨sb, off, st, rfl, hsb, hS⟩
  · exact all_empty _ _ _
  · exact all_any sb off len cap st w hL hsb hS htab step du ga

set_option maxRecDepth 100000 in
theorem all_lifted (step : StepIs HS K) (du : LooksAt HS K 5) (ga : LooksAt HS K 6) (os : Os) (started : os.Started) (H : Type) (enc : TypeId × Value → H) :
    ReturnsInHanded {} Tryz.checked os 3 .any (fun w args => (Rows.allSpec.pre enc Tryz.prog Tryz.f3 [] false w args ∧ laidMetH Tryz.prog laid3 w) ∧ sizedMet enc Tryz.prog Tryz.f3 (OpenSpec.ofChange Rows.allSpec) false w args) (Rows.allSpec.post enc Tryz.prog Tryz.f3 false true false false) := by
  refine returnsInHanded_of_change_and (C := Tryz.checked) (X := fun w _ => laidMetH Tryz.prog laid3 w) (fun _ _ _ hh h => h.of_heap hh) own started (by kernel_rfl) Tryz.func3
    (ChangeSpec.witness_shaped (enc := enc) (C := Tryz.checked) (os := os) (X := fun w _ => laidMetH Tryz.prog laid3 w) false (World.doorLaid Tryz.prog 400 os) #[.slice none 0 0] 8 rfl (World.shaped_of_RefB (by kernel_rfl) (by kernel_rfl)) (by kernel_rfl) (by kernel_rfl) (by kernel_rfl) (door_met os _)) ?_
  intro W base args ds gs before hval0 hW _ hsz0 hLaid _
  have hsz : (DataW.weightsEach Tryz.prog (Tryz.f3.params.toList ++ Rows.allSpec.plain.varTypes Tryz.prog) (ds ++ gs)).all (· ≤ reachBytes) = true := hsz0
  clear hsz0
  have hval : ∀ (j : Nat) t v, Tryz.f3.params[j]? = some t → args[j]? = some v → Value.okWide Tryz.prog W .any base t v := hval0
  have hW' := hW
  obtain ⟨p, q, hA0, hV, rfl, hfz, hnd⟩ := hW
  have hA : DataW.TrodAll enc Tryz.prog W 0 (fun _ => true) true Tryz.f3.params.toList args.toList ds p := hA0
  rw [Tryz.params3] at hA hval hsz
  obtain ⟨v0, vs0, d0, ds0, p0, q0, hargs, rfl, rfl, h0, r0⟩ := trodAll_cons hA
  obtain ⟨rfl, rfl, rfl⟩ := trodAll_nil r0
  obtain rfl : args = #[v0] := by cases args; simp_all
  obtain ⟨rfl, rfl⟩ := trodVars_none hV
  obtain ⟨a0, len0, cap0, rfl⟩ := okWide_slice Tryz.underlying22 (hval 0 22 v0 rfl rfl)
  have k0 := h0
  have lt0 : ∀ x ∈ p0, x.block < W.heap.size := by obtain ⟨m, hm⟩ := k0; exact DataW.trod_lt m _ _ _ hm
  obtain ⟨fuel, hf⟩ := h0
  have hf' : DataW.trod enc Tryz.prog W 0 (fun _ => true) true fuel 22 [.slice a0 len0 cap0] = some (d0, p0) := by simpa [Value.cells] using hf
  have hL : len0 * 80 ≤ 140737488351232 := by
    rcases open_slice Tryz.underlying22 hf' with ⟨hc, _⟩ | ⟨a, l, c, m, n, D, Pl, hc, _, _, _, _, hx, _⟩
    · simp at hc; rw [hc.2.1]; omega
    · simp at hc
      obtain ⟨rfl, rfl, rfl⟩ := hc
      simp only [Prod.mk.injEq] at hx
      have hd := hx.1
      subst hd
      have := sized_slice hsz (j := 0) (t := 22) (e := 31) rfl rfl Tryz.underlying22
      rw [bytesStep] at this
      simp only [List.length_map, List.length_range, reachBytes] at this
      omega
  have hS := script_of hf'
  clear hA0 hval0
  refine (all_walk step du ga a0 len0 cap0 W hL (tab_of_laid hLaid) hS).mono fun e W' ⟨he, bel⟩ => ?_
  subst he
  exact ⟨_, rfl, _, _, _, [], _, [], hW', trodAll_mk1 (shut_bool Tryz.underlying4 _), (trodAll_cons_mk (Below.trod laidOut (by kernel_rfl) (of_decide_eq_true (by kernel_rfl)) k0 bel lt0) trodAll_mk0), rfl, bel.frame _, fun h => by cases h⟩

theorem all_of (step : StepIs HS K) (du : LooksAt HS K 5) (ga : LooksAt HS K 6) : Rows.AllSaid :=
  OpenClaim.holds_of_wide 3 Tryz.f3 rfl rfl rfl rfl rfl rfl rfl ⟨rfl, rfl, rfl, rfl, rfl⟩ rfl rfl rfl rfl rfl (by kernel_rfl) Tryz.func3 (by kernel_rfl)
    (of_decide_eq_true (by kernel_rfl)) (by unfold Func.isWrapper; rw [if_neg (of_decide_eq_false (by kernel_rfl))]; exact ⟨rfl, rfl⟩)
    (fun os started H enc _ => all_lifted step du ga os started H enc)

theorem all_card (hs : Rows.AllSaid) : Rows.AllCardSaid :=
  Claim7.holds_tied_plain_at .later [] [.data, .data, .data] true Rows.allCard.stood.harness false
    hs (fun _ h => by cases h) (by kernel_rfl) (fun _ h => by cases h) all_row_tie rfl ⟨rfl, rfl⟩ (by kernel_rfl) rfl
    (fun f fn hf hfn => by
      obtain rfl : f = 3 := Option.some.inj ((show Tryz.prog.funcNamed "reclaim/reclaimlaw.All" = some 3 by kernel_rfl).symm.trans hf) |>.symm
      obtain rfl : fn = Tryz.f3 := (Option.some.inj (Tryz.func3.symm.trans hfn)).symm
      exact ⟨by kernel_rfl, fun j t ht => by
        rw [Tryz.params3] at ht
        have hm : t ∈ [22] := by simpa using Array.mem_of_getElem? ht
        have hall : ([22].all fun u => !Tryz.prog.wantsStandIn u) = true := by kernel_rfl
        exact (show Tryz.prog.wantsStandIn t = false by simpa using List.all_eq_true.1 hall t hm)⟩)
    (by kernel_rfl)

end Go.Proofs.YtpmkjeihbddfpabGreatDoor

/- OUR OWN. All, out of the program's contracts. -/
namespace Go.Proofs.YtpmkjeihbddfpabGreatDoor
set_option linter.unusedVariables false
set_option linter.unusedSimpArgs false

theorem all_of_pacts {HS : HeapM → St → Cf → Nat → Prop} (fresh : ∀ (b s g u z o : Nat), cfgB b s g u z o = true → ∀ hm, NewM b s g u z o hm → HS hm ⟨[], List.replicate g (0, 0), List.replicate (b + 1) Ob.free, []⟩ ⟨s, u, z, o⟩ b)
    (Pd : DoPact HS (fun _ => True)) (Pg : GaugePact HS) (Pu : DumpPact HS) (Ps : SafePact HS) (Pc : CollPact HS) : Rows.AllCardSaid :=
  all_card (all_of (HS := HS) (K := anyK) (stepIs (step_law (HS := HS) (K := anyK) (Room := fun _ => True) 9223372036854775807 (-9223372036854775808) 9223372036854775807 (fun _ => True) (fresh_sim (fun _ _ => trivial) fresh) Pd (fun _ => Pg) (fun _ => Pu) (fun _ => Ps) (fun _ => Pc)
    (fun _ _ _ _ => trivial) (fun _ _ _ _ _ _ => trivial) (fun _ _ _ _ => trivial) (fun _ _ _ _ => trivial))) (dumped_at Pu) (gauged_at Pg))

end Go.Proofs.YtpmkjeihbddfpabGreatDoor

/- OUR OWN. All: the statement. -/
namespace Go.Proofs.YtpmkjeihbddfpabGreatDoor
set_option linter.unusedVariables false
set_option linter.unusedSimpArgs false

/-- P1 to P12: every call, in every order; behind each step every heap's Dump and Gauge. -/
theorem all_holds : Rows.AllCardSaid := all_of_pacts (HS := HS) fresh_hs do_all gauge_pact dump_pact safe_pact coll_pact

#print axioms all_holds

end Go.Proofs.YtpmkjeihbddfpabGreatDoor

