import Derived.Test.YtpmkjeihbddfpabDoorCoRFB12
/- OUR OWN. Refused: what a refusal leaves; the steps. -/
namespace Go.Proofs.YtpmkjeihbddfpabDoor
open Go.RowKit
set_option linter.unusedVariables false
set_option linter.unusedSimpArgs false

theorem push_no8 {d : Int} {s : St} {v : Int × Int} : (pushA d s v).2.2 ≠ 8 := by unfold pushA pushS; split <;> simp
theorem obj_no8 (v : Int × Int) : objErr v ≠ 8 := by
  unfold objErr
  split
  · simp
  · split <;> simp
theorem do_no8 {c : Cf} {s : St} {op n : Int} (h : ¬ op = 2) : (doS c s op n).2.2 ≠ 8 := by
  unfold doS
  by_cases o0 : op = 0
  · rw [if_pos o0]; exact push_no8
  rw [if_neg o0]
  by_cases o1 : op = 1
  · rw [if_pos o1]; exact push_no8
  rw [if_neg o1, if_neg h]
  by_cases o3 : op = 3
  · rw [if_pos o3]; unfold dupS; split
    · simp
    · exact push_no8
  rw [if_neg o3]
  by_cases o4 : op = 4
  · rw [if_pos o4]; unfold dropS; split <;> simp
  rw [if_neg o4]
  by_cases o5 : op = 5
  · rw [if_pos o5]; unfold getS; split
    · simp
    · exact push_no8
  rw [if_neg o5]
  by_cases o6 : op = 6
  · rw [if_pos o6]; unfold setS; split
    · simp
    · split <;> simp
  rw [if_neg o6]
  by_cases o7 : op = 7
  · rw [if_pos o7]; unfold loadS; split
    · simp
    · split
      · exact obj_no8 _
      · split
        · simp
        · exact push_no8
  rw [if_neg o7]
  by_cases o8 : op = 8
  · rw [if_pos o8]; unfold storeS; split
    · simp
    · split
      · exact obj_no8 _
      · split <;> simp
  rw [if_neg o8]
  by_cases o9 : op = 9
  · rw [if_pos o9]; unfold sameS; split
    · simp
    · split <;> simp
  rw [if_neg o9]
  by_cases o10 : op = 10
  · rw [if_pos o10]; unfold takeS; split
    · simp
    · split <;> simp
  rw [if_neg o10]
  by_cases o11 : op = 11
  · rw [if_pos o11]; unfold sizeS; split
    · simp
    · split
      · exact obj_no8 _
      · simp
  rw [if_neg o11]
  by_cases o12 : op = 12
  · rw [if_pos o12]; unfold kindS; split <;> simp
  rw [if_neg o12]; simp
theorem do_full {c : Cf} {s : St} {N : Nat} (g : s.Good N) {op n : Int} (h : (doS c s op n).2.2 = 8) : op = 2 ∧ (doS c s op n).1 = s.collect c.over := by
  by_cases o2 : op = 2
  · refine ⟨o2, ?_⟩
    have e : doS c s op n = newS c s n := by rw [o2]; simp [doS]
    rw [e] at h ⊢
    unfold newS at h ⊢
    by_cases h1 : n < 0 ∨ 4 < n
    · rw [if_pos h1] at h; cases h
    rw [if_neg h1] at h ⊢
    by_cases h2 : c.deep ≤ s.stack.length
    · rw [if_pos h2] at h; cases h
    rw [if_neg h2] at h ⊢
    cases hf : free? (roomS c s) with
    | some k => rw [hf] at h; cases h
    | none =>
      show roomS c s = _
      unfold roomS at hf ⊢
      cases hs : free? s with
      | some k => rw [hs] at hf; simp only at hf; rw [hs] at hf; cases hf
      | none =>
        rw [hs] at hf
        simp only at hf ⊢
        by_cases hq : 0 < s.queue.length
        · rw [if_pos hq] at hf
          obtain ⟨k, hk⟩ := freed_room g c.zero (by omega : s.queue.length ≠ 0)
          rw [hk] at hf; cases hf
        · rw [if_neg hq]
  · exact absurd h (do_no8 o2)

/-- an act's error -/
theorem act_err {c : Cf} {s : St} {N : Nat} (g : s.Good N) (hs : (s.stack.length : Int) ≤ c.deep) (op n : Int) :
    ((actS c s op n).2.2 ≠ 0 → (actS c s op n).2.2 ≠ 8 → (actS c s op n).1 = s) ∧ ((actS c s op n).2.2 = 8 → op = 2 ∧ (actS c s op n).1.gone = 0 ∧ (actS c s op n).1.collect c.over = (actS c s op n).1) := by
  unfold actS
  by_cases h1 : op = -1
  · rw [if_pos h1]; exact ⟨fun h => absurd rfl h, (fun h => by cases h)⟩
  rw [if_neg h1]
  by_cases h2 : op = -2
  · rw [if_pos h2]; exact ⟨fun h => absurd rfl h, (fun h => by cases h)⟩
  rw [if_neg h2]
  refine ⟨fun h0 h8 => do_err hs op n h0 h8, fun h8 => ?_⟩
  obtain ⟨e1, e2⟩ := do_full g h8
  rw [e2]
  exact ⟨e1, collect_gone g _, collect_collect g _⟩

section
variable {HS : HeapM → St → Cf → Nat → Prop}
/-- the heap at x is the state s -/
def KS (HS : HeapM → St → Cf → Nat → Prop) (Bx x N : Nat) (c : Cf) (s : St) (w : World) : Prop := ∃ hm, KAt HS Bx w x hm s c N
variable {Bx x N : Nat} {c : Cf} {s : St} {wr : World}
theorem ks_act (P : Pacts HS) (h : KS HS Bx x N c s wr) (op n : Int) (hop : fits op) (hn : fits n) :
    Calls Tryd.prog 8 #[.pointer (some ⟨x, 0, none⟩), .agg #[.int .i64 op, .int .i64 n]] wr fun e w' => e = .returned (.tuple #[.int .i64 (actS c s op n).2.1, .int .i64 (actS c s op n).2.2]) ∧ KS HS Bx x N c (actS c s op n).1 w' ∧ Below Bx wr w' := by
  obtain ⟨hm, k⟩ := h
  refine Calls.mono (act_any P k op n hop hn) ?_
  rintro e w' ⟨he, hm', ht, hk⟩
  exact ⟨he, ⟨hm', hk⟩, ht.off.below k.size k.low⟩
theorem ks_do (P : Pacts HS) (h : KS HS Bx x N c s wr) (op n : Int) (hop : fits op) (hn : fits n) :
    Calls Tryd.prog 10 #[.pointer (some ⟨x, 0, none⟩), .int .i64 op, .int .i64 n] wr fun e w' => e = .returned (.tuple #[.int .i64 (doS c s op n).2.1, .int .i64 (doS c s op n).2.2]) ∧ KS HS Bx x N c (doS c s op n).1 w' ∧ Below Bx wr w' := by
  obtain ⟨hm, k⟩ := h
  refine Calls.mono (k_do P k op n hop hn) ?_
  rintro e w' ⟨he, st⟩
  obtain ⟨hm', _, hk⟩ := st.at_
  exact ⟨he, ⟨hm', hk⟩, st.keep⟩
theorem ks_coll (P : Pacts HS) (h : KS HS Bx x N c s wr) :
    Calls Tryd.prog 9 #[.pointer (some ⟨x, 0, none⟩)] wr fun e w' => e = .returned (.int .i64 s.gone) ∧ KS HS Bx x N c (s.collect c.over) w' ∧ Below Bx wr w' := by
  obtain ⟨hm, k⟩ := h
  refine Calls.mono (k_coll P k) ?_
  rintro e w' ⟨he, st⟩
  obtain ⟨hm', _, hk⟩ := st.at_
  exact ⟨he, ⟨hm', hk⟩, st.keep⟩
theorem ks_dump (P : DumpPact HS) {Bt : Nat} (tab : Tab Bt wr) (h : KS HS Bx x N c s wr) :
    Calls Tryd.prog 7 #[.pointer (some ⟨x, 0, none⟩)] wr fun e w' => e = .returned (str (dumpL s)) ∧ KS HS Bx x N c s w' ∧ Below Bx wr w' := by
  obtain ⟨hm, k⟩ := h
  refine Calls.mono (P x N Bt wr hm s c tab k.here k.hs k.good k.cf k.small k.stack k.gl) ?_
  rintro e w' ⟨he, hm', t, hs⟩
  have st := kstep k t hs k.good k.bound k.gl
  obtain ⟨hm'', _, hk⟩ := st.at_
  exact ⟨he, ⟨hm'', hk⟩, st.keep⟩
theorem KS.err (h : KS HS Bx x N c s wr) (op n : Int) :
    ((actS c s op n).2.2 ≠ 0 → (actS c s op n).2.2 ≠ 8 → (actS c s op n).1 = s) ∧ ((actS c s op n).2.2 = 8 → op = 2 ∧ (actS c s op n).1.gone = 0 ∧ (actS c s op n).1.collect c.over = (actS c s op n).1) := by
  obtain ⟨hm, k⟩ := h
  exact act_err k.good k.bound.roots op n
end

end Go.Proofs.YtpmkjeihbddfpabDoor

/- OUR OWN. Refused, the walk. -/
namespace Go.Proofs.YtpmkjeihbddfpabDoor
open Go.RowKit
set_option linter.unusedVariables false
set_option linter.unusedSimpArgs false
section
variable {HS : HeapM → St → Cf → Nat → Prop}

set_option maxHeartbeats 4000000 in
set_option maxRecDepth 100000 in
theorem refused_walk (P : Pacts HS) (PD : DumpPact HS) (b s g u z o : Int) (fb : fits b) (fs : fits s) (fg : fits g) (fu : fits u) (fz : fits z) (fo : fits o) (a0 : Option Addr) (alen acap : Nat) (hal : alen ≤ 20000000000000) (w : World) (acts : Nat → Int × Int) (HA : ActsIn w a0 alen acts) (Bt : Nat) (tab : Tab Bt w) (hBt : Bt ≤ w.heap.size) :
    Calls Tryd.prog 3 #[.agg #[.int .i64 b, .int .i64 s, .int .i64 g, .int .i64 u, .int .i64 z, .int .i64 o], .slice a0 alen acap] w
      fun e w' => e = .returned (.bool true) ∧ Below w.heap.size w w' := by
  have CF : Hid (∀ W, Calls Tryd.prog 5 #[.agg #[.int .i64 b, .int .i64 s, .int .i64 g, .int .i64 u, .int .i64 z, .int .i64 o]] W fun e w' => (∃ k : CfgM, e = .returned k.val ∧ k.ok) ∧ Below W.heap.size W w') := fun W => config_any b s g u z o W fb fs fg fu fz fo
  have FR : Hid (∀ (k : CfgM) (W : World), k.ok → Calls Tryd.prog 6 #[.agg #[.int .i64 k.b, .int .i64 k.s, .int .i64 k.g, .int .i64 k.u, .int .i64 k.z, .int .i64 k.o]] W fun e w' => ∃ x hm, e = .returned (.pointer (some ⟨x, 0, none⟩)) ∧ Below W.heap.size W w' ∧ KAt HS W.heap.size w' x hm (st0 k) k.cf k.b) := fun k W hk => fresh_keep P.base k hk W
  have H : Hid (ActsIn w a0 alen acts ∧ Pacts HS ∧ DumpPact HS) := ⟨HA, P, PD⟩
  have TB : Hid (∀ wr, Below w.heap.size w wr → Tab Bt wr) := fun wr hb => tab.keep hb.size fun k hk _ => hb.block k (by omega)
  clear HA P PD fb fs fg fu fz fo tab hBt
  go_enter Tryd.func3, Tryd.ntmps3
  go_wp2_with fail
  refine Calls.mono (CF.out _) ?_
  rintro e w1 ⟨⟨k, rfl, hk⟩, hb⟩
  have hL : w1.heap[w.heap.size]? = some (.cells #[.int .i64 b, .int .i64 s, .int .i64 g, .int .i64 u, .int .i64 z, .int .i64 o] 23) := by rw [hb.block _ (by simp)]; exact heap_alloc_new w _
  obtain ⟨kb, ks, kg, ku, kz, ko⟩ := k
  have hB := CfgM.bounds hk
  simp only at hB
  have hs1 : w.heap.size + 1 ≤ w1.heap.size := by have := hb.size; simpa using this
  have B1 : Hid (Below w.heap.size w w1) := ((Below.refl _ _).alloc (Nat.le_refl _) _).trans (hb.mono (by simp))
  obtain ⟨x0, x1, x2, x3, x4, x5, xf⟩ := box6 hL
  have f0 := xf 0
  have f1 := xf 1
  have f2 := xf 2
  have f3 := xf 3
  have f4 := xf 4
  have f5 := xf 5
  have HL : Hid (w1.heap[w.heap.size]? = some (.cells #[.int .i64 b, .int .i64 s, .int .i64 g, .int .i64 u, .int .i64 z, .int .i64 o] 23)) := hL
  have HK : Hid (CfgM.ok ⟨kb, ks, kg, ku, kz, ko⟩) := hk
  clear hb hL hk xf CF
  unfold CfgM.val
  simp only
  go_wp2_with fail
  obtain ⟨w2, hw2⟩ : ∃ w2, w2 = ((((((w1.setCell ⟨w.heap.size, 0, none⟩ (.int .i64 kb)).setCell ⟨w.heap.size, 1, none⟩ (.int .i64 ks)).setCell ⟨w.heap.size, 2, none⟩ (.int .i64 kg)).setCell ⟨w.heap.size, 3, none⟩ (.int .i64 ku)).setCell ⟨w.heap.size, 4, none⟩ (.int .i64 kz)).setCell ⟨w.heap.size, 5, none⟩ (.int .i64 ko)) := ⟨_, rfl⟩
  rw [← hw2]
  have B2 : Hid (Below w.heap.size w w2) := by rw [hw2]; exact set6_below B1.out (Nat.le_refl _) _ _ _ _ _ _
  clear x0 x1 x2 x3 x4 x5 f0 f1 f2 f3 f4 f5 HL B1 hw2 hs1
  refine Calls.mono (FR.out ⟨kb, ks, kg, ku, kz, ko⟩ w2 HK.out) ?_
  rintro e w3 ⟨x, hm, rfl, hb3, ka⟩
  obtain ⟨Bx, hBx⟩ : ∃ Bx, w2.heap.size = Bx := ⟨_, rfl⟩
  obtain ⟨cf, hcf⟩ : ∃ cf, CfgM.cf ⟨kb, ks, kg, ku, kz, ko⟩ = cf := ⟨_, rfl⟩
  simp only at ka
  rw [hcf, hBx] at ka
  have hwB : w.heap.size ≤ Bx := by rw [← hBx]; exact B2.out.size
  have BX : Hid (∀ wr, Below Bx w3 wr → Below w.heap.size w wr) := fun wr hb => by
    rw [← hBx] at hb
    exact B2.out.trans ((hb3.trans hb).mono B2.out.size)
  have IV : Hid (KS HS Bx x kb cf (st0 ⟨kb, ks, kg, ku, kz, ko⟩) w3) := ⟨hm, ka⟩
  clear hb3 ka FR HK B2 hBx hcf
  have ACT : Hid (∀ s V op n, KS HS Bx x kb cf s V → fits op → fits n → Calls Tryd.prog 8 #[.pointer (some ⟨x, 0, none⟩), .agg #[.int .i64 op, .int .i64 n]] V fun e w' => e = .returned (.tuple #[.int .i64 (actS cf s op n).2.1, .int .i64 (actS cf s op n).2.2]) ∧ KS HS Bx x kb cf (actS cf s op n).1 w' ∧ Below Bx V w') := fun s V op n q h1 h2 => ks_act H.out.2.1 q op n h1 h2
  have COL : Hid (∀ s V, KS HS Bx x kb cf s V → Calls Tryd.prog 9 #[.pointer (some ⟨x, 0, none⟩)] V fun e w' => e = .returned (.int .i64 s.gone) ∧ KS HS Bx x kb cf (s.collect cf.over) w' ∧ Below Bx V w') := fun s V q => ks_coll H.out.2.1 q
  have DUM : Hid (∀ s V, Below Bx w3 V → KS HS Bx x kb cf s V → Calls Tryd.prog 7 #[.pointer (some ⟨x, 0, none⟩)] V fun e w' => e = .returned (str (dumpL s)) ∧ KS HS Bx x kb cf s w' ∧ Below Bx V w') := fun s V hb q => ks_dump H.out.2.2 (TB.out V (BX.out V hb)) q
  have DO : Hid (∀ s V op n, KS HS Bx x kb cf s V → fits op → fits n → Calls Tryd.prog 10 #[.pointer (some ⟨x, 0, none⟩), .int .i64 op, .int .i64 n] V fun e w' => e = .returned (.tuple #[.int .i64 (doS cf s op n).2.1, .int .i64 (doS cf s op n).2.2]) ∧ KS HS Bx x kb cf (doS cf s op n).1 w' ∧ Below Bx V w') := fun s V op n q h1 h2 => ks_do H.out.2.1 q op n h1 h2
  go_wp2
  go_loopw [6] (fun i wr => ∃ (j : Nat) (st : St), j ≤ alen ∧ i = .int .i64 j ∧ KS HS Bx x kb cf st wr ∧ Below Bx w3 wr) (fun i _ => alen - (intOf i).toNat)
  case atStart => exact ⟨0, _, Nat.zero_le _, rfl, IV.out, Below.refl _ _⟩
  case round =>
    obtain ⟨j, st, hj, rfl, hi, hbr⟩ := hrel
    have hbw := BX.out wr hbr
    have IB : Hid (KS HS Bx x kb cf st wr ∧ Below Bx w3 wr) := ⟨hi, hbr⟩
    by_cases hlt : j < alen
    · obtain ⟨sb, off, ha0, hsb, ff1, ff2, d0, d1⟩ := H.out.1 j hlt
      obtain ⟨op, hop⟩ : ∃ op, (acts j).1 = op := ⟨_, rfl⟩
      obtain ⟨nn, hnn⟩ : ∃ nn, (acts j).2 = nn := ⟨_, rfl⟩
      rw [hop] at ff1 d0
      rw [hnn] at ff2 d1
      subst ha0
      have FF : Hid (fits op ∧ fits nn) := ⟨ff1, ff2⟩
      have AC : Hid (∀ V, Below Bx w3 V → V.cell? ⟨sb, off + j * 2, none⟩ = some (.int .i64 op) ∧ V.cell? ⟨sb, off + j * 2 + 1, none⟩ = some (.int .i64 nn)) := fun V hV => ⟨((BX.out V hV).cell (p := ⟨sb, off + j * 2, none⟩) hsb).trans d0, ((BX.out V hV).cell (p := ⟨sb, off + j * 2 + 1, none⟩) hsb).trans d1⟩
      obtain ⟨er1, er2⟩ := hi.err op nn
      have D0 : Hid _ := DUM.out st wr hbr hi
      obtain ⟨r, hr⟩ : ∃ r, actS cf st op nn = r := ⟨_, rfl⟩
      have ACTR : Hid (∀ V, KS HS Bx x kb cf st V → Calls Tryd.prog 8 #[.pointer (some ⟨x, 0, none⟩), .agg #[.int .i64 op, .int .i64 nn]] V fun e w' => e = .returned (.tuple #[.int .i64 r.2.1, .int .i64 r.2.2]) ∧ KS HS Bx x kb cf r.1 w' ∧ Below Bx V w') := fun V q => by
        have := ACT.out st V op nn q FF.out.1 FF.out.2
        rw [hr] at this
        exact this
      rw [hr] at er1 er2
      obtain ⟨s2, r1, r2⟩ := r
      simp only at er1 er2 ACTR
      have hjI : (j : Int) < alen := by omega
      have E1 : Hid _ := er1
      have E2 : Hid _ := er2
      clear hi hbr hbw d0 d1 ff1 ff2 hop hnn IV hr er1 er2
      obtain ⟨d, hd⟩ : ∃ d, dumpL st = d := ⟨_, rfl⟩
      rw [hd] at D0
      unfold str at D0
      go_wp2_with fail
      refine Calls.mono D0.out ?_
      rintro e w4 ⟨rfl, hk4, hb4⟩
      have I4 : Hid (KS HS Bx x kb cf st w4 ∧ Below Bx w3 w4) := ⟨hk4, IB.out.2.trans hb4⟩
      obtain ⟨q0, q1⟩ := AC.out w4 I4.out.2
      clear hk4 hb4 D0
      go_wp2_with fail
      refine Calls.mono (ACTR.out _ I4.out.1) ?_
      rintro e w5 ⟨rfl, hk5, hb5⟩
      have I5 : Hid (KS HS Bx x kb cf s2 w5 ∧ Below Bx w3 w5) := ⟨hk5, I4.out.2.trans hb5⟩
      have D2 : Hid _ := DUM.out s2 w5 I5.out.2 I5.out.1
      obtain ⟨d2, hd2⟩ : ∃ d2, dumpL s2 = d2 := ⟨_, rfl⟩
      rw [hd2] at D2
      unfold str at D2
      clear hk5 hb5 q0 q1
      go_wp2_with fail
      refine Calls.mono D2.out ?_
      rintro e w6 ⟨rfl, hk6, hb6⟩
      have I6 : Hid (KS HS Bx x kb cf s2 w6 ∧ Below Bx w3 w6) := ⟨hk6, I5.out.2.trans hb6⟩
      clear hk6 hb6 D2
      by_cases h0 : r2 = 0
      · subst h0
        clear E1 E2
        go_wp2
        go_roundw
        case rel => exact ⟨j + 1, s2, by omega, by go_num, I6.out.1, I6.out.2⟩
        case measure => simp [intOf]; omega
      by_cases h8 : r2 = 8
      · subst h8
        obtain ⟨hop2, hgone, hcol⟩ := E2.out rfl
        have C6 : Hid (Calls Tryd.prog 9 #[.pointer (some ⟨x, 0, none⟩)] w6 fun e w' => e = .returned (.int .i64 0) ∧ KS HS Bx x kb cf s2 w' ∧ Below Bx w6 w') := by
          have := COL.out s2 w6 I6.out.1
          rw [hgone, hcol] at this
          exact this
        subst hop2
        clear E1 E2 hgone hcol h0
        go_wp2_with fail
        refine Calls.mono C6.out ?_
        rintro e w7 ⟨rfl, hk7, hb7⟩
        have I7 : Hid (KS HS Bx x kb cf s2 w7 ∧ Below Bx w3 w7) := ⟨hk7, I6.out.2.trans hb7⟩
        have D3 : Hid _ := DUM.out s2 w7 I7.out.2 I7.out.1
        rw [hd2] at D3
        unfold str at D3
        clear hk7 hb7 C6
        go_wp2_with fail
        refine Calls.mono D3.out ?_
        rintro e w8 ⟨rfl, hk8, hb8⟩
        have I8 : Hid (KS HS Bx x kb cf s2 w8 ∧ Below Bx w3 w8) := ⟨hk8, I7.out.2.trans hb8⟩
        obtain ⟨q0, q1⟩ := AC.out w8 I8.out.2
        clear hk8 hb8 D3
        go_wp2
        go_roundw
        case rel => exact ⟨j + 1, s2, by omega, by go_num, I8.out.1, I8.out.2⟩
        case measure => simp [intOf]; omega
      · have hsame := E1.out h0 h8
        subst hsame
        rw [hd] at hd2
        subst hd2
        have h0d : (r2 == 0) = false := by simpa using h0
        have h8d : (r2 == 8) = false := by simpa using h8
        clear E1 E2
        go_wp2
        go_roundw
        case rel => exact ⟨j + 1, _, by omega, by go_num, I6.out.1, I6.out.2⟩
        case measure => simp [intOf]; omega
    · have hjI : ¬ (j : Int) < alen := by omega
      have e1 : doS cf st 13 0 = (st, 0, 2) := by simp [doS]
      have e2 : doS cf st 2 (-1) = (st, 0, 6) := by
        have : doS cf st 2 (-1) = newS cf st (-1) := by simp [doS]
        rw [this]
        unfold newS
        exact if_pos (.inl (by decide))
      have K1 : Hid (Calls Tryd.prog 10 #[.pointer (some ⟨x, 0, none⟩), .int .i64 13, .int .i64 0] wr fun e w' => e = .returned (.tuple #[.int .i64 0, .int .i64 2]) ∧ KS HS Bx x kb cf st w' ∧ Below Bx wr w') := by
        have := DO.out st wr 13 0 hi ⟨by decide, by decide⟩ ⟨by decide, by decide⟩
        rw [e1] at this
        exact this
      have K2 : Hid (∀ V, KS HS Bx x kb cf st V → Calls Tryd.prog 10 #[.pointer (some ⟨x, 0, none⟩), .int .i64 2, .int .i64 (-1)] V fun e w' => e = .returned (.tuple #[.int .i64 0, .int .i64 6]) ∧ KS HS Bx x kb cf st w' ∧ Below Bx V w') := fun V q => by
        have := DO.out st V 2 (-1) q ⟨by decide, by decide⟩ ⟨by decide, by decide⟩
        rw [e2] at this
        exact this
      clear hi hbr hbw IV e1 e2
      go_wp2_with fail
      refine Calls.mono K1.out ?_
      rintro e w4 ⟨rfl, hk4, hb4⟩
      have I4 : Hid (KS HS Bx x kb cf st w4 ∧ Below Bx w3 w4) := ⟨hk4, IB.out.2.trans hb4⟩
      clear hk4 hb4 K1
      go_wp2_with fail
      refine Calls.mono (K2.out _ I4.out.1) ?_
      rintro e w5 ⟨rfl, hk5, hb5⟩
      have B5 : Hid (Below w.heap.size w w5) := BX.out w5 (I4.out.2.trans hb5)
      clear hk5 hb5 K2
      go_wp2
      go_ret
      exact ⟨rfl, B5.out⟩
end

end Go.Proofs.YtpmkjeihbddfpabDoor

