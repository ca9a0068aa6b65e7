import Derived.Test.YtpmkjeihbddfpaaCoESB1
/- OUR OWN. Endless, the walk. -/
namespace Go.Proofs.Ytpmkjeihbddfpaa
open Go.RowKit
set_option linter.unusedVariables false
set_option linter.unusedSimpArgs false
section
variable {HS : HeapM → St → Cf → Nat → Prop} {Bx x N : Nat} {c : Cf} {K : List (Nat × Obj)} {W : World}

/-- nothing on the stack and in the globals -/
def E0 (HS : HeapM → St → Cf → Nat → Prop) (Bx x N : Nat) (c : Cf) (K : List (Nat × Obj)) (W : World) : Prop := ∃ s, KK HS Bx x N c K s W ∧ Empty s
/-- an object with n fields k times on the stack -/
def E1 (HS : HeapM → St → Cf → Nat → Prop) (Bx x N : Nat) (c : Cf) (K : List (Nat × Obj)) (n k : Nat) (W : World) : Prop := ∃ s b, KK HS Bx x N c K s W ∧ Ring n b k s
theorem e_make (P : Pacts HS) (h : E0 HS Bx x N c K W) (hN : 1 ≤ N) (hd : 1 ≤ c.deep) {n : Nat} (hn : n ≤ 4) :
    Calls Try.prog 10 #[.pointer (some ⟨x, 0, none⟩), .int .i64 2, .int .i64 n] W fun e w' => e = .returned (.tuple #[.int .i64 0, .int .i64 0]) ∧ E1 HS Bx x N c K n 1 w' ∧ Below Bx W w' := by
  obtain ⟨s, k, he⟩ := h
  obtain ⟨h1, b, h2⟩ := he.make (n := n) k.good hN hd hn
  refine (kk_do P k 2 n ⟨by omega, by omega⟩ ⟨by omega, by omega⟩).mono ?_
  rintro e w' ⟨he, hk, hb⟩
  rw [h1] at he
  exact ⟨he, ⟨_, b, hk, h2⟩, hb⟩
theorem e_dup (P : Pacts HS) {n k : Nat} (h : E1 HS Bx x N c K n k W) (h1 : 1 ≤ k) (hd : (k : Int) < c.deep) :
    Calls Try.prog 10 #[.pointer (some ⟨x, 0, none⟩), .int .i64 3, .int .i64 0] W fun e w' => e = .returned (.tuple #[.int .i64 0, .int .i64 0]) ∧ E1 HS Bx x N c K n (k + 1) w' ∧ Below Bx W w' := by
  obtain ⟨s, b, q, hr⟩ := h
  obtain ⟨a1, a2⟩ := hr.dup (c := c) h1 hd
  refine (kk_do P q 3 0 ⟨by omega, by omega⟩ ⟨by omega, by omega⟩).mono ?_
  rintro e w' ⟨he, hk, hb⟩
  rw [a1] at he
  exact ⟨he, ⟨_, b, hk, a2⟩, hb⟩
theorem e_store (P : Pacts HS) {n : Nat} (h : E1 HS Bx x N c K n 3 W) (h1 : 1 ≤ n) (hn : n ≤ 4) :
    Calls Try.prog 10 #[.pointer (some ⟨x, 0, none⟩), .int .i64 8, .int .i64 ((n : Int) - 1)] W fun e w' => e = .returned (.tuple #[.int .i64 0, .int .i64 0]) ∧ E1 HS Bx x N c K n 1 w' ∧ Below Bx W w' := by
  obtain ⟨s, b, q, hr⟩ := h
  obtain ⟨a1, a2⟩ := hr.store (c := c) h1
  refine (kk_do P q 8 ((n : Int) - 1) ⟨by omega, by omega⟩ ⟨by omega, by omega⟩).mono ?_
  rintro e w' ⟨he, hk, hb⟩
  rw [a1] at he
  exact ⟨he, ⟨_, b, hk, a2⟩, hb⟩
theorem e_size (P : Pacts HS) {n : Nat} (h : E1 HS Bx x N c K n 1 W) :
    Calls Try.prog 10 #[.pointer (some ⟨x, 0, none⟩), .int .i64 11, .int .i64 0] W fun e w' => e = .returned (.tuple #[.int .i64 n, .int .i64 0]) ∧ E1 HS Bx x N c K n 1 w' ∧ Below Bx W w' := by
  obtain ⟨s, b, q, hr⟩ := h
  have a := hr.size (c := c)
  refine (kk_do P q 11 0 ⟨by omega, by omega⟩ ⟨by omega, by omega⟩).mono ?_
  rintro e w' ⟨he, hk, hb⟩
  rw [a] at he hk
  exact ⟨he, ⟨_, b, hk, hr⟩, hb⟩
theorem e_drop (P : Pacts HS) {n : Nat} (h : E1 HS Bx x N c K n 1 W) :
    Calls Try.prog 10 #[.pointer (some ⟨x, 0, none⟩), .int .i64 4, .int .i64 0] W fun e w' => e = .returned (.tuple #[.int .i64 0, .int .i64 0]) ∧ E0 HS Bx x N c K w' ∧ Below Bx W w' := by
  obtain ⟨s, b, q, hr⟩ := h
  obtain ⟨a1, a2⟩ := hr.drop (c := c)
  refine (kk_do P q 4 0 ⟨by omega, by omega⟩ ⟨by omega, by omega⟩).mono ?_
  rintro e w' ⟨he, hk, hb⟩
  rw [a1] at he
  exact ⟨he, ⟨_, hk, a2⟩, hb⟩
theorem st0_empty (k : CfgM) : Empty (st0 k) := ⟨rfl, fun v hv => by simp [st0] at hv; exact hv.2⟩

set_option maxHeartbeats 4000000 in
set_option maxRecDepth 100000 in
theorem endless_walk (P : Pacts HS) (b s g u z o : Int) (fb : fits b) (fs : fits s) (fg : fits g) (fu : fits u) (fz : fits z) (fo : fits o) (r0 f0' : Int) (fr : fits r0) (ff : fits f0') (w : World) :
    Calls Try.prog 5 #[.agg #[.int .i64 b, .int .i64 s, .int .i64 g, .int .i64 u, .int .i64 z, .int .i64 o], .int .i64 r0, .int .i64 f0'] w
      fun e w' => e = .returned (.bool true) ∧ Below w.heap.size w w' := by
  have CF : Hid (∀ W, Calls Try.prog 7 #[.agg #[.int .i64 b, .int .i64 s, .int .i64 g, .int .i64 u, .int .i64 z, .int .i64 o]] W fun e w' => (∃ k : CfgM, e = .returned k.val ∧ k.ok) ∧ Below W.heap.size W w') := fun W => config_any b s g u z o W fb fs fg fu fz fo
  have FR : Hid (∀ (k : CfgM) (W : World), k.ok → Calls Try.prog 9 #[.agg #[.int .i64 k.b, .int .i64 k.s, .int .i64 k.g, .int .i64 k.u, .int .i64 k.z, .int .i64 k.o]] W fun e w' => ∃ x hm, e = .returned (.pointer (some ⟨x, 0, none⟩)) ∧ Below W.heap.size W w' ∧ KAt HS W.heap.size w' x hm (st0 k) k.cf k.b) := fun k W hk => fresh_keep P.base k hk W
  have P1 : Hid (∀ W, Calls Try.prog 8 #[.int .i64 f0', .int .i64 5] W fun r w' => ∃ n : Nat, r = .returned (.int .i64 n) ∧ n ≤ 4 ∧ w' = W) := fun W => (kpick_any f0' 5 W ff (by decide) (by decide)).mono fun r w' ⟨h1, h2⟩ => ⟨_, h1, by have := pickN_lt f0' 5 (by decide); omega, h2⟩
  have P2 : Hid (∀ W, Calls Try.prog 8 #[.int .i64 r0, .int .i64 301] W fun r w' => ∃ n : Nat, r = .returned (.int .i64 n) ∧ n ≤ 300 ∧ w' = W) := fun W => (kpick_any r0 301 W fr (by decide) (by decide)).mono fun r w' ⟨h1, h2⟩ => ⟨_, h1, by have := pickN_lt r0 301 (by decide); omega, h2⟩
  have PP : Hid (Pacts HS) := P
  clear P fb fs fg fu fz fo fr ff
  go_enter Try.func5, Try.ntmps5
  go_wp2_with fail
  refine Calls.mono (CF.out _) ?_
  rintro e w1 ⟨⟨k, rfl, hk⟩, hb⟩
  have hL : w1.heap[w.heap.size]? = some (.cells #[.int .i64 b, .int .i64 s, .int .i64 g, .int .i64 u, .int .i64 z, .int .i64 o] 23) := by rw [hb.block _ (by simp)]; exact heap_alloc_new w _
  obtain ⟨kb, ks, kg, ku, kz, ko⟩ := k
  have hB := CfgM.bounds hk
  simp only at hB
  have hs1 : w.heap.size + 1 ≤ w1.heap.size := by have := hb.size; simpa using this
  have B1 : Hid (Below w.heap.size w w1) := ((Below.refl _ _).alloc (Nat.le_refl _) _).trans (hb.mono (by simp))
  obtain ⟨x0, x1, x2, x3, x4, x5, xf⟩ := box6 hL
  have f0 := xf 0
  have f1 := xf 1
  have f2 := xf 2
  have f3 := xf 3
  have f4 := xf 4
  have f5 := xf 5
  have HL : Hid (w1.heap[w.heap.size]? = some (.cells #[.int .i64 b, .int .i64 s, .int .i64 g, .int .i64 u, .int .i64 z, .int .i64 o] 23)) := hL
  have HK : Hid (CfgM.ok ⟨kb, ks, kg, ku, kz, ko⟩) := hk
  clear hb hL hk xf CF
  unfold CfgM.val
  simp only
  go_wp2_with fail
  obtain ⟨w2, hw2⟩ : ∃ w2, w2 = ((((((w1.setCell ⟨w.heap.size, 0, none⟩ (.int .i64 kb)).setCell ⟨w.heap.size, 1, none⟩ (.int .i64 ks)).setCell ⟨w.heap.size, 2, none⟩ (.int .i64 kg)).setCell ⟨w.heap.size, 3, none⟩ (.int .i64 ku)).setCell ⟨w.heap.size, 4, none⟩ (.int .i64 kz)).setCell ⟨w.heap.size, 5, none⟩ (.int .i64 ko)) := ⟨_, rfl⟩
  rw [← hw2]
  have hL2 : w2.heap[w.heap.size]? = some (.cells #[.int .i64 kb, .int .i64 ks, .int .i64 kg, .int .i64 ku, .int .i64 kz, .int .i64 ko] 23) := by rw [hw2]; exact set6_heap HL.out _ _ _ _ _ _
  have B2 : Hid (Below w.heap.size w w2) := by rw [hw2]; exact set6_below B1.out (Nat.le_refl _) _ _ _ _ _ _
  have hs2 : w.heap.size + 1 ≤ w2.heap.size := by rw [hw2, set6_size]; exact hs1
  clear x0 x1 x2 x3 x4 x5 f0 f1 f2 f3 f4 f5 HL B1 hw2 hs1
  refine Calls.mono (FR.out ⟨kb, ks, kg, ku, kz, ko⟩ w2 HK.out) ?_
  rintro e w3 ⟨x, hm, rfl, hb3, ka⟩
  obtain ⟨cf, hcf⟩ : ∃ cf, CfgM.cf ⟨kb, ks, kg, ku, kz, ko⟩ = cf := ⟨_, rfl⟩
  have hdp : cf.deep = ks := by rw [← hcf]; rfl
  have BX : Hid (∀ wr, Below w2.heap.size w3 wr → Box6 wr w.heap.size (.int .i64 kb) (.int .i64 ks) (.int .i64 kg) (.int .i64 ku) (.int .i64 kz) (.int .i64 ko) ∧ Below w.heap.size w wr) := fun wr hb => by
    have h23 := (hb3.trans hb)
    exact ⟨box6 ((h23.block _ (by omega)).trans hL2), B2.out.trans (h23.mono (by omega))⟩
  have IV : Hid (E0 HS w2.heap.size x kb cf [] w3) := ⟨_, ⟨hm, by rw [← hcf]; exact ka, (fun p hp => by cases hp)⟩, st0_empty _⟩
  have hN : 1 ≤ kb := hB.1
  have hks : 1 ≤ ks := by have := hB; omega
  have MK : Hid (∀ (n : Nat) V, E0 HS w2.heap.size x kb cf [] V → n ≤ 4 → Calls Try.prog 10 #[.pointer (some ⟨x, 0, none⟩), .int .i64 2, .int .i64 n] V fun e w' => e = .returned (.tuple #[.int .i64 0, .int .i64 0]) ∧ E1 HS w2.heap.size x kb cf [] n 1 w' ∧ Below w2.heap.size V w') := fun n V h hn => e_make PP.out h hN (by omega) hn
  have DP : Hid (∀ (n k : Nat) V, E1 HS w2.heap.size x kb cf [] n k V → 1 ≤ k → k < ks → Calls Try.prog 10 #[.pointer (some ⟨x, 0, none⟩), .int .i64 3, .int .i64 0] V fun e w' => e = .returned (.tuple #[.int .i64 0, .int .i64 0]) ∧ E1 HS w2.heap.size x kb cf [] n (k + 1) w' ∧ Below w2.heap.size V w') := fun n k V h h1 h2 => e_dup PP.out h h1 (by omega)
  have ST : Hid (∀ (n : Nat) V, E1 HS w2.heap.size x kb cf [] n 3 V → 1 ≤ n → n ≤ 4 → Calls Try.prog 10 #[.pointer (some ⟨x, 0, none⟩), .int .i64 8, .int .i64 ((n : Int) - 1)] V fun e w' => e = .returned (.tuple #[.int .i64 0, .int .i64 0]) ∧ E1 HS w2.heap.size x kb cf [] n 1 w' ∧ Below w2.heap.size V w') := fun n V h h1 h2 => e_store PP.out h h1 h2
  have SZ : Hid (∀ (n : Nat) V, E1 HS w2.heap.size x kb cf [] n 1 V → Calls Try.prog 10 #[.pointer (some ⟨x, 0, none⟩), .int .i64 11, .int .i64 0] V fun e w' => e = .returned (.tuple #[.int .i64 n, .int .i64 0]) ∧ E1 HS w2.heap.size x kb cf [] n 1 w' ∧ Below w2.heap.size V w') := fun n V h => e_size PP.out h
  have DRO : Hid (∀ (n : Nat) V, E1 HS w2.heap.size x kb cf [] n 1 V → Calls Try.prog 10 #[.pointer (some ⟨x, 0, none⟩), .int .i64 4, .int .i64 0] V fun e w' => e = .returned (.tuple #[.int .i64 0, .int .i64 0]) ∧ E0 HS w2.heap.size x kb cf [] w' ∧ Below w2.heap.size V w') := fun n V h => e_drop PP.out h
  have hw23 := hb3.size
  clear hb3 ka hL2 FR HK B2 hcf hdp PP
  go_wp2_with fail
  refine Calls.mono (P1.out _) ?_
  rintro e w3' ⟨n, rfl, hn, hw⟩
  subst hw
  clear P1
  go_wp2_with fail
  refine Calls.mono (P2.out _) ?_
  rintro e w3'' ⟨m, rfl, hm3, hw⟩
  subst hw
  clear P2
  go_wp2
  go_loopw [8] (fun i wr => ∃ q : Nat, q ≤ 300 ∧ i = .int .i64 q ∧ E0 HS w2.heap.size x kb cf [] wr ∧ Below w2.heap.size w3'' wr) (fun i _ => (intOf i).toNat)
  case atStart => exact ⟨m, hm3, rfl, IV.out, Below.refl _ _⟩
  case round =>
    obtain ⟨q, hq, rfl, hi, hbr⟩ := hrel
    have I0 : Hid (E0 HS w2.heap.size x kb cf [] wr ∧ Below w2.heap.size w3'' wr) := ⟨hi, hbr⟩
    clear hi hbr IV
    by_cases h0 : 0 < q
    · have h0I : (0 : Int) < q := by omega
      go_wp2_with fail
      refine Calls.mono (MK.out n _ I0.out.1 hn) ?_
      rintro e w4 ⟨rfl, he4, hb4⟩
      have I4 : Hid (E1 HS w2.heap.size x kb cf [] n 1 w4 ∧ Below w2.heap.size w3'' w4) := ⟨he4, I0.out.2.trans hb4⟩
      obtain ⟨⟨y0, y1, y2, y3, y4, y5, _⟩, _⟩ := BX.out w4 I4.out.2
      clear he4 hb4 I0 y0 y2 y3 y4 y5
      by_cases hc : 0 < n ∧ 2 < ks
      · obtain ⟨hc1, hc2⟩ := hc
        have hc1I : (0 : Int) < n := by omega
        have hc2I : (2 : Int) < ks := by omega
        go_wp2_with fail
        refine Calls.mono (DP.out n 1 _ I4.out.1 (by omega) (by omega)) ?_
        rintro e w5 ⟨rfl, he5, hb5⟩
        have I5 : Hid (E1 HS w2.heap.size x kb cf [] n 2 w5 ∧ Below w2.heap.size w3'' w5) := ⟨he5, I4.out.2.trans hb5⟩
        clear he5 hb5 I4 y1
        go_wp2_with fail
        refine Calls.mono (DP.out n 2 _ I5.out.1 (by omega) (by omega)) ?_
        rintro e w6 ⟨rfl, he6, hb6⟩
        have I6 : Hid (E1 HS w2.heap.size x kb cf [] n 3 w6 ∧ Below w2.heap.size w3'' w6) := ⟨he6, I5.out.2.trans hb6⟩
        clear he6 hb6 I5
        go_wp2_with fail
        refine Calls.mono (ST.out n _ I6.out.1 (by omega) hn) ?_
        rintro e w7 ⟨rfl, he7, hb7⟩
        have I7 : Hid (E1 HS w2.heap.size x kb cf [] n 1 w7 ∧ Below w2.heap.size w3'' w7) := ⟨he7, I6.out.2.trans hb7⟩
        clear he7 hb7 I6
        go_wp2_with fail
        refine Calls.mono (SZ.out n _ I7.out.1) ?_
        rintro e w8 ⟨rfl, he8, hb8⟩
        have I8 : Hid (E1 HS w2.heap.size x kb cf [] n 1 w8 ∧ Below w2.heap.size w3'' w8) := ⟨he8, I7.out.2.trans hb8⟩
        clear he8 hb8 I7
        go_wp2_with fail
        refine Calls.mono (DRO.out n _ I8.out.1) ?_
        rintro e w9 ⟨rfl, he9, hb9⟩
        have I9 : Hid (E0 HS w2.heap.size x kb cf [] w9 ∧ Below w2.heap.size w3'' w9) := ⟨he9, I8.out.2.trans hb9⟩
        clear he9 hb9 I8
        go_wp2
        go_roundw
        case rel => exact ⟨q - 1, by omega, by congr 1; omega, I9.out.1, I9.out.2⟩
        case measure => simp [intOf]; omega
      · have hA : ((0 : Int) < n ∧ ¬ (2 : Int) < ks) ∨ ¬ (0 : Int) < n := by omega
        rcases hA with ⟨hA1, hA2⟩ | hA
        all_goals
          go_wp2_with fail
          refine Calls.mono (SZ.out n _ I4.out.1) ?_
          rintro e w8 ⟨rfl, he8, hb8⟩
          have I8 : Hid (E1 HS w2.heap.size x kb cf [] n 1 w8 ∧ Below w2.heap.size w3'' w8) := ⟨he8, I4.out.2.trans hb8⟩
          clear he8 hb8 I4 y1
          go_wp2_with fail
          refine Calls.mono (DRO.out n _ I8.out.1) ?_
          rintro e w9 ⟨rfl, he9, hb9⟩
          have I9 : Hid (E0 HS w2.heap.size x kb cf [] w9 ∧ Below w2.heap.size w3'' w9) := ⟨he9, I8.out.2.trans hb9⟩
          clear he9 hb9 I8
          go_wp2
          go_roundw
          case rel => exact ⟨q - 1, by omega, by congr 1; omega, I9.out.1, I9.out.2⟩
          case measure => simp [intOf]; omega
    · have h0I : ¬ (0 : Int) < q := by omega
      have BE : Hid (Below w.heap.size w wr) := (BX.out wr I0.out.2).2
      go_wp2
      go_ret
      exact ⟨rfl, BE.out⟩
end

end Go.Proofs.Ytpmkjeihbddfpaa

/- OUR OWN. Endless: the statement, out of the program's contracts. -/
namespace Go.Proofs.Ytpmkjeihbddfpaa
open Go.ChangeShapes Go.WideShapes Go.ChangeAt Go.RowKit Go.Deep
set_option linter.unusedVariables false
set_option linter.unusedSimpArgs false

variable {HS : HeapM → St → Cf → Nat → Prop}

theorem fits_wf {n : Int} (h : (Lit.int .i64 n).wf = true) : fits n := by
  simp [Lit.wf] at h
  have e1 : IntKind.i64.min = -9223372036854775808 := by decide
  have e2 : IntKind.i64.max = 9223372036854775807 := by decide
  exact ⟨by omega, by omega⟩

set_option maxRecDepth 100000 in
theorem endless_lifted (P : Pacts HS) (os : Os) (started : os.Started) (H : Type) (enc : TypeId × Value → H) :
    ReturnsInHanded {} Try.checked os 5 .any (Rows.endlessSpec.pre6 enc Try.prog Try.f5 Rows.endlessRow.domain false) (Rows.endlessSpec.post enc Try.prog Try.f5 false true false false) := by
  refine returnsInHanded_of_change_sized (C := Try.checked) own started (by kernel_rfl) Try.func5
    (ChangeSpec.witness6 (enc := enc) (C := Try.checked) false ⟨#[], #[.agg #[.int .i64 0, .int .i64 0, .int .i64 0, .int .i64 0, .int .i64 0, .int .i64 0], .int .i64 0, .int .i64 0], []⟩ 8 (by kernel_rfl) (by kernel_rfl) (by kernel_rfl) (by kernel_rfl)) ?_
  intro W base args ds gs before hval0 hW _ hsz0 _
  have hval : ∀ (j : Nat) t v, Try.f5.params[j]? = some t → args[j]? = some v → Value.okWide Try.prog W .any base t v := hval0
  have hW' := hW
  obtain ⟨p, q, hA0, hV, rfl, hfz, hnd⟩ := hW
  have hA : DataW.TrodAll enc Try.prog W 0 (fun _ => true) true Try.f5.params.toList args.toList ds p := hA0
  rw [Try.params5] at hA hval
  obtain ⟨v0, vs0, d0, ds0, p0, q0, hargs, rfl, rfl, h0, r0⟩ := trodAll_cons hA
  obtain ⟨v1, vs1, d1, ds1, p1, q1, rfl, rfl, rfl, h1, r1⟩ := trodAll_cons r0
  obtain ⟨v2, vs2, d2, ds2, p2, q2, rfl, rfl, rfl, h2, r2⟩ := trodAll_cons r1
  obtain ⟨rfl, rfl, rfl⟩ := trodAll_nil r2
  obtain rfl : args = #[v0, v1, v2] := by cases args; simp_all
  obtain ⟨rfl, rfl⟩ := trodVars_none hV
  obtain ⟨c0, rfl, hc0⟩ := okWide_struct Try.underlying23 (hval 0 23 v0 rfl rfl)
  obtain ⟨n1, rfl, _, _, w1⟩ := open_int Try.underlying3 (hval 1 3 v1 rfl rfl) h1
  obtain ⟨n2, rfl, _, _, w2⟩ := open_int Try.underlying3 (hval 2 3 v2 rfl rfl) h2
  have k0 := h0
  have k1 := h1
  have k2 := h2
  have lt0 : ∀ x ∈ p0, x.block < W.heap.size := by obtain ⟨m, hm⟩ := k0; exact DataW.trod_lt m _ _ _ hm
  have lt1 : ∀ x ∈ p1, x.block < W.heap.size := by obtain ⟨m, hm⟩ := k1; exact DataW.trod_lt m _ _ _ hm
  have lt2 : ∀ x ∈ p2, x.block < W.heap.size := by obtain ⟨m, hm⟩ := k2; exact DataW.trod_lt m _ _ _ hm
  obtain ⟨u0, g0⟩ := h0
  have g0' : DataW.trod enc Try.prog W 0 (fun _ => true) true u0 23 c0.toList = some (d0, p0) := by simpa [Value.cells] using g0
  obtain ⟨b, s, g, u, z, o, fb, fs, fg, fu, fz, fo, e0⟩ := cfg_of g0'
  have e0' : c0 = #[.int .i64 b, .int .i64 s, .int .i64 g, .int .i64 u, .int .i64 z, .int .i64 o] := by rw [← Array.toArray_toList (xs := c0), e0]
  subst e0'
  clear hA0 hval0
  refine (endless_walk P b s g u z o fb fs fg fu fz fo n1 n2 (fits_wf w1) (fits_wf w2) W).mono fun e W' ⟨he, bel⟩ => ?_
  subst he
  exact ⟨_, rfl, _, _, _, [], _, [], hW', trodAll_mk1 (shut_bool Try.underlying4 _), (trodAll_cons_mk (Below.trod laidOut (by kernel_rfl) (of_decide_eq_true (by kernel_rfl)) k0 bel lt0) (trodAll_cons_mk (Below.trod laidOut (by kernel_rfl) (of_decide_eq_true (by kernel_rfl)) k1 bel lt1) (trodAll_cons_mk (Below.trod laidOut (by kernel_rfl) (of_decide_eq_true (by kernel_rfl)) k2 bel lt2) trodAll_mk0))), rfl, bel.frame _, fun h => by cases h⟩

theorem endless_of (P : Pacts HS) : Rows.EndlessSaid :=
  OpenClaim.holds_of_wide 5 Try.f5 rfl rfl rfl rfl rfl rfl rfl ⟨rfl, rfl, rfl, rfl, rfl⟩ rfl rfl rfl rfl rfl (by kernel_rfl) Try.func5 (by kernel_rfl)
    (of_decide_eq_true (by kernel_rfl)) (by unfold Func.isWrapper; rw [if_neg (of_decide_eq_false (by kernel_rfl))]; exact ⟨rfl, rfl⟩)
    (fun os started H enc _ => endless_lifted P os started H enc)

end Go.Proofs.Ytpmkjeihbddfpaa

/- OUR OWN. Endless: the statement. -/
namespace Go.Proofs.Ytpmkjeihbddfpaa
set_option linter.unusedVariables false
set_option linter.unusedSimpArgs false

/-- P5, P11: rings made and let go, again and again, are never refused. -/
theorem endless_holds : Rows.EndlessSaid := endless_of (HS := HS) ⟨fresh_hs, do_all, gauge_pact, safe_pact, coll_pact⟩

#print axioms endless_holds

end Go.Proofs.Ytpmkjeihbddfpaa

