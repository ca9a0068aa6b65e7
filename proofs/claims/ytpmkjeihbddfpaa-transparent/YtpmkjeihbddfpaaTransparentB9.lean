import Derived.Test.YtpmkjeihbddfpaaTransparentB8
import Derived.Deep.CutRange
/- OUR OWN. Transparent, the walk. -/
namespace Go.Proofs.Ytpmkjeihbddfpaa
open Go.RowKit
set_option linter.unusedVariables false
set_option linter.unusedSimpArgs false

variable {HS : HeapM → St → Cf → Nat → Prop}

set_option maxHeartbeats 16000000 in
set_option maxRecDepth 10000 in
theorem transparent_walk (P : Pacts HS) (c d : Array Int) (b s g u z o b' s' g' u' z' o' : Int) (fb : fits b) (fs : fits s) (fg : fits g) (fu : fits u) (fz : fits z) (fo : fits o) (fb' : fits b') (fs' : fits s') (fg' : fits g') (fu' : fits u') (fz' : fits z') (fo' : fits o')
    (a0 p0 : Option Addr) (alen acap plen pcap : Nat) (hal : alen ≤ 20000000000000) (hpl : plen ≤ 20000000000000) (w : World) (acts : Nat → Int × Int) (ints : Nat → Int) (HA : ActsIn w a0 alen acts) (HP : IntsIn w p0 plen ints) :
    Calls Try.prog 4 #[.agg #[.int .i64 b, .int .i64 s, .int .i64 g, .int .i64 u, .int .i64 z, .int .i64 o], .agg #[.int .i64 b', .int .i64 s', .int .i64 g', .int .i64 u', .int .i64 z', .int .i64 o'], .slice a0 alen acap, .slice p0 plen pcap] w
      fun e w' => e = .returned (.bool true) ∧ Below w.heap.size w w' := by
  have CF : Hid (∀ W, Calls Try.prog 7 #[.agg #[.int .i64 b, .int .i64 s, .int .i64 g, .int .i64 u, .int .i64 z, .int .i64 o]] W fun e w' => (∃ k : CfgM, e = .returned k.val ∧ k.ok) ∧ Below W.heap.size W w') := fun W => config_any b s g u z o W fb fs fg fu fz fo
  have DF : Hid (∀ W, Calls Try.prog 7 #[.agg #[.int .i64 b', .int .i64 s', .int .i64 g', .int .i64 u', .int .i64 z', .int .i64 o']] W fun e w' => (∃ k : CfgM, e = .returned k.val ∧ k.ok) ∧ Below W.heap.size W w') := fun W => config_any b' s' g' u' z' o' W fb' fs' fg' fu' fz' fo'
  have PK : Hid (∀ (c : Int) (n : Nat) (W : World), fits c → 0 < n → n ≤ 1000 → Calls Try.prog 8 #[.int .i64 c, .int .i64 n] W fun r w' => r = .returned (.int .i64 (pickN c n)) ∧ w' = W) := fun c n W hc hn hm => kpick_any c n W hc hn (by omega)
  have FR : Hid (∀ (k : CfgM) (W : World), k.ok → Calls Try.prog 9 #[.agg #[.int .i64 k.b, .int .i64 k.s, .int .i64 k.g, .int .i64 k.u, .int .i64 k.z, .int .i64 k.o]] W fun e w' => ∃ x hm, e = .returned (.pointer (some ⟨x, 0, none⟩)) ∧ Below W.heap.size W w' ∧ KAt HS W.heap.size w' x hm (st0 k) k.cf k.b) := fun k W hk => fresh_keep P.base k hk W
  have H : Hid (ActsIn w a0 alen acts ∧ IntsIn w p0 plen ints ∧ Pacts HS) := ⟨HA, HP, P⟩
  clear HA HP P fb fs fg fu fz fo fb' fs' fg' fu' fz' fo'
  go_enter Try.func4, Try.ntmps4
  go_wp2_with fail
  refine Calls.mono (CF.out _) ?_
  rintro e w1 ⟨⟨k, rfl, hk⟩, hb⟩
  have hL : w1.heap[w.heap.size]? = some (.cells #[.int .i64 b, .int .i64 s, .int .i64 g, .int .i64 u, .int .i64 z, .int .i64 o] 23) := by rw [hb.block _ (by simp; omega), hao (by simp)]; exact heap_alloc_new w _
  have hL2 : w1.heap[w.heap.size + 1]? = some (.cells #[.int .i64 b', .int .i64 s', .int .i64 g', .int .i64 u', .int .i64 z', .int .i64 o'] 23) := by
    rw [hb.block _ (by simp)]
    have := heap_alloc_new (w.alloc (.cells #[.int .i64 b, .int .i64 s, .int .i64 g, .int .i64 u, .int .i64 z, .int .i64 o] 23)) (.cells #[.int .i64 b', .int .i64 s', .int .i64 g', .int .i64 u', .int .i64 z', .int .i64 o'] 23)
    simpa using this
  obtain ⟨kb, ks, kg, ku, kz, ko⟩ := k
  have hB := CfgM.bounds hk
  simp only at hB
  have hs1 : w.heap.size + 2 ≤ w1.heap.size := by have := hb.size; simpa using this
  have B1 : Hid (Below w.heap.size w w1) := (((Below.refl _ _).alloc (Nat.le_refl _) _).alloc (by simp) _).trans (hb.mono (by simp; omega))
  obtain ⟨x0, x1, x2, x3, x4, x5, xf⟩ := box6 hL
  have f0 := xf 0
  have f1 := xf 1
  have f2 := xf 2
  have f3 := xf 3
  have f4 := xf 4
  have f5 := xf 5
  obtain ⟨y0, y1, y2, y3, y4, y5, yf⟩ := box6 hL2
  have HL : Hid (w1.heap[w.heap.size]? = some (.cells #[.int .i64 b, .int .i64 s, .int .i64 g, .int .i64 u, .int .i64 z, .int .i64 o] 23) ∧ w1.heap[w.heap.size + 1]? = some (.cells #[.int .i64 b', .int .i64 s', .int .i64 g', .int .i64 u', .int .i64 z', .int .i64 o'] 23)) := ⟨hL, hL2⟩
  have HK : Hid (CfgM.ok ⟨kb, ks, kg, ku, kz, ko⟩) := hk
  clear hb hL hL2 hk xf yf CF
  unfold CfgM.val
  simp only
  go_wp2_with fail
  refine Calls.mono (DF.out _) ?_
  rintro e w2 ⟨⟨k, rfl, hk⟩, hb⟩
  rw [set6_size] at hb
  have hL : w2.heap[w.heap.size]? = some (.cells #[.int .i64 kb, .int .i64 ks, .int .i64 kg, .int .i64 ku, .int .i64 kz, .int .i64 ko] 23) := by rw [hb.block _ (by omega)]; exact set6_heap HL.out.1 _ _ _ _ _ _
  have hL2 : w2.heap[w.heap.size + 1]? = some (.cells #[.int .i64 b', .int .i64 s', .int .i64 g', .int .i64 u', .int .i64 z', .int .i64 o'] 23) := by rw [hb.block _ (by omega), set6_off (by omega)]; exact HL.out.2
  have B2 : Hid (Below w.heap.size w w2) := (set6_below B1.out (Nat.le_refl _) _ _ _ _ _ _).trans (hb.mono (by omega))
  obtain ⟨qb, qs, qg, qu, qz, qo⟩ := k
  have hQ := CfgM.bounds hk
  simp only at hQ
  have hs2 : w.heap.size + 2 ≤ w2.heap.size := by have := hb.size; rw [set6_size] at this; omega
  clear x0 x1 x2 x3 x4 x5 f0 f1 f2 f3 f4 f5 y0 y1 y2 y3 y4 y5 hb HL B1 DF hk
  obtain ⟨x0, x1, x2, x3, x4, x5, xf⟩ := box6 hL
  obtain ⟨y0, y1, y2, y3, y4, y5, yf⟩ := box6 hL2
  have f0 := yf 0
  have f1 := yf 1
  have f2 := yf 2
  have f3 := yf 3
  have f4 := yf 4
  have f5 := yf 5
  have HL : Hid (w2.heap[w.heap.size]? = some (.cells #[.int .i64 kb, .int .i64 ks, .int .i64 kg, .int .i64 ku, .int .i64 kz, .int .i64 ko] 23) ∧ w2.heap[w.heap.size + 1]? = some (.cells #[.int .i64 b', .int .i64 s', .int .i64 g', .int .i64 u', .int .i64 z', .int .i64 o'] 23)) := ⟨hL, hL2⟩
  clear hL hL2 xf yf
  unfold CfgM.val
  simp only
  go_wp2_with fail
  obtain ⟨w3, hw3⟩ : ∃ w3, w3 = ((((((w2.setCell ⟨w.heap.size + 1, 0, none⟩ (.int .i64 qb)).setCell ⟨w.heap.size + 1, 1, none⟩ (.int .i64 qs)).setCell ⟨w.heap.size + 1, 2, none⟩ (.int .i64 qg)).setCell ⟨w.heap.size + 1, 3, none⟩ (.int .i64 qu)).setCell ⟨w.heap.size + 1, 4, none⟩ (.int .i64 qz)).setCell ⟨w.heap.size + 1, 5, none⟩ (.int .i64 qo)) := ⟨_, rfl⟩
  rw [← hw3]
  have hL : w3.heap[w.heap.size]? = some (.cells #[.int .i64 kb, .int .i64 ks, .int .i64 kg, .int .i64 ku, .int .i64 kz, .int .i64 ko] 23) := by rw [hw3, set6_off (by omega)]; exact HL.out.1
  have hL2 : w3.heap[w.heap.size + 1]? = some (.cells #[.int .i64 qb, .int .i64 qs, .int .i64 qg, .int .i64 qu, .int .i64 qz, .int .i64 qo] 23) := by rw [hw3]; exact set6_heap HL.out.2 _ _ _ _ _ _
  have B3 : Hid (Below w.heap.size w w3) := by rw [hw3]; exact set6_below B2.out (by omega) _ _ _ _ _ _
  have hs3 : w.heap.size + 2 ≤ w3.heap.size := by rw [hw3, set6_size]; exact hs2
  clear x0 x1 x2 x3 x4 x5 f0 f1 f2 f3 f4 f5 y0 y1 y2 y3 y4 y5 HL B2 hw3 hs2
  obtain ⟨x0, x1, x2, x3, x4, x5, xf⟩ := box6 hL
  obtain ⟨y0, y1, y2, y3, y4, y5, yf⟩ := box6 hL2
  have HL : Hid (w3.heap[w.heap.size]? = some (.cells #[.int .i64 kb, .int .i64 ks, .int .i64 kg, .int .i64 ku, .int .i64 kz, .int .i64 ko] 23)) := hL
  have hpos : 0 < 99 - (ks + kg + 1) + 1 := by omega
  have hz2 : pickN (qz : Int) (99 - (ks + kg + 1) + 1) < 99 - (ks + kg + 1) + 1 := pickN_lt _ _ hpos
  have P3 : Hid (∀ W, Calls Try.prog 8 #[.int .i64 qz, .int .i64 (99 - ((ks : Int) + kg + 1) + 1)] W fun r w' => r = .returned (.int .i64 (pickN (qz : Int) (99 - (ks + kg + 1) + 1))) ∧ w' = W) := by
    intro W
    have := PK.out (qz : Int) (99 - (ks + kg + 1) + 1) W ⟨by omega, by omega⟩ hpos (by omega)
    rw [show (((99 - (ks + kg + 1) + 1 : Nat)) : Int) = 99 - ((ks : Int) + kg + 1) + 1 by omega] at this
    exact this
  obtain ⟨ez, hez⟩ : ∃ ez, pickN (qz : Int) (99 - (ks + kg + 1) + 1) = ez := ⟨_, rfl⟩
  rw [hez] at P3 hz2
  clear hL hL2 xf yf hez hpos
  have hwr : IntKind.i64.wrap (IntKind.i64.wrap (99 - ((ks : Int) + kg + 1)) + 1) = 99 - ((ks : Int) + kg + 1) + 1 := by
    rw [wrapS (x := 99 - ((ks : Int) + kg + 1)) (by omega) (by omega)]
    exact wrapS (by omega) (by omega)
  have hwr2 : IntKind.i64.wrap ((ks : Int) + kg + 1 + ez) = (ks : Int) + kg + 1 + ez := wrapS (by omega) (by omega)
  have HW : Hid _ := hwr
  clear hwr
  have n0 := World.new_ne w3 ⟨w.heap.size, 0, none⟩ x0
  have n1 := World.new_ne w3 ⟨w.heap.size + 1, 3, none⟩ y3
  go_cut [10] from 28 to 46 (fun p wc => p = .pointer (some ⟨w3.heap.size, 0, none⟩) ∧ wc = (w3.alloc (.cells #[.int .i64 kb, .int .i64 ks, .int .i64 kg, .int .i64 qu, .int .i64 ((ks : Int) + kg + 1 + ez), .int .i64 qo] 23)).drew)
  case first =>
    go_region_held3 (fun w' => w'.cell? ⟨w.heap.size, 0, none⟩ = some (.int .i64 kb) ∧ w'.cell? ⟨w.heap.size, 1, none⟩ = some (.int .i64 ks) ∧ w'.cell? ⟨w.heap.size, 2, none⟩ = some (.int .i64 kg) ∧ w'.cell? ⟨w.heap.size + 1, 3, none⟩ = some (.int .i64 qu) ∧ w'.cell? ⟨w.heap.size + 1, 4, none⟩ = some (.int .i64 qz) ∧ w'.cell? ⟨w.heap.size + 1, 5, none⟩ = some (.int .i64 qo)) (go_keep)
        ((go_at_call 8; rw [HW.out]; refine Calls.mono (P3.out _) ?_; rintro e w3' ⟨rfl, rfl⟩))
    all_goals
      go_wp2_with fail
      go_meet
      case rel => exact ⟨rfl, rfl⟩
  case rest =>
    obtain ⟨rfl, hwc⟩ := hcut
    have hLc : wc.heap[w.heap.size]? = some (.cells #[.int .i64 kb, .int .i64 ks, .int .i64 kg, .int .i64 ku, .int .i64 kz, .int .i64 ko] 23) := by
      rw [hwc]
      show (w3.alloc _).heap[w.heap.size]? = _
      rw [hao (by omega)]; exact HL.out
    have hLe : wc.heap[w3.heap.size]? = some (.cells #[.int .i64 kb, .int .i64 ks, .int .i64 kg, .int .i64 qu, .int .i64 ((ks : Int) + kg + 1 + ez), .int .i64 qo] 23) := by
      rw [hwc]
      show (w3.alloc _).heap[w3.heap.size]? = _
      exact heap_alloc_new w3 _
    have Bc : Hid (Below w.heap.size w wc) := by rw [hwc]; exact (B3.out.alloc B3.out.size _).drew
    have hsc : w3.heap.size + 1 = wc.heap.size := by rw [hwc]; simp [World.drew]
    clear hwc x0 x1 x2 x3 x4 x5 y0 y1 y2 y3 y4 y5 n0 n1 P3 hwr2 HL HW B3
    obtain ⟨x0, x1, x2, x3, x4, x5, _⟩ := box6 hLc
    have HE : Hid (wc.heap[w3.heap.size]? = some (.cells #[.int .i64 kb, .int .i64 ks, .int .i64 kg, .int .i64 qu, .int .i64 ((ks : Int) + kg + 1 + ez), .int .i64 qo] 23)) := hLe
    clear hLc hLe
    have F1 : Hid _ := FR.out ⟨kb, ks, kg, ku, kz, ko⟩ wc HK.out
    have eok : CfgM.ok ⟨kb, ks, kg, qu, ks + kg + 1 + ez, qo⟩ := by
      show cfgB _ _ _ _ _ _ = true
      simp [cfgB]; omega
    have F2 : Hid (∀ W, Calls Try.prog 9 #[.agg #[.int .i64 kb, .int .i64 ks, .int .i64 kg, .int .i64 qu, .int .i64 ((ks : Int) + kg + 1 + ez), .int .i64 qo]] W fun e w' => ∃ x hm, e = .returned (.pointer (some ⟨x, 0, none⟩)) ∧ Below W.heap.size W w' ∧ KAt HS W.heap.size w' x hm (st0 ⟨kb, ks, kg, qu, ks + kg + 1 + ez, qo⟩) (CfgM.cf ⟨kb, ks, kg, qu, ks + kg + 1 + ez, qo⟩) kb) := fun W => by
      have := FR.out ⟨kb, ks, kg, qu, ks + kg + 1 + ez, qo⟩ W eok
      rw [show (((ks + kg + 1 + ez : Nat)) : Int) = (ks : Int) + kg + 1 + ez by omega] at this
      exact this
    clear FR eok
    go_wp2_with fail
    refine Calls.mono F1.out ?_
    rintro e w5 ⟨x, hmx, rfl, hb, hK⟩
    have hE5 : w5.heap[w3.heap.size]? = some (.cells #[.int .i64 kb, .int .i64 ks, .int .i64 kg, .int .i64 qu, .int .i64 ((ks : Int) + kg + 1 + ez), .int .i64 qo] 23) := by rw [hb.block _ (by omega)]; exact HE.out
    have K5 : Hid (KAt HS wc.heap.size w5 x hmx (st0 ⟨kb, ks, kg, ku, kz, ko⟩) (CfgM.cf ⟨kb, ks, kg, ku, kz, ko⟩) kb ∧ Below w.heap.size w w5) := ⟨hK, Bc.out.trans (hb.mono Bc.out.size)⟩
    clear hb hK F1 HE x0 x1 x2 x3 x4 x5
    obtain ⟨y0, y1, y2, y3, y4, y5, _⟩ := box6 hE5
    clear hE5
    go_wp2_with fail
    refine Calls.mono (F2.out _) ?_
    rintro e w6 ⟨y, hmy, rfl, hb, hK⟩
    have T6 : Hid (TwinAt HS w.heap.size x y (CfgM.cf ⟨kb, ks, kg, ku, kz, ko⟩) (CfgM.cf ⟨kb, ks, kg, qu, ks + kg + 1 + ez, qo⟩) kb w6 ∧ Below w.heap.size w w6) := by
      have kx := K5.out.1.below hb
      have h1 : w.heap.size ≤ wc.heap.size := Bc.out.size
      have h2 := K5.out.2.size
      refine ⟨⟨hmx, hmy, st0 ⟨kb, ks, kg, ku, kz, ko⟩, st0 ⟨kb, ks, kg, qu, ks + kg + 1 + ez, qo⟩, ⟨⟨kx.here, kx.hs, kx.good, kx.bound, kx.cf, kx.small, kx.gl, fun g hg => by have := kx.low g hg; omega, by have := kx.size; omega⟩, ⟨hK.here, hK.hs, hK.good, hK.bound, hK.cf, hK.small, hK.gl, fun g hg => by have := hK.low g hg; omega, by have := hK.size; omega⟩, fun g hg hg' => ?_⟩, bis_start kg kb _ _ rfl rfl⟩, K5.out.2.trans (hb.mono h2)⟩
      have l1 := K5.out.1.here.lt g hg
      have l2 := hK.low g hg'
      omega
    clear hb hK F2 K5 y0 y1 y2 y3 y4 y5 Bc
    obtain ⟨c1, hc1⟩ : ∃ c1, CfgM.cf ⟨kb, ks, kg, ku, kz, ko⟩ = c1 := ⟨_, rfl⟩
    obtain ⟨c2, hc2⟩ : ∃ c2, CfgM.cf ⟨kb, ks, kg, qu, ks + kg + 1 + ez, qo⟩ = c2 := ⟨_, rfl⟩
    have hdeep : Hid (c2.deep = c1.deep) := by show c2.deep = c1.deep; rw [← hc1, ← hc2]; rfl
    rw [hc1, hc2] at T6
    have BOTH : Hid (∀ W op n, TwinAt HS w.heap.size x y c1 c2 kb W → fits op → fits n → Calls Try.prog 10 #[.pointer (some ⟨x, 0, none⟩), .int .i64 op, .int .i64 n] W fun e w' => ∃ a b : Int, e = .returned (.tuple #[.int .i64 a, .int .i64 b]) ∧ Below w.heap.size W w' ∧
      ∀ W', Below w'.heap.size w' W' → Calls Try.prog 10 #[.pointer (some ⟨y, 0, none⟩), .int .i64 op, .int .i64 n] W' fun e w2 => e = .returned (.tuple #[.int .i64 a, .int .i64 b]) ∧ TwinAt HS w.heap.size x y c1 c2 kb w2 ∧ Below w.heap.size W' w2) := fun W op n t h1 h2 => twin_both H.out.2.2 t hdeep.out op n h1 h2
    have SAFE : Hid (∀ W, TwinAt HS w.heap.size x y c1 c2 kb W → Calls Try.prog 14 #[.pointer (some ⟨y, 0, none⟩)] W fun e w' => (∃ n : Nat, e = .returned (.int .i64 n)) ∧ TwinAt HS w.heap.size x y c1 c2 kb w' ∧ Below w.heap.size W w') := fun W t => twin_safe H.out.2.2 t
    have COLL : Hid (∀ W, TwinAt HS w.heap.size x y c1 c2 kb W → Calls Try.prog 15 #[.pointer (some ⟨y, 0, none⟩)] W fun e w' => (∃ n : Nat, e = .returned (.int .i64 n)) ∧ TwinAt HS w.heap.size x y c1 c2 kb w' ∧ Below w.heap.size W w') := fun W t => twin_coll H.out.2.2 t
    clear hc1 hc2 hdeep HK hB hQ hz2
    go_wp2
    go_loopw [13] (fun i wr => ∃ j : Nat, j ≤ alen ∧ i = .int .i64 j ∧ TwinAt HS w.heap.size x y c1 c2 kb wr ∧ Below w.heap.size w wr) (fun i _ => alen - (intOf i).toNat)
    case atStart => exact ⟨0, Nat.zero_le _, rfl, T6.out.1, T6.out.2⟩
    case round =>
      obtain ⟨j, hj, rfl, hT, hbw⟩ := hrel
      have T : Hid (TwinAt HS w.heap.size x y c1 c2 kb wr ∧ Below w.heap.size w wr) := ⟨hT, hbw⟩
      clear hT hbw T6
      by_cases hlt : j < alen
      · have hltI : (j : Int) < alen := by omega
        obtain ⟨sb, off, ha0, hsb, f1, f2, a1, a2⟩ := H.out.1 j hlt
        subst ha0
        obtain ⟨op, hop⟩ : ∃ op, (acts j).1 = op := ⟨_, rfl⟩
        obtain ⟨nn, hnn⟩ : ∃ nn, (acts j).2 = nn := ⟨_, rfl⟩
        rw [hop] at f1 a1
        rw [hnn] at f2 a2
        have FF : Hid (fits op ∧ fits nn) := ⟨f1, f2⟩
        have A0 : Hid (w.cell? ⟨sb, off + j * 2, none⟩ = some (.int .i64 op) ∧ w.cell? ⟨sb, off + j * 2 + 1, none⟩ = some (.int .i64 nn)) := ⟨a1, a2⟩
        clear f1 f2 a1 a2 hop hnn
        by_cases hp : j < plen
        · have hpI : (j : Int) < plen := by omega
          obtain ⟨pb, po, hp0, hpb, fp, ap⟩ := H.out.2.1 j hp
          subst hp0
          obtain ⟨pv, hpv⟩ : ∃ pv, ints j = pv := ⟨_, rfl⟩
          rw [hpv] at fp ap
          have p1 : wr.cell? ⟨pb, po + j, none⟩ = some (.int .i64 pv) := (T.out.2.cell (p := ⟨pb, po + j, none⟩) hpb).trans ap
          have PP : Hid (∀ W, Calls Try.prog 8 #[.int .i64 pv, .int .i64 3] W fun r w' => r = .returned (.int .i64 (pickN pv 3)) ∧ w' = W) := fun W => PK.out pv 3 W fp (by decide) (by decide)
          have hp3 : pickN pv 3 < 3 := pickN_lt _ _ (by decide)
          obtain ⟨r, hr⟩ : ∃ r, pickN pv 3 = r := ⟨_, rfl⟩
          rw [hr] at PP hp3
          clear hpv fp ap hr PK
          rcases (by omega : r = 0 ∨ r = 1 ∨ r = 2) with rfl | rfl | rfl
          · go_wp2_with fail
            refine Calls.mono (PP.out _) ?_
            rintro e wq ⟨rfl, hwq⟩
            subst hwq
            have TQ : Hid (TwinAt HS w.heap.size x y c1 c2 kb wq ∧ Below w.heap.size w wq) := T.out
            clear T PP p1 SAFE COLL
            have TQd : Hid (TwinAt HS w.heap.size x y c1 c2 kb wq.drew ∧ Below w.heap.size w wq) := ⟨TQ.out.1.below ⟨rfl, rfl, rfl, Nat.le_refl _, fun _ _ => rfl⟩, TQ.out.2⟩
            have q0 : wq.cell? ⟨sb, off + j * 2, none⟩ = some (.int .i64 op) := (TQ.out.2.cell (p := ⟨sb, off + j * 2, none⟩) hsb).trans A0.out.1
            have q1 : wq.cell? ⟨sb, off + j * 2 + 1, none⟩ = some (.int .i64 nn) := (TQ.out.2.cell (p := ⟨sb, off + j * 2 + 1, none⟩) hsb).trans A0.out.2
            clear TQ
            go_wp2_with fail
            go_region_held3 (fun w' => w'.cell? ⟨sb, off + j * 2, none⟩ = some (.int .i64 op) ∧ w'.cell? ⟨sb, off + j * 2 + 1, none⟩ = some (.int .i64 nn)) (go_keep)
              ((go_at_call 10; refine Calls.mono (BOTH.out _ op nn TQd.out.1 FF.out.1 FF.out.2) ?_; rintro e w8 ⟨ra, rb, rfl, hb8, hnext⟩; have r0 : w8.cell? ⟨sb, off + j * 2, none⟩ = some (.int .i64 op) := (hb8.cell (p := ⟨sb, off + j * 2, none⟩) hsb).trans q0; have r1 : w8.cell? ⟨sb, off + j * 2 + 1, none⟩ = some (.int .i64 nn) := (hb8.cell (p := ⟨sb, off + j * 2 + 1, none⟩) hsb).trans q1; have N8 : Hid _ := hnext; have B8 : Hid (Below w.heap.size w w8) := TQd.out.2.drew.trans hb8; clear hb8 hnext))
            clear q0 q1 TQd BOTH
            go_wp2_with fail
            go_region_held3 (fun w' => w'.cell? ⟨sb, off + j * 2, none⟩ = some (.int .i64 op) ∧ w'.cell? ⟨sb, off + j * 2 + 1, none⟩ = some (.int .i64 nn)) (go_keep)
              ((go_at_call 10; refine Calls.mono (N8.out _ ⟨rfl, rfl, rfl, Nat.le_refl _, fun _ _ => rfl⟩) ?_; rintro e w9 ⟨rfl, hT9, hb9⟩; have t0 : w9.cell? ⟨sb, off + j * 2, none⟩ = some (.int .i64 op) := (hb9.cell (p := ⟨sb, off + j * 2, none⟩) hsb).trans r0; have t1 : w9.cell? ⟨sb, off + j * 2 + 1, none⟩ = some (.int .i64 nn) := (hb9.cell (p := ⟨sb, off + j * 2 + 1, none⟩) hsb).trans r1; have T9 : Hid (TwinAt HS w.heap.size x y c1 c2 kb w9 ∧ Below w.heap.size w w9) := ⟨hT9, B8.out.drew.trans hb9⟩; clear hb9 hT9))
            clear r0 r1 t0 t1 N8 B8
            go_wp2
            go_roundw
            case rel => exact ⟨j + 1, by omega, by go_num, T9.out.1, T9.out.2⟩
            case measure => simp [intOf]; omega
          · go_wp2_with fail
            refine Calls.mono (PP.out _) ?_
            rintro e w7 ⟨rfl, hw7⟩
            subst hw7
            go_wp2_with fail
            refine Calls.mono (SAFE.out _ T.out.1) ?_
            rintro e wq ⟨⟨fr, rfl⟩, hTq, hbq⟩
            have TQ : Hid (TwinAt HS w.heap.size x y c1 c2 kb wq ∧ Below w.heap.size w wq) := ⟨hTq, T.out.2.trans hbq⟩
            clear T PP p1 SAFE COLL hTq hbq
            have TQd : Hid (TwinAt HS w.heap.size x y c1 c2 kb wq.drew ∧ Below w.heap.size w wq) := ⟨TQ.out.1.below ⟨rfl, rfl, rfl, Nat.le_refl _, fun _ _ => rfl⟩, TQ.out.2⟩
            have q0 : wq.cell? ⟨sb, off + j * 2, none⟩ = some (.int .i64 op) := (TQ.out.2.cell (p := ⟨sb, off + j * 2, none⟩) hsb).trans A0.out.1
            have q1 : wq.cell? ⟨sb, off + j * 2 + 1, none⟩ = some (.int .i64 nn) := (TQ.out.2.cell (p := ⟨sb, off + j * 2 + 1, none⟩) hsb).trans A0.out.2
            clear TQ
            go_wp2_with fail
            go_region_held3 (fun w' => w'.cell? ⟨sb, off + j * 2, none⟩ = some (.int .i64 op) ∧ w'.cell? ⟨sb, off + j * 2 + 1, none⟩ = some (.int .i64 nn)) (go_keep)
              ((go_at_call 10; refine Calls.mono (BOTH.out _ op nn TQd.out.1 FF.out.1 FF.out.2) ?_; rintro e w8 ⟨ra, rb, rfl, hb8, hnext⟩; have r0 : w8.cell? ⟨sb, off + j * 2, none⟩ = some (.int .i64 op) := (hb8.cell (p := ⟨sb, off + j * 2, none⟩) hsb).trans q0; have r1 : w8.cell? ⟨sb, off + j * 2 + 1, none⟩ = some (.int .i64 nn) := (hb8.cell (p := ⟨sb, off + j * 2 + 1, none⟩) hsb).trans q1; have N8 : Hid _ := hnext; have B8 : Hid (Below w.heap.size w w8) := TQd.out.2.drew.trans hb8; clear hb8 hnext))
            clear q0 q1 TQd BOTH
            go_wp2_with fail
            go_region_held3 (fun w' => w'.cell? ⟨sb, off + j * 2, none⟩ = some (.int .i64 op) ∧ w'.cell? ⟨sb, off + j * 2 + 1, none⟩ = some (.int .i64 nn)) (go_keep)
              ((go_at_call 10; refine Calls.mono (N8.out _ ⟨rfl, rfl, rfl, Nat.le_refl _, fun _ _ => rfl⟩) ?_; rintro e w9 ⟨rfl, hT9, hb9⟩; have t0 : w9.cell? ⟨sb, off + j * 2, none⟩ = some (.int .i64 op) := (hb9.cell (p := ⟨sb, off + j * 2, none⟩) hsb).trans r0; have t1 : w9.cell? ⟨sb, off + j * 2 + 1, none⟩ = some (.int .i64 nn) := (hb9.cell (p := ⟨sb, off + j * 2 + 1, none⟩) hsb).trans r1; have T9 : Hid (TwinAt HS w.heap.size x y c1 c2 kb w9 ∧ Below w.heap.size w w9) := ⟨hT9, B8.out.drew.trans hb9⟩; clear hb9 hT9))
            clear r0 r1 t0 t1 N8 B8
            go_wp2
            go_roundw
            case rel => exact ⟨j + 1, by omega, by go_num, T9.out.1, T9.out.2⟩
            case measure => simp [intOf]; omega
          · go_wp2_with fail
            refine Calls.mono (PP.out _) ?_
            rintro e w7 ⟨rfl, hw7⟩
            subst hw7
            go_wp2_with fail
            refine Calls.mono (COLL.out _ T.out.1) ?_
            rintro e wq ⟨⟨fr, rfl⟩, hTq, hbq⟩
            have TQ : Hid (TwinAt HS w.heap.size x y c1 c2 kb wq ∧ Below w.heap.size w wq) := ⟨hTq, T.out.2.trans hbq⟩
            clear T PP p1 SAFE COLL hTq hbq
            have TQd : Hid (TwinAt HS w.heap.size x y c1 c2 kb wq.drew ∧ Below w.heap.size w wq) := ⟨TQ.out.1.below ⟨rfl, rfl, rfl, Nat.le_refl _, fun _ _ => rfl⟩, TQ.out.2⟩
            have q0 : wq.cell? ⟨sb, off + j * 2, none⟩ = some (.int .i64 op) := (TQ.out.2.cell (p := ⟨sb, off + j * 2, none⟩) hsb).trans A0.out.1
            have q1 : wq.cell? ⟨sb, off + j * 2 + 1, none⟩ = some (.int .i64 nn) := (TQ.out.2.cell (p := ⟨sb, off + j * 2 + 1, none⟩) hsb).trans A0.out.2
            clear TQ
            go_wp2_with fail
            go_region_held3 (fun w' => w'.cell? ⟨sb, off + j * 2, none⟩ = some (.int .i64 op) ∧ w'.cell? ⟨sb, off + j * 2 + 1, none⟩ = some (.int .i64 nn)) (go_keep)
              ((go_at_call 10; refine Calls.mono (BOTH.out _ op nn TQd.out.1 FF.out.1 FF.out.2) ?_; rintro e w8 ⟨ra, rb, rfl, hb8, hnext⟩; have r0 : w8.cell? ⟨sb, off + j * 2, none⟩ = some (.int .i64 op) := (hb8.cell (p := ⟨sb, off + j * 2, none⟩) hsb).trans q0; have r1 : w8.cell? ⟨sb, off + j * 2 + 1, none⟩ = some (.int .i64 nn) := (hb8.cell (p := ⟨sb, off + j * 2 + 1, none⟩) hsb).trans q1; have N8 : Hid _ := hnext; have B8 : Hid (Below w.heap.size w w8) := TQd.out.2.drew.trans hb8; clear hb8 hnext))
            clear q0 q1 TQd BOTH
            go_wp2_with fail
            go_region_held3 (fun w' => w'.cell? ⟨sb, off + j * 2, none⟩ = some (.int .i64 op) ∧ w'.cell? ⟨sb, off + j * 2 + 1, none⟩ = some (.int .i64 nn)) (go_keep)
              ((go_at_call 10; refine Calls.mono (N8.out _ ⟨rfl, rfl, rfl, Nat.le_refl _, fun _ _ => rfl⟩) ?_; rintro e w9 ⟨rfl, hT9, hb9⟩; have t0 : w9.cell? ⟨sb, off + j * 2, none⟩ = some (.int .i64 op) := (hb9.cell (p := ⟨sb, off + j * 2, none⟩) hsb).trans r0; have t1 : w9.cell? ⟨sb, off + j * 2 + 1, none⟩ = some (.int .i64 nn) := (hb9.cell (p := ⟨sb, off + j * 2 + 1, none⟩) hsb).trans r1; have T9 : Hid (TwinAt HS w.heap.size x y c1 c2 kb w9 ∧ Below w.heap.size w w9) := ⟨hT9, B8.out.drew.trans hb9⟩; clear hb9 hT9))
            clear r0 r1 t0 t1 N8 B8
            go_wp2
            go_roundw
            case rel => exact ⟨j + 1, by omega, by go_num, T9.out.1, T9.out.2⟩
            case measure => simp [intOf]; omega
        · have hpI : ¬ (j : Int) < plen := by omega
          obtain ⟨wq, hwq⟩ : ∃ wq, wq = wr := ⟨_, rfl⟩
          have TQ : Hid (TwinAt HS w.heap.size x y c1 c2 kb wq ∧ Below w.heap.size w wq) := by rw [hwq]; exact T.out
          subst hwq
          clear T SAFE COLL PK
          have TQd : Hid (TwinAt HS w.heap.size x y c1 c2 kb wq.drew ∧ Below w.heap.size w wq) := ⟨TQ.out.1.below ⟨rfl, rfl, rfl, Nat.le_refl _, fun _ _ => rfl⟩, TQ.out.2⟩
          have q0 : wq.cell? ⟨sb, off + j * 2, none⟩ = some (.int .i64 op) := (TQ.out.2.cell (p := ⟨sb, off + j * 2, none⟩) hsb).trans A0.out.1
          have q1 : wq.cell? ⟨sb, off + j * 2 + 1, none⟩ = some (.int .i64 nn) := (TQ.out.2.cell (p := ⟨sb, off + j * 2 + 1, none⟩) hsb).trans A0.out.2
          clear TQ
          go_wp2_with fail
          go_region_held3 (fun w' => w'.cell? ⟨sb, off + j * 2, none⟩ = some (.int .i64 op) ∧ w'.cell? ⟨sb, off + j * 2 + 1, none⟩ = some (.int .i64 nn)) (go_keep)
            ((go_at_call 10; refine Calls.mono (BOTH.out _ op nn TQd.out.1 FF.out.1 FF.out.2) ?_; rintro e w8 ⟨ra, rb, rfl, hb8, hnext⟩; have r0 : w8.cell? ⟨sb, off + j * 2, none⟩ = some (.int .i64 op) := (hb8.cell (p := ⟨sb, off + j * 2, none⟩) hsb).trans q0; have r1 : w8.cell? ⟨sb, off + j * 2 + 1, none⟩ = some (.int .i64 nn) := (hb8.cell (p := ⟨sb, off + j * 2 + 1, none⟩) hsb).trans q1; have N8 : Hid _ := hnext; have B8 : Hid (Below w.heap.size w w8) := TQd.out.2.drew.trans hb8; clear hb8 hnext))
          clear q0 q1 TQd BOTH
          go_wp2_with fail
          go_region_held3 (fun w' => w'.cell? ⟨sb, off + j * 2, none⟩ = some (.int .i64 op) ∧ w'.cell? ⟨sb, off + j * 2 + 1, none⟩ = some (.int .i64 nn)) (go_keep)
            ((go_at_call 10; refine Calls.mono (N8.out _ ⟨rfl, rfl, rfl, Nat.le_refl _, fun _ _ => rfl⟩) ?_; rintro e w9 ⟨rfl, hT9, hb9⟩; have t0 : w9.cell? ⟨sb, off + j * 2, none⟩ = some (.int .i64 op) := (hb9.cell (p := ⟨sb, off + j * 2, none⟩) hsb).trans r0; have t1 : w9.cell? ⟨sb, off + j * 2 + 1, none⟩ = some (.int .i64 nn) := (hb9.cell (p := ⟨sb, off + j * 2 + 1, none⟩) hsb).trans r1; have T9 : Hid (TwinAt HS w.heap.size x y c1 c2 kb w9 ∧ Below w.heap.size w w9) := ⟨hT9, B8.out.drew.trans hb9⟩; clear hb9 hT9))
          clear r0 r1 t0 t1 N8 B8
          go_wp2
          go_roundw
          case rel => exact ⟨j + 1, by omega, by go_num, T9.out.1, T9.out.2⟩
          case measure => simp [intOf]; omega
      · obtain rfl : j = alen := by omega
        go_wp2
        go_ret
        exact ⟨rfl, T.out.2⟩

end Go.Proofs.Ytpmkjeihbddfpaa

/- OUR OWN. Transparent: the statement, out of the program's contracts. -/
namespace Go.Proofs.Ytpmkjeihbddfpaa
open Go.ChangeShapes Go.WideShapes Go.ChangeAt Go.RowKit Go.Deep
set_option linter.unusedVariables false
set_option linter.unusedSimpArgs false

variable {HS : HeapM → St → Cf → Nat → Prop}

set_option maxRecDepth 100000 in
theorem transparent_lifted (P : Pacts HS) (os : Os) (started : os.Started) (H : Type) (enc : TypeId × Value → H) :
    ReturnsInHanded {} Try.checked os 4 .any (Rows.transparentSpec.pre6 enc Try.prog Try.f4 Rows.transparentRow.domain false) (Rows.transparentSpec.post enc Try.prog Try.f4 false true false false) := by
  refine returnsInHanded_of_change_sized (C := Try.checked) own started (by kernel_rfl) Try.func4
    (ChangeSpec.witness6 (enc := enc) (C := Try.checked) false ⟨#[], #[.agg #[.int .i64 0, .int .i64 0, .int .i64 0, .int .i64 0, .int .i64 0, .int .i64 0], .agg #[.int .i64 0, .int .i64 0, .int .i64 0, .int .i64 0, .int .i64 0, .int .i64 0], .slice none 0 0, .slice none 0 0], []⟩ 8 (by kernel_rfl) (by kernel_rfl) (by kernel_rfl) (by kernel_rfl)) ?_
  intro W base args ds gs before hval0 hW _ hsz0 _
  have hsz : (DataW.weightsEach Try.prog (Try.f4.params.toList ++ Rows.transparentSpec.plain.varTypes Try.prog) (ds ++ gs)).all (· ≤ reachBytes) = true := hsz0
  clear hsz0
  have hval : ∀ (j : Nat) t v, Try.f4.params[j]? = some t → args[j]? = some v → Value.okWide Try.prog W .any base t v := hval0
  have hW' := hW
  obtain ⟨p, q, hA0, hV, rfl, hfz, hnd⟩ := hW
  have hA : DataW.TrodAll enc Try.prog W 0 (fun _ => true) true Try.f4.params.toList args.toList ds p := hA0
  rw [Try.params4] at hA hval hsz
  obtain ⟨v0, vs0, d0, ds0, p0, q0, hargs, rfl, rfl, h0, r0⟩ := trodAll_cons hA
  obtain ⟨v1, vs1, d1, ds1, p1, q1, rfl, rfl, rfl, h1, r1⟩ := trodAll_cons r0
  obtain ⟨v2, vs2, d2, ds2, p2, q2, rfl, rfl, rfl, h2, r2⟩ := trodAll_cons r1
  obtain ⟨v3, vs3, d3, ds3, p3, q3, rfl, rfl, rfl, h3, r3⟩ := trodAll_cons r2
  obtain ⟨rfl, rfl, rfl⟩ := trodAll_nil r3
  obtain rfl : args = #[v0, v1, v2, v3] := by cases args; simp_all
  obtain ⟨rfl, rfl⟩ := trodVars_none hV
  obtain ⟨c0, rfl, hc0⟩ := okWide_struct Try.underlying23 (hval 0 23 v0 rfl rfl)
  obtain ⟨c1, rfl, hc1⟩ := okWide_struct Try.underlying23 (hval 1 23 v1 rfl rfl)
  obtain ⟨a0, len0, cap0, rfl⟩ := okWide_slice Try.underlying40 (hval 2 40 v2 rfl rfl)
  obtain ⟨b0, len1, cap1, rfl⟩ := okWide_slice Try.underlying24 (hval 3 24 v3 rfl rfl)
  have k0 := h0
  have k1 := h1
  have k2 := h2
  have k3 := h3
  have lt0 : ∀ x ∈ p0, x.block < W.heap.size := by obtain ⟨m, hm⟩ := k0; exact DataW.trod_lt m _ _ _ hm
  have lt1 : ∀ x ∈ p1, x.block < W.heap.size := by obtain ⟨m, hm⟩ := k1; exact DataW.trod_lt m _ _ _ hm
  have lt2 : ∀ x ∈ p2, x.block < W.heap.size := by obtain ⟨m, hm⟩ := k2; exact DataW.trod_lt m _ _ _ hm
  have lt3 : ∀ x ∈ p3, x.block < W.heap.size := by obtain ⟨m, hm⟩ := k3; exact DataW.trod_lt m _ _ _ hm
  obtain ⟨u0, g0⟩ := h0
  obtain ⟨u1, g1⟩ := h1
  obtain ⟨u2, g2⟩ := h2
  obtain ⟨u3, g3⟩ := h3
  have g0' : DataW.trod enc Try.prog W 0 (fun _ => true) true u0 23 c0.toList = some (d0, p0) := by simpa [Value.cells] using g0
  have g1' : DataW.trod enc Try.prog W 0 (fun _ => true) true u1 23 c1.toList = some (d1, p1) := by simpa [Value.cells] using g1
  have g2' : DataW.trod enc Try.prog W 0 (fun _ => true) true u2 40 [.slice a0 len0 cap0] = some (d2, p2) := by simpa [Value.cells] using g2
  have g3' : DataW.trod enc Try.prog W 0 (fun _ => true) true u3 24 [.slice b0 len1 cap1] = some (d3, p3) := by simpa [Value.cells] using g3
  obtain ⟨b, s, g, u, z, o, fb, fs, fg, fu, fz, fo, e0⟩ := cfg_of g0'
  obtain ⟨b', s', g', u', z', o', fb', fs', fg', fu', fz', fo', e1⟩ := cfg_of g1'
  have e0' : c0 = #[.int .i64 b, .int .i64 s, .int .i64 g, .int .i64 u, .int .i64 z, .int .i64 o] := by rw [← Array.toArray_toList (xs := c0), e0]
  have e1' : c1 = #[.int .i64 b', .int .i64 s', .int .i64 g', .int .i64 u', .int .i64 z', .int .i64 o'] := by rw [← Array.toArray_toList (xs := c1), e1]
  subst e0'
  subst e1'
  obtain ⟨acts, HA⟩ := acts_of g2'
  obtain ⟨ints, HP⟩ := ints_of g3'
  have hL0 : len0 ≤ 20000000000000 := by
    rcases open_slice Try.underlying40 g2' with ⟨hc, _⟩ | ⟨a, l, c, m, n, D, Pl, hc, _, _, _, _, hx, _⟩
    · simp at hc; rw [hc.2.1]; omega
    · simp at hc
      obtain ⟨rfl, rfl, rfl⟩ := hc
      simp only [Prod.mk.injEq] at hx
      have hd := hx.1
      subst hd
      have := sized_slice hsz (j := 2) (t := 40) (e := 42) rfl rfl Try.underlying40
      rw [bytesAct] at this
      simp only [List.length_map, List.length_range, reachBytes] at this
      omega
  have hL1 : len1 ≤ 20000000000000 := by
    rcases open_slice Try.underlying24 g3' with ⟨hc, _⟩ | ⟨a, l, c, m, n, D, Pl, hc, _, _, _, _, hx, _⟩
    · simp at hc; rw [hc.2.1]; omega
    · simp at hc
      obtain ⟨rfl, rfl, rfl⟩ := hc
      simp only [Prod.mk.injEq] at hx
      have hd := hx.1
      subst hd
      have := sized_slice hsz (j := 3) (t := 24) (e := 3) rfl rfl Try.underlying24
      rw [bytesInt] at this
      simp only [List.length_map, List.length_range, reachBytes] at this
      omega
  clear hA0 hval0
  refine (transparent_walk P #[] #[] b s g u z o b' s' g' u' z' o' fb fs fg fu fz fo fb' fs' fg' fu' fz' fo' a0 b0 len0 cap0 len1 cap1 hL0 hL1 W acts ints HA HP).mono fun e W' ⟨he, bel⟩ => ?_
  subst he
  exact ⟨_, rfl, _, _, _, [], _, [], hW', trodAll_mk1 (shut_bool Try.underlying4 _), (trodAll_cons_mk (Below.trod laidOut (by kernel_rfl) (of_decide_eq_true (by kernel_rfl)) k0 bel lt0) (trodAll_cons_mk (Below.trod laidOut (by kernel_rfl) (of_decide_eq_true (by kernel_rfl)) k1 bel lt1) (trodAll_cons_mk (Below.trod laidOut (by kernel_rfl) (of_decide_eq_true (by kernel_rfl)) k2 bel lt2) (trodAll_cons_mk (Below.trod laidOut (by kernel_rfl) (of_decide_eq_true (by kernel_rfl)) k3 bel lt3) trodAll_mk0)))), rfl, bel.frame _, fun h => by cases h⟩

theorem transparent_of (P : Pacts HS) : Rows.TransparentSaid :=
  OpenClaim.holds_of_wide 4 Try.f4 rfl rfl rfl rfl rfl rfl rfl ⟨rfl, rfl, rfl, rfl, rfl⟩ rfl rfl rfl rfl rfl (by kernel_rfl) Try.func4 (by kernel_rfl)
    (of_decide_eq_true (by kernel_rfl)) (by unfold Func.isWrapper; rw [if_neg (of_decide_eq_false (by kernel_rfl))]; exact ⟨rfl, rfl⟩)
    (fun os started H enc _ => transparent_lifted P os started H enc)

end Go.Proofs.Ytpmkjeihbddfpaa

/- OUR OWN. Transparent: the statement. -/
namespace Go.Proofs.Ytpmkjeihbddfpaa
set_option linter.unusedVariables false
set_option linter.unusedSimpArgs false

/-- P11: a heap with another Budget, Zero and Over, and with safepoints and collections in between, answers the same to every Do. -/
theorem transparent_holds : Rows.TransparentSaid := transparent_of (HS := HS) ⟨fresh_hs, do_all, gauge_pact, safe_pact, coll_pact⟩

#print axioms transparent_holds

end Go.Proofs.Ytpmkjeihbddfpaa

