import Derived.Test.YtpmkjeihbddfpaaDoorCoCJB15
/- OUR OWN. Counted, the walk. -/
namespace Go.Proofs.YtpmkjeihbddfpaaDoor
open Go.RowKit
set_option linter.unusedVariables false
set_option linter.unusedSimpArgs false
section
variable {HS : HeapM → St → Cf → Nat → Prop}

set_option maxHeartbeats 4000000 in
set_option maxRecDepth 100000 in
theorem counted_walk (P : PactsD HS) (b s g u z o : Int) (fb : fits b) (fs : fits s) (fg : fits g) (fu : fits u) (fz : fits z) (fo : fits o) (a0 : Option Addr) (alen acap : Nat) (hal : alen ≤ 20000000000000) (w : World) (acts : Nat → Int × Int) (HA : ActsIn w a0 alen acts) (Bt : Nat) (tab : Tab Bt w) (hBt : Bt ≤ w.heap.size) :
    Calls Tryd.prog 3 #[.agg #[.int .i64 b, .int .i64 s, .int .i64 g, .int .i64 u, .int .i64 z, .int .i64 o], .slice a0 alen acap] w
      fun e w' => e = .returned (.bool true) ∧ Below w.heap.size w w' := by
  have CF : Hid (∀ W, Calls Tryd.prog 5 #[.agg #[.int .i64 b, .int .i64 s, .int .i64 g, .int .i64 u, .int .i64 z, .int .i64 o]] W fun e w' => (∃ k : CfgM, e = .returned k.val ∧ k.ok) ∧ Below W.heap.size W w') := fun W => config_any b s g u z o W fb fs fg fu fz fo
  have FR : Hid (∀ (k : CfgM) (W : World), k.ok → Calls Tryd.prog 6 #[.agg #[.int .i64 k.b, .int .i64 k.s, .int .i64 k.g, .int .i64 k.u, .int .i64 k.z, .int .i64 k.o]] W fun e w' => ∃ x hm, e = .returned (.pointer (some ⟨x, 0, none⟩)) ∧ Below W.heap.size W w' ∧ KAt HS W.heap.size w' x hm (st0 k) k.cf k.b) := fun k W hk => fresh_keep P.all.base k hk W
  have H : Hid (ActsIn w a0 alen acts ∧ PactsD HS) := ⟨HA, P⟩
  have TB : Hid (∀ wr, Below w.heap.size w wr → Tab Bt wr) := fun wr hb => tab.keep hb.size fun k hk _ => hb.block k (by omega)
  clear HA P fb fs fg fu fz fo tab hBt
  go_enter Tryd.func3, Tryd.ntmps3
  go_wp2_with fail
  refine Calls.mono (CF.out _) ?_
  rintro e w1 ⟨⟨k, rfl, hk⟩, hb⟩
  have hL : w1.heap[w.heap.size]? = some (.cells #[.int .i64 b, .int .i64 s, .int .i64 g, .int .i64 u, .int .i64 z, .int .i64 o] 23) := by rw [hb.block _ (by simp)]; exact heap_alloc_new w _
  obtain ⟨kb, ks, kg, ku, kz, ko⟩ := k
  have hB := CfgM.bounds hk
  simp only at hB
  have hs1 : w.heap.size + 1 ≤ w1.heap.size := by have := hb.size; simpa using this
  have B1 : Hid (Below w.heap.size w w1) := ((Below.refl _ _).alloc (Nat.le_refl _) _).trans (hb.mono (by simp))
  obtain ⟨x0, x1, x2, x3, x4, x5, xf⟩ := box6 hL
  have f0 := xf 0
  have f1 := xf 1
  have f2 := xf 2
  have f3 := xf 3
  have f4 := xf 4
  have f5 := xf 5
  have HL : Hid (w1.heap[w.heap.size]? = some (.cells #[.int .i64 b, .int .i64 s, .int .i64 g, .int .i64 u, .int .i64 z, .int .i64 o] 23)) := hL
  have HK : Hid (CfgM.ok ⟨kb, ks, kg, ku, kz, ko⟩) := hk
  clear hb hL hk xf CF
  unfold CfgM.val
  simp only
  go_wp2_with fail
  obtain ⟨w2, hw2⟩ : ∃ w2, w2 = ((((((w1.setCell ⟨w.heap.size, 0, none⟩ (.int .i64 kb)).setCell ⟨w.heap.size, 1, none⟩ (.int .i64 ks)).setCell ⟨w.heap.size, 2, none⟩ (.int .i64 kg)).setCell ⟨w.heap.size, 3, none⟩ (.int .i64 ku)).setCell ⟨w.heap.size, 4, none⟩ (.int .i64 kz)).setCell ⟨w.heap.size, 5, none⟩ (.int .i64 ko)) := ⟨_, rfl⟩
  rw [← hw2]
  have hL2 : w2.heap[w.heap.size]? = some (.cells #[.int .i64 kb, .int .i64 ks, .int .i64 kg, .int .i64 ku, .int .i64 kz, .int .i64 ko] 23) := by rw [hw2]; exact set6_heap HL.out _ _ _ _ _ _
  have B2 : Hid (Below w.heap.size w w2) := by rw [hw2]; exact set6_below B1.out (Nat.le_refl _) _ _ _ _ _ _
  have hs2 : w.heap.size + 1 ≤ w2.heap.size := by rw [hw2, set6_size]; exact hs1
  clear x0 x1 x2 x3 x4 x5 f0 f1 f2 f3 f4 f5 HL B1 hw2 hs1
  refine Calls.mono (FR.out ⟨kb, ks, kg, ku, kz, ko⟩ w2 HK.out) ?_
  rintro e w3 ⟨x, hm, rfl, hb3, ka⟩
  have BX : Hid (∀ wr, Below w2.heap.size w3 wr → Box6 wr w.heap.size (.int .i64 kb) (.int .i64 ks) (.int .i64 kg) (.int .i64 ku) (.int .i64 kz) (.int .i64 ko) ∧ Below w.heap.size w wr) := fun wr hb => by
    have h23 := (hb3.trans hb)
    exact ⟨box6 ((h23.block _ (by omega)).trans hL2), B2.out.trans (h23.mono (by omega))⟩
  have IV : Hid (Inv HS w2.heap.size x kg kb ⟨ks, ku, kz, ko⟩ w3) := ⟨hm, _, ka, by simp [st0]⟩
  have hw23 := hb3.size
  clear hb3 ka hL2 FR HK B2
  obtain ⟨⟨x0, x1, x2, x3, x4, x5, _⟩, _⟩ := BX.out w3 (Below.refl _ _)
  go_wp2
  go_loopw [6] (fun i wr => ∃ j : Nat, j ≤ alen ∧ i = .int .i64 j ∧ Inv HS w2.heap.size x kg kb ⟨ks, ku, kz, ko⟩ wr ∧ Below w2.heap.size w3 wr) (fun i _ => alen - (intOf i).toNat)
  case atStart => exact ⟨0, Nat.zero_le _, rfl, IV.out, Below.refl _ _⟩
  case round =>
    obtain ⟨j, hj, rfl, hi, hbr⟩ := hrel
    have IB : Hid _ := And.intro hi hbr
    obtain ⟨hx6, hbw⟩ := BX.out wr hbr
    by_cases hlt : j < alen
    · obtain ⟨sb, off, ha0, hsb, ff1, ff2, d0, d1⟩ := H.out.1 j hlt
      have q0 : wr.cell? ⟨sb, off + j * 2, none⟩ = some (.int .i64 (acts j).1) := (hbw.cell (p := ⟨sb, off + j * 2, none⟩) hsb).trans d0
      have q1 : wr.cell? ⟨sb, off + j * 2 + 1, none⟩ = some (.int .i64 (acts j).2) := (hbw.cell (p := ⟨sb, off + j * 2 + 1, none⟩) hsb).trans d1
      have AC : Hid _ := inv_act H.out.2 hi (acts j).1 (acts j).2 ff1 ff2
      obtain ⟨op, hop⟩ : ∃ op, (acts j).1 = op := ⟨_, rfl⟩
      obtain ⟨nn, hnn⟩ : ∃ nn, (acts j).2 = nn := ⟨_, rfl⟩
      rw [hop] at q0 AC
      rw [hnn] at q1 AC
      subst ha0
      have hjI : (j : Int) < alen := by omega
      clear hi hbr hx6 hbw d0 d1 ff1 ff2 hop hnn x0 x1 x2 x3 x4 x5 IV
      go_wp2_with fail
      refine Calls.mono AC.out ?_
      rintro e w4 ⟨⟨r1, r2, rfl⟩, hi4, hb4⟩
      have I4 : Hid _ := And.intro hi4 (IB.out.2.trans hb4)
      clear hi4 hb4
      go_wp2
      go_roundw
      case rel => exact ⟨j + 1, by omega, by go_num, I4.out.1, I4.out.2⟩
      case measure => simp [intOf]; omega
    · have hjI : ¬ (j : Int) < alen := by omega
      obtain ⟨y0, y1, y2, y3, y4, y5, _⟩ := hx6
      have SE : Hid _ := inv_seen H.out.2 hi (TB.out wr hbw) (ku : Int)
      have h1 : 1 ≤ kb := hB.1
      have h99 : kb ≤ 99 := hB.2.1
      clear hi hbr hbw x0 x1 x2 x3 x4 x5 IV
      go_wp2_with fail
      refine Calls.mono SE.out ?_
      rintro e w4 ⟨L, rfl, hp4, hb4⟩
      have I4 : Hid _ := And.intro hp4 (IB.out.2.trans hb4)
      clear hp4 hb4 SE y0 y1 y2 y3 y4 y5 IB
      go_wp2_with fail
      refine Calls.mono (pic2_wide I4.out.1 h1) ?_
      rintro e w5 ⟨rfl, hp5, hb5⟩
      have I5 : Hid _ := And.intro hp5 (I4.out.2.trans hb5)
      obtain ⟨⟨y0, y1, y2, y3, y4, y5, _⟩, _⟩ := BX.out w5 I5.out.2
      clear hp5 hb5 I4
      go_wp2_with fail
      refine Calls.mono (pic2_gauged H.out.2 I5.out.1 h1 (kb : Int) (ks : Int) (kg : Int) (ku : Int)) ?_
      rintro e w6 ⟨rfl, hp6, hb6⟩
      have I6 : Hid _ := And.intro hp6 (I5.out.2.trans hb6)
      clear hp6 hb6 I5 y0 y1 y2 y3 y4 y5
      go_wp2
      go_loopw [8, 11] (fun ok i wr => ∃ t : Nat, t ≤ kb ∧ i = .int .i64 ((t : Int) + 1) ∧ Pic3 kb L wr ∧ Below w2.heap.size w3 wr) (fun _ i _ => kb + 1 - (intOf i).toNat)
      case atStart => exact ⟨0, Nat.zero_le _, rfl, I6.out.1, I6.out.2⟩
      case round =>
        obtain ⟨t, ht, rfl, hp, hbr⟩ := hrel
        have J : Hid _ := And.intro hp hbr
        obtain ⟨⟨y0, _, _, _, _, _, _⟩, hbw⟩ := BX.out wr hbr
        have BW : Hid _ := hbw
        have hsz := hbr.size
        by_cases hlt2 : t < kb
        · have EX : Hid _ := pic3_exact hp h99 t hlt2
          have htI : (t : Int) + 1 ≤ kb := by omega
          clear hp hbr hbw
          go_wp2_with fail
          refine Calls.mono EX.out ?_
          rintro e w7 ⟨rfl, hp7, hb7⟩
          have I7 : Hid _ := And.intro hp7 (J.out.2.trans (hb7.mono (by omega)))
          clear hp7 hb7
          go_wp2
          go_roundw
          case rel => exact ⟨t + 1, by omega, by go_num, I7.out.1, I7.out.2⟩
          case measure => simp [intOf]; omega
        · have htI : ¬ ((t : Int) + 1 ≤ kb) := by omega
          clear hp hbr hbw
          go_wp2
          go_ret
          exact ⟨rfl, BW.out⟩
end

end Go.Proofs.YtpmkjeihbddfpaaDoor

