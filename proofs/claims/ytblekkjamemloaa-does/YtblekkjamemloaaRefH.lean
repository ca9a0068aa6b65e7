/- OUR OWN. The document's heap: made, where a block is free. -/
import Derived.Test.YtblekkjamemloaaRefG
namespace Go.Proofs.Ytblekkjamemloaa
open Go.RowKit
set_option linter.unusedVariables false
set_option linter.unusedSimpArgs false

set_option maxHeartbeats 400000 in
theorem made_index {w : World} {h : Nat} (n : Int) (hn : n < 0 ∨ 4 < n) :
    Calls Try.prog 64 #[.pointer (some ⟨h, 0, none⟩), .int .i64 n] w fun e w' => e = .returned (.int .i64 6) ∧ w' = w := by
  rcases hn with hn | hn
  · go_enter Try.func64, Try.ntmps64
    go_wp2
    go_ret
    exact ⟨rfl, rfl⟩
  · have h0 : ¬ n < 0 := by omega
    go_enter Try.func64, Try.ntmps64
    go_wp2
    go_ret
    exact ⟨rfl, rfl⟩

set_option maxHeartbeats 400000 in
theorem made_deep {w : World} {h : Nat} {m : RefM} (r : RefAt w h m) (hs : m.stack.length ≤ 16) (n : Int) (h0 : 0 ≤ n) (h4 : n ≤ 4) (hd : m.deep ≤ m.stack.length) :
    Calls Try.prog 64 #[.pointer (some ⟨h, 0, none⟩), .int .i64 n] w fun e w' => e = .returned (.int .i64 7) ∧ Below w.heap.size w w' := by
  obtain ⟨ao, cap, hv⟩ := own_slice r.stack
  have cS : w.cell? ⟨h, 7, none⟩ = some (.slice ao m.stack.length cap) := by rw [r.cell.2.2.2.2.2.2.2.1, hv]
  have cD := r.cell.2.1
  obtain ⟨len, hlen⟩ : ∃ len, m.stack.length = len := ⟨_, rfl⟩
  rw [hlen] at cS hs hd
  obtain ⟨D, hD⟩ : ∃ D, m.deep = D := ⟨_, rfl⟩
  rw [hD] at cD hd
  clear r hv hlen hD
  go_enter Try.func64, Try.ntmps64
  go_wp2
  go_quiet (fail)
  go_wp2
  go_ret
  exact ⟨rfl, below_drewN (Below.refl _ _) _⟩

/-- the new object while it is being made: block X has it, its fields are new -/
structure Making (X : Nat) (w wr : World) (v : Value) (j : Nat) : Prop where
  head : wr.heap[X]? = some (.cells #[.bool true, v, .bool false, .bool false] 81)
  row : wr.ownsRow (X + 1) 96 2 v j (nilCells j)
  below : Below X w wr

theorem Making.step {X : Nat} {w wr w1 : World} {v : Value} {j g cap : Nat} {ob : Obj} (h : Making X w wr v j)
    (hown : w1.ownsRow (X + 1) 96 2 (.slice (some ⟨g, 0, none⟩) (j + 1) cap) (j + 1) (nilCells j ++ [.int .i64 0, .int .i64 0]))
    (hgr : (wr.alloc ob).grownBy w1 v.ownBlock) :
    Making X w (w1.setCell ⟨X, 1, none⟩ (.slice (some ⟨g, 0, none⟩) (j + 1) cap)) (.slice (some ⟨g, 0, none⟩) (j + 1) cap) (j + 1) ∧ w1.cell? ⟨X, 1, none⟩ = some v ∧ w1.frozen? ⟨X, 1, none⟩ = false := by
  have hs := lt_of_heap h.head
  have hne : some X ≠ v.ownBlock := fun e => by have := own_lt h.row e.symm; omega
  have hh : w1.heap[X]? = some (.cells #[.bool true, v, .bool false, .bool false] 81) := by
    rw [hgr.block _ (by simp; omega) hne, hao hs]; exact h.head
  refine ⟨⟨?_, ?_, ?_⟩, cell_of_heap hh rfl, frozen_of_heap hh⟩
  · rw [heap_setCell_at hh]; rfl
  · rw [nilCells_succ]
    exact ownsRow_setCell_below hown (by simp) _
  · exact ((h.below.alloc (by omega) ob).grown hgr (by simp; omega) (fun k hk => by have := own_lt h.row hk; omega)).setCell (by simp) _

set_option maxHeartbeats 1600000 in
theorem made_room {w : World} {h : Nat} {m : RefM} {N : Nat} (r : RefAt w h m) (ok : m.Ok N) (n : Nat) (hn : n ≤ 4) (hd : m.stack.length < m.deep) (hd16 : m.deep ≤ 16) (k : Nat) (hk : k < N) (o0 : RObj) (ho0 : m.objs[k + 1]? = some o0) (hfree : o0.here = false) (hoq : o0.queued = false)
    (hall : ∀ j, j < k → ∃ o, m.objs[j + 1]? = some o ∧ o.here = true) :
    Calls Try.prog 64 #[.pointer (some ⟨h, 0, none⟩), .int .i64 n] w
      fun e w' => e = .returned (.int .i64 0) ∧ ∃ vF m2 vS, EnterRel ((k : Int) + 1) (m.put (k + 1) ⟨true, vF, List.replicate n (0, 0), false, false⟩) N m2 ∧
        Turn h w m w' { m2 with vS := vS, stack := m2.stack ++ [(2, (k : Int) + 1)] } ∧ RefM.Ok { m2 with vS := vS, stack := m2.stack ++ [(2, (k : Int) + 1)] } N := by
  obtain ⟨g, cap, hv, hg, hgh, hob, hfz, hobj⟩ := r.view ok
  obtain ⟨ao, cp, hvS⟩ := own_slice r.stack
  have cS : w.cell? ⟨h, 7, none⟩ = some (.slice ao m.stack.length cp) := by rw [r.cell.2.2.2.2.2.2.2.1, hvS]
  have cD := r.cell.2.1
  have cB : w.cell? ⟨h, 5, none⟩ = some (.slice (some ⟨g, 0, none⟩) (N + 1) cap) := by rw [r.cell.2.2.2.2.2.1, hv]
  have hh := lt_of_heap r.head
  have hN := ok.small
  have ROOM : Hid (∀ W, Below w.heap.size w W → Calls Try.prog 76 #[.pointer (some ⟨h, 0, none⟩)] W fun e w' => e = .returned (.int .i64 ((k : Int) + 1)) ∧ w' = W) := by
    intro W hb
    refine (room_any (r.carry fun y hy => hb.block y (r.lt y hy)) ok).mono ?_
    rintro e w' ⟨v, rfl, hs, rfl⟩
    refine ⟨?_, rfl⟩
    rcases hs with ⟨_, hs⟩ | ⟨k', hk', rfl, ⟨o1, ho1, hf1⟩, hs⟩
    · obtain ⟨o, ho, ht⟩ := hs k hk
      rw [ho0] at ho; cases ho; rw [hfree] at ht; cases ht
    · have : k' = k := by
        rcases Nat.lt_trichotomy k' k with e | e | e
        · obtain ⟨o, ho, ht⟩ := hall k' e
          rw [ho1] at ho; cases ho; rw [hf1] at ht; cases ht
        · exact e
        · obtain ⟨o, ho, ht⟩ := hs k e
          rw [ho0] at ho; cases ho; rw [hfree] at ht; cases ht
      rw [this]
  have KEEP : Hid (RefAt w h m ∧ m.Ok N ∧ m.vB = .slice (some ⟨g, 0, none⟩) (N + 1) cap ∧ m.objs[k + 1]? = some o0 ∧ o0.queued = false ∧ (m.stack.length : Int) < m.deep ∧ m.deep ≤ 16) := ⟨r, ok, hv, ho0, hoq, hd, hd16⟩
  have hcells := hobj (k + 1) (by rw [ok.len]; omega)
  obtain ⟨oo, hoo⟩ : ∃ oo, oo = m.objs[k + 1]'(by rw [ok.len]; omega) := ⟨_, rfl⟩
  rw [← hoo] at hcells
  obtain ⟨b0, b1, b2, b3⟩ := hcells
  have f0 := hfz ((k + 1) * 4)
  have f1 := hfz ((k + 1) * 4 + 1)
  have f2 := hfz ((k + 1) * 4 + 2)
  have f3 := hfz ((k + 1) * 4 + 3)
  have CB : Hid (w.cell? ⟨h, 5, none⟩ = some (.slice (some ⟨g, 0, none⟩) (N + 1) cap) ∧ w.cell? ⟨g, (k + 1) * 4, none⟩ = some (.bool oo.here) ∧ w.cell? ⟨g, (k + 1) * 4 + 1, none⟩ = some oo.vF ∧ w.cell? ⟨g, (k + 1) * 4 + 2, none⟩ = some (.bool oo.stuck) ∧
    w.cell? ⟨g, (k + 1) * 4 + 3, none⟩ = some (.bool oo.queued) ∧ (∀ j, w.frozen? ⟨g, j, none⟩ = false)) := ⟨cB, b0, b1, b2, b3, hfz⟩
  obtain ⟨len, hlen⟩ : ∃ len, m.stack.length = len := ⟨_, rfl⟩
  rw [hlen] at cS hd
  have hl16 : len ≤ 16 := by rw [← hlen]; exact ok.stack
  obtain ⟨D, hD⟩ : ∃ D, m.deep = D := ⟨_, rfl⟩
  rw [hD] at cD hd
  have hnI : ¬ (n : Int) < 0 := by omega
  have hn4 : ¬ (4 : Int) < n := by omega
  have hd2 : decide (D ≤ (len : Int)) = false := by simp; omega
  have hd3 : ¬ D ≤ (len : Int) := by omega
  clear r ok hv hvS hobj hob hfz hlen hD ho0 hfree hoq hall hoo b0 b1 b2 b3 f0 f1 f2 f3 hd16 cB hd
  go_enter Try.func64, Try.ntmps64
  go_wp2
  go_quiet (fail)
  go_wp2_with fail
  refine (ROOM.out _ (below_drewN (Below.refl _ _) _)).mono ?_
  rintro e w1 ⟨rfl, hw1⟩
  have hk0 : ((k : Int) + 1 == 0) = false := by simp; omega
  have hk1 : ¬ ((k : Int) + 1 = 0) := by omega
  have B1 : Hid (Below w.heap.size w w1) := by rw [hw1]; exact below_drewN (Below.refl _ _) _
  clear hw1 cS cD
  go_wp2
  go_loopw [7] (fun i wr => ∃ (j : Nat) (v : Value), j ≤ n ∧ i = .int .i64 j ∧ Making w1.heap.size w1 wr v j) (fun i _ => n - (intOf i).toNat)
  case atStart => exact ⟨0, _, Nat.zero_le _, rfl, ⟨heap_alloc_new w1 _, World.ownsRow_nil _ _ _ _, (Below.refl _ _).alloc (Nat.le_refl _) _⟩⟩
  case round =>
    obtain ⟨j, v, hj, rfl, hm⟩ := hrel
    by_cases hlt : j < n
    · have hcell : wr.cell? ⟨w1.heap.size, 1, none⟩ = some v := cell_of_heap hm.head rfl
      obtain ⟨i1, hi1, hy0, hy1, hy2⟩ := info_parts infoRValue
      go_wp2_with (at_builtin; refine wpList_append_lies _ rfl (.tmp 55) (.tmp 57) 62 rfl (w1.heap.size + 1) 96 i1 _ 2 16 Try.underlying62 hi1 hy0 hy1 hy2 rfl (by decide) _ _ _ rfl (hm.row.alloc _) ⟨wr.heap.size, 0, none⟩ 1 1 [.int .i64 0, .int .i64 0] rfl rfl ?c1 ?c2 (by decide) ?c3 ?c4 ?c5 (wr.heap.size + 1) (by simp) ?_)
      case c1 => exact news_new _ [.int .i64 0, .int .i64 0] _
      case c2 => intro u hu; simp at hu; subst hu; rfl
      case c3 => unfold maxLen; omega
      case c4 => omega
      case c5 => have := lt_of_heap hm.head; simp; omega
      intro g' cap' w2 hown hgr _ _
      obtain ⟨hm', hc', hf'⟩ := hm.step hown hgr
      have M : Hid _ := hm'
      clear hown hgr hcell hm hm' hi1 hy0 hy1 hy2
      go_wp2
      go_roundw
      case rel => exact ⟨j + 1, _, by omega, by go_num, M.out⟩
      case measure => simp [intOf]; omega
    · obtain rfl : j = n := by omega
      obtain ⟨vo, vc, hvv⟩ := own_slice (own_base hm.row (Nat.zero_le _))
      subst hvv
      obtain ⟨r, ok, hv, ho0, hoq, hd, hd16⟩ := KEEP.out
      have hb1 : Below w.heap.size w wr := B1.out.trans (hm.below.mono B1.out.size)
      have hXw : w.heap.size ≤ w1.heap.size := B1.out.size
      have PL := r.placed ok hb1 hv (k + 1) ho0 ⟨true, .slice vo j vc, List.replicate j (0, 0), false, false⟩ (by
          show wr.ownsRow 0 _ 2 _ (List.replicate j (0, 0)).length _
          have := own_base hm.row (Nat.zero_le _)
          simpa [nilCells, RObj.row, vrow] using this) (fun b hb => by have := own_lt hm.row hb; omega)
      have ok1 := ok.put ho0 hoq ⟨true, .slice vo j vc, List.replicate j (0, 0), false, false⟩ (by simpa using hn)
      have T1 : Hid (∀ W, W = layObj wr g (k + 1) ⟨true, .slice vo j vc, List.replicate j (0, 0), false, false⟩ → Turn h w m W (m.put (k + 1) ⟨true, .slice vo j vc, List.replicate j (0, 0), false, false⟩)) := fun W e => by rw [e]; exact PL
      have OK1 : Hid (RefM.Ok (m.put (k + 1) ⟨true, .slice vo j vc, List.replicate j (0, 0), false, false⟩) N ∧ (m.stack.length : Int) < m.deep ∧ m.deep ≤ 16) := ⟨ok1, hd, hd16⟩
      obtain ⟨cB, b0, b1, b2, b3, hfz⟩ := CB.out
      have old : ∀ b o, b < w.heap.size → wr.cell? ⟨b, o, none⟩ = w.cell? ⟨b, o, none⟩ := fun b o hlt => hb1.cell (p := ⟨b, o, none⟩) hlt
      have cB' := (old h 5 hh).trans cB
      have b0' := (old g ((k + 1) * 4) hg).trans b0
      have b1' := (old g ((k + 1) * 4 + 1) hg).trans b1
      have b2' := (old g ((k + 1) * 4 + 2) hg).trans b2
      have b3' := (old g ((k + 1) * 4 + 3) hg).trans b3
      have fz : ∀ o, wr.frozen? ⟨g, o, none⟩ = false := fun o => (hb1.frozen (p := ⟨g, o, none⟩) hg).trans (hfz o)
      have f0 := fz ((k + 1) * 4)
      have f1 := fz ((k + 1) * 4 + 1)
      have f2 := fz ((k + 1) * 4 + 2)
      have f3 := fz ((k + 1) * 4 + 3)
      have x0 := cell_of_heap (i := 0) hm.head rfl
      have x1 := cell_of_heap (i := 1) hm.head rfl
      have x2 := cell_of_heap (i := 2) hm.head rfl
      have x3 := cell_of_heap (i := 3) hm.head rfl
      have hgX : ¬ w1.heap.size = g := by omega
      have hkI : (k : Int) + 1 < (N : Int) + 1 := by omega
      clear cB b0 b1 b2 b3 hfz old fz hm r ok hv ho0 hoq hd hd16 hb1 PL ok1 KEEP B1 CB ROOM
      go_wp2
      go_region
      go_wp2_with fail
      refine (enter_any (T1.out _ rfl).drew.here OK1.out.1 ((k : Int) + 1)).mono ?_
      rintro e w3 ⟨rfl, m2, hE, hT, hok⟩
      have T3 := (T1.out _ rfl).drew.trans hT
      have al := hE.alike
      have hlen : (m2.stack.length : Int) < m2.deep := by rw [al.stack, al.deep]; exact OK1.out.2.1
      have PU : Hid (Calls Try.prog 77 #[.pointer (some ⟨h, 0, none⟩), .agg #[.int .i64 2, .int .i64 ((k : Int) + 1)]] w3
        fun e w' => e = .returned (.int .i64 0) ∧ ∃ v', Turn h w3 m2 w' { m2 with vS := v', stack := m2.stack ++ [(2, (k : Int) + 1)] }) := push_room T3.here hok.stack (2, (k : Int) + 1) hlen
      have FIN : Hid (∀ w4 v', Turn h w3 m2 w4 { m2 with vS := v', stack := m2.stack ++ [(2, (k : Int) + 1)] } → ∃ vF m2 vS, EnterRel ((k : Int) + 1) (m.put (k + 1) ⟨true, vF, List.replicate j (0, 0), false, false⟩) N m2 ∧
        Turn h w m w4 { m2 with vS := vS, stack := m2.stack ++ [(2, (k : Int) + 1)] } ∧ RefM.Ok { m2 with vS := vS, stack := m2.stack ++ [(2, (k : Int) + 1)] } N) := fun w4 v' t =>
          ⟨_, m2, v', hE, T3.trans t, ⟨hok.most, hok.len, hok.small, hok.fields, by
            have h1 : m2.deep ≤ 16 := by rw [al.deep]; exact OK1.out.2.2
            simp; omega, hok.globals, hok.queue⟩⟩
      clear hE hT hok T3 al hlen T1 OK1 cB' b0' b1' b2' b3' f0 f1 f2 f3 x0 x1 x2 x3
      go_wp2_with fail
      refine PU.out.mono ?_
      rintro e w4 ⟨rfl, v', T4⟩
      have F4 := FIN.out w4 v' T4
      have FF : Hid _ := F4
      clear F4 T4 FIN PU
      go_wp2
      go_ret
      exact ⟨rfl, FF.out⟩

end Go.Proofs.Ytblekkjamemloaa
