import Derived.Test.YtpmkjeihbddfpaaGreatDoorCoDDSCFB16
/- OUR OWN. The program's Gauge: the contract. -/
namespace Go.Proofs.YtpmkjeihbddfpaaGreatDoor
open Go.RowKit
set_option linter.unusedVariables false
set_option linter.unusedSimpArgs false

theorem gauge_of {m : HeapM} {s : St} {c : Cf} {N : Nat} (p : HSb 0 m s c N) (g : s.Good N) : gaugeS s = (countTo (m.inB 0) N, countTo (s.others 0) N, s.queue.length, countTo s.extra N, countTo (m.inB 2) N) := by
  have hl : m.blks.length = N + 1 := by
    have := g.len
    rw [← p.st] at this
    simpa [HeapM.st] using this
  have hob : ∀ i, i ≤ N → ∃ o, m.blks[i]? = some o ∧ s.ob i = o.ob := fun i hi => ⟨m.blks[i]'(by omega), List.getElem?_eq_getElem (by omega), by rw [← p.st]; exact hst_ob (List.getElem?_eq_getElem (by omega))⟩
  unfold gaugeS St.extras
  rw [g.sN]
  have e1 : countTo s.frees N = countTo (m.inB 0) N := countTo_congr fun b h1 h2 => by
    obtain ⟨o, ho, he⟩ := hob b h2
    unfold St.frees HeapM.inB
    rw [ho, he]
    simp [HObj.ob]
  have e2 : countTo s.waits N = countTo (s.others 0) N := countTo_congr fun b h1 h2 => by
    unfold St.others
    rw [decide_eq_true (by omega), Bool.and_true]
  have e3 : countTo s.stucks N = countTo (m.inB 2) N := countTo_congr fun b h1 h2 => by
    obtain ⟨o, ho, he⟩ := hob b h2
    unfold St.stucks HeapM.inB
    rw [ho, he]
    by_cases h : o.state = 2
    · simp [HObj.ob, h]
    · simp [HObj.ob, h]
  rw [e1, e2, e3]

theorem box5 {W : World} {L : Nat} {t : TypeId} {x0 x1 x2 x3 x4 a b c d e : Value} (h : W.heap[L]? = some (.cells #[x0, x1, x2, x3, x4] t)) :
    (((((W.setCell ⟨L, 0, none⟩ a).setCell ⟨L, 1, none⟩ b).setCell ⟨L, 2, none⟩ c).setCell ⟨L, 3, none⟩ d).setCell ⟨L, 4, none⟩ e).heap[L]? = some (.cells #[a, b, c, d, e] t) := by
  rw [heap_setCell_at (heap_setCell_at (heap_setCell_at (heap_setCell_at (heap_setCell_at h a) b) c) d) e]; rfl
theorem below_set {w W : World} (hb : Below w.heap.size w W) (i : Nat) (v : Value) : Below w.heap.size w (W.setCell ⟨w.heap.size, i, none⟩ v) :=
  ⟨hb.os, hb.tape, hb.output, by have := hb.size; simpa [World.setCell] using this, fun k hk => by rw [hso (by omega)]; exact hb.block k hk⟩

set_option maxRecDepth 20000 in
set_option maxHeartbeats 4000000 in
theorem gauge_done {h : Nat} {w : World} {m : HeapM} {s : St} {c : Cf} {N : Nat} (p : HB 0 h w m s c N) :
    Calls Tryz.prog 30 #[.pointer (some ⟨h, 0, none⟩)] w fun e w' =>
      e = .returned (.agg #[.int .i64 (gaugeS s).1, .int .i64 (gaugeS s).2.1, .int .i64 (gaugeS s).2.2.1, .int .i64 (gaugeS s).2.2.2.1, .int .i64 (gaugeS s).2.2.2.2]) ∧ Below w.heap.size w w' := by
  obtain ⟨qao, qcp, hvQ⟩ := win_slice p.r.queue
  rw [gauge_of p.hs p.good]
  simp only
  have K : Hid (∀ W, Below w.heap.size w W → W.cell? ⟨h, 7, none⟩ = some (.slice qao s.queue.length qcp) ∧
      (Calls Tryz.prog 62 #[.pointer (some ⟨h, 0, none⟩), .int .i64 0] W fun e w' => e = .returned (.int .i64 (countTo (m.inB 0) N)) ∧ Below W.heap.size W w') ∧
      (Calls Tryz.prog 63 #[.pointer (some ⟨h, 0, none⟩)] W fun e w' => e = .returned (.int .i64 (countTo (s.others 0) N)) ∧ Below W.heap.size W w') ∧
      (Calls Tryz.prog 64 #[.pointer (some ⟨h, 0, none⟩)] W fun e w' => e = .returned (.int .i64 (countTo s.extra N)) ∧ Below W.heap.size W w') ∧
      (Calls Tryz.prog 62 #[.pointer (some ⟨h, 0, none⟩), .int .i64 2] W fun e w' => e = .returned (.int .i64 (countTo (m.inB 2) N)) ∧ Below W.heap.size W w')) := by
    have cell : ∀ W, Below w.heap.size w W → W.cell? ⟨h, 7, none⟩ = some (.slice qao s.queue.length qcp) := fun W hb => by
      rw [(p.below hb).r.cell.2.2.2.2.1, hvQ, p.mqueue]
    intro W hb
    refine ⟨cell W hb, ?_, ?_, ?_, ?_⟩
    · exact (inState_any (p.below hb) 0).mono fun e w' ⟨he, hw⟩ => ⟨he, by rw [hw]; exact Below.refl _ _⟩
    · exact (waiting_any (p.below hb)).mono fun e w' ⟨he, hb2⟩ => ⟨he, hb2⟩
    · exact (hextras_any (p.below hb)).mono fun e w' ⟨he, hb2⟩ => ⟨he, hb2⟩
    · exact (inState_any (p.below hb) 2).mono fun e w' ⟨he, hw⟩ => ⟨he, by rw [hw]; exact Below.refl _ _⟩
  have c0 := (K.out w (Below.refl _ _)).1
  obtain ⟨n1, hn1⟩ : ∃ n, countTo (m.inB 0) N = n := ⟨_, rfl⟩
  obtain ⟨n2, hn2⟩ : ∃ n, countTo (s.others 0) N = n := ⟨_, rfl⟩
  obtain ⟨n3, hn3⟩ : ∃ n, s.queue.length = n := ⟨_, rfl⟩
  obtain ⟨n4, hn4⟩ : ∃ n, countTo s.extra N = n := ⟨_, rfl⟩
  obtain ⟨n5, hn5⟩ : ∃ n, countTo (m.inB 2) N = n := ⟨_, rfl⟩
  rw [hn1, hn2, hn3, hn4, hn5] at K
  rw [hn1, hn2, hn3, hn4, hn5]
  rw [hn3] at c0
  clear p hvQ hn1 hn2 hn3 hn4 hn5
  have NX : Hid (∀ W w', Below w.heap.size w W → W.heap[w.heap.size]? = some (.cells #[.int .i64 0, .int .i64 0, .int .i64 0, .int .i64 0, .int .i64 0] 66) → Below W.heap.size W w' → Below w.heap.size w w' ∧ w'.cell? ⟨h, 7, none⟩ = some (.slice qao n3 qcp) ∧ w'.heap[w.heap.size]? = some (.cells #[.int .i64 0, .int .i64 0, .int .i64 0, .int .i64 0, .int .i64 0] 66)) := fun W w' hb hx hb2 => by
    have hbb : Below w.heap.size w w' := hb.trans (hb2.mono hb.size)
    exact ⟨hbb, (K.out w' hbb).1, by rw [hb2.block _ (lt_of_heap hx)]; exact hx⟩
  have c1 := (K.out (w.alloc (.cells #[.int .i64 0, .int .i64 0, .int .i64 0, .int .i64 0, .int .i64 0] 66)) ((Below.refl _ _).alloc (Nat.le_refl _) _)).1
  go_enter Tryz.func30, Tryz.ntmps30
  go_wp2_with fail
  first | go_region_with (first | (go_at_call 62; refine Calls.mono (K.out _ B3.out.1).2.2.2.2 ?_; rintro e w4 ⟨rfl, hb⟩; obtain ⟨b4, g4, x4⟩ := NX.out _ w4 B3.out.1 B3.out.2 hb; have B4 : Hid _ := And.intro b4 x4; clear b4 x4 hb; have y0 := cell_of_heap (i := 0) B4.out.2 rfl; have y1 := cell_of_heap (i := 1) B4.out.2 rfl; have y2 := cell_of_heap (i := 2) B4.out.2 rfl; have y3 := cell_of_heap (i := 3) B4.out.2 rfl; have y4 := cell_of_heap (i := 4) B4.out.2 rfl; have z0 := frozen_of_heap (i := 0) B4.out.2; have z1 := frozen_of_heap (i := 1) B4.out.2; have z2 := frozen_of_heap (i := 2) B4.out.2; have z3 := frozen_of_heap (i := 3) B4.out.2; have z4 := frozen_of_heap (i := 4) B4.out.2) | (go_at_call 64; refine Calls.mono (K.out _ B2.out.1).2.2.2.1 ?_; rintro e w3 ⟨rfl, hb⟩; obtain ⟨b3, g3, x3⟩ := NX.out _ w3 B2.out.1 B2.out.2 hb; have B3 : Hid _ := And.intro b3 x3; clear b3 x3 hb) | (go_at_call 63; refine Calls.mono (K.out _ B1.out.1).2.2.1 ?_; rintro e w2 ⟨rfl, hb⟩; obtain ⟨b2, g2, x2⟩ := NX.out _ w2 B1.out.1 B1.out.2 hb; have B2 : Hid _ := And.intro b2 x2; clear b2 x2 hb) | (go_at_call 62; refine Calls.mono (K.out _ ((Below.refl _ _).alloc (Nat.le_refl _) _).drew).2.1 ?_; rintro e w1 ⟨rfl, hb⟩; obtain ⟨b1, g1, x1⟩ := NX.out _ w1 ((Below.refl _ _).alloc (Nat.le_refl _) _).drew (heap_alloc_new w _) hb; have B1 : Hid _ := And.intro b1 x1; clear b1 x1 hb)) | fail "region"
  all_goals go_wp2
  all_goals
    have hx := box5 (a := .int .i64 n1) (b := .int .i64 n2) (c := .int .i64 n3) (d := .int .i64 n4) (e := .int .i64 n5) B4.out.2
    have BB := below_set (below_set (below_set (below_set (below_set B4.out.1 0 (.int .i64 n1)) 1 (.int .i64 n2)) 2 (.int .i64 n3)) 3 (.int .i64 n4)) 4 (.int .i64 n5)
    obtain ⟨w5, hw5⟩ : ∃ w5, ((((w4.setCell ⟨w.heap.size, 0, none⟩ (.int .i64 n1)).setCell ⟨w.heap.size, 1, none⟩ (.int .i64 n2)).setCell ⟨w.heap.size, 2, none⟩ (.int .i64 n3)).setCell ⟨w.heap.size, 3, none⟩ (.int .i64 n4)).setCell ⟨w.heap.size, 4, none⟩ (.int .i64 n5) = w5 := ⟨_, rfl⟩
    rw [hw5] at hx BB ⊢
    have u0 := cell_of_heap (i := 0) hx rfl
    have u1 := cell_of_heap (i := 1) hx rfl
    have u2 := cell_of_heap (i := 2) hx rfl
    have u3 := cell_of_heap (i := 3) hx rfl
    have u4 := cell_of_heap (i := 4) hx rfl
    exact bodyPost_ret (v := .agg #[.int .i64 n1, .int .i64 n2, .int .i64 n3, .int .i64 n4, .int .i64 n5]) (by simp [results, Tryz.results30, go_sem, u0, u1, u2, u3, u4]) rfl ⟨rfl, BB⟩

theorem gauge_pact : GaugePact HS := by
  intro x N w hm s c hat hs g cf hN h16 h8
  exact (gauge_done ⟨hat, hs, g, cf, hN, h16, h8⟩).mono fun e w' ⟨he, hb⟩ => ⟨he, hm, .of_below hat hb, hs⟩

end Go.Proofs.YtpmkjeihbddfpaaGreatDoor

