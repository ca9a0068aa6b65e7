import Derived.Test.YteekoiljkklnmaaGreatDoorDoesB7
/- OUR OWN. The document's heap: stored, by cases. -/
namespace Go.Proofs.YteekoiljkklnmaaGreatDoor
open Go.RowKit
set_option linter.unusedVariables false
set_option linter.unusedSimpArgs false

set_option maxHeartbeats 1600000 in
theorem stored_cn (h N g capB fg fl fc i k len cap : Nat) (ao : Option Addr) (jx : Nat) (hjx : jx ≤ N) (y1 y2 : Int) (yk : ¬ y1 = 2) (q1 over : Int) (cx ex : Nat) (ys : Nat → Bool) (cy : Int → Nat) (c7 : ¬ (cx : Int) = 7) (w : World) (Mid1 MidP TailP Done : World → Prop) (E : Hid (StoreEnv h N g capB fg fl fc i k 2 (jx : Int) y1 y2 q1 over cx ex ys cy w Mid1 MidP TailP Done))
    (cS : w.cell? ⟨h, 7, none⟩ = some (.slice ao len cap)) (hc : ¬ (len : Int) < 2) (hl : len ≤ 16) (hN : N ≤ 99) (hi : i ≤ N) (hk : k < fl) (hfl : fl ≤ 4) (hh : h < w.heap.size) (hg : g < w.heap.size) (hfg : fg < w.heap.size) (hgf : ¬ g = fg) :
    Calls Tryz.prog 53 #[.pointer (some ⟨h, 0, none⟩), .int .i64 k] w fun e w' => e = .returned (.int .i64 0) ∧ Done w' := by
  have hiI : (i : Int) < (N : Int) + 1 := by omega
  have hkI : (k : Int) < fl := by omega
  have hk0 : ¬ (k : Int) < 0 := by omega
  have hkd : decide ((k : Int) < 0) = false := by simp
  go_enter Tryz.func53, Tryz.ntmps53
  go_wp2_with fail
  refine Calls.mono E.out.d0 ?_
  rintro e w1 ⟨rfl, hb⟩
  have B : Hid (Below w.heap.size w w1) := hb
  clear hb
  go_wp2_with fail
  refine Calls.mono (E.out.d1 _ (B.out.alloc B.out.size _)) ?_
  rintro e w2 ⟨rfl, hb⟩
  have B2 : Hid (Below w.heap.size w w2 ∧ w1.heap.size + 1 ≤ w2.heap.size ∧ w2.heap[w1.heap.size]? = some (.cells #[.int .i64 2, .int .i64 (jx : Int)] 78)) := ⟨(B.out.alloc B.out.size _).trans (hb.mono (by simp; have := B.out.size; omega)), by have := hb.size; simpa using this, boxed' hb⟩
  clear hb
  go_wp2_with fail
  refine Calls.mono (E.out.obj _) ?_
  rintro e w3 ⟨rfl, hb⟩
  have B3 : Hid (Below w.heap.size w w3 ∧ w2.heap.size + 1 ≤ w3.heap.size ∧ w3.heap[w2.heap.size]? = some (.cells #[.int .i64 q1, .int .i64 i] 78) ∧ w3.heap[w1.heap.size]? = some (.cells #[.int .i64 2, .int .i64 (jx : Int)] 78)) :=
    ⟨(B2.out.1.alloc B2.out.1.size _).trans (hb.mono (by simp; have := B2.out.1.size; omega)), by have := hb.size; simpa using this, boxed' hb, by
      have h1 := B2.out.2.1
      rw [hb.block _ (by simp; omega), hao (by omega)]; exact B2.out.2.2⟩
  have l1 : w3.cell? ⟨w2.heap.size, 1, none⟩ = some (.int .i64 i) := cell_of_heap B3.out.2.2.1 rfl
  obtain ⟨d0, d1⟩ := E.out.old w3 B3.out.1
  clear hb
  go_wp2_with fail
  go_quiet (fail)
  go_wp2_with fail
  refine Calls.mono (E.out.pop _ (below_drewN B3.out.1 _)) ?_
  rintro e w4 ⟨rfl, hm, hsz, hloc⟩
  have a0 := hloc w1.heap.size _ B.out.size B3.out.2.2.2
  have b0 := hloc w2.heap.size _ B2.out.1.size B3.out.2.2.1
  have hsz' : w3.heap.size ≤ w4.heap.size := hsz
  have LOC : Hid (w4.heap[w1.heap.size]? = some (.cells #[.int .i64 2, .int .i64 (jx : Int)] 78) ∧ w4.heap[w2.heap.size]? = some (.cells #[.int .i64 q1, .int .i64 i] 78)) := ⟨a0, b0⟩
  have v0 : w4.cell? ⟨w1.heap.size, 0, none⟩ = some (.int .i64 2) := cell_of_heap a0 rfl
  have v1 : w4.cell? ⟨w1.heap.size, 1, none⟩ = some (.int .i64 (jx : Int)) := cell_of_heap a0 rfl
  have u1 : w4.cell? ⟨w2.heap.size, 1, none⟩ = some (.int .i64 i) := cell_of_heap b0 rfl
  have s1 := B.out.size
  have s2 := B2.out.2.1
  have s3 := B3.out.2.1
  have M4 : Hid (Mid1 w4) := hm
  obtain ⟨m0, m1, m2, m3, m4, m5, m6⟩ := E.out.midA w4 hm
  have al : ∀ (ob : Obj) (b o : Nat), b < w4.heap.size → (w4.alloc ob).cell? ⟨b, o, none⟩ = w4.cell? ⟨b, o, none⟩ := fun ob b o hlt => World.cell?_of_block (hao hlt)
  have t0 : ∀ ob, (w4.alloc ob).cell? ⟨h, 5, none⟩ = w4.cell? ⟨h, 5, none⟩ := fun ob => al ob h 5 (by omega)
  have t1 : ∀ ob, (w4.alloc ob).cell? ⟨g, i * 4 + 1, none⟩ = w4.cell? ⟨g, i * 4 + 1, none⟩ := fun ob => al ob g _ (by omega)
  have t2 : ∀ ob, (w4.alloc ob).cell? ⟨fg, k * 2, none⟩ = w4.cell? ⟨fg, k * 2, none⟩ := fun ob => al ob fg _ (by omega)
  have t3 : ∀ ob, (w4.alloc ob).cell? ⟨fg, k * 2 + 1, none⟩ = w4.cell? ⟨fg, k * 2 + 1, none⟩ := fun ob => al ob fg _ (by omega)
  have t4 : ∀ ob, (w4.alloc ob).cell? ⟨w2.heap.size, 1, none⟩ = w4.cell? ⟨w2.heap.size, 1, none⟩ := fun ob => al ob w2.heap.size _ (by omega)
  clear hm hsz hloc a0 b0 d0 d1 l1 B B2 B3 al
  go_wp2_with fail
  go_region
  obtain ⟨w5, hw5⟩ : ∃ w5, w5 = (w4.alloc (.cells #[.int .i64 y1, .int .i64 y2] 78)).drew := ⟨_, rfl⟩
  rw [← hw5]
  have M5 : Hid (Mid1 w5) := by rw [hw5]; exact E.out.mid1B _ _ M4.out ((Below.refl _ _).alloc (Nat.le_refl _) _).drew
  have L5 : Hid (w5.heap[w1.heap.size]? = some (.cells #[.int .i64 2, .int .i64 (jx : Int)] 78) ∧ w5.heap[w2.heap.size]? = some (.cells #[.int .i64 q1, .int .i64 i] 78) ∧ w5.heap[w4.heap.size]? = some (.cells #[.int .i64 y1, .int .i64 y2] 78)) := by
    rw [hw5]
    refine ⟨?_, ?_, heap_alloc_new w4 _⟩
    · show (w4.alloc _).heap[w1.heap.size]? = _
      rw [hao (by omega)]; exact LOC.out.1
    · show (w4.alloc _).heap[w2.heap.size]? = _
      rw [hao (by omega)]; exact LOC.out.2
  have s5 : w5.heap.size = w4.heap.size + 1 := by rw [hw5]; simp
  clear hw5 t0 t1 t2 t3 t4 m0 m1 m2 m3 m4 m5 m6 v0 v1 u1 LOC M4
  have lv0 : w5.cell? ⟨w1.heap.size, 0, none⟩ = some (.int .i64 2) := cell_of_heap L5.out.1 rfl
  have lv1 : w5.cell? ⟨w1.heap.size, 1, none⟩ = some (.int .i64 (jx : Int)) := cell_of_heap L5.out.1 rfl
  have ly0 : w5.cell? ⟨w4.heap.size, 0, none⟩ = some (.int .i64 y1) := cell_of_heap L5.out.2.2 rfl
  have ly1 : w5.cell? ⟨w4.heap.size, 1, none⟩ = some (.int .i64 y2) := cell_of_heap L5.out.2.2 rfl
  have yk2 : (y1 == 2) = false := by simpa using yk
  have hxI : (jx : Int) < (N : Int) + 1 := by omega
  go_wp2_with fail
  refine Calls.mono (E.out.count _ M5.out) ?_
  rintro e wc ⟨rfl, hwc⟩
  subst hwc
  go_wp2_with fail
  refine Calls.mono (E.out.extras _ M5.out) ?_
  rintro e w6 ⟨rfl, hb⟩
  have M6 : Hid (MidP w6) := E.out.mid1 _ (E.out.mid1B _ _ M5.out hb) (fun q => c7 q.2.1)
  have s6 : w4.heap.size + 1 ≤ w6.heap.size := by have := hb.size; omega
  have L6 : Hid (w6.heap[w1.heap.size]? = some (.cells #[.int .i64 2, .int .i64 (jx : Int)] 78) ∧ w6.heap[w2.heap.size]? = some (.cells #[.int .i64 q1, .int .i64 i] 78) ∧ w6.heap[w4.heap.size]? = some (.cells #[.int .i64 y1, .int .i64 y2] 78)) := by
    refine ⟨?_, ?_, ?_⟩
    · rw [hb.block _ (by omega)]; exact L5.out.1
    · rw [hb.block _ (by omega)]; exact L5.out.2.1
    · rw [hb.block _ (by omega)]; exact L5.out.2.2
  have o4 := (E.out.mid w6 M6.out).2.2.2.2.2.2
  have o5 := (E.out.mid w6 M6.out).1
  have k1 : w6.cell? ⟨w1.heap.size, 1, none⟩ = some (.int .i64 (jx : Int)) := cell_of_heap L6.out.1 rfl
  have k0 : w6.cell? ⟨w1.heap.size, 0, none⟩ = some (.int .i64 2) := cell_of_heap L6.out.1 rfl
  clear hb lv0 lv1 ly0 ly1 M5 L5
  have c72 : ((cx : Int) == 7) = false := by simpa using c7
  have M : Hid (MidP w6) := M6.out
  have L : Hid _ := L6.out
  clear M6 L6
  have lv0 : w6.cell? ⟨w1.heap.size, 0, none⟩ = some (.int .i64 2) := cell_of_heap L.out.1 rfl
  have lv1 : w6.cell? ⟨w1.heap.size, 1, none⟩ = some (.int .i64 (jx : Int)) := cell_of_heap L.out.1 rfl
  have lu1 : w6.cell? ⟨w2.heap.size, 1, none⟩ = some (.int .i64 i) := cell_of_heap L.out.2.1 rfl
  have ly0 : w6.cell? ⟨w4.heap.size, 0, none⟩ = some (.int .i64 y1) := cell_of_heap L.out.2.2 rfl
  have ly1 : w6.cell? ⟨w4.heap.size, 1, none⟩ = some (.int .i64 y2) := cell_of_heap L.out.2.2 rfl
  obtain ⟨n0, n1, n2, n3, n4, n5, n6⟩ := E.out.mid w6 M.out
  have TP : Hid (TailP ((w6.setCell ⟨fg, k * 2, none⟩ (.int .i64 2)).setCell ⟨fg, k * 2 + 1, none⟩ (.int .i64 (jx : Int)))) := E.out.store w6 M.out
  go_wp2_with fail
  go_region
  obtain ⟨w8, hw8⟩ : ∃ w8, w8 = ((w6.setCell ⟨fg, k * 2, none⟩ (.int .i64 2)).setCell ⟨fg, k * 2 + 1, none⟩ (.int .i64 (jx : Int))).drew := ⟨_, rfl⟩
  rw [← hw8]
  have T8 : Hid (TailP w8) := by rw [hw8]; exact E.out.tailB _ _ TP.out ⟨rfl, rfl, rfl, Nat.le_refl _, fun _ _ => rfl⟩
  have h8 : w8.heap[w4.heap.size]? = some (.cells #[.int .i64 y1, .int .i64 y2] 78) := by
    rw [hw8]
    show ((w6.setCell ⟨fg, k * 2, none⟩ (.int .i64 2)).setCell ⟨fg, k * 2 + 1, none⟩ (.int .i64 (jx : Int))).heap[w4.heap.size]? = _
    rw [hso (by omega), hso (by omega)]; exact L.out.2.2
  have z0 : w8.cell? ⟨w4.heap.size, 0, none⟩ = some (.int .i64 y1) := cell_of_heap h8 rfl
  have z1 : w8.cell? ⟨w4.heap.size, 1, none⟩ = some (.int .i64 y2) := cell_of_heap h8 rfl
  obtain ⟨c5, cst⟩ := E.out.tail w8 T8.out
  have ST : Hid (∀ j : Nat, j ≤ N → w8.cell? ⟨g, j * 4 + 2, none⟩ = some (.bool (ys j))) := cst
  clear lv0 lv1 lu1 ly0 ly1 n0 n1 n2 n3 n4 n5 n6 TP hw8 h8 M L cst
  go_wp2_with fail
  go_quiet (fail)
  go_wp2
  go_ret
  exact ⟨rfl, E.out.done _ (E.out.tailB _ _ T8.out ⟨rfl, rfl, rfl, Nat.le_refl _, fun _ _ => rfl⟩) (fun q => yk q.2.1) fun j h2 _ _ _ => yk h2⟩

set_option maxHeartbeats 1600000 in
theorem stored_cr (h N g capB fg fl fc i k len cap : Nat) (ao : Option Addr) (jx : Nat) (hjx : jx ≤ N) (jy : Nat) (hjy : jy ≤ N) (q1 over : Int) (cx ex : Nat) (ys : Nat → Bool) (cy : Int → Nat) (c7 : ¬ (cx : Int) = 7) (hne : ¬ (jy : Int) = (jx : Int)) (w : World) (Mid1 MidP TailP Done : World → Prop) (E : Hid (StoreEnv h N g capB fg fl fc i k 2 (jx : Int) 2 (jy : Int) q1 over cx ex ys cy w Mid1 MidP TailP Done))
    (cS : w.cell? ⟨h, 7, none⟩ = some (.slice ao len cap)) (hc : ¬ (len : Int) < 2) (hl : len ≤ 16) (hN : N ≤ 99) (hi : i ≤ N) (hk : k < fl) (hfl : fl ≤ 4) (hh : h < w.heap.size) (hg : g < w.heap.size) (hfg : fg < w.heap.size) (hgf : ¬ g = fg) :
    Calls Tryz.prog 53 #[.pointer (some ⟨h, 0, none⟩), .int .i64 k] w fun e w' => e = .returned (.int .i64 0) ∧ Done w' := by
  have hiI : (i : Int) < (N : Int) + 1 := by omega
  have hkI : (k : Int) < fl := by omega
  have hk0 : ¬ (k : Int) < 0 := by omega
  have hkd : decide ((k : Int) < 0) = false := by simp
  go_enter Tryz.func53, Tryz.ntmps53
  go_wp2_with fail
  refine Calls.mono E.out.d0 ?_
  rintro e w1 ⟨rfl, hb⟩
  have B : Hid (Below w.heap.size w w1) := hb
  clear hb
  go_wp2_with fail
  refine Calls.mono (E.out.d1 _ (B.out.alloc B.out.size _)) ?_
  rintro e w2 ⟨rfl, hb⟩
  have B2 : Hid (Below w.heap.size w w2 ∧ w1.heap.size + 1 ≤ w2.heap.size ∧ w2.heap[w1.heap.size]? = some (.cells #[.int .i64 2, .int .i64 (jx : Int)] 78)) := ⟨(B.out.alloc B.out.size _).trans (hb.mono (by simp; have := B.out.size; omega)), by have := hb.size; simpa using this, boxed' hb⟩
  clear hb
  go_wp2_with fail
  refine Calls.mono (E.out.obj _) ?_
  rintro e w3 ⟨rfl, hb⟩
  have B3 : Hid (Below w.heap.size w w3 ∧ w2.heap.size + 1 ≤ w3.heap.size ∧ w3.heap[w2.heap.size]? = some (.cells #[.int .i64 q1, .int .i64 i] 78) ∧ w3.heap[w1.heap.size]? = some (.cells #[.int .i64 2, .int .i64 (jx : Int)] 78)) :=
    ⟨(B2.out.1.alloc B2.out.1.size _).trans (hb.mono (by simp; have := B2.out.1.size; omega)), by have := hb.size; simpa using this, boxed' hb, by
      have h1 := B2.out.2.1
      rw [hb.block _ (by simp; omega), hao (by omega)]; exact B2.out.2.2⟩
  have l1 : w3.cell? ⟨w2.heap.size, 1, none⟩ = some (.int .i64 i) := cell_of_heap B3.out.2.2.1 rfl
  obtain ⟨d0, d1⟩ := E.out.old w3 B3.out.1
  clear hb
  go_wp2_with fail
  go_quiet (fail)
  go_wp2_with fail
  refine Calls.mono (E.out.pop _ (below_drewN B3.out.1 _)) ?_
  rintro e w4 ⟨rfl, hm, hsz, hloc⟩
  have a0 := hloc w1.heap.size _ B.out.size B3.out.2.2.2
  have b0 := hloc w2.heap.size _ B2.out.1.size B3.out.2.2.1
  have hsz' : w3.heap.size ≤ w4.heap.size := hsz
  have LOC : Hid (w4.heap[w1.heap.size]? = some (.cells #[.int .i64 2, .int .i64 (jx : Int)] 78) ∧ w4.heap[w2.heap.size]? = some (.cells #[.int .i64 q1, .int .i64 i] 78)) := ⟨a0, b0⟩
  have v0 : w4.cell? ⟨w1.heap.size, 0, none⟩ = some (.int .i64 2) := cell_of_heap a0 rfl
  have v1 : w4.cell? ⟨w1.heap.size, 1, none⟩ = some (.int .i64 (jx : Int)) := cell_of_heap a0 rfl
  have u1 : w4.cell? ⟨w2.heap.size, 1, none⟩ = some (.int .i64 i) := cell_of_heap b0 rfl
  have s1 := B.out.size
  have s2 := B2.out.2.1
  have s3 := B3.out.2.1
  have M4 : Hid (Mid1 w4) := hm
  obtain ⟨m0, m1, m2, m3, m4, m5, m6⟩ := E.out.midA w4 hm
  have al : ∀ (ob : Obj) (b o : Nat), b < w4.heap.size → (w4.alloc ob).cell? ⟨b, o, none⟩ = w4.cell? ⟨b, o, none⟩ := fun ob b o hlt => World.cell?_of_block (hao hlt)
  have t0 : ∀ ob, (w4.alloc ob).cell? ⟨h, 5, none⟩ = w4.cell? ⟨h, 5, none⟩ := fun ob => al ob h 5 (by omega)
  have t1 : ∀ ob, (w4.alloc ob).cell? ⟨g, i * 4 + 1, none⟩ = w4.cell? ⟨g, i * 4 + 1, none⟩ := fun ob => al ob g _ (by omega)
  have t2 : ∀ ob, (w4.alloc ob).cell? ⟨fg, k * 2, none⟩ = w4.cell? ⟨fg, k * 2, none⟩ := fun ob => al ob fg _ (by omega)
  have t3 : ∀ ob, (w4.alloc ob).cell? ⟨fg, k * 2 + 1, none⟩ = w4.cell? ⟨fg, k * 2 + 1, none⟩ := fun ob => al ob fg _ (by omega)
  have t4 : ∀ ob, (w4.alloc ob).cell? ⟨w2.heap.size, 1, none⟩ = w4.cell? ⟨w2.heap.size, 1, none⟩ := fun ob => al ob w2.heap.size _ (by omega)
  clear hm hsz hloc a0 b0 d0 d1 l1 B B2 B3 al
  go_wp2_with fail
  go_region
  obtain ⟨w5, hw5⟩ : ∃ w5, w5 = (w4.alloc (.cells #[.int .i64 2, .int .i64 (jy : Int)] 78)).drew := ⟨_, rfl⟩
  rw [← hw5]
  have M5 : Hid (Mid1 w5) := by rw [hw5]; exact E.out.mid1B _ _ M4.out ((Below.refl _ _).alloc (Nat.le_refl _) _).drew
  have L5 : Hid (w5.heap[w1.heap.size]? = some (.cells #[.int .i64 2, .int .i64 (jx : Int)] 78) ∧ w5.heap[w2.heap.size]? = some (.cells #[.int .i64 q1, .int .i64 i] 78) ∧ w5.heap[w4.heap.size]? = some (.cells #[.int .i64 2, .int .i64 (jy : Int)] 78)) := by
    rw [hw5]
    refine ⟨?_, ?_, heap_alloc_new w4 _⟩
    · show (w4.alloc _).heap[w1.heap.size]? = _
      rw [hao (by omega)]; exact LOC.out.1
    · show (w4.alloc _).heap[w2.heap.size]? = _
      rw [hao (by omega)]; exact LOC.out.2
  have s5 : w5.heap.size = w4.heap.size + 1 := by rw [hw5]; simp
  clear hw5 t0 t1 t2 t3 t4 m0 m1 m2 m3 m4 m5 m6 v0 v1 u1 LOC M4
  have lv0 : w5.cell? ⟨w1.heap.size, 0, none⟩ = some (.int .i64 2) := cell_of_heap L5.out.1 rfl
  have lv1 : w5.cell? ⟨w1.heap.size, 1, none⟩ = some (.int .i64 (jx : Int)) := cell_of_heap L5.out.1 rfl
  have ly0 : w5.cell? ⟨w4.heap.size, 0, none⟩ = some (.int .i64 2) := cell_of_heap L5.out.2.2 rfl
  have ly1 : w5.cell? ⟨w4.heap.size, 1, none⟩ = some (.int .i64 (jy : Int)) := cell_of_heap L5.out.2.2 rfl
  have hxI : (jx : Int) < (N : Int) + 1 := by omega
  have hne2 : ((jy : Int) == (jx : Int)) = false := by simpa using hne
  go_wp2_with fail
  refine Calls.mono (E.out.count _ M5.out) ?_
  rintro e wc ⟨rfl, hwc⟩
  subst hwc
  go_wp2_with fail
  refine Calls.mono (E.out.extras _ M5.out) ?_
  rintro e w6 ⟨rfl, hb⟩
  have M6 : Hid (MidP w6) := E.out.mid1 _ (E.out.mid1B _ _ M5.out hb) (fun q => c7 q.2.1)
  have s6 : w4.heap.size + 1 ≤ w6.heap.size := by have := hb.size; omega
  have L6 : Hid (w6.heap[w1.heap.size]? = some (.cells #[.int .i64 2, .int .i64 (jx : Int)] 78) ∧ w6.heap[w2.heap.size]? = some (.cells #[.int .i64 q1, .int .i64 i] 78) ∧ w6.heap[w4.heap.size]? = some (.cells #[.int .i64 2, .int .i64 (jy : Int)] 78)) := by
    refine ⟨?_, ?_, ?_⟩
    · rw [hb.block _ (by omega)]; exact L5.out.1
    · rw [hb.block _ (by omega)]; exact L5.out.2.1
    · rw [hb.block _ (by omega)]; exact L5.out.2.2
  have o4 := (E.out.mid w6 M6.out).2.2.2.2.2.2
  have o5 := (E.out.mid w6 M6.out).1
  have k1 : w6.cell? ⟨w1.heap.size, 1, none⟩ = some (.int .i64 (jx : Int)) := cell_of_heap L6.out.1 rfl
  have k0 : w6.cell? ⟨w1.heap.size, 0, none⟩ = some (.int .i64 2) := cell_of_heap L6.out.1 rfl
  clear hb lv0 lv1 ly0 ly1 M5 L5
  have c72 : ((cx : Int) == 7) = false := by simpa using c7
  have M : Hid (MidP w6) := M6.out
  have L : Hid _ := L6.out
  clear M6 L6
  have lv0 : w6.cell? ⟨w1.heap.size, 0, none⟩ = some (.int .i64 2) := cell_of_heap L.out.1 rfl
  have lv1 : w6.cell? ⟨w1.heap.size, 1, none⟩ = some (.int .i64 (jx : Int)) := cell_of_heap L.out.1 rfl
  have lu1 : w6.cell? ⟨w2.heap.size, 1, none⟩ = some (.int .i64 i) := cell_of_heap L.out.2.1 rfl
  have ly0 : w6.cell? ⟨w4.heap.size, 0, none⟩ = some (.int .i64 2) := cell_of_heap L.out.2.2 rfl
  have ly1 : w6.cell? ⟨w4.heap.size, 1, none⟩ = some (.int .i64 (jy : Int)) := cell_of_heap L.out.2.2 rfl
  obtain ⟨n0, n1, n2, n3, n4, n5, n6⟩ := E.out.mid w6 M.out
  have TP : Hid (TailP ((w6.setCell ⟨fg, k * 2, none⟩ (.int .i64 2)).setCell ⟨fg, k * 2 + 1, none⟩ (.int .i64 (jx : Int)))) := E.out.store w6 M.out
  go_wp2_with fail
  go_region
  obtain ⟨w8, hw8⟩ : ∃ w8, w8 = ((w6.setCell ⟨fg, k * 2, none⟩ (.int .i64 2)).setCell ⟨fg, k * 2 + 1, none⟩ (.int .i64 (jx : Int))).drew := ⟨_, rfl⟩
  rw [← hw8]
  have T8 : Hid (TailP w8) := by rw [hw8]; exact E.out.tailB _ _ TP.out ⟨rfl, rfl, rfl, Nat.le_refl _, fun _ _ => rfl⟩
  have h8 : w8.heap[w4.heap.size]? = some (.cells #[.int .i64 2, .int .i64 (jy : Int)] 78) := by
    rw [hw8]
    show ((w6.setCell ⟨fg, k * 2, none⟩ (.int .i64 2)).setCell ⟨fg, k * 2 + 1, none⟩ (.int .i64 (jx : Int))).heap[w4.heap.size]? = _
    rw [hso (by omega), hso (by omega)]; exact L.out.2.2
  have z0 : w8.cell? ⟨w4.heap.size, 0, none⟩ = some (.int .i64 2) := cell_of_heap h8 rfl
  have z1 : w8.cell? ⟨w4.heap.size, 1, none⟩ = some (.int .i64 (jy : Int)) := cell_of_heap h8 rfl
  obtain ⟨c5, cst⟩ := E.out.tail w8 T8.out
  have ST : Hid (∀ j : Nat, j ≤ N → w8.cell? ⟨g, j * 4 + 2, none⟩ = some (.bool (ys j))) := cst
  clear lv0 lv1 lu1 ly0 ly1 n0 n1 n2 n3 n4 n5 n6 TP hw8 h8 M L cst
  have hu := ST.out jy hjy
  obtain ⟨u, hys⟩ : ∃ u, ys jy = u := ⟨_, rfl⟩
  rw [hys] at hu
  have HY : Hid (ys jy = u) := hys
  clear hys ST
  have hjI : (jy : Int) < (N : Int) + 1 := by omega
  cases u with
  | true =>
    go_wp2_with fail
    go_quiet (fail)
    go_wp2
    go_ret
    exact ⟨rfl, E.out.done _ (E.out.tailB _ _ T8.out ⟨rfl, rfl, rfl, Nat.le_refl _, fun _ _ => rfl⟩) (fun q => hne q.2.2) fun j _ hj hf _ => by
      have : j = jy := by omega
      rw [this, HY.out] at hf; cases hf⟩
  | false =>
    go_wp2_with fail
    go_quiet (fail)
    have T9 : Hid (TailP (w8.drewN nq)) := E.out.tailB _ _ T8.out ⟨rfl, rfl, rfl, Nat.le_refl _, fun _ _ => rfl⟩
    go_wp2_with fail
    have hcnt := E.out.tcount _ (jy : Int) T9.out
    obtain ⟨c, hcy⟩ : ∃ c, cy (jy : Int) = c := ⟨_, rfl⟩
    rw [hcy] at hcnt
    have HC : Hid (cy (jy : Int) = c) := hcy
    clear hcy
    refine Calls.mono hcnt ?_
    rintro e w9 ⟨rfl, hw9⟩
    have T10 : Hid (TailP w9) := by rw [hw9]; exact T9.out
    have z2 : w9.cell? ⟨w4.heap.size, 1, none⟩ = some (.int .i64 jy) := by rw [hw9]; exact z1
    clear hw9 hcnt T9
    by_cases c0 : c = 0
    · subst c0
      go_wp2_with fail
      refine Calls.mono (E.out.enter _ jy T10.out (fun q => hne q.2.2) rfl rfl HY.out HC.out) ?_
      rintro e w11 ⟨rfl, hd⟩
      have DD : Hid (Done w11) := hd
      clear hd
      go_wp2
      go_ret
      exact ⟨rfl, DD.out⟩
    · have c1 : ((c : Int) == 0) = false := by simp; omega
      have c2 : ¬ (c : Int) = 0 := by omega
      go_wp2
      go_ret
      exact ⟨rfl, E.out.done _ T10.out (fun q => hne q.2.2) fun j _ hj _ h0 => by
        have : j = jy := by omega
        rw [this, HC.out] at h0; omega⟩

end Go.Proofs.YteekoiljkklnmaaGreatDoor

/- OUR OWN. The document's heap: stored, by cases. -/
namespace Go.Proofs.YteekoiljkklnmaaGreatDoor
open Go.RowKit
set_option linter.unusedVariables false
set_option linter.unusedSimpArgs false

set_option maxHeartbeats 1600000 in
theorem stored_on (h N g capB fg fl fc i k len cap : Nat) (ao : Option Addr) (jx : Nat) (hjx : jx ≤ N) (y1 y2 : Int) (yk : ¬ y1 = 2) (q1 over : Int) (cx ex : Nat) (ys : Nat → Bool) (cy : Int → Nat) (c7 : (cx : Int) = 7) (hov : ¬ over ≤ (ex : Int)) (w : World) (Mid1 MidP TailP Done : World → Prop) (E : Hid (StoreEnv h N g capB fg fl fc i k 2 (jx : Int) y1 y2 q1 over cx ex ys cy w Mid1 MidP TailP Done))
    (cS : w.cell? ⟨h, 7, none⟩ = some (.slice ao len cap)) (hc : ¬ (len : Int) < 2) (hl : len ≤ 16) (hN : N ≤ 99) (hi : i ≤ N) (hk : k < fl) (hfl : fl ≤ 4) (hh : h < w.heap.size) (hg : g < w.heap.size) (hfg : fg < w.heap.size) (hgf : ¬ g = fg) :
    Calls Tryz.prog 53 #[.pointer (some ⟨h, 0, none⟩), .int .i64 k] w fun e w' => e = .returned (.int .i64 0) ∧ Done w' := by
  have hiI : (i : Int) < (N : Int) + 1 := by omega
  have hkI : (k : Int) < fl := by omega
  have hk0 : ¬ (k : Int) < 0 := by omega
  have hkd : decide ((k : Int) < 0) = false := by simp
  go_enter Tryz.func53, Tryz.ntmps53
  go_wp2_with fail
  refine Calls.mono E.out.d0 ?_
  rintro e w1 ⟨rfl, hb⟩
  have B : Hid (Below w.heap.size w w1) := hb
  clear hb
  go_wp2_with fail
  refine Calls.mono (E.out.d1 _ (B.out.alloc B.out.size _)) ?_
  rintro e w2 ⟨rfl, hb⟩
  have B2 : Hid (Below w.heap.size w w2 ∧ w1.heap.size + 1 ≤ w2.heap.size ∧ w2.heap[w1.heap.size]? = some (.cells #[.int .i64 2, .int .i64 (jx : Int)] 78)) := ⟨(B.out.alloc B.out.size _).trans (hb.mono (by simp; have := B.out.size; omega)), by have := hb.size; simpa using this, boxed' hb⟩
  clear hb
  go_wp2_with fail
  refine Calls.mono (E.out.obj _) ?_
  rintro e w3 ⟨rfl, hb⟩
  have B3 : Hid (Below w.heap.size w w3 ∧ w2.heap.size + 1 ≤ w3.heap.size ∧ w3.heap[w2.heap.size]? = some (.cells #[.int .i64 q1, .int .i64 i] 78) ∧ w3.heap[w1.heap.size]? = some (.cells #[.int .i64 2, .int .i64 (jx : Int)] 78)) :=
    ⟨(B2.out.1.alloc B2.out.1.size _).trans (hb.mono (by simp; have := B2.out.1.size; omega)), by have := hb.size; simpa using this, boxed' hb, by
      have h1 := B2.out.2.1
      rw [hb.block _ (by simp; omega), hao (by omega)]; exact B2.out.2.2⟩
  have l1 : w3.cell? ⟨w2.heap.size, 1, none⟩ = some (.int .i64 i) := cell_of_heap B3.out.2.2.1 rfl
  obtain ⟨d0, d1⟩ := E.out.old w3 B3.out.1
  clear hb
  go_wp2_with fail
  go_quiet (fail)
  go_wp2_with fail
  refine Calls.mono (E.out.pop _ (below_drewN B3.out.1 _)) ?_
  rintro e w4 ⟨rfl, hm, hsz, hloc⟩
  have a0 := hloc w1.heap.size _ B.out.size B3.out.2.2.2
  have b0 := hloc w2.heap.size _ B2.out.1.size B3.out.2.2.1
  have hsz' : w3.heap.size ≤ w4.heap.size := hsz
  have LOC : Hid (w4.heap[w1.heap.size]? = some (.cells #[.int .i64 2, .int .i64 (jx : Int)] 78) ∧ w4.heap[w2.heap.size]? = some (.cells #[.int .i64 q1, .int .i64 i] 78)) := ⟨a0, b0⟩
  have v0 : w4.cell? ⟨w1.heap.size, 0, none⟩ = some (.int .i64 2) := cell_of_heap a0 rfl
  have v1 : w4.cell? ⟨w1.heap.size, 1, none⟩ = some (.int .i64 (jx : Int)) := cell_of_heap a0 rfl
  have u1 : w4.cell? ⟨w2.heap.size, 1, none⟩ = some (.int .i64 i) := cell_of_heap b0 rfl
  have s1 := B.out.size
  have s2 := B2.out.2.1
  have s3 := B3.out.2.1
  have M4 : Hid (Mid1 w4) := hm
  obtain ⟨m0, m1, m2, m3, m4, m5, m6⟩ := E.out.midA w4 hm
  have al : ∀ (ob : Obj) (b o : Nat), b < w4.heap.size → (w4.alloc ob).cell? ⟨b, o, none⟩ = w4.cell? ⟨b, o, none⟩ := fun ob b o hlt => World.cell?_of_block (hao hlt)
  have t0 : ∀ ob, (w4.alloc ob).cell? ⟨h, 5, none⟩ = w4.cell? ⟨h, 5, none⟩ := fun ob => al ob h 5 (by omega)
  have t1 : ∀ ob, (w4.alloc ob).cell? ⟨g, i * 4 + 1, none⟩ = w4.cell? ⟨g, i * 4 + 1, none⟩ := fun ob => al ob g _ (by omega)
  have t2 : ∀ ob, (w4.alloc ob).cell? ⟨fg, k * 2, none⟩ = w4.cell? ⟨fg, k * 2, none⟩ := fun ob => al ob fg _ (by omega)
  have t3 : ∀ ob, (w4.alloc ob).cell? ⟨fg, k * 2 + 1, none⟩ = w4.cell? ⟨fg, k * 2 + 1, none⟩ := fun ob => al ob fg _ (by omega)
  have t4 : ∀ ob, (w4.alloc ob).cell? ⟨w2.heap.size, 1, none⟩ = w4.cell? ⟨w2.heap.size, 1, none⟩ := fun ob => al ob w2.heap.size _ (by omega)
  clear hm hsz hloc a0 b0 d0 d1 l1 B B2 B3 al
  go_wp2_with fail
  go_region
  obtain ⟨w5, hw5⟩ : ∃ w5, w5 = (w4.alloc (.cells #[.int .i64 y1, .int .i64 y2] 78)).drew := ⟨_, rfl⟩
  rw [← hw5]
  have M5 : Hid (Mid1 w5) := by rw [hw5]; exact E.out.mid1B _ _ M4.out ((Below.refl _ _).alloc (Nat.le_refl _) _).drew
  have L5 : Hid (w5.heap[w1.heap.size]? = some (.cells #[.int .i64 2, .int .i64 (jx : Int)] 78) ∧ w5.heap[w2.heap.size]? = some (.cells #[.int .i64 q1, .int .i64 i] 78) ∧ w5.heap[w4.heap.size]? = some (.cells #[.int .i64 y1, .int .i64 y2] 78)) := by
    rw [hw5]
    refine ⟨?_, ?_, heap_alloc_new w4 _⟩
    · show (w4.alloc _).heap[w1.heap.size]? = _
      rw [hao (by omega)]; exact LOC.out.1
    · show (w4.alloc _).heap[w2.heap.size]? = _
      rw [hao (by omega)]; exact LOC.out.2
  have s5 : w5.heap.size = w4.heap.size + 1 := by rw [hw5]; simp
  clear hw5 t0 t1 t2 t3 t4 m0 m1 m2 m3 m4 m5 m6 v0 v1 u1 LOC M4
  have lv0 : w5.cell? ⟨w1.heap.size, 0, none⟩ = some (.int .i64 2) := cell_of_heap L5.out.1 rfl
  have lv1 : w5.cell? ⟨w1.heap.size, 1, none⟩ = some (.int .i64 (jx : Int)) := cell_of_heap L5.out.1 rfl
  have ly0 : w5.cell? ⟨w4.heap.size, 0, none⟩ = some (.int .i64 y1) := cell_of_heap L5.out.2.2 rfl
  have ly1 : w5.cell? ⟨w4.heap.size, 1, none⟩ = some (.int .i64 y2) := cell_of_heap L5.out.2.2 rfl
  have yk2 : (y1 == 2) = false := by simpa using yk
  have hxI : (jx : Int) < (N : Int) + 1 := by omega
  go_wp2_with fail
  refine Calls.mono (E.out.count _ M5.out) ?_
  rintro e wc ⟨rfl, hwc⟩
  subst hwc
  go_wp2_with fail
  refine Calls.mono (E.out.extras _ M5.out) ?_
  rintro e w6 ⟨rfl, hb⟩
  have M6 : Hid (MidP w6) := E.out.mid1 _ (E.out.mid1B _ _ M5.out hb) (fun q => by have := q.2.2; omega)
  have s6 : w4.heap.size + 1 ≤ w6.heap.size := by have := hb.size; omega
  have L6 : Hid (w6.heap[w1.heap.size]? = some (.cells #[.int .i64 2, .int .i64 (jx : Int)] 78) ∧ w6.heap[w2.heap.size]? = some (.cells #[.int .i64 q1, .int .i64 i] 78) ∧ w6.heap[w4.heap.size]? = some (.cells #[.int .i64 y1, .int .i64 y2] 78)) := by
    refine ⟨?_, ?_, ?_⟩
    · rw [hb.block _ (by omega)]; exact L5.out.1
    · rw [hb.block _ (by omega)]; exact L5.out.2.1
    · rw [hb.block _ (by omega)]; exact L5.out.2.2
  have o4 := (E.out.mid w6 M6.out).2.2.2.2.2.2
  have o5 := (E.out.mid w6 M6.out).1
  have k1 : w6.cell? ⟨w1.heap.size, 1, none⟩ = some (.int .i64 (jx : Int)) := cell_of_heap L6.out.1 rfl
  have k0 : w6.cell? ⟨w1.heap.size, 0, none⟩ = some (.int .i64 2) := cell_of_heap L6.out.1 rfl
  clear hb lv0 lv1 ly0 ly1 M5 L5
  have M : Hid (MidP w6) := M6.out
  have L : Hid _ := L6.out
  clear M6 L6
  have lv0 : w6.cell? ⟨w1.heap.size, 0, none⟩ = some (.int .i64 2) := cell_of_heap L.out.1 rfl
  have lv1 : w6.cell? ⟨w1.heap.size, 1, none⟩ = some (.int .i64 (jx : Int)) := cell_of_heap L.out.1 rfl
  have lu1 : w6.cell? ⟨w2.heap.size, 1, none⟩ = some (.int .i64 i) := cell_of_heap L.out.2.1 rfl
  have ly0 : w6.cell? ⟨w4.heap.size, 0, none⟩ = some (.int .i64 y1) := cell_of_heap L.out.2.2 rfl
  have ly1 : w6.cell? ⟨w4.heap.size, 1, none⟩ = some (.int .i64 y2) := cell_of_heap L.out.2.2 rfl
  obtain ⟨n0, n1, n2, n3, n4, n5, n6⟩ := E.out.mid w6 M.out
  have TP : Hid (TailP ((w6.setCell ⟨fg, k * 2, none⟩ (.int .i64 2)).setCell ⟨fg, k * 2 + 1, none⟩ (.int .i64 (jx : Int)))) := E.out.store w6 M.out
  go_wp2_with fail
  go_region
  obtain ⟨w8, hw8⟩ : ∃ w8, w8 = ((w6.setCell ⟨fg, k * 2, none⟩ (.int .i64 2)).setCell ⟨fg, k * 2 + 1, none⟩ (.int .i64 (jx : Int))).drew := ⟨_, rfl⟩
  rw [← hw8]
  have T8 : Hid (TailP w8) := by rw [hw8]; exact E.out.tailB _ _ TP.out ⟨rfl, rfl, rfl, Nat.le_refl _, fun _ _ => rfl⟩
  have h8 : w8.heap[w4.heap.size]? = some (.cells #[.int .i64 y1, .int .i64 y2] 78) := by
    rw [hw8]
    show ((w6.setCell ⟨fg, k * 2, none⟩ (.int .i64 2)).setCell ⟨fg, k * 2 + 1, none⟩ (.int .i64 (jx : Int))).heap[w4.heap.size]? = _
    rw [hso (by omega), hso (by omega)]; exact L.out.2.2
  have z0 : w8.cell? ⟨w4.heap.size, 0, none⟩ = some (.int .i64 y1) := cell_of_heap h8 rfl
  have z1 : w8.cell? ⟨w4.heap.size, 1, none⟩ = some (.int .i64 y2) := cell_of_heap h8 rfl
  obtain ⟨c5, cst⟩ := E.out.tail w8 T8.out
  have ST : Hid (∀ j : Nat, j ≤ N → w8.cell? ⟨g, j * 4 + 2, none⟩ = some (.bool (ys j))) := cst
  clear lv0 lv1 lu1 ly0 ly1 n0 n1 n2 n3 n4 n5 n6 TP hw8 h8 M L cst
  go_wp2_with fail
  go_quiet (fail)
  go_wp2
  go_ret
  exact ⟨rfl, E.out.done _ (E.out.tailB _ _ T8.out ⟨rfl, rfl, rfl, Nat.le_refl _, fun _ _ => rfl⟩) (fun q => yk q.2.1) fun j h2 _ _ _ => yk h2⟩

set_option maxHeartbeats 1600000 in
theorem stored_or (h N g capB fg fl fc i k len cap : Nat) (ao : Option Addr) (jx : Nat) (hjx : jx ≤ N) (jy : Nat) (hjy : jy ≤ N) (q1 over : Int) (cx ex : Nat) (ys : Nat → Bool) (cy : Int → Nat) (c7 : (cx : Int) = 7) (hov : ¬ over ≤ (ex : Int)) (hne : ¬ (jy : Int) = (jx : Int)) (w : World) (Mid1 MidP TailP Done : World → Prop) (E : Hid (StoreEnv h N g capB fg fl fc i k 2 (jx : Int) 2 (jy : Int) q1 over cx ex ys cy w Mid1 MidP TailP Done))
    (cS : w.cell? ⟨h, 7, none⟩ = some (.slice ao len cap)) (hc : ¬ (len : Int) < 2) (hl : len ≤ 16) (hN : N ≤ 99) (hi : i ≤ N) (hk : k < fl) (hfl : fl ≤ 4) (hh : h < w.heap.size) (hg : g < w.heap.size) (hfg : fg < w.heap.size) (hgf : ¬ g = fg) :
    Calls Tryz.prog 53 #[.pointer (some ⟨h, 0, none⟩), .int .i64 k] w fun e w' => e = .returned (.int .i64 0) ∧ Done w' := by
  have hiI : (i : Int) < (N : Int) + 1 := by omega
  have hkI : (k : Int) < fl := by omega
  have hk0 : ¬ (k : Int) < 0 := by omega
  have hkd : decide ((k : Int) < 0) = false := by simp
  go_enter Tryz.func53, Tryz.ntmps53
  go_wp2_with fail
  refine Calls.mono E.out.d0 ?_
  rintro e w1 ⟨rfl, hb⟩
  have B : Hid (Below w.heap.size w w1) := hb
  clear hb
  go_wp2_with fail
  refine Calls.mono (E.out.d1 _ (B.out.alloc B.out.size _)) ?_
  rintro e w2 ⟨rfl, hb⟩
  have B2 : Hid (Below w.heap.size w w2 ∧ w1.heap.size + 1 ≤ w2.heap.size ∧ w2.heap[w1.heap.size]? = some (.cells #[.int .i64 2, .int .i64 (jx : Int)] 78)) := ⟨(B.out.alloc B.out.size _).trans (hb.mono (by simp; have := B.out.size; omega)), by have := hb.size; simpa using this, boxed' hb⟩
  clear hb
  go_wp2_with fail
  refine Calls.mono (E.out.obj _) ?_
  rintro e w3 ⟨rfl, hb⟩
  have B3 : Hid (Below w.heap.size w w3 ∧ w2.heap.size + 1 ≤ w3.heap.size ∧ w3.heap[w2.heap.size]? = some (.cells #[.int .i64 q1, .int .i64 i] 78) ∧ w3.heap[w1.heap.size]? = some (.cells #[.int .i64 2, .int .i64 (jx : Int)] 78)) :=
    ⟨(B2.out.1.alloc B2.out.1.size _).trans (hb.mono (by simp; have := B2.out.1.size; omega)), by have := hb.size; simpa using this, boxed' hb, by
      have h1 := B2.out.2.1
      rw [hb.block _ (by simp; omega), hao (by omega)]; exact B2.out.2.2⟩
  have l1 : w3.cell? ⟨w2.heap.size, 1, none⟩ = some (.int .i64 i) := cell_of_heap B3.out.2.2.1 rfl
  obtain ⟨d0, d1⟩ := E.out.old w3 B3.out.1
  clear hb
  go_wp2_with fail
  go_quiet (fail)
  go_wp2_with fail
  refine Calls.mono (E.out.pop _ (below_drewN B3.out.1 _)) ?_
  rintro e w4 ⟨rfl, hm, hsz, hloc⟩
  have a0 := hloc w1.heap.size _ B.out.size B3.out.2.2.2
  have b0 := hloc w2.heap.size _ B2.out.1.size B3.out.2.2.1
  have hsz' : w3.heap.size ≤ w4.heap.size := hsz
  have LOC : Hid (w4.heap[w1.heap.size]? = some (.cells #[.int .i64 2, .int .i64 (jx : Int)] 78) ∧ w4.heap[w2.heap.size]? = some (.cells #[.int .i64 q1, .int .i64 i] 78)) := ⟨a0, b0⟩
  have v0 : w4.cell? ⟨w1.heap.size, 0, none⟩ = some (.int .i64 2) := cell_of_heap a0 rfl
  have v1 : w4.cell? ⟨w1.heap.size, 1, none⟩ = some (.int .i64 (jx : Int)) := cell_of_heap a0 rfl
  have u1 : w4.cell? ⟨w2.heap.size, 1, none⟩ = some (.int .i64 i) := cell_of_heap b0 rfl
  have s1 := B.out.size
  have s2 := B2.out.2.1
  have s3 := B3.out.2.1
  have M4 : Hid (Mid1 w4) := hm
  obtain ⟨m0, m1, m2, m3, m4, m5, m6⟩ := E.out.midA w4 hm
  have al : ∀ (ob : Obj) (b o : Nat), b < w4.heap.size → (w4.alloc ob).cell? ⟨b, o, none⟩ = w4.cell? ⟨b, o, none⟩ := fun ob b o hlt => World.cell?_of_block (hao hlt)
  have t0 : ∀ ob, (w4.alloc ob).cell? ⟨h, 5, none⟩ = w4.cell? ⟨h, 5, none⟩ := fun ob => al ob h 5 (by omega)
  have t1 : ∀ ob, (w4.alloc ob).cell? ⟨g, i * 4 + 1, none⟩ = w4.cell? ⟨g, i * 4 + 1, none⟩ := fun ob => al ob g _ (by omega)
  have t2 : ∀ ob, (w4.alloc ob).cell? ⟨fg, k * 2, none⟩ = w4.cell? ⟨fg, k * 2, none⟩ := fun ob => al ob fg _ (by omega)
  have t3 : ∀ ob, (w4.alloc ob).cell? ⟨fg, k * 2 + 1, none⟩ = w4.cell? ⟨fg, k * 2 + 1, none⟩ := fun ob => al ob fg _ (by omega)
  have t4 : ∀ ob, (w4.alloc ob).cell? ⟨w2.heap.size, 1, none⟩ = w4.cell? ⟨w2.heap.size, 1, none⟩ := fun ob => al ob w2.heap.size _ (by omega)
  clear hm hsz hloc a0 b0 d0 d1 l1 B B2 B3 al
  go_wp2_with fail
  go_region
  obtain ⟨w5, hw5⟩ : ∃ w5, w5 = (w4.alloc (.cells #[.int .i64 2, .int .i64 (jy : Int)] 78)).drew := ⟨_, rfl⟩
  rw [← hw5]
  have M5 : Hid (Mid1 w5) := by rw [hw5]; exact E.out.mid1B _ _ M4.out ((Below.refl _ _).alloc (Nat.le_refl _) _).drew
  have L5 : Hid (w5.heap[w1.heap.size]? = some (.cells #[.int .i64 2, .int .i64 (jx : Int)] 78) ∧ w5.heap[w2.heap.size]? = some (.cells #[.int .i64 q1, .int .i64 i] 78) ∧ w5.heap[w4.heap.size]? = some (.cells #[.int .i64 2, .int .i64 (jy : Int)] 78)) := by
    rw [hw5]
    refine ⟨?_, ?_, heap_alloc_new w4 _⟩
    · show (w4.alloc _).heap[w1.heap.size]? = _
      rw [hao (by omega)]; exact LOC.out.1
    · show (w4.alloc _).heap[w2.heap.size]? = _
      rw [hao (by omega)]; exact LOC.out.2
  have s5 : w5.heap.size = w4.heap.size + 1 := by rw [hw5]; simp
  clear hw5 t0 t1 t2 t3 t4 m0 m1 m2 m3 m4 m5 m6 v0 v1 u1 LOC M4
  have lv0 : w5.cell? ⟨w1.heap.size, 0, none⟩ = some (.int .i64 2) := cell_of_heap L5.out.1 rfl
  have lv1 : w5.cell? ⟨w1.heap.size, 1, none⟩ = some (.int .i64 (jx : Int)) := cell_of_heap L5.out.1 rfl
  have ly0 : w5.cell? ⟨w4.heap.size, 0, none⟩ = some (.int .i64 2) := cell_of_heap L5.out.2.2 rfl
  have ly1 : w5.cell? ⟨w4.heap.size, 1, none⟩ = some (.int .i64 (jy : Int)) := cell_of_heap L5.out.2.2 rfl
  have hxI : (jx : Int) < (N : Int) + 1 := by omega
  have hne2 : ((jy : Int) == (jx : Int)) = false := by simpa using hne
  go_wp2_with fail
  refine Calls.mono (E.out.count _ M5.out) ?_
  rintro e wc ⟨rfl, hwc⟩
  subst hwc
  go_wp2_with fail
  refine Calls.mono (E.out.extras _ M5.out) ?_
  rintro e w6 ⟨rfl, hb⟩
  have M6 : Hid (MidP w6) := E.out.mid1 _ (E.out.mid1B _ _ M5.out hb) (fun q => by have := q.2.2; omega)
  have s6 : w4.heap.size + 1 ≤ w6.heap.size := by have := hb.size; omega
  have L6 : Hid (w6.heap[w1.heap.size]? = some (.cells #[.int .i64 2, .int .i64 (jx : Int)] 78) ∧ w6.heap[w2.heap.size]? = some (.cells #[.int .i64 q1, .int .i64 i] 78) ∧ w6.heap[w4.heap.size]? = some (.cells #[.int .i64 2, .int .i64 (jy : Int)] 78)) := by
    refine ⟨?_, ?_, ?_⟩
    · rw [hb.block _ (by omega)]; exact L5.out.1
    · rw [hb.block _ (by omega)]; exact L5.out.2.1
    · rw [hb.block _ (by omega)]; exact L5.out.2.2
  have o4 := (E.out.mid w6 M6.out).2.2.2.2.2.2
  have o5 := (E.out.mid w6 M6.out).1
  have k1 : w6.cell? ⟨w1.heap.size, 1, none⟩ = some (.int .i64 (jx : Int)) := cell_of_heap L6.out.1 rfl
  have k0 : w6.cell? ⟨w1.heap.size, 0, none⟩ = some (.int .i64 2) := cell_of_heap L6.out.1 rfl
  clear hb lv0 lv1 ly0 ly1 M5 L5
  have M : Hid (MidP w6) := M6.out
  have L : Hid _ := L6.out
  clear M6 L6
  have lv0 : w6.cell? ⟨w1.heap.size, 0, none⟩ = some (.int .i64 2) := cell_of_heap L.out.1 rfl
  have lv1 : w6.cell? ⟨w1.heap.size, 1, none⟩ = some (.int .i64 (jx : Int)) := cell_of_heap L.out.1 rfl
  have lu1 : w6.cell? ⟨w2.heap.size, 1, none⟩ = some (.int .i64 i) := cell_of_heap L.out.2.1 rfl
  have ly0 : w6.cell? ⟨w4.heap.size, 0, none⟩ = some (.int .i64 2) := cell_of_heap L.out.2.2 rfl
  have ly1 : w6.cell? ⟨w4.heap.size, 1, none⟩ = some (.int .i64 (jy : Int)) := cell_of_heap L.out.2.2 rfl
  obtain ⟨n0, n1, n2, n3, n4, n5, n6⟩ := E.out.mid w6 M.out
  have TP : Hid (TailP ((w6.setCell ⟨fg, k * 2, none⟩ (.int .i64 2)).setCell ⟨fg, k * 2 + 1, none⟩ (.int .i64 (jx : Int)))) := E.out.store w6 M.out
  go_wp2_with fail
  go_region
  obtain ⟨w8, hw8⟩ : ∃ w8, w8 = ((w6.setCell ⟨fg, k * 2, none⟩ (.int .i64 2)).setCell ⟨fg, k * 2 + 1, none⟩ (.int .i64 (jx : Int))).drew := ⟨_, rfl⟩
  rw [← hw8]
  have T8 : Hid (TailP w8) := by rw [hw8]; exact E.out.tailB _ _ TP.out ⟨rfl, rfl, rfl, Nat.le_refl _, fun _ _ => rfl⟩
  have h8 : w8.heap[w4.heap.size]? = some (.cells #[.int .i64 2, .int .i64 (jy : Int)] 78) := by
    rw [hw8]
    show ((w6.setCell ⟨fg, k * 2, none⟩ (.int .i64 2)).setCell ⟨fg, k * 2 + 1, none⟩ (.int .i64 (jx : Int))).heap[w4.heap.size]? = _
    rw [hso (by omega), hso (by omega)]; exact L.out.2.2
  have z0 : w8.cell? ⟨w4.heap.size, 0, none⟩ = some (.int .i64 2) := cell_of_heap h8 rfl
  have z1 : w8.cell? ⟨w4.heap.size, 1, none⟩ = some (.int .i64 (jy : Int)) := cell_of_heap h8 rfl
  obtain ⟨c5, cst⟩ := E.out.tail w8 T8.out
  have ST : Hid (∀ j : Nat, j ≤ N → w8.cell? ⟨g, j * 4 + 2, none⟩ = some (.bool (ys j))) := cst
  clear lv0 lv1 lu1 ly0 ly1 n0 n1 n2 n3 n4 n5 n6 TP hw8 h8 M L cst
  have hu := ST.out jy hjy
  obtain ⟨u, hys⟩ : ∃ u, ys jy = u := ⟨_, rfl⟩
  rw [hys] at hu
  have HY : Hid (ys jy = u) := hys
  clear hys ST
  have hjI : (jy : Int) < (N : Int) + 1 := by omega
  cases u with
  | true =>
    go_wp2_with fail
    go_quiet (fail)
    go_wp2
    go_ret
    exact ⟨rfl, E.out.done _ (E.out.tailB _ _ T8.out ⟨rfl, rfl, rfl, Nat.le_refl _, fun _ _ => rfl⟩) (fun q => hne q.2.2) fun j _ hj hf _ => by
      have : j = jy := by omega
      rw [this, HY.out] at hf; cases hf⟩
  | false =>
    go_wp2_with fail
    go_quiet (fail)
    have T9 : Hid (TailP (w8.drewN nq)) := E.out.tailB _ _ T8.out ⟨rfl, rfl, rfl, Nat.le_refl _, fun _ _ => rfl⟩
    go_wp2_with fail
    have hcnt := E.out.tcount _ (jy : Int) T9.out
    obtain ⟨c, hcy⟩ : ∃ c, cy (jy : Int) = c := ⟨_, rfl⟩
    rw [hcy] at hcnt
    have HC : Hid (cy (jy : Int) = c) := hcy
    clear hcy
    refine Calls.mono hcnt ?_
    rintro e w9 ⟨rfl, hw9⟩
    have T10 : Hid (TailP w9) := by rw [hw9]; exact T9.out
    have z2 : w9.cell? ⟨w4.heap.size, 1, none⟩ = some (.int .i64 jy) := by rw [hw9]; exact z1
    clear hw9 hcnt T9
    by_cases c0 : c = 0
    · subst c0
      go_wp2_with fail
      refine Calls.mono (E.out.enter _ jy T10.out (fun q => hne q.2.2) rfl rfl HY.out HC.out) ?_
      rintro e w11 ⟨rfl, hd⟩
      have DD : Hid (Done w11) := hd
      clear hd
      go_wp2
      go_ret
      exact ⟨rfl, DD.out⟩
    · have c1 : ((c : Int) == 0) = false := by simp; omega
      have c2 : ¬ (c : Int) = 0 := by omega
      go_wp2
      go_ret
      exact ⟨rfl, E.out.done _ T10.out (fun q => hne q.2.2) fun j _ hj _ h0 => by
        have : j = jy := by omega
        rw [this, HC.out] at h0; omega⟩

end Go.Proofs.YteekoiljkklnmaaGreatDoor

/- OUR OWN. The document's heap: stored, by cases. -/
namespace Go.Proofs.YteekoiljkklnmaaGreatDoor
open Go.RowKit
set_option linter.unusedVariables false
set_option linter.unusedSimpArgs false

set_option maxHeartbeats 1600000 in
theorem stored_sn (h N g capB fg fl fc i k len cap : Nat) (ao : Option Addr) (jx : Nat) (hjx : jx ≤ N) (y1 y2 : Int) (yk : ¬ y1 = 2) (q1 over : Int) (cx ex : Nat) (ys : Nat → Bool) (cy : Int → Nat) (c7 : (cx : Int) = 7) (hov : over ≤ (ex : Int)) (w : World) (Mid1 MidP TailP Done : World → Prop) (E : Hid (StoreEnv h N g capB fg fl fc i k 2 (jx : Int) y1 y2 q1 over cx ex ys cy w Mid1 MidP TailP Done))
    (cS : w.cell? ⟨h, 7, none⟩ = some (.slice ao len cap)) (hc : ¬ (len : Int) < 2) (hl : len ≤ 16) (hN : N ≤ 99) (hi : i ≤ N) (hk : k < fl) (hfl : fl ≤ 4) (hh : h < w.heap.size) (hg : g < w.heap.size) (hfg : fg < w.heap.size) (hgf : ¬ g = fg) :
    Calls Tryz.prog 53 #[.pointer (some ⟨h, 0, none⟩), .int .i64 k] w fun e w' => e = .returned (.int .i64 0) ∧ Done w' := by
  have hiI : (i : Int) < (N : Int) + 1 := by omega
  have hkI : (k : Int) < fl := by omega
  have hk0 : ¬ (k : Int) < 0 := by omega
  have hkd : decide ((k : Int) < 0) = false := by simp
  go_enter Tryz.func53, Tryz.ntmps53
  go_wp2_with fail
  refine Calls.mono E.out.d0 ?_
  rintro e w1 ⟨rfl, hb⟩
  have B : Hid (Below w.heap.size w w1) := hb
  clear hb
  go_wp2_with fail
  refine Calls.mono (E.out.d1 _ (B.out.alloc B.out.size _)) ?_
  rintro e w2 ⟨rfl, hb⟩
  have B2 : Hid (Below w.heap.size w w2 ∧ w1.heap.size + 1 ≤ w2.heap.size ∧ w2.heap[w1.heap.size]? = some (.cells #[.int .i64 2, .int .i64 (jx : Int)] 78)) := ⟨(B.out.alloc B.out.size _).trans (hb.mono (by simp; have := B.out.size; omega)), by have := hb.size; simpa using this, boxed' hb⟩
  clear hb
  go_wp2_with fail
  refine Calls.mono (E.out.obj _) ?_
  rintro e w3 ⟨rfl, hb⟩
  have B3 : Hid (Below w.heap.size w w3 ∧ w2.heap.size + 1 ≤ w3.heap.size ∧ w3.heap[w2.heap.size]? = some (.cells #[.int .i64 q1, .int .i64 i] 78) ∧ w3.heap[w1.heap.size]? = some (.cells #[.int .i64 2, .int .i64 (jx : Int)] 78)) :=
    ⟨(B2.out.1.alloc B2.out.1.size _).trans (hb.mono (by simp; have := B2.out.1.size; omega)), by have := hb.size; simpa using this, boxed' hb, by
      have h1 := B2.out.2.1
      rw [hb.block _ (by simp; omega), hao (by omega)]; exact B2.out.2.2⟩
  have l1 : w3.cell? ⟨w2.heap.size, 1, none⟩ = some (.int .i64 i) := cell_of_heap B3.out.2.2.1 rfl
  obtain ⟨d0, d1⟩ := E.out.old w3 B3.out.1
  clear hb
  go_wp2_with fail
  go_quiet (fail)
  go_wp2_with fail
  refine Calls.mono (E.out.pop _ (below_drewN B3.out.1 _)) ?_
  rintro e w4 ⟨rfl, hm, hsz, hloc⟩
  have a0 := hloc w1.heap.size _ B.out.size B3.out.2.2.2
  have b0 := hloc w2.heap.size _ B2.out.1.size B3.out.2.2.1
  have hsz' : w3.heap.size ≤ w4.heap.size := hsz
  have LOC : Hid (w4.heap[w1.heap.size]? = some (.cells #[.int .i64 2, .int .i64 (jx : Int)] 78) ∧ w4.heap[w2.heap.size]? = some (.cells #[.int .i64 q1, .int .i64 i] 78)) := ⟨a0, b0⟩
  have v0 : w4.cell? ⟨w1.heap.size, 0, none⟩ = some (.int .i64 2) := cell_of_heap a0 rfl
  have v1 : w4.cell? ⟨w1.heap.size, 1, none⟩ = some (.int .i64 (jx : Int)) := cell_of_heap a0 rfl
  have u1 : w4.cell? ⟨w2.heap.size, 1, none⟩ = some (.int .i64 i) := cell_of_heap b0 rfl
  have s1 := B.out.size
  have s2 := B2.out.2.1
  have s3 := B3.out.2.1
  have M4 : Hid (Mid1 w4) := hm
  obtain ⟨m0, m1, m2, m3, m4, m5, m6⟩ := E.out.midA w4 hm
  have al : ∀ (ob : Obj) (b o : Nat), b < w4.heap.size → (w4.alloc ob).cell? ⟨b, o, none⟩ = w4.cell? ⟨b, o, none⟩ := fun ob b o hlt => World.cell?_of_block (hao hlt)
  have t0 : ∀ ob, (w4.alloc ob).cell? ⟨h, 5, none⟩ = w4.cell? ⟨h, 5, none⟩ := fun ob => al ob h 5 (by omega)
  have t1 : ∀ ob, (w4.alloc ob).cell? ⟨g, i * 4 + 1, none⟩ = w4.cell? ⟨g, i * 4 + 1, none⟩ := fun ob => al ob g _ (by omega)
  have t2 : ∀ ob, (w4.alloc ob).cell? ⟨fg, k * 2, none⟩ = w4.cell? ⟨fg, k * 2, none⟩ := fun ob => al ob fg _ (by omega)
  have t3 : ∀ ob, (w4.alloc ob).cell? ⟨fg, k * 2 + 1, none⟩ = w4.cell? ⟨fg, k * 2 + 1, none⟩ := fun ob => al ob fg _ (by omega)
  have t4 : ∀ ob, (w4.alloc ob).cell? ⟨w2.heap.size, 1, none⟩ = w4.cell? ⟨w2.heap.size, 1, none⟩ := fun ob => al ob w2.heap.size _ (by omega)
  clear hm hsz hloc a0 b0 d0 d1 l1 B B2 B3 al
  go_wp2_with fail
  go_region
  obtain ⟨w5, hw5⟩ : ∃ w5, w5 = (w4.alloc (.cells #[.int .i64 y1, .int .i64 y2] 78)).drew := ⟨_, rfl⟩
  rw [← hw5]
  have M5 : Hid (Mid1 w5) := by rw [hw5]; exact E.out.mid1B _ _ M4.out ((Below.refl _ _).alloc (Nat.le_refl _) _).drew
  have L5 : Hid (w5.heap[w1.heap.size]? = some (.cells #[.int .i64 2, .int .i64 (jx : Int)] 78) ∧ w5.heap[w2.heap.size]? = some (.cells #[.int .i64 q1, .int .i64 i] 78) ∧ w5.heap[w4.heap.size]? = some (.cells #[.int .i64 y1, .int .i64 y2] 78)) := by
    rw [hw5]
    refine ⟨?_, ?_, heap_alloc_new w4 _⟩
    · show (w4.alloc _).heap[w1.heap.size]? = _
      rw [hao (by omega)]; exact LOC.out.1
    · show (w4.alloc _).heap[w2.heap.size]? = _
      rw [hao (by omega)]; exact LOC.out.2
  have s5 : w5.heap.size = w4.heap.size + 1 := by rw [hw5]; simp
  clear hw5 t0 t1 t2 t3 t4 m0 m1 m2 m3 m4 m5 m6 v0 v1 u1 LOC M4
  have lv0 : w5.cell? ⟨w1.heap.size, 0, none⟩ = some (.int .i64 2) := cell_of_heap L5.out.1 rfl
  have lv1 : w5.cell? ⟨w1.heap.size, 1, none⟩ = some (.int .i64 (jx : Int)) := cell_of_heap L5.out.1 rfl
  have ly0 : w5.cell? ⟨w4.heap.size, 0, none⟩ = some (.int .i64 y1) := cell_of_heap L5.out.2.2 rfl
  have ly1 : w5.cell? ⟨w4.heap.size, 1, none⟩ = some (.int .i64 y2) := cell_of_heap L5.out.2.2 rfl
  have yk2 : (y1 == 2) = false := by simpa using yk
  have hxI : (jx : Int) < (N : Int) + 1 := by omega
  go_wp2_with fail
  refine Calls.mono (E.out.count _ M5.out) ?_
  rintro e wc ⟨rfl, hwc⟩
  subst hwc
  go_wp2_with fail
  refine Calls.mono (E.out.extras _ M5.out) ?_
  rintro e w6 ⟨rfl, hb⟩
  have M6 : Hid (Mid1 w6) := E.out.mid1B _ _ M5.out hb
  have s6 : w4.heap.size + 1 ≤ w6.heap.size := by have := hb.size; omega
  have L6 : Hid (w6.heap[w1.heap.size]? = some (.cells #[.int .i64 2, .int .i64 (jx : Int)] 78) ∧ w6.heap[w2.heap.size]? = some (.cells #[.int .i64 q1, .int .i64 i] 78) ∧ w6.heap[w4.heap.size]? = some (.cells #[.int .i64 y1, .int .i64 y2] 78)) := by
    refine ⟨?_, ?_, ?_⟩
    · rw [hb.block _ (by omega)]; exact L5.out.1
    · rw [hb.block _ (by omega)]; exact L5.out.2.1
    · rw [hb.block _ (by omega)]; exact L5.out.2.2
  have o4 := (E.out.midA w6 M6.out).2.2.2.2.2.2
  have o5 := (E.out.midA w6 M6.out).1
  have k1 : w6.cell? ⟨w1.heap.size, 1, none⟩ = some (.int .i64 (jx : Int)) := cell_of_heap L6.out.1 rfl
  have k0 : w6.cell? ⟨w1.heap.size, 0, none⟩ = some (.int .i64 2) := cell_of_heap L6.out.1 rfl
  clear hb lv0 lv1 ly0 ly1 M5 L5
  obtain ⟨_, ⟨u, hu⟩, hf, hM⟩ := E.out.stuck w6 jx M6.out rfl rfl c7 hov
  have M7' : Hid (MidP (w6.setCell ⟨g, jx * 4 + 2, none⟩ (.bool true))) := hM
  clear hM
  go_wp2_with fail
  go_region
  obtain ⟨w7, hw7⟩ : ∃ w7, w7 = (w6.setCell ⟨g, jx * 4 + 2, none⟩ (.bool true)).drew := ⟨_, rfl⟩
  rw [← hw7]
  have M : Hid (MidP w7) := by rw [hw7]; exact E.out.midB _ _ M7'.out ⟨rfl, rfl, rfl, Nat.le_refl _, fun _ _ => rfl⟩
  have s7 : w7.heap.size = w6.heap.size := by rw [hw7]; simp [World.setCell]
  have L : Hid (w7.heap[w1.heap.size]? = some (.cells #[.int .i64 2, .int .i64 (jx : Int)] 78) ∧ w7.heap[w2.heap.size]? = some (.cells #[.int .i64 q1, .int .i64 i] 78) ∧ w7.heap[w4.heap.size]? = some (.cells #[.int .i64 y1, .int .i64 y2] 78)) := by
    rw [hw7]
    refine ⟨?_, ?_, ?_⟩
    · show (w6.setCell ⟨g, jx * 4 + 2, none⟩ (.bool true)).heap[w1.heap.size]? = _
      rw [hso (by omega)]; exact L6.out.1
    · show (w6.setCell ⟨g, jx * 4 + 2, none⟩ (.bool true)).heap[w2.heap.size]? = _
      rw [hso (by omega)]; exact L6.out.2.1
    · show (w6.setCell ⟨g, jx * 4 + 2, none⟩ (.bool true)).heap[w4.heap.size]? = _
      rw [hso (by omega)]; exact L6.out.2.2
  clear hw7 M7' hu hf o4 o5 k1 k0 M6 L6
  have lv0 : w7.cell? ⟨w1.heap.size, 0, none⟩ = some (.int .i64 2) := cell_of_heap L.out.1 rfl
  have lv1 : w7.cell? ⟨w1.heap.size, 1, none⟩ = some (.int .i64 (jx : Int)) := cell_of_heap L.out.1 rfl
  have lu1 : w7.cell? ⟨w2.heap.size, 1, none⟩ = some (.int .i64 i) := cell_of_heap L.out.2.1 rfl
  have ly0 : w7.cell? ⟨w4.heap.size, 0, none⟩ = some (.int .i64 y1) := cell_of_heap L.out.2.2 rfl
  have ly1 : w7.cell? ⟨w4.heap.size, 1, none⟩ = some (.int .i64 y2) := cell_of_heap L.out.2.2 rfl
  obtain ⟨n0, n1, n2, n3, n4, n5, n6⟩ := E.out.mid w7 M.out
  have TP : Hid (TailP ((w7.setCell ⟨fg, k * 2, none⟩ (.int .i64 2)).setCell ⟨fg, k * 2 + 1, none⟩ (.int .i64 (jx : Int)))) := E.out.store w7 M.out
  go_wp2_with fail
  go_region
  obtain ⟨w8, hw8⟩ : ∃ w8, w8 = ((w7.setCell ⟨fg, k * 2, none⟩ (.int .i64 2)).setCell ⟨fg, k * 2 + 1, none⟩ (.int .i64 (jx : Int))).drew := ⟨_, rfl⟩
  rw [← hw8]
  have T8 : Hid (TailP w8) := by rw [hw8]; exact E.out.tailB _ _ TP.out ⟨rfl, rfl, rfl, Nat.le_refl _, fun _ _ => rfl⟩
  have h8 : w8.heap[w4.heap.size]? = some (.cells #[.int .i64 y1, .int .i64 y2] 78) := by
    rw [hw8]
    show ((w7.setCell ⟨fg, k * 2, none⟩ (.int .i64 2)).setCell ⟨fg, k * 2 + 1, none⟩ (.int .i64 (jx : Int))).heap[w4.heap.size]? = _
    rw [hso (by omega), hso (by omega)]; exact L.out.2.2
  have z0 : w8.cell? ⟨w4.heap.size, 0, none⟩ = some (.int .i64 y1) := cell_of_heap h8 rfl
  have z1 : w8.cell? ⟨w4.heap.size, 1, none⟩ = some (.int .i64 y2) := cell_of_heap h8 rfl
  obtain ⟨c5, cst⟩ := E.out.tail w8 T8.out
  have ST : Hid (∀ j : Nat, j ≤ N → w8.cell? ⟨g, j * 4 + 2, none⟩ = some (.bool (ys j))) := cst
  clear lv0 lv1 lu1 ly0 ly1 n0 n1 n2 n3 n4 n5 n6 TP hw8 h8 M L cst
  go_wp2_with fail
  go_quiet (fail)
  go_wp2
  go_ret
  exact ⟨rfl, E.out.done _ (E.out.tailB _ _ T8.out ⟨rfl, rfl, rfl, Nat.le_refl _, fun _ _ => rfl⟩) (fun q => yk q.2.1) fun j h2 _ _ _ => yk h2⟩

set_option maxHeartbeats 1600000 in
theorem stored_sr (h N g capB fg fl fc i k len cap : Nat) (ao : Option Addr) (jx : Nat) (hjx : jx ≤ N) (jy : Nat) (hjy : jy ≤ N) (q1 over : Int) (cx ex : Nat) (ys : Nat → Bool) (cy : Int → Nat) (c7 : (cx : Int) = 7) (hov : over ≤ (ex : Int)) (hne : ¬ (jy : Int) = (jx : Int)) (w : World) (Mid1 MidP TailP Done : World → Prop) (E : Hid (StoreEnv h N g capB fg fl fc i k 2 (jx : Int) 2 (jy : Int) q1 over cx ex ys cy w Mid1 MidP TailP Done))
    (cS : w.cell? ⟨h, 7, none⟩ = some (.slice ao len cap)) (hc : ¬ (len : Int) < 2) (hl : len ≤ 16) (hN : N ≤ 99) (hi : i ≤ N) (hk : k < fl) (hfl : fl ≤ 4) (hh : h < w.heap.size) (hg : g < w.heap.size) (hfg : fg < w.heap.size) (hgf : ¬ g = fg) :
    Calls Tryz.prog 53 #[.pointer (some ⟨h, 0, none⟩), .int .i64 k] w fun e w' => e = .returned (.int .i64 0) ∧ Done w' := by
  have hiI : (i : Int) < (N : Int) + 1 := by omega
  have hkI : (k : Int) < fl := by omega
  have hk0 : ¬ (k : Int) < 0 := by omega
  have hkd : decide ((k : Int) < 0) = false := by simp
  go_enter Tryz.func53, Tryz.ntmps53
  go_wp2_with fail
  refine Calls.mono E.out.d0 ?_
  rintro e w1 ⟨rfl, hb⟩
  have B : Hid (Below w.heap.size w w1) := hb
  clear hb
  go_wp2_with fail
  refine Calls.mono (E.out.d1 _ (B.out.alloc B.out.size _)) ?_
  rintro e w2 ⟨rfl, hb⟩
  have B2 : Hid (Below w.heap.size w w2 ∧ w1.heap.size + 1 ≤ w2.heap.size ∧ w2.heap[w1.heap.size]? = some (.cells #[.int .i64 2, .int .i64 (jx : Int)] 78)) := ⟨(B.out.alloc B.out.size _).trans (hb.mono (by simp; have := B.out.size; omega)), by have := hb.size; simpa using this, boxed' hb⟩
  clear hb
  go_wp2_with fail
  refine Calls.mono (E.out.obj _) ?_
  rintro e w3 ⟨rfl, hb⟩
  have B3 : Hid (Below w.heap.size w w3 ∧ w2.heap.size + 1 ≤ w3.heap.size ∧ w3.heap[w2.heap.size]? = some (.cells #[.int .i64 q1, .int .i64 i] 78) ∧ w3.heap[w1.heap.size]? = some (.cells #[.int .i64 2, .int .i64 (jx : Int)] 78)) :=
    ⟨(B2.out.1.alloc B2.out.1.size _).trans (hb.mono (by simp; have := B2.out.1.size; omega)), by have := hb.size; simpa using this, boxed' hb, by
      have h1 := B2.out.2.1
      rw [hb.block _ (by simp; omega), hao (by omega)]; exact B2.out.2.2⟩
  have l1 : w3.cell? ⟨w2.heap.size, 1, none⟩ = some (.int .i64 i) := cell_of_heap B3.out.2.2.1 rfl
  obtain ⟨d0, d1⟩ := E.out.old w3 B3.out.1
  clear hb
  go_wp2_with fail
  go_quiet (fail)
  go_wp2_with fail
  refine Calls.mono (E.out.pop _ (below_drewN B3.out.1 _)) ?_
  rintro e w4 ⟨rfl, hm, hsz, hloc⟩
  have a0 := hloc w1.heap.size _ B.out.size B3.out.2.2.2
  have b0 := hloc w2.heap.size _ B2.out.1.size B3.out.2.2.1
  have hsz' : w3.heap.size ≤ w4.heap.size := hsz
  have LOC : Hid (w4.heap[w1.heap.size]? = some (.cells #[.int .i64 2, .int .i64 (jx : Int)] 78) ∧ w4.heap[w2.heap.size]? = some (.cells #[.int .i64 q1, .int .i64 i] 78)) := ⟨a0, b0⟩
  have v0 : w4.cell? ⟨w1.heap.size, 0, none⟩ = some (.int .i64 2) := cell_of_heap a0 rfl
  have v1 : w4.cell? ⟨w1.heap.size, 1, none⟩ = some (.int .i64 (jx : Int)) := cell_of_heap a0 rfl
  have u1 : w4.cell? ⟨w2.heap.size, 1, none⟩ = some (.int .i64 i) := cell_of_heap b0 rfl
  have s1 := B.out.size
  have s2 := B2.out.2.1
  have s3 := B3.out.2.1
  have M4 : Hid (Mid1 w4) := hm
  obtain ⟨m0, m1, m2, m3, m4, m5, m6⟩ := E.out.midA w4 hm
  have al : ∀ (ob : Obj) (b o : Nat), b < w4.heap.size → (w4.alloc ob).cell? ⟨b, o, none⟩ = w4.cell? ⟨b, o, none⟩ := fun ob b o hlt => World.cell?_of_block (hao hlt)
  have t0 : ∀ ob, (w4.alloc ob).cell? ⟨h, 5, none⟩ = w4.cell? ⟨h, 5, none⟩ := fun ob => al ob h 5 (by omega)
  have t1 : ∀ ob, (w4.alloc ob).cell? ⟨g, i * 4 + 1, none⟩ = w4.cell? ⟨g, i * 4 + 1, none⟩ := fun ob => al ob g _ (by omega)
  have t2 : ∀ ob, (w4.alloc ob).cell? ⟨fg, k * 2, none⟩ = w4.cell? ⟨fg, k * 2, none⟩ := fun ob => al ob fg _ (by omega)
  have t3 : ∀ ob, (w4.alloc ob).cell? ⟨fg, k * 2 + 1, none⟩ = w4.cell? ⟨fg, k * 2 + 1, none⟩ := fun ob => al ob fg _ (by omega)
  have t4 : ∀ ob, (w4.alloc ob).cell? ⟨w2.heap.size, 1, none⟩ = w4.cell? ⟨w2.heap.size, 1, none⟩ := fun ob => al ob w2.heap.size _ (by omega)
  clear hm hsz hloc a0 b0 d0 d1 l1 B B2 B3 al
  go_wp2_with fail
  go_region
  obtain ⟨w5, hw5⟩ : ∃ w5, w5 = (w4.alloc (.cells #[.int .i64 2, .int .i64 (jy : Int)] 78)).drew := ⟨_, rfl⟩
  rw [← hw5]
  have M5 : Hid (Mid1 w5) := by rw [hw5]; exact E.out.mid1B _ _ M4.out ((Below.refl _ _).alloc (Nat.le_refl _) _).drew
  have L5 : Hid (w5.heap[w1.heap.size]? = some (.cells #[.int .i64 2, .int .i64 (jx : Int)] 78) ∧ w5.heap[w2.heap.size]? = some (.cells #[.int .i64 q1, .int .i64 i] 78) ∧ w5.heap[w4.heap.size]? = some (.cells #[.int .i64 2, .int .i64 (jy : Int)] 78)) := by
    rw [hw5]
    refine ⟨?_, ?_, heap_alloc_new w4 _⟩
    · show (w4.alloc _).heap[w1.heap.size]? = _
      rw [hao (by omega)]; exact LOC.out.1
    · show (w4.alloc _).heap[w2.heap.size]? = _
      rw [hao (by omega)]; exact LOC.out.2
  have s5 : w5.heap.size = w4.heap.size + 1 := by rw [hw5]; simp
  clear hw5 t0 t1 t2 t3 t4 m0 m1 m2 m3 m4 m5 m6 v0 v1 u1 LOC M4
  have lv0 : w5.cell? ⟨w1.heap.size, 0, none⟩ = some (.int .i64 2) := cell_of_heap L5.out.1 rfl
  have lv1 : w5.cell? ⟨w1.heap.size, 1, none⟩ = some (.int .i64 (jx : Int)) := cell_of_heap L5.out.1 rfl
  have ly0 : w5.cell? ⟨w4.heap.size, 0, none⟩ = some (.int .i64 2) := cell_of_heap L5.out.2.2 rfl
  have ly1 : w5.cell? ⟨w4.heap.size, 1, none⟩ = some (.int .i64 (jy : Int)) := cell_of_heap L5.out.2.2 rfl
  have hxI : (jx : Int) < (N : Int) + 1 := by omega
  have hne2 : ((jy : Int) == (jx : Int)) = false := by simpa using hne
  go_wp2_with fail
  refine Calls.mono (E.out.count _ M5.out) ?_
  rintro e wc ⟨rfl, hwc⟩
  subst hwc
  go_wp2_with fail
  refine Calls.mono (E.out.extras _ M5.out) ?_
  rintro e w6 ⟨rfl, hb⟩
  have M6 : Hid (Mid1 w6) := E.out.mid1B _ _ M5.out hb
  have s6 : w4.heap.size + 1 ≤ w6.heap.size := by have := hb.size; omega
  have L6 : Hid (w6.heap[w1.heap.size]? = some (.cells #[.int .i64 2, .int .i64 (jx : Int)] 78) ∧ w6.heap[w2.heap.size]? = some (.cells #[.int .i64 q1, .int .i64 i] 78) ∧ w6.heap[w4.heap.size]? = some (.cells #[.int .i64 2, .int .i64 (jy : Int)] 78)) := by
    refine ⟨?_, ?_, ?_⟩
    · rw [hb.block _ (by omega)]; exact L5.out.1
    · rw [hb.block _ (by omega)]; exact L5.out.2.1
    · rw [hb.block _ (by omega)]; exact L5.out.2.2
  have o4 := (E.out.midA w6 M6.out).2.2.2.2.2.2
  have o5 := (E.out.midA w6 M6.out).1
  have k1 : w6.cell? ⟨w1.heap.size, 1, none⟩ = some (.int .i64 (jx : Int)) := cell_of_heap L6.out.1 rfl
  have k0 : w6.cell? ⟨w1.heap.size, 0, none⟩ = some (.int .i64 2) := cell_of_heap L6.out.1 rfl
  clear hb lv0 lv1 ly0 ly1 M5 L5
  obtain ⟨_, ⟨u, hu⟩, hf, hM⟩ := E.out.stuck w6 jx M6.out rfl rfl c7 hov
  have M7' : Hid (MidP (w6.setCell ⟨g, jx * 4 + 2, none⟩ (.bool true))) := hM
  clear hM
  go_wp2_with fail
  go_region
  obtain ⟨w7, hw7⟩ : ∃ w7, w7 = (w6.setCell ⟨g, jx * 4 + 2, none⟩ (.bool true)).drew := ⟨_, rfl⟩
  rw [← hw7]
  have M : Hid (MidP w7) := by rw [hw7]; exact E.out.midB _ _ M7'.out ⟨rfl, rfl, rfl, Nat.le_refl _, fun _ _ => rfl⟩
  have s7 : w7.heap.size = w6.heap.size := by rw [hw7]; simp [World.setCell]
  have L : Hid (w7.heap[w1.heap.size]? = some (.cells #[.int .i64 2, .int .i64 (jx : Int)] 78) ∧ w7.heap[w2.heap.size]? = some (.cells #[.int .i64 q1, .int .i64 i] 78) ∧ w7.heap[w4.heap.size]? = some (.cells #[.int .i64 2, .int .i64 (jy : Int)] 78)) := by
    rw [hw7]
    refine ⟨?_, ?_, ?_⟩
    · show (w6.setCell ⟨g, jx * 4 + 2, none⟩ (.bool true)).heap[w1.heap.size]? = _
      rw [hso (by omega)]; exact L6.out.1
    · show (w6.setCell ⟨g, jx * 4 + 2, none⟩ (.bool true)).heap[w2.heap.size]? = _
      rw [hso (by omega)]; exact L6.out.2.1
    · show (w6.setCell ⟨g, jx * 4 + 2, none⟩ (.bool true)).heap[w4.heap.size]? = _
      rw [hso (by omega)]; exact L6.out.2.2
  clear hw7 M7' hu hf o4 o5 k1 k0 M6 L6
  have lv0 : w7.cell? ⟨w1.heap.size, 0, none⟩ = some (.int .i64 2) := cell_of_heap L.out.1 rfl
  have lv1 : w7.cell? ⟨w1.heap.size, 1, none⟩ = some (.int .i64 (jx : Int)) := cell_of_heap L.out.1 rfl
  have lu1 : w7.cell? ⟨w2.heap.size, 1, none⟩ = some (.int .i64 i) := cell_of_heap L.out.2.1 rfl
  have ly0 : w7.cell? ⟨w4.heap.size, 0, none⟩ = some (.int .i64 2) := cell_of_heap L.out.2.2 rfl
  have ly1 : w7.cell? ⟨w4.heap.size, 1, none⟩ = some (.int .i64 (jy : Int)) := cell_of_heap L.out.2.2 rfl
  obtain ⟨n0, n1, n2, n3, n4, n5, n6⟩ := E.out.mid w7 M.out
  have TP : Hid (TailP ((w7.setCell ⟨fg, k * 2, none⟩ (.int .i64 2)).setCell ⟨fg, k * 2 + 1, none⟩ (.int .i64 (jx : Int)))) := E.out.store w7 M.out
  go_wp2_with fail
  go_region
  obtain ⟨w8, hw8⟩ : ∃ w8, w8 = ((w7.setCell ⟨fg, k * 2, none⟩ (.int .i64 2)).setCell ⟨fg, k * 2 + 1, none⟩ (.int .i64 (jx : Int))).drew := ⟨_, rfl⟩
  rw [← hw8]
  have T8 : Hid (TailP w8) := by rw [hw8]; exact E.out.tailB _ _ TP.out ⟨rfl, rfl, rfl, Nat.le_refl _, fun _ _ => rfl⟩
  have h8 : w8.heap[w4.heap.size]? = some (.cells #[.int .i64 2, .int .i64 (jy : Int)] 78) := by
    rw [hw8]
    show ((w7.setCell ⟨fg, k * 2, none⟩ (.int .i64 2)).setCell ⟨fg, k * 2 + 1, none⟩ (.int .i64 (jx : Int))).heap[w4.heap.size]? = _
    rw [hso (by omega), hso (by omega)]; exact L.out.2.2
  have z0 : w8.cell? ⟨w4.heap.size, 0, none⟩ = some (.int .i64 2) := cell_of_heap h8 rfl
  have z1 : w8.cell? ⟨w4.heap.size, 1, none⟩ = some (.int .i64 (jy : Int)) := cell_of_heap h8 rfl
  obtain ⟨c5, cst⟩ := E.out.tail w8 T8.out
  have ST : Hid (∀ j : Nat, j ≤ N → w8.cell? ⟨g, j * 4 + 2, none⟩ = some (.bool (ys j))) := cst
  clear lv0 lv1 lu1 ly0 ly1 n0 n1 n2 n3 n4 n5 n6 TP hw8 h8 M L cst
  have hu := ST.out jy hjy
  obtain ⟨u, hys⟩ : ∃ u, ys jy = u := ⟨_, rfl⟩
  rw [hys] at hu
  have HY : Hid (ys jy = u) := hys
  clear hys ST
  have hjI : (jy : Int) < (N : Int) + 1 := by omega
  cases u with
  | true =>
    go_wp2_with fail
    go_quiet (fail)
    go_wp2
    go_ret
    exact ⟨rfl, E.out.done _ (E.out.tailB _ _ T8.out ⟨rfl, rfl, rfl, Nat.le_refl _, fun _ _ => rfl⟩) (fun q => hne q.2.2) fun j _ hj hf _ => by
      have : j = jy := by omega
      rw [this, HY.out] at hf; cases hf⟩
  | false =>
    go_wp2_with fail
    go_quiet (fail)
    have T9 : Hid (TailP (w8.drewN nq)) := E.out.tailB _ _ T8.out ⟨rfl, rfl, rfl, Nat.le_refl _, fun _ _ => rfl⟩
    go_wp2_with fail
    have hcnt := E.out.tcount _ (jy : Int) T9.out
    obtain ⟨c, hcy⟩ : ∃ c, cy (jy : Int) = c := ⟨_, rfl⟩
    rw [hcy] at hcnt
    have HC : Hid (cy (jy : Int) = c) := hcy
    clear hcy
    refine Calls.mono hcnt ?_
    rintro e w9 ⟨rfl, hw9⟩
    have T10 : Hid (TailP w9) := by rw [hw9]; exact T9.out
    have z2 : w9.cell? ⟨w4.heap.size, 1, none⟩ = some (.int .i64 jy) := by rw [hw9]; exact z1
    clear hw9 hcnt T9
    by_cases c0 : c = 0
    · subst c0
      go_wp2_with fail
      refine Calls.mono (E.out.enter _ jy T10.out (fun q => hne q.2.2) rfl rfl HY.out HC.out) ?_
      rintro e w11 ⟨rfl, hd⟩
      have DD : Hid (Done w11) := hd
      clear hd
      go_wp2
      go_ret
      exact ⟨rfl, DD.out⟩
    · have c1 : ((c : Int) == 0) = false := by simp; omega
      have c2 : ¬ (c : Int) = 0 := by omega
      go_wp2
      go_ret
      exact ⟨rfl, E.out.done _ T10.out (fun q => hne q.2.2) fun j _ hj _ h0 => by
        have : j = jy := by omega
        rw [this, HC.out] at h0; omega⟩

end Go.Proofs.YteekoiljkklnmaaGreatDoor

/- OUR OWN. The document's heap: stored whole; Do. -/
namespace Go.Proofs.YteekoiljkklnmaaGreatDoor
open Go.RowKit
set_option linter.unusedVariables false
set_option linter.unusedSimpArgs false

/-- the heap as it stands ahead of the store: the stack is cut, object i has its fields where they were -/
structure Mid (h N : Nat) (w : World) (m : RefM) (i : Nat) (o : RObj) (s2 : St) (W : World) (m2 : RefM) : Prop where
  pre : RPre h N W m2
  step : RStep h N w m W m2
  st : m2.st = s2
  vB : m2.vB = m.vB
  obj : ∃ o2, m2.objs[i]? = some o2 ∧ o2.fs = o.fs ∧ o2.here = o.here ∧ o2.vF = o.vF

theorem Mid.below {h N : Nat} {w W W' : World} {m m2 : RefM} {i : Nat} {o : RObj} {s2 : St} (t : Mid h N w m i o s2 W m2) (hb : Below W.heap.size W W') : Mid h N w m i o s2 W' m2 := ⟨t.pre.below hb, t.step.after hb, t.st, t.vB, t.obj⟩

theorem Mid.stuck {h N : Nat} {w W : World} {m m2 : RefM} {i : Nat} {o : RObj} {s2 : St} (t : Mid h N w m i o s2 W m2) {g cap : Nat} (hv : m.vB = .slice (some ⟨g, 0, none⟩) (N + 1) cap) (j : Nat) {oj : RObj} (hj : m2.objs[j]? = some oj) :
    Mid h N w m i o (s2.stick j) (W.setCell ⟨g, j * 4 + 2, none⟩ (.bool true)) (m2.put j { oj with stuck := true }) := by
  obtain ⟨s, hst⟩ := RStep.stuck t.pre (t.vB.trans hv) j hj
  refine ⟨s.pre t.pre (by rw [hst]; exact t.pre.inv.stick j), t.step.trans s, hst.trans (by rw [t.st]), t.vB, ?_⟩
  obtain ⟨o1, h1, h2, h3, h4⟩ := t.obj
  have hl : j < m2.objs.length := (List.getElem?_eq_some_iff.1 hj).1
  by_cases hij : j = i
  · subst hij
    rw [hj] at h1
    cases h1
    exact ⟨{ oj with stuck := true }, by simp [RefM.put, hl], h2, h3, h4⟩
  · exact ⟨o1, by simp only [RefM.put]; rw [List.getElem?_set_ne hij]; exact h1, h2, h3, h4⟩

/-- the field is turned, the old value's object not yet let go -/
structure Tl (h N : Nat) (w : World) (m : RefM) (s' : St) (W : World) (m3 : RefM) : Prop where
  pre : RPre h N W m3
  step : RStep h N w m W m3
  st : m3.st = s'
  vB : m3.vB = m.vB

theorem stored_any : StoreSays := by
  intro h N w m n p
  by_cases hbad : m.stack.length < 2 ∨ objErr (m.st.down 1) ≠ 0 ∨ n < 0 ∨ ((m.st.fields (m.st.down 1).2).length : Int) ≤ n
  · exact stored_not h N w m n p hbad
  simp only [not_or] at hbad
  obtain ⟨hc, he', hn0, hnl⟩ := hbad
  have he : objErr (m.st.down 1) = 0 := by omega
  obtain ⟨k, rfl⟩ : ∃ k : Nat, n = k := ⟨n.toNat, by omega⟩
  have hk : k < (m.st.fields (m.st.down 1).2).length := by omega
  obtain ⟨ao, cap, cS⟩ := p.stackCell
  have hv := p.inv.down 1
  have hvx := p.inv.down 0
  obtain ⟨i, hi, hbi, hiN, hfs⟩ := p.obj _ (ref_of hv he)
  have hio : m.objs[i]? = some m.objs[i] := List.getElem?_eq_getElem hi
  rw [hfs] at hk
  obtain ⟨g, capB, fg, fc, hvB, hvF, hg, hfg, cB, c1, y0, y1, f0, f1⟩ := p.facts i _ hio k hk
  have hyok : okV N ((m.objs[i]).fs[k]) := by
    have := p.inv.ob i
    rw [st_ob hio] at this
    exact this _ (List.getElem_mem hk)
  have hyg : (m.st.fields (m.st.down 1).2).getD k (0, 0) = (m.objs[i]).fs[k] := by
    rw [hfs, List.getD_eq_getElem?_getD, List.getElem?_eq_getElem hk]; rfl
  have e : storeS m.cf m.st k = (putS m.cf (m.st.pop 2) i k (m.st.down 0) ((m.objs[i]).fs[k]), 0, 0) := by
    unfold storeS
    refine (if_neg hc).trans ((if_neg (by omega)).trans ((if_neg (by rw [hfs]; omega)).trans ?_))
    rw [Int.toNat_natCast, hyg, hbi, Int.toNat_natCast]
  rw [e]
  have hgf : ¬ g = fg := fun eq => by
    have hap := (List.nodup_cons.1 p.r.rowsAt.apart).2
    have h1 : m.rows[0]? = some ⟨54, 4, m.vB, m.objs.length, m.objs.flatMap RObj.cells⟩ := rfl
    have h2 : m.rows[4 + i]? = some (m.objs[i]).row := by
      simp only [RefM.rows, show 4 + i = i + 1 + 1 + 1 + 1 by omega, List.getElem?_cons_succ, List.getElem?_map, hio]; rfl
    have := filterMap_idx SRow.ob m.rows hap 0 (4 + i) _ _ g h1 h2 (by show m.vB.ownBlock = _; rw [hvB]; rfl) (by show (m.objs[i]).vF.ownBlock = _; rw [hvF, eq]; rfl)
    omega
  have RANGE : ∀ v : Int × Int, okV N v → v.1 = 2 → ∃ j : Nat, v.2 = j ∧ j ≤ N := fun v hok h2 => by
    rcases hok with h | h | h
    · omega
    · omega
    · exact ⟨v.2.toNat, by omega, by omega⟩
  have COUNTM : ∀ W m2 b, RPre h N W m2 → Calls Tryz.prog 36 #[.pointer (some ⟨h, 0, none⟩), .int .i64 b] W fun e w' => e = .returned (.int .i64 (m2.count b)) ∧ w' = W := fun W m2 b p2 => count_any p2.r p2.ok b
  obtain ⟨x, hx⟩ : ∃ x, m.st.down 0 = x := ⟨_, rfl⟩
  obtain ⟨y, hy⟩ : ∃ y, (m.objs[i]).fs[k] = y := ⟨_, rfl⟩
  obtain ⟨q, hq⟩ : ∃ q, m.st.down 1 = q := ⟨_, rfl⟩
  rw [hx, hy]
  obtain ⟨A, hA⟩ : ∃ A, m.st.pop 2 = A := ⟨_, rfl⟩
  have hAc : ∀ b, A.count b = m.count b := fun b => by rw [← hA]; exact st_count m b
  have hAe : A.extras = m.extrasN N := by rw [← hA]; exact st_extras p.ok
  obtain ⟨B, hB⟩ : ∃ B, stickS m.over A x = B := ⟨_, rfl⟩
  obtain ⟨C, hC⟩ : ∃ C, B.field i k x = C := ⟨_, rfl⟩
  obtain ⟨target, htarget⟩ : ∃ t : St, t = putS m.cf A i k x y := ⟨_, rfl⟩
  rw [hA, ← htarget]
  have tsame : x.1 = 2 → y = x → target = A := fun h1 h2 => by rw [htarget]; unfold putS; exact if_pos ⟨h1, h2⟩
  have tput : ¬ (x.1 = 2 ∧ y.1 = x.1 ∧ y.2 = x.2) → target = dropS' m.zero C y := fun h1 => by
    rw [htarget]; unfold putS
    refine (if_neg fun h2 => h1 ⟨h2.1, by rw [h2.2], by rw [h2.2]⟩).trans ?_
    show dropS' m.zero ((stickS m.over A x).field i k x) y = _
    rw [hB, hC]
  have ENV : StoreEnv h N g capB fg (m.objs[i]).fs.length fc i k x.1 x.2 y.1 y.2 q.1 m.over (m.count x.2) (m.extrasN N) (fun j => (C.ob j).stuck) (fun b => C.count b) w
      (fun W => ∃ v', Mid h N w m i m.objs[i] A W { m with vS := v', stack := m.stack.take (m.stack.length - 2) }) (fun W => ∃ m2, Mid h N w m i m.objs[i] B W m2) (fun W => ∃ m3, Tl h N w m C W m3) (fun W => ∃ m', RStep h N w m W m' ∧ m'.st = target) := by
    have MID : ∀ (s2 : St) W m2, Mid h N w m i m.objs[i] s2 W m2 → W.cell? ⟨h, 5, none⟩ = some (.slice (some ⟨g, 0, none⟩) (N + 1) capB) ∧ W.cell? ⟨g, i * 4 + 1, none⟩ = some (.slice (some ⟨fg, 0, none⟩) (m.objs[i]).fs.length fc) ∧ W.cell? ⟨fg, k * 2, none⟩ = some (.int .i64 y.1) ∧ W.cell? ⟨fg, k * 2 + 1, none⟩ = some (.int .i64 y.2) ∧
        W.frozen? ⟨fg, k * 2, none⟩ = false ∧ W.frozen? ⟨fg, k * 2 + 1, none⟩ = false ∧ W.cell? ⟨h, 4, none⟩ = some (.int .i64 m.over) := by
      intro s2 W m2 t
      obtain ⟨o2, ho2, h1, h2, h3⟩ := t.obj
      obtain ⟨g', capB', fg', fc', hvB', hvF', _, _, a1, a2, a3, a4, a5, a6⟩ := t.pre.facts i o2 ho2 k (by rw [h1]; exact hk)
      have e1 : (Value.slice (some ⟨g', 0, none⟩) (N + 1) capB') = .slice (some ⟨g, 0, none⟩) (N + 1) capB := hvB'.symm.trans (t.vB.trans hvB)
      simp at e1
      obtain ⟨rfl, rfl⟩ := e1
      have e2 : (Value.slice (some ⟨fg', 0, none⟩) o2.fs.length fc') = .slice (some ⟨fg, 0, none⟩) (m.objs[i]).fs.length fc := hvF'.symm.trans (h3.trans hvF)
      simp at e2
      obtain ⟨rfl, _, rfl⟩ := e2
      have h4 : o2.fs[k]'(by rw [h1]; exact hk) = y := by rw [← hy]; simp only [h1]
      rw [h4] at a3 a4
      rw [h1] at a2
      have ho : m2.over = m.over := congrArg Cf.over t.step.cf
      exact ⟨a1, a2, a3, a4, a5, a6, by rw [t.pre.r.cell.2.2.2.2.1, ho]⟩
    refine ⟨?_, ?_, ?_, ?_, ?_, ?_, ?_, ?_, ?_, ?_, ?_, ?_, ?_, ?_, ?_, ?_, ?_, ?_, ?_, ?_, ?_, ?_⟩
    · rw [← hx]; exact down_do p 0 (by omega)
    · intro W hb
      have := down_do (p.below hb) 1 (by show 1 < m.stack.length; omega)
      rw [hbi, hq] at this
      exact this
    · intro W
      refine (object_any (q.1, (i : Int)) W).mono fun e w' ⟨h1, h2⟩ => ⟨h1.trans (ret_int ?_), h2⟩
      have : objErr q = 0 := by rw [← hq]; exact he
      exact this
    · intro W hb
      exact ⟨(hb.cell (p := ⟨h, 5, none⟩) (lt_of_heap p.r.head)).trans cB, (hb.cell (p := ⟨g, i * 4 + 1, none⟩) hg).trans c1⟩
    · intro W hb
      refine (pop_do (p.below hb) 2 (by omega) (by omega)).mono ?_
      rintro e w' ⟨he, v', hs⟩
      have s1 : RStep h N w m w' _ := (RStep.of_below p hb).trans hs
      have p1 : RPre h N w' _ := s1.pre p (by exact (p.inv.pop 2))
      exact ⟨he, ⟨v', p1, s1, hA, rfl, ⟨_, hio, rfl, rfl, rfl⟩⟩, hs.turn.off.size, fun L ob hL hW => turn_local p hb hW hL hs.turn⟩
    · rintro W ⟨m2, t⟩; exact MID _ W m2 t
    · rintro W ⟨v', t⟩; exact MID _ W _ t
    · rintro W ⟨v', t⟩ hn
      have hBA : B = A := by
        rw [← hB]; unfold stickS
        exact if_neg fun h1 => hn ⟨h1.1, by have := h1.2.1; rw [hAc] at this; omega, by have := h1.2.2; rw [hAe] at this; exact this⟩
      exact ⟨_, by rw [hBA]; exact t⟩
    · rintro W W' ⟨v', t⟩ hb; exact ⟨v', t.below hb⟩
    · rintro W W' ⟨m2, t⟩ hb; exact ⟨m2, t.below hb⟩
    · rintro W ⟨v', t⟩ h0 h1 h2
      exact ⟨_, t.step, t.st.trans (tsame h0 (Prod.ext h1 h2)).symm⟩
    · rintro W ⟨v', t⟩
      have h1 := COUNTM W _ x.2 t.pre
      exact h1
    · rintro W ⟨v', t⟩
      have h1 := extras_any t.pre.r t.pre.ok
      exact h1
    · rintro W j ⟨v', t⟩ h1 h2 h7 hov
      obtain ⟨j', hj', hjN⟩ := RANGE x (by rw [← hx]; exact hvx) h2
      have hjj : j' = j := by omega
      subst hjj
      obtain ⟨oj, hoj, a1, a2⟩ := t.pre.stuckCell (t.vB.trans hvB) j' hjN
      have hBA : B = A.stick j' := by
        rw [← hB]; unfold stickS
        rw [if_pos ⟨h2, by rw [hAc]; omega, by rw [hAe]; exact hov⟩, hj', Int.toNat_natCast]
      have t2 := t.stuck hvB j' hoj
      rw [← hBA] at t2
      exact ⟨hjN, ⟨_, a1⟩, a2, _, t2⟩
    · rintro W ⟨m2, t⟩
      obtain ⟨o2, ho2, h1, h2, h3⟩ := t.obj
      obtain ⟨s, pp, hst⟩ := RStep.field t.pre i ho2 (by rw [h3, h1]; exact hvF) k (by rw [h1]; exact hk) x (by rw [← hx]; exact hvx)
      exact ⟨_, pp, t.step.trans s, by rw [hst, t.st, hC], t.vB⟩
    · rintro W W' ⟨m3, t⟩ hb; exact ⟨m3, t.pre.below hb, t.step.after hb, t.st, t.vB⟩
    · rintro W ⟨m3, t⟩
      refine ⟨by rw [t.pre.r.cell.2.2.2.2.2.1, t.vB, hvB], fun j hj => ?_⟩
      obtain ⟨oj, hoj, a1, _⟩ := t.pre.stuckCell (t.vB.trans hvB) j hj
      rw [a1, ← t.st, st_ob hoj]; rfl
    · rintro W ⟨m3, t⟩ hns hno
      refine ⟨m3, t.step, t.st.trans ?_⟩
      rw [tput hns]
      unfold dropS'
      refine (if_neg fun h1 => ?_).symm
      obtain ⟨j, hj, _⟩ := RANGE y (by rw [← hy]; exact hyok) h1.1
      rw [hj, Int.toNat_natCast] at h1
      exact hno j h1.1 hj h1.2.1 h1.2.2
    · rintro W b ⟨m3, t⟩
      have := COUNTM W m3 b t.pre
      rw [← st_count, t.st] at this
      exact this
    · rintro W j ⟨m3, t⟩ hns h2 hj hs hz
      refine (enter_any t.pre.r t.pre.ok (j : Int)).mono ?_
      rintro e w' ⟨he, m', hE, hT, hok⟩
      obtain ⟨s, hst⟩ := RStep.enter t.pre hE hT hok
      refine ⟨he, m', t.step.trans s, hst.trans ?_⟩
      have hz' : m3.zero = m.zero := congrArg Cf.zero t.step.cf
      rw [tput hns, t.st, hz']
      unfold dropS'
      rw [if_pos ⟨h2, by rw [hj, Int.toNat_natCast]; exact hs, by rw [hj]; exact hz⟩, hj]
    · intro h2; exact RANGE x (by rw [← hx]; exact hvx) h2
    · intro h2; exact RANGE y (by rw [← hy]; exact hyok) h2
  have hN := p.ok.small
  have hl := p.ok.stack
  have hfl := p.ok.fields _ (List.getElem_mem hi)
  have hh := lt_of_heap p.r.head
  have hcI : ¬ (m.stack.length : Int) < 2 := by omega
  have RX := RANGE x (by rw [← hx]; exact hvx)
  have RY := RANGE y (by rw [← hy]; exact hyok)
  obtain ⟨x1, x2⟩ := x
  obtain ⟨y1, y2⟩ := y
  simp only at ENV RX RY
  clear tsame tput htarget hB hC hA hAc hAe
  show Calls Tryz.prog _ _ w fun e w' => e = .returned (.int .i64 0) ∧ _
  by_cases xk : x1 = 2
  · obtain ⟨jx, rfl, hjx⟩ := RX xk
    subst xk
    by_cases yk : y1 = 2
    · obtain ⟨jy, rfl, hjy⟩ := RY yk
      subst yk
      by_cases hne : (jy : Int) = (jx : Int)
      · rw [hne] at ENV
        exact stored_same h N g capB fg _ fc i k _ cap ao jx _ _ _ _ _ _ w _ _ _ _ ENV cS hcI hl hN hiN hk hfl hh hg hfg hgf
      · by_cases c7 : ((m.count (jx : Int) : Nat) : Int) = 7
        · by_cases hov : m.over ≤ ((m.extrasN N : Nat) : Int)
          · exact stored_sr h N g capB fg _ fc i k _ cap ao jx hjx jy hjy _ _ _ _ _ _ c7 hov hne w _ _ _ _ ENV cS hcI hl hN hiN hk hfl hh hg hfg hgf
          · exact stored_or h N g capB fg _ fc i k _ cap ao jx hjx jy hjy _ _ _ _ _ _ c7 hov hne w _ _ _ _ ENV cS hcI hl hN hiN hk hfl hh hg hfg hgf
        · exact stored_cr h N g capB fg _ fc i k _ cap ao jx hjx jy hjy _ _ _ _ _ _ c7 hne w _ _ _ _ ENV cS hcI hl hN hiN hk hfl hh hg hfg hgf
    · by_cases c7 : ((m.count (jx : Int) : Nat) : Int) = 7
      · by_cases hov : m.over ≤ ((m.extrasN N : Nat) : Int)
        · exact stored_sn h N g capB fg _ fc i k _ cap ao jx hjx y1 y2 yk _ _ _ _ _ _ c7 hov w _ _ _ _ ENV cS hcI hl hN hiN hk hfl hh hg hfg hgf
        · exact stored_on h N g capB fg _ fc i k _ cap ao jx hjx y1 y2 yk _ _ _ _ _ _ c7 hov w _ _ _ _ ENV cS hcI hl hN hiN hk hfl hh hg hfg hgf
      · exact stored_cn h N g capB fg _ fc i k _ cap ao jx hjx y1 y2 yk _ _ _ _ _ _ c7 w _ _ _ _ ENV cS hcI hl hN hiN hk hfl hh hg hfg hgf
  · by_cases yk : y1 = 2
    · obtain ⟨jy, rfl, hjy⟩ := RY yk
      subst yk
      exact stored_nr h N g capB fg _ fc i k _ cap ao x1 x2 xk jy hjy _ _ _ _ _ _ w _ _ _ _ ENV cS hcI hl hN hiN hk hfl hh hg hfg hgf
    · exact stored_nn h N g capB fg _ fc i k _ cap ao x1 x2 xk y1 y2 yk _ _ _ _ _ _ w _ _ _ _ ENV cS hcI hl hN hiN hk hfl hh hg hfg hgf

end Go.Proofs.YteekoiljkklnmaaGreatDoor

/- OUR OWN. The document's heap: Do. -/
namespace Go.Proofs.YteekoiljkklnmaaGreatDoor
open Go.RowKit
set_option linter.unusedVariables false
set_option linter.unusedSimpArgs false

theorem free_first {m : RefM} {N k : Nat} (ok : m.Ok N) (hk : free? m.st = some k) : k < N ∧ ∃ o, m.objs[k + 1]? = some o ∧ o.here = false ∧ ∀ j, j < k → ∃ o, m.objs[j + 1]? = some o ∧ o.here = true := by
  unfold free? at hk
  obtain ⟨hkl, hkf, hka⟩ := List.findIdx?_eq_some_iff_getElem.1 hk
  have hlen : m.st.objs.tail.length = N := by simp [RefM.st, ok.len]
  have hol : k + 1 < m.objs.length := by rw [ok.len]; omega
  have tl : ∀ j (hj : j + 1 < m.objs.length) (hj' : j < m.st.objs.tail.length), m.st.objs.tail[j] = (m.objs[j + 1]).ob := fun j hj hj' => by
    simp [RefM.st, List.getElem_tail]
  refine ⟨by omega, m.objs[k + 1], List.getElem?_eq_getElem hol, ?_, fun j hj => ?_⟩
  · rw [tl k hol hkl] at hkf; simpa [RObj.ob] using hkf
  · have hjl : j + 1 < m.objs.length := by omega
    have := hka j hj
    rw [tl j hjl (by omega)] at this
    exact ⟨_, List.getElem?_eq_getElem hjl, by simpa [RObj.ob] using this⟩

def MadeSays (h N : Nat) (w : World) (m : RefM) (n : Int) : Prop := Calls Tryz.prog 51 #[.pointer (some ⟨h, 0, none⟩), .int .i64 n] w (RDid h N w m (newS m.cf m.st n))

/-- what a new object and its reference leave -/
theorem laid_st {h N : Nat} {w w' : World} {m m2 : RefM} {vF vS : Value} {k j : Nat} (p : RPre h N w m) {o0 : RObj} (ho0 : m.objs[k + 1]? = some o0) (hoq : o0.queued = false) (hj : j ≤ 4)
    (hE : EnterRel ((k : Int) + 1) (m.put (k + 1) ⟨true, vF, List.replicate j (0, 0), false, false⟩) N m2)
    (hT : Turn h w m w' { m2 with vS := vS, stack := m2.stack ++ [(2, (k : Int) + 1)] }) (hok : RefM.Ok { m2 with vS := vS, stack := m2.stack ++ [(2, (k : Int) + 1)] } N) :
    RStep h N w m w' { m2 with vS := vS, stack := m2.stack ++ [(2, (k : Int) + 1)] } ∧ ({ m2 with vS := vS, stack := m2.stack ++ [(2, (k : Int) + 1)] } : RefM).st = layS m.zero m.st (k + 1) j := by
  have al := hE.alike
  have ok1 := p.ok.put ho0 hoq ⟨true, vF, List.replicate j (0, 0), false, false⟩ (by simpa using hj)
  have hc1 : FreeClean (m.put (k + 1) ⟨true, vF, List.replicate j (0, 0), false, false⟩) := fun o ho hf => by
    rcases List.mem_or_eq_of_mem_set ho with e | e
    · exact p.clean o e hf
    · subst e; cases hf
  have hst := hE.st ok1
  rw [put_st] at hst
  refine ⟨⟨hT, hok, al.cf, fun o ho hf => hE.clean hc1 o ho hf⟩, ?_⟩
  show ({ m2.st with stack := m2.stack ++ [(2, (k : Int) + 1)] } : St) = _
  have hs : m2.stack = m.stack := al.stack
  rw [hst, hs]
  rfl

/-- OpNew, as long as a block is free -/
theorem made_do {h N : Nat} {w : World} {m : RefM} (p : RPre h N w m) (n : Int) (hfree : ¬ (n < 0 ∨ 4 < n) → ¬ m.deep ≤ m.stack.length → ∃ k, free? m.st = some k) : MadeSays h N w m n := by
  unfold MadeSays
  by_cases h1 : n < 0 ∨ 4 < n
  · have e : newS m.cf m.st n = (m.st, 0, 6) := by unfold newS; exact if_pos h1
    rw [e]
    exact (made_index n h1).mono fun e w' ⟨he, hw⟩ => ⟨he, m, by rw [hw]; exact .refl p, rfl⟩
  by_cases h2 : m.deep ≤ m.stack.length
  · have e : newS m.cf m.st n = (m.st, 0, 7) := by unfold newS; exact (if_neg h1).trans (if_pos h2)
    rw [e]
    exact (made_deep p.r p.ok.stack n (by omega) (by omega) h2).mono fun e w' ⟨he, hb⟩ => ⟨he, m, .of_below p hb, rfl⟩
  obtain ⟨k, hk⟩ := hfree h1 h2
  obtain ⟨j, rfl⟩ : ∃ j : Nat, n = j := ⟨n.toNat, by omega⟩
  have e : newS m.cf m.st j = (layS m.zero m.st (k + 1) j, 0, 0) := by
    unfold newS
    refine (if_neg h1).trans ((if_neg h2).trans ?_)
    rw [room_of_free hk, hk, Int.toNat_natCast]
    rfl
  rw [e]
  obtain ⟨hkN, o0, ho0, hfr, hall⟩ := free_first p.ok hk
  have hoq : o0.queued = false := p.clean _ (List.mem_of_getElem? ho0) hfr
  refine (made_room p.r p.ok j (by omega) (by omega) p.deep k hkN _ ho0 hfr hoq hall).mono ?_
  rintro e w' ⟨he, vF, m2, vS, hE, hT, hok⟩
  obtain ⟨s, hst⟩ := laid_st p ho0 hoq (by omega) hE hT hok
  exact ⟨he, _, s, hst⟩

theorem ret_zero {a b c : Int} (h : a = b) : Ending.returned (.tuple #[.int .i64 a, .int .i64 c]) = .returned (.tuple #[.int .i64 b, .int .i64 c]) := by rw [h]
theorem push_zero (d : Int) (s : St) (v : Int × Int) : 0 = (pushA d s v).2.1 := rfl
theorem new_zero (c : Cf) (s : St) (n : Int) : 0 = (newS c s n).2.1 := by
  unfold newS
  by_cases h1 : n < 0 ∨ 4 < n
  · rw [if_pos h1]
  rw [if_neg h1]
  by_cases h2 : c.deep ≤ s.stack.length
  · rw [if_pos h2]
  rw [if_neg h2]
  cases free? (roomS c s) <;> rfl
theorem dup_zero (d : Int) (s : St) (n : Int) : 0 = (dupS d s n).2.1 := by
  unfold dupS
  by_cases h1 : n < 0 ∨ (s.stack.length : Int) ≤ n
  · rw [if_pos h1]
  · rw [if_neg h1]; rfl
theorem drop_zero (s : St) : 0 = (dropS s).2.1 := by
  unfold dropS
  by_cases h1 : s.stack.length < 1
  · rw [if_pos h1]
  · rw [if_neg h1]
theorem get_zero (d : Int) (s : St) (n : Int) : 0 = (getS d s n).2.1 := by
  unfold getS
  by_cases h1 : n < 0 ∨ (s.globals.length : Int) ≤ n
  · rw [if_pos h1]
  · rw [if_neg h1]; rfl
theorem set_zero (s : St) (n : Int) : 0 = (setS s n).2.1 := by
  unfold setS
  by_cases h1 : n < 0 ∨ (s.globals.length : Int) ≤ n
  · rw [if_pos h1]
  rw [if_neg h1]
  by_cases h2 : s.stack.length < 1
  · rw [if_pos h2]
  · rw [if_neg h2]
theorem load_zero (d : Int) (s : St) (n : Int) : 0 = (loadS d s n).2.1 := by
  unfold loadS
  by_cases h1 : s.stack.length < 1
  · rw [if_pos h1]
  rw [if_neg h1]
  by_cases h2 : objErr (s.down 0) ≠ 0
  · rw [if_pos h2]
  rw [if_neg h2]
  by_cases h3 : n < 0 ∨ ((s.fields (s.down 0).2).length : Int) ≤ n
  · rw [if_pos h3]
  · rw [if_neg h3]; rfl
theorem store_zero (c : Cf) (s : St) (n : Int) : 0 = (storeS c s n).2.1 := by
  unfold storeS
  by_cases h1 : s.stack.length < 2
  · rw [if_pos h1]
  rw [if_neg h1]
  by_cases h2 : objErr (s.down 1) ≠ 0
  · rw [if_pos h2]
  rw [if_neg h2]
  by_cases h3 : n < 0 ∨ ((s.fields (s.down 1).2).length : Int) ≤ n
  · rw [if_pos h3]
  · rw [if_neg h3]

def DoSays (op : Int) : Prop := ∀ (h N : Nat) (w : World) (m : RefM) (n : Int), RPre h N w m → (op = 2 → MadeSays h N w m n) →
  Calls Tryz.prog 29 #[.pointer (some ⟨h, 0, none⟩), .int .i64 op, .int .i64 n] w (RDid2 h N w m (doS m.cf m.st op n))

set_option maxHeartbeats 400000 in
theorem do_0 : DoSays 0 := by
  intro h N w m n p hf
  have e : doS m.cf m.st 0 n = pushA m.deep m.st (0, 0) := by simp [doS, RefM.cf]
  rw [e]
  have C : Hid _ := (moves_nil h N w m n p)
  clear p e hf
  go_enter Tryz.func29, Tryz.ntmps29
  go_wp2_with fail
  refine Calls.mono C.out ?_
  rintro e w1 ⟨rfl, hm⟩
  have M : Hid _ := hm
  clear hm C
  go_wp2
  go_ret2
  exact ⟨ret_zero (push_zero _ _ _), M.out⟩

set_option maxHeartbeats 400000 in
theorem do_1 : DoSays 1 := by
  intro h N w m n p hf
  have e : doS m.cf m.st 1 n = pushA m.deep m.st (1, n) := by simp [doS, RefM.cf]
  rw [e]
  have C : Hid _ := (moves_int h N w m n p)
  clear p e hf
  go_enter Tryz.func29, Tryz.ntmps29
  go_wp2_with fail
  refine Calls.mono C.out ?_
  rintro e w1 ⟨rfl, hm⟩
  have M : Hid _ := hm
  clear hm C
  go_wp2
  go_ret2
  exact ⟨ret_zero (push_zero _ _ _), M.out⟩

set_option maxHeartbeats 400000 in
theorem do_2 : DoSays 2 := by
  intro h N w m n p hf
  have e : doS m.cf m.st 2 n = newS m.cf m.st n := by simp [doS, RefM.cf]
  rw [e]
  have C : Hid _ := (hf rfl)
  clear p e hf
  go_enter Tryz.func29, Tryz.ntmps29
  go_wp2_with fail
  refine Calls.mono C.out ?_
  rintro e w1 ⟨rfl, hm⟩
  have M : Hid _ := hm
  clear hm C
  go_wp2
  go_ret2
  exact ⟨ret_zero (new_zero _ _ _), M.out⟩

set_option maxHeartbeats 400000 in
theorem do_3 : DoSays 3 := by
  intro h N w m n p hf
  have e : doS m.cf m.st 3 n = dupS m.deep m.st n := by simp [doS, RefM.cf]
  rw [e]
  have C : Hid _ := (moves_dup h N w m n p)
  clear p e hf
  go_enter Tryz.func29, Tryz.ntmps29
  go_wp2_with fail
  refine Calls.mono C.out ?_
  rintro e w1 ⟨rfl, hm⟩
  have M : Hid _ := hm
  clear hm C
  go_wp2
  go_ret2
  exact ⟨ret_zero (dup_zero _ _ _), M.out⟩

set_option maxHeartbeats 400000 in
theorem do_4 : DoSays 4 := by
  intro h N w m n p hf
  have e : doS m.cf m.st 4 n = dropS m.st := by simp [doS, RefM.cf]
  rw [e]
  have C : Hid _ := (moves_drop h N w m n p)
  clear p e hf
  go_enter Tryz.func29, Tryz.ntmps29
  go_wp2_with fail
  refine Calls.mono C.out ?_
  rintro e w1 ⟨rfl, hm⟩
  have M : Hid _ := hm
  clear hm C
  go_wp2
  go_ret2
  exact ⟨ret_zero (drop_zero _), M.out⟩

set_option maxHeartbeats 400000 in
theorem do_5 : DoSays 5 := by
  intro h N w m n p hf
  have e : doS m.cf m.st 5 n = getS m.deep m.st n := by simp [doS, RefM.cf]
  rw [e]
  have C : Hid _ := (moves_get h N w m n p)
  clear p e hf
  go_enter Tryz.func29, Tryz.ntmps29
  go_wp2_with fail
  refine Calls.mono C.out ?_
  rintro e w1 ⟨rfl, hm⟩
  have M : Hid _ := hm
  clear hm C
  go_wp2
  go_ret2
  exact ⟨ret_zero (get_zero _ _ _), M.out⟩

set_option maxHeartbeats 400000 in
theorem do_6 : DoSays 6 := by
  intro h N w m n p hf
  have e : doS m.cf m.st 6 n = setS m.st n := by simp [doS, RefM.cf]
  rw [e]
  have C : Hid _ := (moves_set h N w m n p)
  clear p e hf
  go_enter Tryz.func29, Tryz.ntmps29
  go_wp2_with fail
  refine Calls.mono C.out ?_
  rintro e w1 ⟨rfl, hm⟩
  have M : Hid _ := hm
  clear hm C
  go_wp2
  go_ret2
  exact ⟨ret_zero (set_zero _ _), M.out⟩

set_option maxHeartbeats 400000 in
theorem do_7 : DoSays 7 := by
  intro h N w m n p hf
  have e : doS m.cf m.st 7 n = loadS m.deep m.st n := by simp [doS, RefM.cf]
  rw [e]
  have C : Hid _ := (loaded_any h N w m n p)
  clear p e hf
  go_enter Tryz.func29, Tryz.ntmps29
  go_wp2_with fail
  refine Calls.mono C.out ?_
  rintro e w1 ⟨rfl, hm⟩
  have M : Hid _ := hm
  clear hm C
  go_wp2
  go_ret2
  exact ⟨ret_zero (load_zero _ _ _), M.out⟩

set_option maxHeartbeats 400000 in
theorem do_8 : DoSays 8 := by
  intro h N w m n p hf
  have e : doS m.cf m.st 8 n = storeS m.cf m.st n := by simp [doS, RefM.cf]
  rw [e]
  have C : Hid _ := (stored_any h N w m n p)
  clear p e hf
  go_enter Tryz.func29, Tryz.ntmps29
  go_wp2_with fail
  refine Calls.mono C.out ?_
  rintro e w1 ⟨rfl, hm⟩
  have M : Hid _ := hm
  clear hm C
  go_wp2
  go_ret2
  exact ⟨ret_zero (store_zero _ _ _), M.out⟩

set_option maxHeartbeats 400000 in
theorem do_9 : DoSays 9 := by
  intro h N w m n p hf
  have e : doS m.cf m.st 9 n = sameS m.st := by simp [doS, RefM.cf]
  rw [e]
  have C : Hid _ := (tells_same h N w m p)
  clear p e hf
  go_enter Tryz.func29, Tryz.ntmps29
  go_wp2_with fail
  refine Calls.mono C.out ?_
  rintro e w1 ⟨rfl, hm⟩
  have M : Hid _ := hm
  clear hm C
  go_wp2
  go_ret2
  exact ⟨rfl, M.out⟩

set_option maxHeartbeats 400000 in
theorem do_10 : DoSays 10 := by
  intro h N w m n p hf
  have e : doS m.cf m.st 10 n = takeS m.st := by simp [doS, RefM.cf]
  rw [e]
  have C : Hid _ := (tells_take h N w m p)
  clear p e hf
  go_enter Tryz.func29, Tryz.ntmps29
  go_wp2_with fail
  refine Calls.mono C.out ?_
  rintro e w1 ⟨rfl, hm⟩
  have M : Hid _ := hm
  clear hm C
  go_wp2
  go_ret2
  exact ⟨rfl, M.out⟩

set_option maxHeartbeats 400000 in
theorem do_11 : DoSays 11 := by
  intro h N w m n p hf
  have e : doS m.cf m.st 11 n = sizeS m.st := by simp [doS, RefM.cf]
  rw [e]
  have C : Hid _ := (tells_size h N w m p)
  clear p e hf
  go_enter Tryz.func29, Tryz.ntmps29
  go_wp2_with fail
  refine Calls.mono C.out ?_
  rintro e w1 ⟨rfl, hm⟩
  have M : Hid _ := hm
  clear hm C
  go_wp2
  go_ret2
  exact ⟨rfl, M.out⟩

set_option maxHeartbeats 400000 in
theorem do_12 : DoSays 12 := by
  intro h N w m n p hf
  have e : doS m.cf m.st 12 n = kindS m.st := by simp [doS, RefM.cf]
  rw [e]
  have C : Hid _ := (tells_kind h N w m p)
  clear p e hf
  go_enter Tryz.func29, Tryz.ntmps29
  go_wp2_with fail
  refine Calls.mono C.out ?_
  rintro e w1 ⟨rfl, hm⟩
  have M : Hid _ := hm
  clear hm C
  go_wp2
  go_ret2
  exact ⟨rfl, M.out⟩

set_option maxHeartbeats 400000 in
theorem do_none (op : Int) (h0 : ¬ op = 0) (h1 : ¬ op = 1) (h2 : ¬ op = 2) (h3 : ¬ op = 3) (h4 : ¬ op = 4) (h5 : ¬ op = 5) (h6 : ¬ op = 6) (h7 : ¬ op = 7) (h8 : ¬ op = 8) (h9 : ¬ op = 9) (h10 : ¬ op = 10) (h11 : ¬ op = 11) (h12 : ¬ op = 12) : DoSays op := by
  intro h N w m n p hf
  have e : doS m.cf m.st op n = (m.st, 0, 2) := by simp [doS, RefM.cf, h0, h1, h2, h3, h4, h5, h6, h7, h8, h9, h10, h11, h12]
  rw [e]
  have K : Hid (∃ m', RStep h N w m w m' ∧ m'.st = m.st) := ⟨m, .refl p, rfl⟩
  have e0 : (op == 0) = false := by simpa using h0
  have e1 : (op == 1) = false := by simpa using h1
  have e2 : (op == 2) = false := by simpa using h2
  have e3 : (op == 3) = false := by simpa using h3
  have e4 : (op == 4) = false := by simpa using h4
  have e5 : (op == 5) = false := by simpa using h5
  have e6 : (op == 6) = false := by simpa using h6
  have e7 : (op == 7) = false := by simpa using h7
  have e8 : (op == 8) = false := by simpa using h8
  have e9 : (op == 9) = false := by simpa using h9
  have e10 : (op == 10) = false := by simpa using h10
  have e11 : (op == 11) = false := by simpa using h11
  have e12 : (op == 12) = false := by simpa using h12
  clear p e hf
  go_enter Tryz.func29, Tryz.ntmps29
  go_wp2
  go_ret2
  exact ⟨rfl, K.out⟩

theorem do_ref (op : Int) : DoSays op := by
  by_cases h0 : op = 0
  · subst h0; exact do_0
  by_cases h1 : op = 1
  · subst h1; exact do_1
  by_cases h2 : op = 2
  · subst h2; exact do_2
  by_cases h3 : op = 3
  · subst h3; exact do_3
  by_cases h4 : op = 4
  · subst h4; exact do_4
  by_cases h5 : op = 5
  · subst h5; exact do_5
  by_cases h6 : op = 6
  · subst h6; exact do_6
  by_cases h7 : op = 7
  · subst h7; exact do_7
  by_cases h8 : op = 8
  · subst h8; exact do_8
  by_cases h9 : op = 9
  · subst h9; exact do_9
  by_cases h10 : op = 10
  · subst h10; exact do_10
  by_cases h11 : op = 11
  · subst h11; exact do_11
  by_cases h12 : op = 12
  · subst h12; exact do_12
  exact do_none op h0 h1 h2 h3 h4 h5 h6 h7 h8 h9 h10 h11 h12

end Go.Proofs.YteekoiljkklnmaaGreatDoor

/- OUR OWN. The program's heap: store; what an operation's parts do, as the document's state. -/
namespace Go.Proofs.YteekoiljkklnmaaGreatDoor
open Go.RowKit
set_option linter.unusedVariables false
set_option linter.unusedSimpArgs false

def HDone (h N : Nat) (w : World) (m : HeapM) (c : Cf) (r : St × Int × Int) (e : Ending) (w' : World) : Prop := e = .returned (.int .i64 r.2.2) ∧ ∃ m', HTurn h w m w' m' ∧ HS m' r.1 c N
def HDone2 (h N : Nat) (w : World) (m : HeapM) (c : Cf) (r : St × Int × Int) (e : Ending) (w' : World) : Prop := e = .returned (.tuple #[.int .i64 r.2.1, .int .i64 r.2.2]) ∧ ∃ m', HTurn h w m w' m' ∧ HS m' r.1 c N

/-- the blocks are as they were: so are the counts -/
theorem HStep.hs {h N : Nat} {w w' : World} {m m' : HeapM} {s : St} {c : Cf} (a : HStep h N w m w' m') (p : HSb 0 m s c N) {t : St} (ht : m'.st = t) : HS m' t c N := by
  have hr := a.rest
  unfold HeapM.rest at hr
  simp only [Prod.mk.injEq] at hr
  obtain ⟨h1, h2, h3, h4, h5⟩ := hr
  refine ⟨ht, h1.trans p.deep, h2.trans p.zero, h3.trans p.over, by rw [h4]; exact p.state, fun i o hi hs => ?_⟩
  rw [h4] at hi
  rw [p.cnt i o hi hs]
  have : t.count i = s.count i := by
    unfold St.count
    rw [← ht, ← p.st]
    unfold HeapM.st
    simp only
    rw [h4]
  rw [this]
theorem HDid.done {h N : Nat} {w w' : World} {m : HeapM} {s : St} {c : Cf} {r : St × Int × Int} {e : Ending} (p : HSb 0 m s c N) (d : HDid h N w m r e w') : HDone h N w m c r e w' := by
  obtain ⟨he, m', hs, hm⟩ := d
  exact ⟨he, m', hs.turn, hs.hs p hm⟩
theorem HDid2.done {h N : Nat} {w w' : World} {m : HeapM} {s : St} {c : Cf} {r : St × Int × Int} {e : Ending} (p : HSb 0 m s c N) (d : HDid2 h N w m r e w') : HDone2 h N w m c r e w' := by
  obtain ⟨he, m', hs, hm⟩ := d
  exact ⟨he, m', hs.turn, hs.hs p hm⟩

theorem new_done {h N : Nat} {w : World} {m : HeapM} {s : St} {c : Cf} (p : HB 0 h w m s c N) (n : Int) (hfree : ∃ k, free? s = some k) :
    Calls Tryz.prog 40 #[.pointer (some ⟨h, 0, none⟩), .int .i64 n] w (HDone h N w m c (newS c s n)) := by
  by_cases h1 : n < 0 ∨ 4 < n
  · have e : newS c s n = (s, 0, 6) := by unfold newS; exact if_pos h1
    rw [e]
    exact (hnew_index n h1).mono fun e w' ⟨he, hw⟩ => ⟨he, m, by rw [hw]; exact .refl p.r, p.hs⟩
  by_cases h2 : c.deep ≤ s.stack.length
  · have e : newS c s n = (s, 0, 7) := by unfold newS; exact (if_neg h1).trans (if_pos h2)
    rw [e]
    exact (hnew_deep p.r n (by omega) (by omega) (by rw [p.hs.deep, p.mstack]; exact h2)).mono fun e w' ⟨he, hb⟩ => ⟨he, m, .of_below p.r hb, p.hs⟩
  obtain ⟨k, hk⟩ := hfree
  obtain ⟨j, rfl⟩ : ∃ j : Nat, n = j := ⟨n.toNat, by omega⟩
  have e : newS c s j = (layS c.zero s (k + 1) j, 0, 0) := by
    unfold newS
    refine (if_neg h1).trans ((if_neg h2).trans ?_)
    rw [room_of_free hk, hk, Int.toNat_natCast]
  rw [e]
  exact (hnew_room p j (by omega) (by omega) k hk).mono fun e w' ⟨he, m', ht, hs⟩ => ⟨he, m', ht, hs⟩

theorem HB.of_step {h N : Nat} {w w' : World} {m m' : HeapM} {s t : St} {c : Cf} (p : HB 0 h w m s c N) (a : HStep h N w m w' m') (ht : m'.st = t) (g : t.Good N) : HB 0 h w' m' t c N :=
  ⟨a.turn.here, a.hs p.hs ht, g, p.cf, p.small, by have := a.ok.stack; rw [← ht]; exact this, by have := a.ok.globals; rw [← ht]; exact this⟩

set_option maxHeartbeats 1600000 in
theorem store_done {h N : Nat} {w : World} {m : HeapM} {s : St} {c : Cf} (p : HB 0 h w m s c N) (n : Int) :
    Calls Tryz.prog 46 #[.pointer (some ⟨h, 0, none⟩), .int .i64 n] w (HDone h N w m c (storeS c s n)) := by
  obtain ⟨ao, cap, cS⟩ := p.pre.stackCell
  have hl := p.pre.ok.stack
  have hms := p.mstack
  by_cases hc : m.stack.length < 2
  · have e : storeS c s n = (s, 0, 3) := by unfold storeS; exact if_pos (by rw [← hms]; exact hc)
    rw [e]
    have K : Hid (∃ m', HTurn h w m w m' ∧ HS m' s c N) := ⟨m, .refl p.r, p.hs⟩
    obtain ⟨len, hlen⟩ : ∃ len, m.stack.length = len := ⟨_, rfl⟩
    rw [hlen] at hc cS hl
    clear p hlen e hms
    have hcI : (len : Int) < 2 := by omega
    go_enter Tryz.func46, Tryz.ntmps46
    go_wp2
    go_ret
    exact ⟨rfl, K.out⟩
  have hst := p.hs.st
  have hcs : ¬ s.stack.length < 2 := by rw [← hms]; exact hc
  have D0 : Hid _ := hdown_do p.pre 0 (by omega)
  have D1 : Hid (∀ W, Below w.heap.size w W → Calls Tryz.prog 73 #[.pointer (some ⟨h, 0, none⟩), .int .i64 1] W fun e w' => e = .returned (.agg #[.int .i64 (m.st.down 1).1, .int .i64 (m.st.down 1).2]) ∧ Below W.heap.size W w') := fun W hb => hdown_do (p.pre.below hb) 1 (by show 1 < m.stack.length; omega)
  have K : Hid (∀ W, Below w.heap.size w W → ∃ m', HTurn h w m W m' ∧ HS m' s c N) := fun W hb => ⟨m, .of_below p.r hb, p.hs⟩
  have hv := p.pre.inv.down 1
  have CK : Hid (∀ W, Below w.heap.size w W → Calls Tryz.prog 75 #[.pointer (some ⟨h, 0, none⟩), .agg #[.int .i64 (m.st.down 1).1, .int .i64 (m.st.down 1).2], .int .i64 n] W fun e w' => e = .returned (.int .i64 (fieldErr m.st (m.st.down 1) n)) ∧ Below W.heap.size W w') := fun W hb => checkField_any h N W m (p.pre.below hb) _ n hv
  rw [hst] at D0 D1 CK hv
  have hcI0 : ¬ (m.stack.length : Int) < 2 := by omega
  by_cases he : fieldErr s (s.down 1) n ≠ 0
  · rw [storeS_err hcs he]
    obtain ⟨len, hlen⟩ : ∃ len, m.stack.length = len := ⟨_, rfl⟩
    rw [hlen] at cS hcI0 hl
    obtain ⟨er, her⟩ : ∃ er, fieldErr s (s.down 1) n = er := ⟨_, rfl⟩
    rw [her] at he CK ⊢
    obtain ⟨x, hx⟩ : ∃ x, s.down 0 = x := ⟨_, rfl⟩
    rw [hx] at D0
    obtain ⟨q, hq⟩ : ∃ q, s.down 1 = q := ⟨_, rfl⟩
    rw [hq] at D1 CK
    obtain ⟨x1, x2⟩ := x
    obtain ⟨q1, q2⟩ := q
    have he2 : (er == 0) = false := by simpa using he
    clear p hlen hx hq hv her hc hms hst hcs
    go_enter Tryz.func46, Tryz.ntmps46
    go_wp2_with fail
    refine Calls.mono D0.out ?_
    rintro e w1 ⟨rfl, hb⟩
    have B : Hid (Below w.heap.size w w1) := hb
    clear hb D0
    go_wp2_with fail
    refine Calls.mono (D1.out _ (B.out.alloc B.out.size _)) ?_
    rintro e w2 ⟨rfl, hb⟩
    have B2 : Hid (Below w.heap.size w w2) := (B.out.alloc B.out.size _).trans (hb.mono (by simp; have := B.out.size; omega))
    clear hb D1
    go_wp2_with fail
    refine Calls.mono (CK.out _ (B2.out.alloc B2.out.size _)) ?_
    rintro e w3 ⟨rfl, hb⟩
    have B3 : Hid (Below w.heap.size w w3) := (B2.out.alloc B2.out.size _).trans (hb.mono (by simp; have := B2.out.size; omega))
    clear hb CK
    go_wp2
    go_ret
    exact ⟨rfl, K.out _ B3.out⟩
  have he : fieldErr s (s.down 1) n = 0 := by omega
  obtain ⟨ho, hn0, hnl⟩ := field_ok he
  obtain ⟨k, rfl⟩ : ∃ k : Nat, n = k := ⟨n.toNat, by omega⟩
  obtain ⟨hq1, hq2⟩ := ref_of hv ho
  obtain ⟨i, hi⟩ : ∃ i : Nat, (s.down 1).2 = i := ⟨(s.down 1).2.toNat, by omega⟩
  have hkf : k < (s.ob i).fs.length := by
    have : s.fields (s.down 1).2 = (s.ob i).fs := by unfold St.fields; rw [hi, Int.toNat_natCast]
    rw [this] at hnl; omega
  have e : storeS c s k = (putS c (s.pop 2) i k (s.down 0) (((s.pop 2).ob i).fs.getD k (0, 0)), 0, 0) := by
    unfold storeS
    refine (if_neg hcs).trans ((if_neg (by omega)).trans ((if_neg (by omega)).trans ?_))
    unfold St.fields
    rw [hi, Int.toNat_natCast, Int.toNat_natCast]
    rfl
  rw [e]
  have AFTER : Hid (∀ W, Below w.heap.size w W → Calls Tryz.prog 74 #[.pointer (some ⟨h, 0, none⟩), .int .i64 2] W fun e w' => e = .returned (.tuple #[]) ∧
      (∀ L ob, w.heap.size ≤ L → W.heap[L]? = some ob → w'.heap[L]? = some ob) ∧
      Calls Tryz.prog 76 #[.pointer (some ⟨h, 0, none⟩), .int .i64 i, .int .i64 k, .agg #[.int .i64 (s.down 0).1, .int .i64 (s.down 0).2]] w' fun e w2 => e = .returned (.tuple #[]) ∧
        ∃ m', HTurn h w m w2 m' ∧ HS m' (putS c (s.pop 2) i k (s.down 0) (((s.pop 2).ob i).fs.getD k (0, 0))) c N) := by
    intro W hb
    refine (hpop_do (p.pre.below hb) 2 (by omega) (by omega)).mono ?_
    rintro e w' ⟨he, v', hs⟩
    have s1 : HStep h N w m w' _ := (HStep.of_below p.pre hb).trans hs
    have q := p.of_step s1 (t := s.pop 2) (by
      unfold St.pop
      rw [← hst]
      rfl) (p.good.pop 2)
    refine ⟨he, fun L ob hL hW => hturn_local p.pre hb hW hL hs.turn, ?_⟩
    refine (setField_any q i k (s.down 0) hkf (p.good.down 0)).mono ?_
    rintro e w2 ⟨he, m', t, q2⟩
    exact ⟨he, m', s1.turn.trans t, q2.hs⟩
  rw [he] at CK
  obtain ⟨tgt, htgt⟩ : ∃ t : St, putS c (s.pop 2) i k (s.down 0) (((s.pop 2).ob i).fs.getD k (0, 0)) = t := ⟨_, rfl⟩
  rw [htgt] at AFTER ⊢
  obtain ⟨len, hlen⟩ : ∃ len, m.stack.length = len := ⟨_, rfl⟩
  rw [hlen] at cS hcI0 hl
  obtain ⟨x, hx⟩ : ∃ x, s.down 0 = x := ⟨_, rfl⟩
  rw [hx] at D0 AFTER
  obtain ⟨q, hq⟩ : ∃ q, s.down 1 = q := ⟨_, rfl⟩
  rw [hq] at D1 CK hi
  obtain ⟨x1, x2⟩ := x
  obtain ⟨q1, q2⟩ := q
  simp only at hi
  subst hi
  clear p hlen e hx hq hv he K hc hn0 hnl ho hkf htgt hms hst hcs hq1 hq2
  go_enter Tryz.func46, Tryz.ntmps46
  go_wp2_with fail
  refine Calls.mono D0.out ?_
  rintro e w1 ⟨rfl, hb⟩
  have B : Hid (Below w.heap.size w w1) := hb
  clear hb D0
  go_wp2_with fail
  refine Calls.mono (D1.out _ (B.out.alloc B.out.size _)) ?_
  rintro e w2 ⟨rfl, hb⟩
  have B2 : Hid (Below w.heap.size w w2 ∧ w1.heap.size + 1 ≤ w2.heap.size ∧ w2.heap[w1.heap.size]? = some (.cells #[.int .i64 x1, .int .i64 x2] 81)) := ⟨(B.out.alloc B.out.size _).trans (hb.mono (by simp; have := B.out.size; omega)), by have := hb.size; simpa using this, boxed' hb⟩
  clear hb D1
  go_wp2_with fail
  refine Calls.mono (CK.out _ (B2.out.1.alloc B2.out.1.size _)) ?_
  rintro e w3 ⟨rfl, hb⟩
  have B3 : Hid (Below w.heap.size w w3 ∧ w3.heap[w2.heap.size]? = some (.cells #[.int .i64 q1, .int .i64 i] 81) ∧ w3.heap[w1.heap.size]? = some (.cells #[.int .i64 x1, .int .i64 x2] 81)) :=
    ⟨(B2.out.1.alloc B2.out.1.size _).trans (hb.mono (by simp; have := B2.out.1.size; omega)), boxed' hb, by
      have h1 := B2.out.2.1
      rw [hb.block _ (by simp; omega), hao (by omega)]; exact B2.out.2.2⟩
  clear hb CK
  go_wp2_with fail
  refine Calls.mono (AFTER.out _ B3.out.1) ?_
  rintro e w4 ⟨rfl, hloc, hset⟩
  have l0 := hloc _ _ B.out.size B3.out.2.2
  have l1 := hloc _ _ B2.out.1.size B3.out.2.1
  have v0 : w4.cell? ⟨w1.heap.size, 0, none⟩ = some (.int .i64 x1) := cell_of_heap l0 rfl
  have v1 : w4.cell? ⟨w1.heap.size, 1, none⟩ = some (.int .i64 x2) := cell_of_heap l0 rfl
  have u1 : w4.cell? ⟨w2.heap.size, 1, none⟩ = some (.int .i64 i) := cell_of_heap l1 rfl
  have S : Hid _ := hset
  clear hset hloc AFTER B B2 B3 l0 l1
  go_wp2_with fail
  refine Calls.mono S.out ?_
  rintro e w5 ⟨rfl, hm⟩
  have M : Hid _ := hm
  clear hm S
  go_wp2
  go_ret
  exact ⟨rfl, M.out⟩

end Go.Proofs.YteekoiljkklnmaaGreatDoor

/- OUR OWN. May, num, pick. -/
namespace Go.Proofs.YteekoiljkklnmaaGreatDoor
open Go.RowKit
set_option linter.unusedVariables false
set_option linter.unusedSimpArgs false

theorem num_any (e : Int) (w : World) :
    Calls Tryz.prog 26 #[.int .i64 e] w fun r w' => r = .returned (.int .i64 e) ∧ w' = w := by
  go_enter Tryz.func26, Tryz.ntmps26
  go_wp2
  go_ret
  exact ⟨rfl, rfl⟩

/-- which of n things the raw number c speaks of -/
def pickN (c : Int) (n : Nat) : Nat := ((if c < 0 then -(c + 1) else c) % n).toNat

theorem pickN_lt (c : Int) (n : Nat) (h : 0 < n) : pickN c n < n := by
  unfold pickN
  have := Int.emod_lt_of_pos (if c < 0 then -(c + 1) else c) (show (0 : Int) < n by omega)
  omega

set_option maxHeartbeats 400000 in
theorem pick_any (c : Int) (n : Nat) (w : World) (hc : -9223372036854775808 ≤ c ∧ c ≤ 9223372036854775807) (hn : 0 < n) (hm : n ≤ 2000000000000) :
    Calls Tryz.prog 12 #[.int .i64 c, .int .i64 n] w fun r w' => r = .returned (.int .i64 (pickN c n)) ∧ w' = w := by
  obtain ⟨c1, c2⟩ := hc
  have hp : (0 : Int) < n := by omega
  have hne : ((n : Int) == 0) = false := by simp; omega
  by_cases h : c < 0
  · have e : (pickN c n : Int) = -((c + 1).tmod n) := by
      rw [← Int.neg_tmod, Int.tmod_eq_emod_of_nonneg (by omega)]
      unfold pickN; rw [if_pos h]; have := Int.emod_nonneg (-(c + 1)) (show (n : Int) ≠ 0 by omega); omega
    have E : Hid ((pickN c n : Int) = -((c + 1).tmod n)) := e
    clear e
    go_enter Tryz.func12, Tryz.ntmps12
    go_wp2
    go_ret
    rw [E.out]
    exact ⟨rfl, rfl⟩
  · have e : (pickN c n : Int) = c % n := by
      unfold pickN; rw [if_neg h]; have := Int.emod_nonneg c (show (n : Int) ≠ 0 by omega); omega
    have E : Hid ((pickN c n : Int) = c % n) := e
    clear e
    go_enter Tryz.func12, Tryz.ntmps12
    go_wp2
    go_ret
    rw [E.out]
    exact ⟨rfl, rfl⟩

set_option maxHeartbeats 800000 in
theorem may_yes (b s g u z o : Int) (w : World) (h : cfgB b s g u z o = true) :
    Calls Tryz.prog 25 #[.int .i64 b, .int .i64 s, .int .i64 g, .int .i64 u, .int .i64 z, .int .i64 o] w
      fun e w' => e = .returned (.bool true) ∧ w' = w := by
  have ⟨h1, h2, h3, h4, h5, h6, h7, h8, h9, h10, h11, h12⟩ : 1 ≤ b ∧ b ≤ 99 ∧ 1 ≤ s ∧ s ≤ 16 ∧ 0 ≤ g ∧ g ≤ 8 ∧ 1 ≤ u ∧ u ≤ 99 ∧ s + g < z ∧ z ≤ 99 ∧ 0 ≤ o ∧ o ≤ 9 := by simpa [cfgB] using h
  clear h
  go_enter Tryz.func25, Tryz.ntmps25
  go_wp2
  go_ret
  exact ⟨rfl, rfl⟩

theorem cfg_cases {b s g u z o : Int} (h : cfgB b s g u z o = false) :
    (b < 1) ∨
    (1 ≤ b ∧ 99 < b) ∨
    (1 ≤ b ∧ b ≤ 99 ∧ s < 1) ∨
    (1 ≤ b ∧ b ≤ 99 ∧ 1 ≤ s ∧ 16 < s) ∨
    (1 ≤ b ∧ b ≤ 99 ∧ 1 ≤ s ∧ s ≤ 16 ∧ g < 0) ∨
    (1 ≤ b ∧ b ≤ 99 ∧ 1 ≤ s ∧ s ≤ 16 ∧ 0 ≤ g ∧ 8 < g) ∨
    (1 ≤ b ∧ b ≤ 99 ∧ 1 ≤ s ∧ s ≤ 16 ∧ 0 ≤ g ∧ g ≤ 8 ∧ u < 1) ∨
    (1 ≤ b ∧ b ≤ 99 ∧ 1 ≤ s ∧ s ≤ 16 ∧ 0 ≤ g ∧ g ≤ 8 ∧ 1 ≤ u ∧ 99 < u) ∨
    (1 ≤ b ∧ b ≤ 99 ∧ 1 ≤ s ∧ s ≤ 16 ∧ 0 ≤ g ∧ g ≤ 8 ∧ 1 ≤ u ∧ u ≤ 99 ∧ z ≤ s + g) ∨
    (1 ≤ b ∧ b ≤ 99 ∧ 1 ≤ s ∧ s ≤ 16 ∧ 0 ≤ g ∧ g ≤ 8 ∧ 1 ≤ u ∧ u ≤ 99 ∧ s + g < z ∧ 99 < z) ∨
    (1 ≤ b ∧ b ≤ 99 ∧ 1 ≤ s ∧ s ≤ 16 ∧ 0 ≤ g ∧ g ≤ 8 ∧ 1 ≤ u ∧ u ≤ 99 ∧ s + g < z ∧ z ≤ 99 ∧ o < 0) ∨
    (1 ≤ b ∧ b ≤ 99 ∧ 1 ≤ s ∧ s ≤ 16 ∧ 0 ≤ g ∧ g ≤ 8 ∧ 1 ≤ u ∧ u ≤ 99 ∧ s + g < z ∧ z ≤ 99 ∧ 0 ≤ o ∧ 9 < o) := by
  by_cases a0 : b < 1
  · exact Or.inl a0
  by_cases a1 : 99 < b
  · exact Or.inr (Or.inl (⟨Int.not_lt.1 a0, a1⟩))
  by_cases a2 : s < 1
  · exact Or.inr (Or.inr (Or.inl (⟨Int.not_lt.1 a0, Int.not_lt.1 a1, a2⟩)))
  by_cases a3 : 16 < s
  · exact Or.inr (Or.inr (Or.inr (Or.inl (⟨Int.not_lt.1 a0, Int.not_lt.1 a1, Int.not_lt.1 a2, a3⟩))))
  by_cases a4 : g < 0
  · exact Or.inr (Or.inr (Or.inr (Or.inr (Or.inl (⟨Int.not_lt.1 a0, Int.not_lt.1 a1, Int.not_lt.1 a2, Int.not_lt.1 a3, a4⟩)))))
  by_cases a5 : 8 < g
  · exact Or.inr (Or.inr (Or.inr (Or.inr (Or.inr (Or.inl (⟨Int.not_lt.1 a0, Int.not_lt.1 a1, Int.not_lt.1 a2, Int.not_lt.1 a3, Int.not_lt.1 a4, a5⟩))))))
  by_cases a6 : u < 1
  · exact Or.inr (Or.inr (Or.inr (Or.inr (Or.inr (Or.inr (Or.inl (⟨Int.not_lt.1 a0, Int.not_lt.1 a1, Int.not_lt.1 a2, Int.not_lt.1 a3, Int.not_lt.1 a4, Int.not_lt.1 a5, a6⟩)))))))
  by_cases a7 : 99 < u
  · exact Or.inr (Or.inr (Or.inr (Or.inr (Or.inr (Or.inr (Or.inr (Or.inl (⟨Int.not_lt.1 a0, Int.not_lt.1 a1, Int.not_lt.1 a2, Int.not_lt.1 a3, Int.not_lt.1 a4, Int.not_lt.1 a5, Int.not_lt.1 a6, a7⟩))))))))
  by_cases a8 : z ≤ s + g
  · exact Or.inr (Or.inr (Or.inr (Or.inr (Or.inr (Or.inr (Or.inr (Or.inr (Or.inl (⟨Int.not_lt.1 a0, Int.not_lt.1 a1, Int.not_lt.1 a2, Int.not_lt.1 a3, Int.not_lt.1 a4, Int.not_lt.1 a5, Int.not_lt.1 a6, Int.not_lt.1 a7, a8⟩)))))))))
  by_cases a9 : 99 < z
  · exact Or.inr (Or.inr (Or.inr (Or.inr (Or.inr (Or.inr (Or.inr (Or.inr (Or.inr (Or.inl (⟨Int.not_lt.1 a0, Int.not_lt.1 a1, Int.not_lt.1 a2, Int.not_lt.1 a3, Int.not_lt.1 a4, Int.not_lt.1 a5, Int.not_lt.1 a6, Int.not_lt.1 a7, Int.not_le.1 a8, a9⟩))))))))))
  by_cases a10 : o < 0
  · exact Or.inr (Or.inr (Or.inr (Or.inr (Or.inr (Or.inr (Or.inr (Or.inr (Or.inr (Or.inr (Or.inl (⟨Int.not_lt.1 a0, Int.not_lt.1 a1, Int.not_lt.1 a2, Int.not_lt.1 a3, Int.not_lt.1 a4, Int.not_lt.1 a5, Int.not_lt.1 a6, Int.not_lt.1 a7, Int.not_le.1 a8, Int.not_lt.1 a9, a10⟩)))))))))))
  by_cases a11 : 9 < o
  · exact Or.inr (Or.inr (Or.inr (Or.inr (Or.inr (Or.inr (Or.inr (Or.inr (Or.inr (Or.inr (Or.inr (⟨Int.not_lt.1 a0, Int.not_lt.1 a1, Int.not_lt.1 a2, Int.not_lt.1 a3, Int.not_lt.1 a4, Int.not_lt.1 a5, Int.not_lt.1 a6, Int.not_lt.1 a7, Int.not_le.1 a8, Int.not_lt.1 a9, Int.not_lt.1 a10, a11⟩)))))))))))
  exfalso
  simp only [cfgB, decide_eq_false_iff_not] at h
  exact h ⟨Int.not_lt.1 a0, Int.not_lt.1 a1, Int.not_lt.1 a2, Int.not_lt.1 a3, Int.not_lt.1 a4, Int.not_lt.1 a5, Int.not_lt.1 a6, Int.not_lt.1 a7, Int.not_le.1 a8, Int.not_lt.1 a9, Int.not_lt.1 a10, Int.not_lt.1 a11⟩

set_option maxHeartbeats 1600000 in
theorem may_no (b s g u z o : Int) (w : World) (h : cfgB b s g u z o = false) :
    Calls Tryz.prog 25 #[.int .i64 b, .int .i64 s, .int .i64 g, .int .i64 u, .int .i64 z, .int .i64 o] w
      fun e w' => e = .returned (.bool false) ∧ w' = w := by
  have h' := cfg_cases h
  clear h
  rcases h' with h | h | h | h | h | h | h | h | h | h | h | h
  all_goals
    (repeat (obtain ⟨hx, h⟩ := h))
    go_enter Tryz.func25, Tryz.ntmps25
    go_wp2
    go_ret
    first | exact ⟨rfl, rfl⟩ | exact ⟨ret_bool (by simp; omega), rfl⟩

end Go.Proofs.YteekoiljkklnmaaGreatDoor

