/- OUR OWN. The document's heap: stored, by cases. -/
import Derived.Test.YtblekkjamemloaaRefO
namespace Go.Proofs.Ytblekkjamemloaa
open Go.RowKit
set_option linter.unusedVariables false
set_option linter.unusedSimpArgs false

set_option maxHeartbeats 1600000 in
theorem stored_cn (h N g capB fg fl fc i k len cap : Nat) (ao : Option Addr) (jx : Nat) (hjx : jx ≤ N) (y1 y2 : Int) (yk : ¬ y1 = 2) (q1 over : Int) (cx ex : Nat) (c7 : ¬ (cx : Int) = 7) (w : World) (Mid1 MidP TailP Done : World → Prop) (E : Hid (StoreEnv h N g capB fg fl fc i k 2 (jx : Int) y1 y2 q1 over cx ex w Mid1 MidP TailP Done))
    (cS : w.cell? ⟨h, 7, none⟩ = some (.slice ao len cap)) (hc : ¬ (len : Int) < 2) (hl : len ≤ 16) (hN : N ≤ 99) (hi : i ≤ N) (hk : k < fl) (hfl : fl ≤ 4) (hh : h < w.heap.size) (hg : g < w.heap.size) (hfg : fg < w.heap.size) (hgf : ¬ g = fg) :
    Calls Try.prog 66 #[.pointer (some ⟨h, 0, none⟩), .int .i64 k] w fun e w' => e = .returned (.int .i64 0) ∧ Done w' := by
  have hiI : (i : Int) < (N : Int) + 1 := by omega
  have hkI : (k : Int) < fl := by omega
  have hk0 : ¬ (k : Int) < 0 := by omega
  have hkd : decide ((k : Int) < 0) = false := by simp
  go_enter Try.func66, Try.ntmps66
  go_wp2_with fail
  refine Calls.mono E.out.d0 ?_
  rintro e w1 ⟨rfl, hb⟩
  have B : Hid (Below w.heap.size w w1) := hb
  clear hb
  go_wp2_with fail
  refine Calls.mono (E.out.d1 _ (B.out.alloc B.out.size _)) ?_
  rintro e w2 ⟨rfl, hb⟩
  have B2 : Hid (Below w.heap.size w w2 ∧ w1.heap.size + 1 ≤ w2.heap.size ∧ w2.heap[w1.heap.size]? = some (.cells #[.int .i64 2, .int .i64 (jx : Int)] 96)) := ⟨(B.out.alloc B.out.size _).trans (hb.mono (by simp; have := B.out.size; omega)), by have := hb.size; simpa using this, boxed' hb⟩
  clear hb
  go_wp2_with fail
  refine Calls.mono (E.out.obj _) ?_
  rintro e w3 ⟨rfl, hb⟩
  have B3 : Hid (Below w.heap.size w w3 ∧ w2.heap.size + 1 ≤ w3.heap.size ∧ w3.heap[w2.heap.size]? = some (.cells #[.int .i64 q1, .int .i64 i] 96) ∧ w3.heap[w1.heap.size]? = some (.cells #[.int .i64 2, .int .i64 (jx : Int)] 96)) :=
    ⟨(B2.out.1.alloc B2.out.1.size _).trans (hb.mono (by simp; have := B2.out.1.size; omega)), by have := hb.size; simpa using this, boxed' hb, by
      have h1 := B2.out.2.1
      rw [hb.block _ (by simp; omega), hao (by omega)]; exact B2.out.2.2⟩
  have l1 : w3.cell? ⟨w2.heap.size, 1, none⟩ = some (.int .i64 i) := cell_of_heap B3.out.2.2.1 rfl
  obtain ⟨d0, d1⟩ := E.out.old w3 B3.out.1
  clear hb
  go_wp2_with fail
  go_quiet (fail)
  go_wp2_with fail
  refine Calls.mono (E.out.pop _ (below_drewN B3.out.1 _)) ?_
  rintro e w4 ⟨rfl, hm, hsz, hloc⟩
  have a0 := hloc w1.heap.size _ B.out.size B3.out.2.2.2
  have b0 := hloc w2.heap.size _ B2.out.1.size B3.out.2.2.1
  have hsz' : w3.heap.size ≤ w4.heap.size := hsz
  have LOC : Hid (w4.heap[w1.heap.size]? = some (.cells #[.int .i64 2, .int .i64 (jx : Int)] 96) ∧ w4.heap[w2.heap.size]? = some (.cells #[.int .i64 q1, .int .i64 i] 96)) := ⟨a0, b0⟩
  have v0 : w4.cell? ⟨w1.heap.size, 0, none⟩ = some (.int .i64 2) := cell_of_heap a0 rfl
  have v1 : w4.cell? ⟨w1.heap.size, 1, none⟩ = some (.int .i64 (jx : Int)) := cell_of_heap a0 rfl
  have u1 : w4.cell? ⟨w2.heap.size, 1, none⟩ = some (.int .i64 i) := cell_of_heap b0 rfl
  have s1 := B.out.size
  have s2 := B2.out.2.1
  have s3 := B3.out.2.1
  have M4 : Hid (Mid1 w4) := hm
  obtain ⟨m0, m1, m2, m3, m4, m5, m6⟩ := E.out.mid w4 (E.out.mid1 _ hm)
  have al : ∀ (ob : Obj) (b o : Nat), b < w4.heap.size → (w4.alloc ob).cell? ⟨b, o, none⟩ = w4.cell? ⟨b, o, none⟩ := fun ob b o hlt => World.cell?_of_block (hao hlt)
  have t0 : ∀ ob, (w4.alloc ob).cell? ⟨h, 5, none⟩ = w4.cell? ⟨h, 5, none⟩ := fun ob => al ob h 5 (by omega)
  have t1 : ∀ ob, (w4.alloc ob).cell? ⟨g, i * 4 + 1, none⟩ = w4.cell? ⟨g, i * 4 + 1, none⟩ := fun ob => al ob g _ (by omega)
  have t2 : ∀ ob, (w4.alloc ob).cell? ⟨fg, k * 2, none⟩ = w4.cell? ⟨fg, k * 2, none⟩ := fun ob => al ob fg _ (by omega)
  have t3 : ∀ ob, (w4.alloc ob).cell? ⟨fg, k * 2 + 1, none⟩ = w4.cell? ⟨fg, k * 2 + 1, none⟩ := fun ob => al ob fg _ (by omega)
  have t4 : ∀ ob, (w4.alloc ob).cell? ⟨w2.heap.size, 1, none⟩ = w4.cell? ⟨w2.heap.size, 1, none⟩ := fun ob => al ob w2.heap.size _ (by omega)
  clear hm hsz hloc a0 b0 d0 d1 l1 B B2 B3 al
  go_wp2_with fail
  go_region
  obtain ⟨w5, hw5⟩ : ∃ w5, w5 = (w4.alloc (.cells #[.int .i64 y1, .int .i64 y2] 96)).drew := ⟨_, rfl⟩
  rw [← hw5]
  have M5 : Hid (Mid1 w5) := by rw [hw5]; exact E.out.mid1B _ _ M4.out ((Below.refl _ _).alloc (Nat.le_refl _) _).drew
  have L5 : Hid (w5.heap[w1.heap.size]? = some (.cells #[.int .i64 2, .int .i64 (jx : Int)] 96) ∧ w5.heap[w2.heap.size]? = some (.cells #[.int .i64 q1, .int .i64 i] 96) ∧ w5.heap[w4.heap.size]? = some (.cells #[.int .i64 y1, .int .i64 y2] 96)) := by
    rw [hw5]
    refine ⟨?_, ?_, heap_alloc_new w4 _⟩
    · show (w4.alloc _).heap[w1.heap.size]? = _
      rw [hao (by omega)]; exact LOC.out.1
    · show (w4.alloc _).heap[w2.heap.size]? = _
      rw [hao (by omega)]; exact LOC.out.2
  have s5 : w5.heap.size = w4.heap.size + 1 := by rw [hw5]; simp
  clear hw5 t0 t1 t2 t3 t4 m0 m1 m2 m3 m4 m5 m6 v0 v1 u1 LOC M4
  have lv0 : w5.cell? ⟨w1.heap.size, 0, none⟩ = some (.int .i64 2) := cell_of_heap L5.out.1 rfl
  have lv1 : w5.cell? ⟨w1.heap.size, 1, none⟩ = some (.int .i64 (jx : Int)) := cell_of_heap L5.out.1 rfl
  have ly0 : w5.cell? ⟨w4.heap.size, 0, none⟩ = some (.int .i64 y1) := cell_of_heap L5.out.2.2 rfl
  have ly1 : w5.cell? ⟨w4.heap.size, 1, none⟩ = some (.int .i64 y2) := cell_of_heap L5.out.2.2 rfl
  have yk2 : (y1 == 2) = false := by simpa using yk
  have hxI : (jx : Int) < (N : Int) + 1 := by omega
  go_wp2_with fail
  refine Calls.mono (E.out.count _ M5.out) ?_
  rintro e wc ⟨rfl, hwc⟩
  subst hwc
  go_wp2_with fail
  refine Calls.mono (E.out.extras _ M5.out) ?_
  rintro e w6 ⟨rfl, hb⟩
  have M6 : Hid (MidP w6) := E.out.mid1 _ (E.out.mid1B _ _ M5.out hb)
  have s6 : w4.heap.size + 1 ≤ w6.heap.size := by have := hb.size; omega
  have L6 : Hid (w6.heap[w1.heap.size]? = some (.cells #[.int .i64 2, .int .i64 (jx : Int)] 96) ∧ w6.heap[w2.heap.size]? = some (.cells #[.int .i64 q1, .int .i64 i] 96) ∧ w6.heap[w4.heap.size]? = some (.cells #[.int .i64 y1, .int .i64 y2] 96)) := by
    refine ⟨?_, ?_, ?_⟩
    · rw [hb.block _ (by omega)]; exact L5.out.1
    · rw [hb.block _ (by omega)]; exact L5.out.2.1
    · rw [hb.block _ (by omega)]; exact L5.out.2.2
  have o4 := (E.out.mid w6 M6.out).2.2.2.2.2.2
  have o5 := (E.out.mid w6 M6.out).1
  have k1 : w6.cell? ⟨w1.heap.size, 1, none⟩ = some (.int .i64 (jx : Int)) := cell_of_heap L6.out.1 rfl
  have k0 : w6.cell? ⟨w1.heap.size, 0, none⟩ = some (.int .i64 2) := cell_of_heap L6.out.1 rfl
  clear hb lv0 lv1 ly0 ly1 M5 L5
  have c72 : ((cx : Int) == 7) = false := by simpa using c7
  have M : Hid (MidP w6) := M6.out
  have L : Hid _ := L6.out
  clear M6 L6
  have lv0 : w6.cell? ⟨w1.heap.size, 0, none⟩ = some (.int .i64 2) := cell_of_heap L.out.1 rfl
  have lv1 : w6.cell? ⟨w1.heap.size, 1, none⟩ = some (.int .i64 (jx : Int)) := cell_of_heap L.out.1 rfl
  have lu1 : w6.cell? ⟨w2.heap.size, 1, none⟩ = some (.int .i64 i) := cell_of_heap L.out.2.1 rfl
  have ly0 : w6.cell? ⟨w4.heap.size, 0, none⟩ = some (.int .i64 y1) := cell_of_heap L.out.2.2 rfl
  have ly1 : w6.cell? ⟨w4.heap.size, 1, none⟩ = some (.int .i64 y2) := cell_of_heap L.out.2.2 rfl
  obtain ⟨n0, n1, n2, n3, n4, n5, n6⟩ := E.out.mid w6 M.out
  have TP : Hid (TailP ((w6.setCell ⟨fg, k * 2, none⟩ (.int .i64 2)).setCell ⟨fg, k * 2 + 1, none⟩ (.int .i64 (jx : Int)))) := E.out.store w6 M.out
  go_wp2_with fail
  go_region
  obtain ⟨w8, hw8⟩ : ∃ w8, w8 = ((w6.setCell ⟨fg, k * 2, none⟩ (.int .i64 2)).setCell ⟨fg, k * 2 + 1, none⟩ (.int .i64 (jx : Int))).drew := ⟨_, rfl⟩
  rw [← hw8]
  have T8 : Hid (TailP w8) := by rw [hw8]; exact E.out.tailB _ _ TP.out ⟨rfl, rfl, rfl, Nat.le_refl _, fun _ _ => rfl⟩
  have h8 : w8.heap[w4.heap.size]? = some (.cells #[.int .i64 y1, .int .i64 y2] 96) := by
    rw [hw8]
    show ((w6.setCell ⟨fg, k * 2, none⟩ (.int .i64 2)).setCell ⟨fg, k * 2 + 1, none⟩ (.int .i64 (jx : Int))).heap[w4.heap.size]? = _
    rw [hso (by omega), hso (by omega)]; exact L.out.2.2
  have z0 : w8.cell? ⟨w4.heap.size, 0, none⟩ = some (.int .i64 y1) := cell_of_heap h8 rfl
  have z1 : w8.cell? ⟨w4.heap.size, 1, none⟩ = some (.int .i64 y2) := cell_of_heap h8 rfl
  obtain ⟨c5, cst⟩ := E.out.tail w8 T8.out
  have ST : Hid (∀ j : Nat, j ≤ N → ∃ u, w8.cell? ⟨g, j * 4 + 2, none⟩ = some (.bool u)) := cst
  clear lv0 lv1 lu1 ly0 ly1 n0 n1 n2 n3 n4 n5 n6 TP hw8 h8 M L cst
  go_wp2_with fail
  go_quiet (fail)
  go_wp2
  go_ret
  exact ⟨rfl, E.out.done _ (E.out.tailB _ _ T8.out ⟨rfl, rfl, rfl, Nat.le_refl _, fun _ _ => rfl⟩)⟩

set_option maxHeartbeats 1600000 in
theorem stored_cr (h N g capB fg fl fc i k len cap : Nat) (ao : Option Addr) (jx : Nat) (hjx : jx ≤ N) (jy : Nat) (hjy : jy ≤ N) (q1 over : Int) (cx ex : Nat) (c7 : ¬ (cx : Int) = 7) (hne : ¬ (jy : Int) = (jx : Int)) (w : World) (Mid1 MidP TailP Done : World → Prop) (E : Hid (StoreEnv h N g capB fg fl fc i k 2 (jx : Int) 2 (jy : Int) q1 over cx ex w Mid1 MidP TailP Done))
    (cS : w.cell? ⟨h, 7, none⟩ = some (.slice ao len cap)) (hc : ¬ (len : Int) < 2) (hl : len ≤ 16) (hN : N ≤ 99) (hi : i ≤ N) (hk : k < fl) (hfl : fl ≤ 4) (hh : h < w.heap.size) (hg : g < w.heap.size) (hfg : fg < w.heap.size) (hgf : ¬ g = fg) :
    Calls Try.prog 66 #[.pointer (some ⟨h, 0, none⟩), .int .i64 k] w fun e w' => e = .returned (.int .i64 0) ∧ Done w' := by
  have hiI : (i : Int) < (N : Int) + 1 := by omega
  have hkI : (k : Int) < fl := by omega
  have hk0 : ¬ (k : Int) < 0 := by omega
  have hkd : decide ((k : Int) < 0) = false := by simp
  go_enter Try.func66, Try.ntmps66
  go_wp2_with fail
  refine Calls.mono E.out.d0 ?_
  rintro e w1 ⟨rfl, hb⟩
  have B : Hid (Below w.heap.size w w1) := hb
  clear hb
  go_wp2_with fail
  refine Calls.mono (E.out.d1 _ (B.out.alloc B.out.size _)) ?_
  rintro e w2 ⟨rfl, hb⟩
  have B2 : Hid (Below w.heap.size w w2 ∧ w1.heap.size + 1 ≤ w2.heap.size ∧ w2.heap[w1.heap.size]? = some (.cells #[.int .i64 2, .int .i64 (jx : Int)] 96)) := ⟨(B.out.alloc B.out.size _).trans (hb.mono (by simp; have := B.out.size; omega)), by have := hb.size; simpa using this, boxed' hb⟩
  clear hb
  go_wp2_with fail
  refine Calls.mono (E.out.obj _) ?_
  rintro e w3 ⟨rfl, hb⟩
  have B3 : Hid (Below w.heap.size w w3 ∧ w2.heap.size + 1 ≤ w3.heap.size ∧ w3.heap[w2.heap.size]? = some (.cells #[.int .i64 q1, .int .i64 i] 96) ∧ w3.heap[w1.heap.size]? = some (.cells #[.int .i64 2, .int .i64 (jx : Int)] 96)) :=
    ⟨(B2.out.1.alloc B2.out.1.size _).trans (hb.mono (by simp; have := B2.out.1.size; omega)), by have := hb.size; simpa using this, boxed' hb, by
      have h1 := B2.out.2.1
      rw [hb.block _ (by simp; omega), hao (by omega)]; exact B2.out.2.2⟩
  have l1 : w3.cell? ⟨w2.heap.size, 1, none⟩ = some (.int .i64 i) := cell_of_heap B3.out.2.2.1 rfl
  obtain ⟨d0, d1⟩ := E.out.old w3 B3.out.1
  clear hb
  go_wp2_with fail
  go_quiet (fail)
  go_wp2_with fail
  refine Calls.mono (E.out.pop _ (below_drewN B3.out.1 _)) ?_
  rintro e w4 ⟨rfl, hm, hsz, hloc⟩
  have a0 := hloc w1.heap.size _ B.out.size B3.out.2.2.2
  have b0 := hloc w2.heap.size _ B2.out.1.size B3.out.2.2.1
  have hsz' : w3.heap.size ≤ w4.heap.size := hsz
  have LOC : Hid (w4.heap[w1.heap.size]? = some (.cells #[.int .i64 2, .int .i64 (jx : Int)] 96) ∧ w4.heap[w2.heap.size]? = some (.cells #[.int .i64 q1, .int .i64 i] 96)) := ⟨a0, b0⟩
  have v0 : w4.cell? ⟨w1.heap.size, 0, none⟩ = some (.int .i64 2) := cell_of_heap a0 rfl
  have v1 : w4.cell? ⟨w1.heap.size, 1, none⟩ = some (.int .i64 (jx : Int)) := cell_of_heap a0 rfl
  have u1 : w4.cell? ⟨w2.heap.size, 1, none⟩ = some (.int .i64 i) := cell_of_heap b0 rfl
  have s1 := B.out.size
  have s2 := B2.out.2.1
  have s3 := B3.out.2.1
  have M4 : Hid (Mid1 w4) := hm
  obtain ⟨m0, m1, m2, m3, m4, m5, m6⟩ := E.out.mid w4 (E.out.mid1 _ hm)
  have al : ∀ (ob : Obj) (b o : Nat), b < w4.heap.size → (w4.alloc ob).cell? ⟨b, o, none⟩ = w4.cell? ⟨b, o, none⟩ := fun ob b o hlt => World.cell?_of_block (hao hlt)
  have t0 : ∀ ob, (w4.alloc ob).cell? ⟨h, 5, none⟩ = w4.cell? ⟨h, 5, none⟩ := fun ob => al ob h 5 (by omega)
  have t1 : ∀ ob, (w4.alloc ob).cell? ⟨g, i * 4 + 1, none⟩ = w4.cell? ⟨g, i * 4 + 1, none⟩ := fun ob => al ob g _ (by omega)
  have t2 : ∀ ob, (w4.alloc ob).cell? ⟨fg, k * 2, none⟩ = w4.cell? ⟨fg, k * 2, none⟩ := fun ob => al ob fg _ (by omega)
  have t3 : ∀ ob, (w4.alloc ob).cell? ⟨fg, k * 2 + 1, none⟩ = w4.cell? ⟨fg, k * 2 + 1, none⟩ := fun ob => al ob fg _ (by omega)
  have t4 : ∀ ob, (w4.alloc ob).cell? ⟨w2.heap.size, 1, none⟩ = w4.cell? ⟨w2.heap.size, 1, none⟩ := fun ob => al ob w2.heap.size _ (by omega)
  clear hm hsz hloc a0 b0 d0 d1 l1 B B2 B3 al
  go_wp2_with fail
  go_region
  obtain ⟨w5, hw5⟩ : ∃ w5, w5 = (w4.alloc (.cells #[.int .i64 2, .int .i64 (jy : Int)] 96)).drew := ⟨_, rfl⟩
  rw [← hw5]
  have M5 : Hid (Mid1 w5) := by rw [hw5]; exact E.out.mid1B _ _ M4.out ((Below.refl _ _).alloc (Nat.le_refl _) _).drew
  have L5 : Hid (w5.heap[w1.heap.size]? = some (.cells #[.int .i64 2, .int .i64 (jx : Int)] 96) ∧ w5.heap[w2.heap.size]? = some (.cells #[.int .i64 q1, .int .i64 i] 96) ∧ w5.heap[w4.heap.size]? = some (.cells #[.int .i64 2, .int .i64 (jy : Int)] 96)) := by
    rw [hw5]
    refine ⟨?_, ?_, heap_alloc_new w4 _⟩
    · show (w4.alloc _).heap[w1.heap.size]? = _
      rw [hao (by omega)]; exact LOC.out.1
    · show (w4.alloc _).heap[w2.heap.size]? = _
      rw [hao (by omega)]; exact LOC.out.2
  have s5 : w5.heap.size = w4.heap.size + 1 := by rw [hw5]; simp
  clear hw5 t0 t1 t2 t3 t4 m0 m1 m2 m3 m4 m5 m6 v0 v1 u1 LOC M4
  have lv0 : w5.cell? ⟨w1.heap.size, 0, none⟩ = some (.int .i64 2) := cell_of_heap L5.out.1 rfl
  have lv1 : w5.cell? ⟨w1.heap.size, 1, none⟩ = some (.int .i64 (jx : Int)) := cell_of_heap L5.out.1 rfl
  have ly0 : w5.cell? ⟨w4.heap.size, 0, none⟩ = some (.int .i64 2) := cell_of_heap L5.out.2.2 rfl
  have ly1 : w5.cell? ⟨w4.heap.size, 1, none⟩ = some (.int .i64 (jy : Int)) := cell_of_heap L5.out.2.2 rfl
  have hxI : (jx : Int) < (N : Int) + 1 := by omega
  have hne2 : ((jy : Int) == (jx : Int)) = false := by simpa using hne
  go_wp2_with fail
  refine Calls.mono (E.out.count _ M5.out) ?_
  rintro e wc ⟨rfl, hwc⟩
  subst hwc
  go_wp2_with fail
  refine Calls.mono (E.out.extras _ M5.out) ?_
  rintro e w6 ⟨rfl, hb⟩
  have M6 : Hid (MidP w6) := E.out.mid1 _ (E.out.mid1B _ _ M5.out hb)
  have s6 : w4.heap.size + 1 ≤ w6.heap.size := by have := hb.size; omega
  have L6 : Hid (w6.heap[w1.heap.size]? = some (.cells #[.int .i64 2, .int .i64 (jx : Int)] 96) ∧ w6.heap[w2.heap.size]? = some (.cells #[.int .i64 q1, .int .i64 i] 96) ∧ w6.heap[w4.heap.size]? = some (.cells #[.int .i64 2, .int .i64 (jy : Int)] 96)) := by
    refine ⟨?_, ?_, ?_⟩
    · rw [hb.block _ (by omega)]; exact L5.out.1
    · rw [hb.block _ (by omega)]; exact L5.out.2.1
    · rw [hb.block _ (by omega)]; exact L5.out.2.2
  have o4 := (E.out.mid w6 M6.out).2.2.2.2.2.2
  have o5 := (E.out.mid w6 M6.out).1
  have k1 : w6.cell? ⟨w1.heap.size, 1, none⟩ = some (.int .i64 (jx : Int)) := cell_of_heap L6.out.1 rfl
  have k0 : w6.cell? ⟨w1.heap.size, 0, none⟩ = some (.int .i64 2) := cell_of_heap L6.out.1 rfl
  clear hb lv0 lv1 ly0 ly1 M5 L5
  have c72 : ((cx : Int) == 7) = false := by simpa using c7
  have M : Hid (MidP w6) := M6.out
  have L : Hid _ := L6.out
  clear M6 L6
  have lv0 : w6.cell? ⟨w1.heap.size, 0, none⟩ = some (.int .i64 2) := cell_of_heap L.out.1 rfl
  have lv1 : w6.cell? ⟨w1.heap.size, 1, none⟩ = some (.int .i64 (jx : Int)) := cell_of_heap L.out.1 rfl
  have lu1 : w6.cell? ⟨w2.heap.size, 1, none⟩ = some (.int .i64 i) := cell_of_heap L.out.2.1 rfl
  have ly0 : w6.cell? ⟨w4.heap.size, 0, none⟩ = some (.int .i64 2) := cell_of_heap L.out.2.2 rfl
  have ly1 : w6.cell? ⟨w4.heap.size, 1, none⟩ = some (.int .i64 (jy : Int)) := cell_of_heap L.out.2.2 rfl
  obtain ⟨n0, n1, n2, n3, n4, n5, n6⟩ := E.out.mid w6 M.out
  have TP : Hid (TailP ((w6.setCell ⟨fg, k * 2, none⟩ (.int .i64 2)).setCell ⟨fg, k * 2 + 1, none⟩ (.int .i64 (jx : Int)))) := E.out.store w6 M.out
  go_wp2_with fail
  go_region
  obtain ⟨w8, hw8⟩ : ∃ w8, w8 = ((w6.setCell ⟨fg, k * 2, none⟩ (.int .i64 2)).setCell ⟨fg, k * 2 + 1, none⟩ (.int .i64 (jx : Int))).drew := ⟨_, rfl⟩
  rw [← hw8]
  have T8 : Hid (TailP w8) := by rw [hw8]; exact E.out.tailB _ _ TP.out ⟨rfl, rfl, rfl, Nat.le_refl _, fun _ _ => rfl⟩
  have h8 : w8.heap[w4.heap.size]? = some (.cells #[.int .i64 2, .int .i64 (jy : Int)] 96) := by
    rw [hw8]
    show ((w6.setCell ⟨fg, k * 2, none⟩ (.int .i64 2)).setCell ⟨fg, k * 2 + 1, none⟩ (.int .i64 (jx : Int))).heap[w4.heap.size]? = _
    rw [hso (by omega), hso (by omega)]; exact L.out.2.2
  have z0 : w8.cell? ⟨w4.heap.size, 0, none⟩ = some (.int .i64 2) := cell_of_heap h8 rfl
  have z1 : w8.cell? ⟨w4.heap.size, 1, none⟩ = some (.int .i64 (jy : Int)) := cell_of_heap h8 rfl
  obtain ⟨c5, cst⟩ := E.out.tail w8 T8.out
  have ST : Hid (∀ j : Nat, j ≤ N → ∃ u, w8.cell? ⟨g, j * 4 + 2, none⟩ = some (.bool u)) := cst
  clear lv0 lv1 lu1 ly0 ly1 n0 n1 n2 n3 n4 n5 n6 TP hw8 h8 M L cst
  obtain ⟨u, hu⟩ := ST.out jy hjy
  have hjI : (jy : Int) < (N : Int) + 1 := by omega
  cases u with
  | true =>
    go_wp2_with fail
    go_quiet (fail)
    go_wp2
    go_ret
    exact ⟨rfl, E.out.done _ (E.out.tailB _ _ T8.out ⟨rfl, rfl, rfl, Nat.le_refl _, fun _ _ => rfl⟩)⟩
  | false =>
    go_wp2_with fail
    go_quiet (fail)
    have T9 : Hid (TailP (w8.drewN nq)) := E.out.tailB _ _ T8.out ⟨rfl, rfl, rfl, Nat.le_refl _, fun _ _ => rfl⟩
    go_wp2_with fail
    obtain ⟨c, hcnt⟩ := E.out.tcount _ jy T9.out
    refine Calls.mono hcnt ?_
    rintro e w9 ⟨rfl, hw9⟩
    have T10 : Hid (TailP w9) := by rw [hw9]; exact T9.out
    have z2 : w9.cell? ⟨w4.heap.size, 1, none⟩ = some (.int .i64 jy) := by rw [hw9]; exact z1
    clear hw9 hcnt T9
    by_cases c0 : c = 0
    · subst c0
      go_wp2_with fail
      refine Calls.mono (E.out.enter _ _ T10.out) ?_
      rintro e w11 ⟨rfl, hd⟩
      have DD : Hid (Done w11) := hd
      clear hd
      go_wp2
      go_ret
      exact ⟨rfl, DD.out⟩
    · have c1 : ((c : Int) == 0) = false := by simp; omega
      have c2 : ¬ (c : Int) = 0 := by omega
      go_wp2
      go_ret
      exact ⟨rfl, E.out.done _ T10.out⟩

end Go.Proofs.Ytblekkjamemloaa
