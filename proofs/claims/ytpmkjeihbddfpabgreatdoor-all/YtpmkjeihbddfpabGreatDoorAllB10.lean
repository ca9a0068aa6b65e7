import Derived.Test.YtpmkjeihbddfpabGreatDoorAllB9
/- OUR OWN. The program's heap: blockToFill's answer, makeObject. -/
namespace Go.Proofs.YtpmkjeihbddfpabGreatDoor
open Go.RowKit
set_option linter.unusedVariables false
set_option linter.unusedSimpArgs false

set_option maxHeartbeats 400000 in
theorem hnew_index {w : World} {h : Nat} (n : Int) (hn : n < 0 ∨ 4 < n) :
    Calls Tryz.prog 47 #[.pointer (some ⟨h, 0, none⟩), .int .i64 n] w fun e w' => e = .returned (.int .i64 6) ∧ w' = w := by
  rcases hn with hn | hn
  · go_enter Tryz.func47, Tryz.ntmps47
    go_wp2
    go_ret
    exact ⟨rfl, rfl⟩
  · have h0 : ¬ n < 0 := by omega
    go_enter Tryz.func47, Tryz.ntmps47
    go_wp2
    go_ret
    exact ⟨rfl, rfl⟩

set_option maxHeartbeats 400000 in
theorem hnew_deep {w : World} {h : Nat} {m : HeapM} (r : HeapAt w h m) (n : Int) (h0 : 0 ≤ n) (h4 : n ≤ 4) (hd : m.room ≤ m.stack.length) :
    Calls Tryz.prog 47 #[.pointer (some ⟨h, 0, none⟩), .int .i64 n] w fun e w' => e = .returned (.int .i64 7) ∧ Below w.heap.size w w' := by
  have D : Hid (Calls Tryz.prog 81 #[.pointer (some ⟨h, 0, none⟩)] w fun e w' => e = .returned (.bool true) ∧ Below w.heap.size w w') := (isDeep_any r).mono fun e w' ⟨h1, h2⟩ => ⟨h1.trans (ret_bool (by simpa using hd)), h2⟩
  clear r hd
  go_enter Tryz.func47, Tryz.ntmps47
  go_wp2_with fail
  refine Calls.mono D.out ?_
  rintro e w1 ⟨rfl, hb⟩
  have B : Hid (Below w.heap.size w w1) := hb
  clear hb D
  go_wp2
  go_ret
  exact ⟨rfl, B.out⟩

/-- what blockToFill is asked for: the state is the one behind what a heap does that has no free block -/
def FillSays (h N : Nat) (w : World) (m : HeapM) (s : St) (c : Cf) : Prop := ∀ W, Below w.heap.size w W →
  Calls Tryz.prog 82 #[.pointer (some ⟨h, 0, none⟩)] W fun e w' => ∃ m', HTurn h W m w' m' ∧ HB 0 h w' m' (roomS c s) c N ∧
    ((∃ k : Nat, free? (roomS c s) = some k ∧ e = .returned (.int .i64 ((k : Int) + 1))) ∨ (free? (roomS c s) = none ∧ e = .returned (.int .i64 0)))

theorem fill_mr {h N : Nat} {w : World} {m : HeapM} {s : St} {c : Cf} (p : HB 0 h w m s c N) (n : Nat) (hn : n ≤ 4) (hd : (s.stack.length : Int) < c.deep) (k : Nat) (hk : free? s = some k) :
    Calls Tryz.prog 83 #[.pointer (some ⟨h, 0, none⟩)] w fun e w2 => e = .returned (.tuple #[]) ∧ ∃ g cap u0 u1 u2, h < w2.heap.size ∧ g < w2.heap.size ∧
      w2.cell? ⟨h, 6, none⟩ = some (.slice (some ⟨g, 0, none⟩) (N + 1) cap) ∧ w2.cell? ⟨g, (k + 1) * 3, none⟩ = some u0 ∧ w2.cell? ⟨g, (k + 1) * 3 + 1, none⟩ = some u1 ∧ w2.cell? ⟨g, (k + 1) * 3 + 2, none⟩ = some u2 ∧
      w2.frozen? ⟨g, (k + 1) * 3, none⟩ = false ∧ w2.frozen? ⟨g, (k + 1) * 3 + 1, none⟩ = false ∧ w2.frozen? ⟨g, (k + 1) * 3 + 2, none⟩ = false ∧
      Calls Tryz.prog 46 #[.pointer (some ⟨h, 0, none⟩), .agg #[.int .i64 2, .int .i64 ((k : Int) + 1)]] ((((w2.setCell ⟨g, (k + 1) * 3, none⟩ (.int .i64 1)).setCell ⟨g, (k + 1) * 3 + 1, none⟩ (.int .i64 0)).setCell ⟨g, (k + 1) * 3 + 2, none⟩ (.slice (some ⟨w2.heap.size, 0, none⟩) n n)).alloc (.cells (madeCells #[.int .i64 0, .int .i64 0] (n * 2)) 87)).drew
        fun e w' => e = .returned (.int .i64 0) ∧ ∃ m', HTurn h w m w' m' ∧ HS m' (layS c.zero s (k + 1) n) c N := by
  obtain ⟨hkl, hkf, hkt⟩ := free_iff hk
  have hkN : k < N := by rw [p.good.len] at hkl; omega
  have hN := p.small
  have stOf : ∀ {W : World} {mm : HeapM} {ss : St} {j : Nat} {o : HObj}, HB 0 h W mm ss c N → mm.blks[j]? = some o → (ss.ob j).here = decide (o.state ≠ 0) := fun q ho => by rw [q.ob ho]; rfl
  refine (makeRoom_any p).mono ?_
  rintro e w2 ⟨he, m2, t, q⟩
  refine ⟨he, ?_⟩
  obtain ⟨g, cap, hv, hg, _, _, hfz, hobj⟩ := q.r.view q.len
  have hil : k + 1 < m2.blks.length := by rw [q.len]; omega
  have hio : m2.blks[k + 1]? = some m2.blks[k + 1] := List.getElem?_eq_getElem hil
  obtain ⟨c0, c1, c2⟩ := hobj (k + 1) hil
  have hst0 : (m2.blks[k + 1]).state = 0 := by
    have h1 := stOf q hio
    rw [(sh_enter c.zero 0 s).2 (k + 1), hkf] at h1
    simpa using h1.symm
  refine ⟨g, cap, _, _, _, lt_of_heap q.r.head, hg, by rw [q.r.cell.2.2.2.1, hv], c0, c1, c2, hfz _, hfz _, hfz _, ?_⟩
  have hb1 : Below w2.heap.size w2 (w2.alloc (.cells (madeCells #[.int .i64 0, .int .i64 0] (n * 2)) 87)) := (Below.refl _ _).alloc (Nat.le_refl _) _
  have t3 := q.r.placed q.len hb1 hv (k + 1) hio ⟨1, 0, .slice (some ⟨w2.heap.size, 0, none⟩) n n, List.replicate n (0, 0)⟩ (by
    show (World.alloc _ _).ownsRow 0 _ 2 _ (List.replicate n ((0, 0) : Int × Int)).length _
    have := own_made_two w2 87 (.int .i64 0) (.int .i64 0) n (by omega)
    simpa [HObj.row, hrow, flat_rep, valCells] using this) (fun b hbb => by
    have : b = w2.heap.size := by simpa [Value.ownBlock, eq_comm] using hbb
    omega)
  have hs3 := q.hs.lay (n := n) q.good hio hst0 (by omega) (.slice (some ⟨w2.heap.size, 0, none⟩) n n)
  have g3 := q.good.laid (n := n) (by rw [stOf q hio, hst0]; simp) (by rw [q.good.len]; omega) (by omega : 1 ≤ k + 1) hn
  have hes := enter_same c.zero 0 s
  have q3 : HB 0 h _ _ ((s.enter c.zero 0).put (k + 1) (newOb n)) c N := ⟨t3.drew.here, hs3, g3, p.cf, p.small, q.stack, q.globals⟩
  have hms : (m2.put (k + 1) ⟨1, 0, .slice (some ⟨w2.heap.size, 0, none⟩) n n, List.replicate n (0, 0)⟩).stack = s.stack := q3.mstack.trans hes.1
  have ew : layBlk (w2.alloc (.cells (madeCells #[.int .i64 0, .int .i64 0] (n * 2)) 87)) g (k + 1) ⟨1, 0, .slice (some ⟨w2.heap.size, 0, none⟩) n n, List.replicate n (0, 0)⟩ =
      ((((w2.setCell ⟨g, (k + 1) * 3, none⟩ (.int .i64 1)).setCell ⟨g, (k + 1) * 3 + 1, none⟩ (.int .i64 0)).setCell ⟨g, (k + 1) * 3 + 2, none⟩ (.slice (some ⟨w2.heap.size, 0, none⟩) n n)).alloc (.cells (madeCells #[.int .i64 0, .int .i64 0] (n * 2)) 87)) := by
    unfold layBlk
    simp only
    rw [alloc_setCell hg, alloc_setCell (by simpa [World.setCell] using hg), alloc_setCell (by simpa [World.setCell] using hg)]
  rw [ew] at t3 q3
  refine (hpush_room q3.r (by rw [hms]; exact p.stack) (2, (k : Int) + 1) (by rw [hms, q3.hs.deep]; exact hd)).mono ?_
  rintro e w' ⟨he, v', t4⟩
  refine ⟨he, _, (t.trans t3.drew).trans t4, ?_⟩
  have hs4 := q3.hs
  refine ⟨?_, hs4.deep, hs4.zero, hs4.over, hs4.budget, hs4.state, fun i o hio hst => ?_⟩
  · unfold layS
    rw [show (⟨true, List.replicate n (0, 0), false, false⟩ : Ob) = newOb n from rfl, lay_enter p.good c.zero hkf hkl (by omega), ← hs4.st]
    show (⟨_, _, _, _⟩ : St) = ⟨_, _, _, _⟩
    rw [hms]
    rfl
  · have := hs4.cnt i o hio hst
    have ec : (layS c.zero s (k + 1) n).count i = ((s.enter c.zero 0).put (k + 1) (newOb n)).count i := by
      unfold layS
      rw [show (⟨true, List.replicate n (0, 0), false, false⟩ : Ob) = newOb n from rfl, lay_enter p.good c.zero hkf hkl (by omega)]
      rfl
    rw [ec]; exact this

set_option maxHeartbeats 1600000 in
theorem hnew_do {h N : Nat} {w : World} {m : HeapM} {s : St} {c : Cf} (p : HB 0 h w m s c N) (n : Nat) (hn : n ≤ 4) (hd : (s.stack.length : Int) < c.deep) (fill : FillSays h N w m s c) :
    Calls Tryz.prog 47 #[.pointer (some ⟨h, 0, none⟩), .int .i64 n] w
      fun e w' => e = .returned (.int .i64 (newS c s n).2.2) ∧ ∃ m', HTurn h w m w' m' ∧ HS m' (newS c s n).1 c N := by
  have hN := p.small
  have hdm : (m.stack.length : Int) < m.room := by rw [p.mstack, p.hs.deep]; exact hd
  have hnS : newS c s n = match free? (roomS c s) with
      | none => (roomS c s, 0, 8)
      | some k => (layS c.zero (roomS c s) (k + 1) n, 0, 0) := by
    unfold newS
    refine (if_neg (by omega)).trans ((if_neg (by omega)).trans ?_)
    rw [Int.toNat_natCast]
    cases free? (roomS c s) <;> rfl
  obtain ⟨tgt, htgt⟩ : ∃ t : St × Int × Int, newS c s n = t := ⟨_, rfl⟩
  rw [htgt] at hnS ⊢
  have D : Hid (Calls Tryz.prog 81 #[.pointer (some ⟨h, 0, none⟩)] w fun e w' => e = .returned (.bool false) ∧ Below w.heap.size w w') := (isDeep_any p.r).mono fun e w' ⟨h1, h2⟩ => ⟨h1.trans (ret_bool (by simp; omega)), h2⟩
  have F : Hid (∀ W, Below w.heap.size w W → Calls Tryz.prog 82 #[.pointer (some ⟨h, 0, none⟩)] W fun e w1 =>
      (e = .returned (.int .i64 0) ∧ tgt.2.2 = 8 ∧ ∃ m', HTurn h w m w1 m' ∧ HS m' tgt.1 c N) ∨
      ∃ k : Nat, k < N ∧ e = .returned (.int .i64 ((k : Int) + 1)) ∧ tgt.2.2 = 0 ∧ Calls Tryz.prog 83 #[.pointer (some ⟨h, 0, none⟩)] w1 fun e w2 => e = .returned (.tuple #[]) ∧ ∃ g cap u0 u1 u2, h < w2.heap.size ∧ g < w2.heap.size ∧
        w2.cell? ⟨h, 6, none⟩ = some (.slice (some ⟨g, 0, none⟩) (N + 1) cap) ∧ w2.cell? ⟨g, (k + 1) * 3, none⟩ = some u0 ∧ w2.cell? ⟨g, (k + 1) * 3 + 1, none⟩ = some u1 ∧ w2.cell? ⟨g, (k + 1) * 3 + 2, none⟩ = some u2 ∧
        w2.frozen? ⟨g, (k + 1) * 3, none⟩ = false ∧ w2.frozen? ⟨g, (k + 1) * 3 + 1, none⟩ = false ∧ w2.frozen? ⟨g, (k + 1) * 3 + 2, none⟩ = false ∧
        Calls Tryz.prog 46 #[.pointer (some ⟨h, 0, none⟩), .agg #[.int .i64 2, .int .i64 ((k : Int) + 1)]] ((((w2.setCell ⟨g, (k + 1) * 3, none⟩ (.int .i64 1)).setCell ⟨g, (k + 1) * 3 + 1, none⟩ (.int .i64 0)).setCell ⟨g, (k + 1) * 3 + 2, none⟩ (.slice (some ⟨w2.heap.size, 0, none⟩) n n)).alloc (.cells (madeCells #[.int .i64 0, .int .i64 0] (n * 2)) 87)).drew
          fun e w' => e = .returned (.int .i64 0) ∧ ∃ m', HTurn h w m w' m' ∧ HS m' tgt.1 c N) := by
    intro W hb
    refine (fill W hb).mono ?_
    rintro e w1 ⟨m1, t1, q1, hf⟩
    have T1 : HTurn h w m w1 m1 := .pre p.r hb t1
    rcases hf with ⟨k, hk, rfl⟩ | ⟨hk, rfl⟩
    · rw [hk] at hnS
      subst hnS
      obtain ⟨hkl, _, _⟩ := free_iff hk
      refine .inr ⟨k, by rw [q1.good.len] at hkl; omega, rfl, rfl, (fill_mr q1 n hn (by rw [room_stack]; exact hd) k hk).mono ?_⟩
      rintro e w2 ⟨he, g, cap, u0, u1, u2, a1, a2, a3, a4, a5, a6, a7, a8, a9, hp⟩
      refine ⟨he, g, cap, u0, u1, u2, a1, a2, a3, a4, a5, a6, a7, a8, a9, hp.mono ?_⟩
      rintro e w3 ⟨he, m', t2, hs⟩
      exact ⟨he, m', T1.trans t2, hs⟩
    · rw [hk] at hnS
      subst hnS
      exact .inl ⟨rfl, rfl, m1, T1, q1.hs⟩
  have hnI : ¬ (n : Int) < 0 := by omega
  have hn4 : ¬ (4 : Int) < n := by omega
  have mk1 := run_make_two (P := Tryz.prog) 59 87 (.int .i64 0) (.int .i64 0) 16 Tryz.underlying59 infoValue .i64 .i64 n (by omega) (by omega)
  clear p fill hd hdm htgt hnS
  obtain ⟨ts, t0, te⟩ := tgt
  simp only at F ⊢
  go_enter Tryz.func47, Tryz.ntmps47
  go_wp2_with fail
  refine Calls.mono D.out ?_
  rintro e w1 ⟨rfl, hb⟩
  have F1 : Hid _ := F.out _ hb
  clear hb D F
  go_wp2_with fail
  refine Calls.mono F1.out ?_
  rintro e w2 hf
  clear F1
  rcases hf with ⟨rfl, rfl, hm⟩ | ⟨k, hkN, rfl, rfl, hmr⟩
  · have M : Hid _ := hm
    clear hm
    go_wp2
    go_ret
    exact ⟨rfl, M.out⟩
  have MR : Hid _ := hmr
  clear hmr
  have hk0 : ((k : Int) + 1 == 0) = false := by simp; omega
  have hk1 : ¬ ((k : Int) + 1 = 0) := by omega
  have hkI : (k : Int) + 1 < (N : Int) + 1 := by omega
  go_wp2_with fail
  refine Calls.mono MR.out ?_
  rintro e w3 ⟨rfl, g, cap, u0, u1, u2, hh, hg, a0, a1, a2, a3, f1, f2, f3, hpush⟩
  have PU : Hid _ := hpush
  clear hpush MR
  have al : ∀ (ob : Obj) (b o : Nat), b < w3.heap.size → (w3.alloc ob).cell? ⟨b, o, none⟩ = w3.cell? ⟨b, o, none⟩ := fun ob b o hlt => World.cell?_of_block (hao hlt)
  have t0 : ∀ ob, (w3.alloc ob).cell? ⟨h, 6, none⟩ = w3.cell? ⟨h, 6, none⟩ := fun ob => al ob h 6 hh
  have t1 : ∀ ob, (w3.alloc ob).cell? ⟨g, (k + 1) * 3, none⟩ = w3.cell? ⟨g, (k + 1) * 3, none⟩ := fun ob => al ob g _ hg
  have t2 : ∀ ob, (w3.alloc ob).cell? ⟨g, (k + 1) * 3 + 1, none⟩ = w3.cell? ⟨g, (k + 1) * 3 + 1, none⟩ := fun ob => al ob g _ hg
  have t3 : ∀ ob, (w3.alloc ob).cell? ⟨g, (k + 1) * 3 + 2, none⟩ = w3.cell? ⟨g, (k + 1) * 3 + 2, none⟩ := fun ob => al ob g _ hg
  have z1 : ∀ ob, (w3.alloc ob).frozen? ⟨g, (k + 1) * 3, none⟩ = w3.frozen? ⟨g, (k + 1) * 3, none⟩ := fun ob => World.frozen?_of_block (hao hg)
  have z2 : ∀ ob, (w3.alloc ob).frozen? ⟨g, (k + 1) * 3 + 1, none⟩ = w3.frozen? ⟨g, (k + 1) * 3 + 1, none⟩ := fun ob => World.frozen?_of_block (hao hg)
  have z3 : ∀ ob, (w3.alloc ob).frozen? ⟨g, (k + 1) * 3 + 2, none⟩ = w3.frozen? ⟨g, (k + 1) * 3 + 2, none⟩ := fun ob => World.frozen?_of_block (hao hg)
  clear al
  go_wp2_with fail
  go_region
  all_goals go_wp2_with fail
  all_goals refine Calls.mono PU.out ?_
  all_goals rintro e w4 ⟨rfl, hm⟩
  all_goals have M : Hid _ := hm
  all_goals clear hm
  all_goals go_wp2
  all_goals go_ret
  all_goals exact ⟨rfl, M.out⟩

end Go.Proofs.YtpmkjeihbddfpabGreatDoor

