/- OUR OWN. The program's heap: freeBlock, makeObject; Do. -/
import Derived.Test.YtblekkjamemloaaHF
namespace Go.Proofs.Ytblekkjamemloaa
open Go.RowKit
set_option linter.unusedVariables false
set_option linter.unusedSimpArgs false

theorem pushA_room {d : Int} {s : St} {v : Int × Int} (h : ¬ d ≤ (s.stack.length : Int)) : pushA d s v = ({ s with stack := s.stack ++ [v] }, 0, 0) := by
  unfold pushA pushS
  rw [if_neg h]

def HRoom (m : HeapM) (N : Nat) (v : Int) : Prop :=
  (v = 0 ∧ ∀ j, j < N → ∃ o, m.blks[j + 1]? = some o ∧ o.taken = true) ∨
  ∃ k : Nat, k < N ∧ v = (k : Int) + 1 ∧ (∃ o, m.blks[k + 1]? = some o ∧ o.taken = false) ∧ ∀ j, j < k → ∃ o, m.blks[j + 1]? = some o ∧ o.taken = true

set_option maxHeartbeats 800000 in
theorem freeBlock_any {w : World} {h : Nat} {m : HeapM} {N : Nat} (r : HeapAt w h m) (ok : m.Ok N) :
    Calls Try.prog 43 #[.pointer (some ⟨h, 0, none⟩)] w fun e w' => ∃ v, e = .returned (.int .i64 v) ∧ HRoom m N v ∧ w' = w := by
  obtain ⟨g, cap, hv, _, _, _, _, hobj⟩ := r.view ok
  have cB : w.cell? ⟨h, 3, none⟩ = some (.slice (some ⟨g, 0, none⟩) (N + 1) cap) := by rw [r.cell.2.2.2.1, hv]
  have OBJ : Hid (∀ j, j < N → ∃ o : HObj, m.blks[j + 1]? = some o ∧ w.cell? ⟨g, (j + 1) * 2, none⟩ = some (.bool o.taken)) := fun j hj => by
    have hi : j + 1 < m.blks.length := by rw [ok.len]; omega
    exact ⟨m.blks[j + 1], List.getElem?_eq_getElem hi, (hobj (j + 1) hi).1⟩
  have hN := ok.small
  clear hobj r ok hv
  go_enter Try.func43, Try.ntmps43
  go_wp2
  go_loop [3] (fun i => ∃ j : Nat, j ≤ N ∧ i = .int .i64 (j + 1) ∧ ∀ k, k < j → ∃ o, m.blks[k + 1]? = some o ∧ o.taken = true) (fun i => N + 1 - (intOf i).toNat)
  case atStart => exact ⟨0, Nat.zero_le _, rfl, fun k hk => absurd hk (Nat.not_lt_zero _)⟩
  case round =>
    obtain ⟨j, hj, rfl, hall⟩ := hrel
    have A : Hid (∀ k, k < j → ∃ o, m.blks[k + 1]? = some o ∧ o.taken = true) := hall
    clear hall
    by_cases hlt : j < N
    · obtain ⟨o, ho, c0⟩ := OBJ.out j hlt
      obtain ⟨taken, vF, fs⟩ := o
      simp only at c0
      have HO : Hid (m.blks[j + 1]? = some ⟨taken, vF, fs⟩) := ho
      clear ho
      cases taken with
      | false =>
        go_wp2
        go_ret
        exact ⟨_, rfl, .inr ⟨j, hlt, rfl, ⟨_, HO.out, rfl⟩, A.out⟩, rfl⟩
      | true =>
        go_wp2
        go_round
        case rel =>
          refine ⟨j + 1, by omega, by go_num, fun k hk => ?_⟩
          by_cases hkj : k = j
          · subst hkj; exact ⟨_, HO.out, rfl⟩
          · exact A.out k (by omega)
        case measure => simp [intOf]; omega
    · obtain rfl : j = N := by omega
      go_wp2
      go_ret
      exact ⟨_, rfl, .inl ⟨rfl, A.out⟩, rfl⟩

/-- The two cells of a block that gets an object. -/
def layBlk (w : World) (g i : Nat) (o : HObj) : World := (w.setCell ⟨g, i * 2, none⟩ (.bool o.taken)).setCell ⟨g, i * 2 + 1, none⟩ o.vF

theorem hflat_set2 (l : List HObj) (i : Nat) (o o' : HObj) (h : l[i]? = some o) :
    (l.set i o').flatMap HObj.cells = ((l.flatMap HObj.cells).set (i * 2) (.bool o'.taken)).set (i * 2 + 1) o'.vF := by
  have hl : i < l.length := (List.getElem?_eq_some_iff.1 h).1
  have e1 := flat_set HObj.cells 2 (fun _ => rfl) l i 0 (by decide) o (.bool o'.taken) h { o with taken := o'.taken } rfl
  have h1 : (l.set i { o with taken := o'.taken })[i]? = some { o with taken := o'.taken } := by simp [hl]
  have e2 := flat_set HObj.cells 2 (fun _ => rfl) _ i 1 (by decide) _ o'.vF h1 o' rfl
  rw [List.set_set] at e2
  rw [e2, e1, Nat.add_zero]

theorem HeapAt.placed {w w1 : World} {h : Nat} {m : HeapM} {N : Nat} (r : HeapAt w h m) (ok : m.Ok N) (hb : Below w.heap.size w w1) {g cap : Nat} (hv : m.vB = .slice (some ⟨g, 0, none⟩) (N + 1) cap) (i : Nat) {o0 : HObj} (hi : m.blks[i]? = some o0) (o : HObj)
    (ho : o.row.At w1) (hg : ∀ b, o.vF.ownBlock = some b → w.heap.size ≤ b) : HTurn h w m (layBlk w1 g i o) (m.put i o) := by
  have hob : m.vB.ownBlock = some g := by rw [hv]; rfl
  have hmem0 : (⟨74, 2, m.vB, m.blks.length, m.blks.flatMap HObj.cells⟩ : SRow) ∈ m.rows := by simp [HeapM.rows]
  have hgh : g ≠ h := fun e => r.ne hmem0 (by rw [← e]; exact hob)
  obtain ⟨R1, F1⟩ := r.rowsAt.set (hrow_at m i hi) o.row ho (fun b hbb => .inr (hg b hbb)) (fun k hk _ _ => hb.block k hk) hb.size
  have hlay : ∀ k, k ≠ g → (layBlk w1 g i o).heap[k]? = w1.heap[k]? := fun k hk => by unfold layBlk; rw [hso hk, hso hk]
  have hsz : (layBlk w1 g i o).heap.size = w1.heap.size := by unfold layBlk; simp [World.setCell]
  have h0 : (m.rows.set (3 + i) o.row)[2]? = some ⟨74, 2, m.vB, m.blks.length, m.blks.flatMap HObj.cells⟩ := by
    simp [HeapM.rows, show 3 + i = i + 1 + 1 + 1 by omega]
  have hblk : (⟨74, 2, m.vB, (m.blks.set i o).length, (m.blks.set i o).flatMap HObj.cells⟩ : SRow).At (layBlk w1 g i o) := by
    show (layBlk w1 g i o).ownsRow 0 _ 2 m.vB (m.blks.set i o).length _
    rw [List.length_set, hflat_set2 m.blks i o0 o hi]
    have hb0 : w1.ownsRow 0 74 2 m.vB m.blks.length (m.blks.flatMap HObj.cells) := own_carry r.blocks fun j hj => hb.block j (own_lt r.blocks hj).2
    rw [hv, ok.len] at hb0 ⊢
    unfold layBlk
    exact ((hb0.stored _ _).1.stored _ _).1
  obtain ⟨R2, F2⟩ := R1.set h0 _ hblk (fun b hbb => .inl hbb) (fun k _ _ h2 => hlay k (fun e => h2 (by rw [e]; exact hob))) (by rw [hsz]; exact Nat.le_refl _)
  rw [← hput_rows] at R2 F2
  refine ⟨R2.heapAt ?_, fun b hbb => ?_, ⟨?_, ?_, ?_, ?_, ?_⟩⟩
  · rw [hlay h (fun e => hgh e.symm), hb.block h (lt_of_heap r.head)]; exact r.head
  · rw [← hrows_foot] at hbb ⊢
    rcases F2 b hbb with e | e
    · exact F1 b e
    · have := hb.size; exact .inr (by omega)
  · exact hb.os
  · exact hb.tape
  · exact hb.output
  · rw [hsz]; exact hb.size
  · intro k hk hF
    have hkg : k ≠ g := fun e => hF (by rw [e, ← hrows_foot]; exact List.mem_cons_of_mem _ (List.mem_filterMap.2 ⟨_, hmem0, hob⟩))
    rw [hlay k hkg, hb.block k hk]

set_option maxHeartbeats 400000 in
theorem hnew_index {w : World} {h : Nat} (n : Int) (hn : n < 0 ∨ 4 < n) :
    Calls Try.prog 22 #[.pointer (some ⟨h, 0, none⟩), .int .i64 n] w fun e w' => e = .returned (.int .i64 6) ∧ w' = w := by
  rcases hn with hn | hn
  · go_enter Try.func22, Try.ntmps22
    go_wp2
    go_ret
    exact ⟨rfl, rfl⟩
  · have h0 : ¬ n < 0 := by omega
    go_enter Try.func22, Try.ntmps22
    go_wp2
    go_ret
    exact ⟨rfl, rfl⟩

set_option maxHeartbeats 400000 in
theorem hnew_deep {w : World} {h : Nat} {m : HeapM} (r : HeapAt w h m) (n : Int) (h0 : 0 ≤ n) (h4 : n ≤ 4) (hd : m.room ≤ m.stack.length) :
    Calls Try.prog 22 #[.pointer (some ⟨h, 0, none⟩), .int .i64 n] w fun e w' => e = .returned (.int .i64 7) ∧ Below w.heap.size w w' := by
  have D : Hid (Calls Try.prog 42 #[.pointer (some ⟨h, 0, none⟩)] w fun e w' => e = .returned (.bool true) ∧ Below w.heap.size w w') := (isDeep_any r).mono fun e w' ⟨h1, h2⟩ => ⟨h1.trans (ret_bool (by simpa using hd)), h2⟩
  clear r hd
  go_enter Try.func22, Try.ntmps22
  go_wp2_with fail
  refine Calls.mono D.out ?_
  rintro e w1 ⟨rfl, hb⟩
  have B : Hid (Below w.heap.size w w1) := hb
  clear hb D
  go_wp2
  go_ret
  exact ⟨rfl, B.out⟩

set_option maxHeartbeats 1600000 in
theorem hnew_room {h N : Nat} {w : World} {m : HeapM} (p : HPre h N w m) (n : Nat) (hn : n ≤ 4) (hd : m.stack.length < m.room) (k : Nat) (hk : k < N) (o0 : HObj) (ho0 : m.blks[k + 1]? = some o0) (hfree : o0.taken = false)
    (hall : ∀ j, j < k → ∃ o, m.blks[j + 1]? = some o ∧ o.taken = true) :
    Calls Try.prog 22 #[.pointer (some ⟨h, 0, none⟩), .int .i64 n] w
      fun e w' => e = .returned (.int .i64 0) ∧ ∃ m', HStep h N w m w' m' ∧ m'.st = { m.st with objs := m.st.objs.set (k + 1) (true, List.replicate n (0, 0)), stack := m.stack ++ [(2, (k : Int) + 1)] } := by
  obtain ⟨g, cap, hv, hg, hgh, hob, hfz, hobj⟩ := p.r.view p.ok
  have cB : w.cell? ⟨h, 3, none⟩ = some (.slice (some ⟨g, 0, none⟩) (N + 1) cap) := by rw [p.r.cell.2.2.2.1, hv]
  have hh := lt_of_heap p.r.head
  have hN := p.ok.small
  have D : Hid (Calls Try.prog 42 #[.pointer (some ⟨h, 0, none⟩)] w fun e w' => e = .returned (.bool false) ∧ Below w.heap.size w w') := (isDeep_any p.r).mono fun e w' ⟨h1, h2⟩ => ⟨h1.trans (ret_bool (by simp; omega)), h2⟩
  have ROOM : Hid (∀ W, Below w.heap.size w W → Calls Try.prog 43 #[.pointer (some ⟨h, 0, none⟩)] W fun e w' => e = .returned (.int .i64 ((k : Int) + 1)) ∧ w' = W) := by
    intro W hb
    refine (freeBlock_any (p.below hb).r p.ok).mono ?_
    rintro e w' ⟨v, rfl, hs, rfl⟩
    refine ⟨?_, rfl⟩
    rcases hs with ⟨_, hs⟩ | ⟨k', hk', rfl, ⟨o1, ho1, hf1⟩, hs⟩
    · obtain ⟨o, ho, ht⟩ := hs k hk
      rw [ho0] at ho; cases ho; rw [hfree] at ht; cases ht
    · have : k' = k := by
        rcases Nat.lt_trichotomy k' k with e | e | e
        · obtain ⟨o, ho, ht⟩ := hall k' e
          rw [ho1] at ho; cases ho; rw [hf1] at ht; cases ht
        · exact e
        · obtain ⟨o, ho, ht⟩ := hs k e
          rw [ho0] at ho; cases ho; rw [hfree] at ht; cases ht
      rw [this]
  obtain ⟨b0, b1⟩ := hobj (k + 1) (by rw [p.ok.len]; omega)
  have OLD : Hid (∀ W, Below w.heap.size w W → W.cell? ⟨h, 3, none⟩ = some (.slice (some ⟨g, 0, none⟩) (N + 1) cap) ∧ (∃ u, W.cell? ⟨g, (k + 1) * 2, none⟩ = some u) ∧ (∃ u, W.cell? ⟨g, (k + 1) * 2 + 1, none⟩ = some u) ∧ W.frozen? ⟨g, (k + 1) * 2, none⟩ = false ∧ W.frozen? ⟨g, (k + 1) * 2 + 1, none⟩ = false) := fun W hb =>
    ⟨(hb.cell (p := ⟨h, 3, none⟩) hh).trans cB, ⟨_, (hb.cell (p := ⟨g, (k + 1) * 2, none⟩) hg).trans b0⟩, ⟨_, (hb.cell (p := ⟨g, (k + 1) * 2 + 1, none⟩) hg).trans b1⟩, (hb.frozen (p := ⟨g, (k + 1) * 2, none⟩) hg).trans (hfz _), (hb.frozen (p := ⟨g, (k + 1) * 2 + 1, none⟩) hg).trans (hfz _)⟩
  have FIN : Hid (∀ W, Below w.heap.size w W → Calls Try.prog 21 #[.pointer (some ⟨h, 0, none⟩), .agg #[.int .i64 2, .int .i64 ((k : Int) + 1)]] (((W.alloc (.cells (madeCells #[.int .i64 0, .int .i64 0] (n * 2)) 53)).setCell ⟨g, (k + 1) * 2, none⟩ (.bool true)).setCell ⟨g, (k + 1) * 2 + 1, none⟩ (.slice (some ⟨W.heap.size, 0, none⟩) n n)).drew
      fun e w' => e = .returned (.int .i64 0) ∧ ∃ m', HStep h N w m w' m' ∧ m'.st = { m.st with objs := m.st.objs.set (k + 1) (true, List.replicate n (0, 0)), stack := m.stack ++ [(2, (k : Int) + 1)] }) := by
    intro W hb
    have hb1 : Below w.heap.size w (W.alloc (.cells (madeCells #[.int .i64 0, .int .i64 0] (n * 2)) 53)) := hb.alloc hb.size _
    have t := p.r.placed p.ok hb1 hv (k + 1) ho0 ⟨true, .slice (some ⟨W.heap.size, 0, none⟩) n n, List.replicate n (0, 0)⟩ (by
      show (World.alloc _ _).ownsRow 0 _ 2 _ (List.replicate n ((0, 0) : Int × Int)).length _
      have := own_made_two W 53 (.int .i64 0) (.int .i64 0) n (by omega)
      simpa [HObj.row, hrow, flat_rep, valCells] using this) (fun b hbb => by
      have : b = W.heap.size := by simpa [Value.ownBlock, eq_comm] using hbb
      have := hb.size; omega)
    have s1 : HStep h N w m _ _ := ⟨t.drew, ⟨by simp [HeapM.put, p.ok.len], p.ok.small, fun y hy => by
      rcases List.mem_or_eq_of_mem_set hy with e | e
      · exact p.ok.fields y e
      · subst e; simpa using hn, p.ok.stack, p.ok.globals⟩, rfl⟩
    have p1 : HPre h N _ _ := s1.pre p (by
      rw [hput_st]
      refine ⟨p.inv.stack, p.inv.globals, fun o ho v hvv => ?_, by simpa using p.inv.len⟩
      rcases List.mem_or_eq_of_mem_set ho with e | e
      · exact p.inv.fields o e v hvv
      · subst e; have := (List.mem_replicate.1 hvv).2; subst this; exact .inl rfl)
    have pu := hpush_do p1 (2, (k : Int) + 1)
    have e : pushA m.room (m.put (k + 1) ⟨true, .slice (some ⟨W.heap.size, 0, none⟩) n n, List.replicate n (0, 0)⟩).st (2, (k : Int) + 1) = ({ m.st with objs := m.st.objs.set (k + 1) (true, List.replicate n (0, 0)), stack := m.stack ++ [(2, (k : Int) + 1)] }, 0, 0) := by
      rw [hput_st]
      exact pushA_room (by show ¬ m.room ≤ (m.stack.length : Int); omega)
    refine Calls.mono pu fun e' w' ⟨he, m', hs, hm⟩ => ?_
    have e2 : pushA ((m.put (k + 1) ⟨true, .slice (some ⟨W.heap.size, 0, none⟩) n n, List.replicate n (0, 0)⟩) : HeapM).room _ _ = _ := e
    rw [e2] at he hm
    exact ⟨he, m', s1.trans hs, hm⟩
  have hnI : ¬ (n : Int) < 0 := by omega
  have hn4 : ¬ (4 : Int) < n := by omega
  have hk0 : ((k : Int) + 1 == 0) = false := by simp; omega
  have hk1 : ¬ ((k : Int) + 1 = 0) := by omega
  have hkI : (k : Int) + 1 < (N : Int) + 1 := by omega
  have mk1 := run_make_two (P := Try.prog) 69 53 (.int .i64 0) (.int .i64 0) 16 Try.underlying69 infoValue .i64 .i64 n (by omega) (by omega)
  obtain ⟨tgt, htgt⟩ : ∃ t : St, { m.st with objs := m.st.objs.set (k + 1) (true, List.replicate n (0, 0)), stack := m.stack ++ [(2, (k : Int) + 1)] } = t := ⟨_, rfl⟩
  rw [htgt] at FIN ⊢
  clear p hv hobj hob hfz cB b0 b1 ho0 hfree hall htgt hd
  go_enter Try.func22, Try.ntmps22
  go_wp2_with fail
  refine Calls.mono D.out ?_
  rintro e w1 ⟨rfl, hb⟩
  have B : Hid (Below w.heap.size w w1) := hb
  clear hb D
  go_wp2_with fail
  refine Calls.mono (ROOM.out _ B.out) ?_
  rintro e w2 ⟨rfl, hw2⟩
  subst hw2
  obtain ⟨a0, ⟨u1, a1⟩, ⟨u2, a2⟩, a3, a4⟩ := OLD.out w2 B.out
  have hsz := B.out.size
  have al : ∀ (ob : Obj) (b o : Nat), b < w2.heap.size → (w2.alloc ob).cell? ⟨b, o, none⟩ = w2.cell? ⟨b, o, none⟩ := fun ob b o hlt => World.cell?_of_block (hao hlt)
  have t0 : ∀ ob, (w2.alloc ob).cell? ⟨h, 3, none⟩ = w2.cell? ⟨h, 3, none⟩ := fun ob => al ob h 3 (by omega)
  have t1 : ∀ ob, (w2.alloc ob).cell? ⟨g, (k + 1) * 2, none⟩ = w2.cell? ⟨g, (k + 1) * 2, none⟩ := fun ob => al ob g _ (by omega)
  have t2 : ∀ ob, (w2.alloc ob).cell? ⟨g, (k + 1) * 2 + 1, none⟩ = w2.cell? ⟨g, (k + 1) * 2 + 1, none⟩ := fun ob => al ob g _ (by omega)
  have t3 : ∀ ob, (w2.alloc ob).frozen? ⟨g, (k + 1) * 2, none⟩ = w2.frozen? ⟨g, (k + 1) * 2, none⟩ := fun ob => World.frozen?_of_block (hao (show g < _ by omega))
  have t4 : ∀ ob, (w2.alloc ob).frozen? ⟨g, (k + 1) * 2 + 1, none⟩ = w2.frozen? ⟨g, (k + 1) * 2 + 1, none⟩ := fun ob => World.frozen?_of_block (hao (show g < _ by omega))
  have F2 := FIN.out w2 B.out
  have FF2 : Hid _ := F2
  clear al F2 FIN ROOM OLD
  go_wp2_with fail
  go_region
  all_goals go_wp2_with fail
  all_goals refine Calls.mono FF2.out ?_
  all_goals rintro e w4 ⟨rfl, hm⟩
  all_goals have M : Hid _ := hm
  all_goals clear hm
  all_goals go_wp2
  all_goals go_ret
  all_goals exact ⟨rfl, M.out⟩

end Go.Proofs.Ytblekkjamemloaa
