import Derived.Test.YtbdkbkcjdbgloaaGreatDoorSafepointsB9
import Derived.Deep.RegionHeld3
/- OUR OWN. The program's heap: clearField. -/
namespace Go.Proofs.YtbdkbkcjdbgloaaGreatDoor
open Go.RowKit
set_option linter.unusedVariables false
set_option linter.unusedSimpArgs false

/-- behind the field's store: what is asked of the object that it had -/
def HeldAt (h N : Nat) (w : World) (j : Nat) (Done : World → Prop) (W3 : World) : Prop :=
  ∃ g cap st ct ao fl fc, g < w.heap.size ∧ j ≤ N ∧ W3.cell? ⟨h, 6, none⟩ = some (.slice (some ⟨g, 0, none⟩) (N + 1) cap) ∧
    W3.cell? ⟨g, j * 3, none⟩ = some (.int .i64 st) ∧ W3.cell? ⟨g, j * 3 + 1, none⟩ = some (.int .i64 ct) ∧ W3.cell? ⟨g, j * 3 + 2, none⟩ = some (.slice ao fl fc) ∧
    ((decide (st = 1) && decide (ct = 1)) = false → ∀ W4, Below W3.heap.size W3 W4 → Calls Tryz.prog 98 #[.pointer (some ⟨h, 0, none⟩), .int .i64 j] W4 fun e w5 => e = .returned (.tuple #[]) ∧ Done w5) ∧
    ((decide (st = 1) && decide (ct = 1)) = true → ∀ W4, Below W3.heap.size W3 W4 → Calls Tryz.prog 68 #[.pointer (some ⟨h, 0, none⟩), .int .i64 j] W4 fun e w5 => ∃ r, e = .returned (.bool r) ∧ Below W4.heap.size W4 w5 ∧
      (r = true → Calls Tryz.prog 98 #[.pointer (some ⟨h, 0, none⟩), .int .i64 j] w5 fun e w6 => e = .returned (.tuple #[]) ∧ Done w6) ∧
      (r = false → w5.cell? ⟨h, 6, none⟩ = some (.slice (some ⟨g, 0, none⟩) (N + 1) cap) ∧ w5.cell? ⟨g, j * 3 + 1, none⟩ = some (.int .i64 1) ∧ w5.frozen? ⟨g, j * 3 + 1, none⟩ = false ∧
        ∀ W6, Below (w5.setCell ⟨g, j * 3 + 1, none⟩ (.int .i64 0)).heap.size (w5.setCell ⟨g, j * 3 + 1, none⟩ (.int .i64 0)) W6 → Calls Tryz.prog 69 #[.pointer (some ⟨h, 0, none⟩), .int .i64 j] W6 fun e w6 => e = .returned (.tuple #[]) ∧ Done w6))

/-- what clearField's loads find -/
structure ClearCells (h b k N : Nat) (w : World) (y : Int × Int) (g capB fg fl fc : Nat) : Prop where
  cB : w.cell? ⟨h, 6, none⟩ = some (.slice (some ⟨g, 0, none⟩) (N + 1) capB)
  c1 : w.cell? ⟨g, b * 3 + 2, none⟩ = some (.slice (some ⟨fg, 0, none⟩) fl fc)
  y0 : w.cell? ⟨fg, k * 2, none⟩ = some (.int .i64 y.1)
  y1 : w.cell? ⟨fg, k * 2 + 1, none⟩ = some (.int .i64 y.2)
  f0 : w.frozen? ⟨fg, k * 2, none⟩ = false
  f1 : w.frozen? ⟨fg, k * 2 + 1, none⟩ = false
  hh : h < w.heap.size
  hg : g < w.heap.size
  hf : fg < w.heap.size
  hb : b ≤ N
  hN : N ≤ 99
  hk : k < fl
  hfl : fl ≤ 4
  hy : ¬ y.1 = 2 ∨ ∃ j : Nat, y = (2, (j : Int))

def ClearEnv (h b k N : Nat) (w : World) (fg : Nat) (y : Int × Int) (Done : World → Prop) : Prop := ∀ w3, (w.setCell ⟨fg, k * 2, none⟩ (.int .i64 0)).setCell ⟨fg, k * 2 + 1, none⟩ (.int .i64 0) = w3 →
  w3.heap.size = w.heap.size ∧ ∀ W3, Below w3.heap.size w3 W3 → (¬ y.1 = 2 → Done W3) ∧ ∀ j : Nat, y = (2, (j : Int)) → HeldAt h N w j Done W3

theorem clear_env {h : Nat} {w : World} {m : HeapM} {s : St} {c : Cf} {N : Nat} (p : HB 0 h w m s c N) (b k : Nat) (hk : k < (s.ob b).fs.length) :
    ∃ g capB fg fl fc, ClearCells h b k N w ((s.ob b).fs.getD k (0, 0)) g capB fg fl fc ∧ ClearEnv h b k N w fg ((s.ob b).fs.getD k (0, 0)) fun W => ∃ m', HTurn h w m W m' ∧ HB 0 h W m' (letGo c.zero b k s) c N := by
  have hh : (s.ob b).here = true := by
    cases e : (s.ob b).here with
    | true => rfl
    | false => rw [p.good.gone b e] at hk; simp [Ob.free] at hk
  obtain ⟨hb1, hbN⟩ := p.good.ne_zero hh
  obtain ⟨y, hy⟩ : ∃ y, (s.ob b).fs.getD k (0, 0) = y := ⟨_, rfl⟩
  have hyl : s.leads y := by rw [← hy]; exact leads_getD (p.good.fields b) k
  have q := p
  have hb : Below w.heap.size w w := Below.refl _ _
  obtain ⟨o, hio⟩ : ∃ o, m.blks[b]? = some o := ⟨_, List.getElem?_eq_getElem (by rw [p.len]; omega)⟩
  have hof : o.fs = (s.ob b).fs := by rw [p.ob hio]; rfl
  have hko : k < o.fs.length := by rw [hof]; exact hk
  obtain ⟨g, capB, fg, fc, hvB, hvF, hg, hfg, cB, c1, y0, y1, f0, f1⟩ := q.pre.facts b o hio k hko
  have hyk : o.fs[k] = (s.ob b).fs.getD k (0, 0) := by rw [← hof, getD_of hko]
  have h4 := p.good.four b
  refine ⟨g, capB, fg, _, fc, ⟨cB, c1, by rw [y0, hyk], by rw [y1, hyk], f0, f1, lt_of_heap p.r.head, hg, hfg, hbN, p.small, hko, by rw [hof]; exact h4, ?_⟩, ?_⟩
  · rw [hy]
    by_cases e : y.1 = 2
    · obtain ⟨j, hj, _⟩ := leads_alive hyl e; exact .inr ⟨j, hj⟩
    · exact .inl e
  rintro w3 rfl
  have t3 := q.r.fieldSet b hio hvF k hko (0, 0)
  refine ⟨by simp [World.setCell], fun W3 hb3 => ?_⟩
  have hs3 := HSb.field (x := (0, 0)) q.good (m := m) (by have : refTo (0, 0) = 0 := rfl; rw [this]; exact q.hs) hio hko
  rw [hy] at hs3 ⊢
  have g3 : (s.field b k (0, 0)).Good N := q.good.setField b k (.inl rfl)
  have q3 : HB (refTo y) h W3 _ (s.field b k (0, 0)) c N := ⟨(t3.after hb3).here, hs3, g3, p.cf, p.small, q.stack, q.globals⟩
  have T3 : HTurn h w m W3 _ := (HTurn.pre p.r hb t3).after hb3
  refine ⟨fun h2 => ?_, fun j hj => ?_⟩
  · have e3 : refTo y = 0 := by unfold refTo; rw [if_neg h2]
    rw [e3] at q3
    rw [letGo_not (by rw [hy]; exact h2)]
    exact ⟨_, T3, q3⟩
  · have e3 : refTo y = (j : Int) := by rw [hj]; rfl
    rw [e3] at q3
    rw [hj] at hy
    have ha : s.alive j := by
      obtain ⟨j', hj', ha⟩ := leads_alive hyl (by rw [hj])
      rw [hj] at hj'
      have : j = j' := by have := congrArg Prod.snd hj'; simp at this; omega
      rw [this]; exact ha
    have ha3 : (s.field b k (0, 0)).alive j := (alive_put (s := s) (i := b) (o := { s.ob b with fs := (s.ob b).fs.set k (0, 0) }) rfl rfl j).2 ha
    obtain ⟨hj1, hjN⟩ := p.good.ne_zero ha.1
    -- the blocks' row is where it was
    obtain ⟨g0, cap0, hv0, hg0, _, _, _, _⟩ := p.r.view p.len
    obtain ⟨g', cap', hv', hg', _, _, hfz', hobj'⟩ := q3.r.view q3.len
    have eg : (Value.slice (some ⟨g', 0, none⟩) (N + 1) cap') = .slice (some ⟨g0, 0, none⟩) (N + 1) cap0 := hv'.symm.trans hv0
    simp at eg
    obtain ⟨rfl, rfl⟩ := eg
    have hil : j < (m.put b { o with fs := o.fs.set k (0, 0) }).blks.length := by rw [q3.len]; omega
    obtain ⟨oj, hoj⟩ : ∃ oj, (m.put b { o with fs := o.fs.set k (0, 0) }).blks[j]? = some oj := ⟨_, List.getElem?_eq_getElem hil⟩
    have hoe := (List.getElem?_eq_some_iff.1 hoj).2
    obtain ⟨d0, d1, d2⟩ := hobj' j hil
    rw [hoe] at d0 d1 d2
    obtain ⟨ao, fc', hvFj⟩ := own_slice (q3.r.fields oj (List.mem_of_getElem? hoj))
    rw [hvFj] at d2
    have cB3 : W3.cell? ⟨h, 6, none⟩ = some (.slice (some ⟨g', 0, none⟩) (N + 1) cap') := by rw [q3.r.cell.2.2.2.1, hv']
    have UNC : ∀ W4, Below W3.heap.size W3 W4 → letGo c.zero b k s = dropS' c.zero (s.field b k (0, 0)) (2, (j : Int)) →
        Calls Tryz.prog 98 #[.pointer (some ⟨h, 0, none⟩), .int .i64 j] W4 fun e w5 => e = .returned (.tuple #[]) ∧ ∃ m', HTurn h w m w5 m' ∧ HB 0 h w5 m' (letGo c.zero b k s) c N := fun W4 hb4 e => by
      rw [e]
      refine (uncountField_any j (q3.below hb4) ha3).mono ?_
      rintro e w5 ⟨he, m5, t5, q5⟩
      exact ⟨he, m5, (T3.after hb4).trans t5, q5⟩
    refine ⟨g', cap', oj.state, oj.count, ao, _, fc', hg0, hjN, cB3, d0, d1, d2, fun hx W4 hb4 => UNC W4 hb4 ?_, fun hx W4 hb4 => ?_⟩
    · rcases alive_state q3.hs hoj ha3 with ⟨hst, hsk⟩ | ⟨hst, hsk⟩
      · have hct := q3.hs.cnt j oj hoj (.inl hst)
        rw [if_pos rfl] at hct
        have hc0 : 0 < (s.field b k (0, 0)).count j := by
          rcases Nat.eq_zero_or_pos ((s.field b k (0, 0)).count j) with e | e
          · rw [e] at hct
            simp [hst, hct] at hx
          · exact e
        rw [letGo_held hy (.inl hc0)]
        unfold dropS'
        rw [if_neg]
        rintro ⟨_, _, h3⟩
        have h3 : (s.field b k (0, 0)).count j = 0 := h3
        omega
      · rw [letGo_held hy (.inr hsk)]
        unfold dropS'
        rw [if_neg]
        rintro ⟨_, h2, _⟩
        rw [Int.toNat_natCast, hsk] at h2; cases h2
    · have hst : oj.state = 1 ∧ oj.count = 1 := by simpa using hx
      have hsk : ((s.field b k (0, 0)).ob j).stuck = false := by
        rcases alive_state q3.hs hoj ha3 with ⟨_, hsk⟩ | ⟨h2, _⟩
        · exact hsk
        · rw [hst.1] at h2; cases h2
      have hct := q3.hs.cnt j oj hoj (.inl hst.1)
      rw [if_pos rfl, hst.2] at hct
      have hc0 : (s.field b k (0, 0)).count j = 0 := by omega
      have q4 := q3.below hb4
      refine (isRoot_any q4 (j : Int)).mono ?_
      rintro e w5 ⟨rfl, hb5⟩
      have hb35 : Below W3.heap.size W3 w5 := hb4.trans (hb5.mono hb4.size)
      refine ⟨_, rfl, hb5, fun hr => UNC w5 hb35 ?_, fun hr => ?_⟩
      · rw [letGo_root hy hc0 hsk hr]
        unfold dropS'
        rw [if_pos ⟨rfl, by simpa using hsk, hc0⟩]
      · have q5 := q3.below hb35
        refine ⟨(hb35.cell (p := ⟨h, 6, none⟩) (lt_of_heap q3.r.head)).trans cB3, by rw [hb35.cell (p := ⟨g', j * 3 + 1, none⟩) hg', d1, hst.2], (hb35.frozen (p := ⟨g', j * 3 + 1, none⟩) hg').trans (hfz' _), fun W6 hb6 => ?_⟩
        have t5 := q5.r.flagged q5.len hv' j hoj { oj with count := 0 } 1 (by decide) (.int .i64 0) rfl rfl
        have hs5 : HSb 0 ((m.put b { o with fs := o.fs.set k (0, 0) }).put j { oj with count := 0 }) (s.field b k (0, 0)) c N :=
          q5.hs.recount hoj 0 (fun _ => by rw [if_neg (by omega), hc0]; rfl) fun i z hne hz hzs => ⟨fun e => absurd (by omega) hne, fun e => absurd e (q5.hs.pos q5.good hz hzs)⟩
        have q6 : HB 0 h _ _ (s.field b k (0, 0)) c N := ⟨t5.here, hs5, g3, p.cf, p.small, q5.stack, q5.globals⟩
        rw [letGo_queue hy hc0 hsk hr]
        refine (enqueue_any (q6.below hb6) j hjN (sorts_iff.2 ⟨waits_iff.2 ⟨ha3, hsk, hc0⟩, hr, by omega⟩)).mono ?_
        rintro e w6 ⟨he, m6, t6, q7⟩
        exact ⟨he, m6, (((T3.after hb35).trans t5).after hb6).trans t6, q7⟩

set_option maxHeartbeats 4000000 in
theorem clearField_core (h b k N : Nat) (w : World) (y : Int × Int) (g capB fg fl fc : Nat) (C : ClearCells h b k N w y g capB fg fl fc) (Done : World → Prop) (E : ClearEnv h b k N w fg y Done) :
    Calls Tryz.prog 70 #[.pointer (some ⟨h, 0, none⟩), .int .i64 b, .int .i64 k] w fun e w' => e = .returned (.tuple #[]) ∧ Done w' := by
  obtain ⟨cB, c1, y0, y1, f0, f1, hh, hg, hf, hb, hN, hk, hfl, hy⟩ := C
  have hbI : (b : Int) < (N : Int) + 1 := by omega
  have hkI : (k : Int) < fl := by omega
  obtain ⟨w3, hw3⟩ : ∃ w3, (w.setCell ⟨fg, k * 2, none⟩ (.int .i64 0)).setCell ⟨fg, k * 2 + 1, none⟩ (.int .i64 0) = w3 := ⟨_, rfl⟩
  obtain ⟨hsz, E⟩ := E w3 hw3
  have W3 : Hid ((w.setCell ⟨fg, k * 2, none⟩ (.int .i64 0)).setCell ⟨fg, k * 2 + 1, none⟩ (.int .i64 0) = w3) := hw3
  clear hw3
  obtain ⟨y1', y2'⟩ := y
  simp only at y0 y1 hy E
  have al : ∀ (ob : Obj) (b o : Nat), b < w.heap.size → (w.alloc ob).cell? ⟨b, o, none⟩ = w.cell? ⟨b, o, none⟩ := fun ob b o hlt => World.cell?_of_block (hao hlt)
  have t0 : ∀ ob, (w.alloc ob).cell? ⟨h, 6, none⟩ = w.cell? ⟨h, 6, none⟩ := fun ob => al ob h _ hh
  have t1 : ∀ ob, (w.alloc ob).cell? ⟨g, b * 3 + 2, none⟩ = w.cell? ⟨g, b * 3 + 2, none⟩ := fun ob => al ob g _ hg
  have t2 : ∀ ob, (w.alloc ob).cell? ⟨fg, k * 2, none⟩ = w.cell? ⟨fg, k * 2, none⟩ := fun ob => al ob fg _ hf
  have t3 : ∀ ob, (w.alloc ob).cell? ⟨fg, k * 2 + 1, none⟩ = w.cell? ⟨fg, k * 2 + 1, none⟩ := fun ob => al ob fg _ hf
  clear al
  have BX : Hid (∀ ob, Below w3.heap.size w3 (w3.alloc ob)) := fun ob => (Below.refl _ _).alloc (Nat.le_refl _) _
  rcases hy with hy | ⟨j, hj⟩
  · have hne : (y1' != 2) = true := by simpa using hy
    have D : Hid (∀ ob, Done (w3.alloc ob)) := fun ob => (E _ (BX.out ob)).1 hy
    clear E
    go_enter Tryz.func70, Tryz.ntmps70
    go_wp2
    rw [W3.out]
    first | go_end0 | refine bodyPost_ret (results_none rfl _ _ _) rfl ?_
    exact ⟨rfl, D.out _⟩
  · obtain ⟨rfl, rfl⟩ : y1' = 2 ∧ y2' = (j : Int) := by simpa using hj
    obtain ⟨W, hW⟩ : ∃ W, w3.alloc (.cells #[.int .i64 2, .int .i64 j] 81) = W := ⟨_, rfl⟩
    have HW : Hid (w3.alloc (.cells #[.int .i64 2, .int .i64 j] 81) = W) := hW
    obtain ⟨g', cap', st, ct, ao, fl', fc', hg', hjN, d0, d1, d2, d3, hno, hyes⟩ := (E _ (BX.out _)).2 j rfl
    rw [hW] at d0 d1 d2 d3 hno hyes
    have bx : W.heap[w.heap.size]? = some (.cells #[.int .i64 2, .int .i64 j] 81) := by rw [← hW, ← hsz]; exact heap_alloc_new w3 _
    have hWs : w.heap.size < W.heap.size := lt_of_heap bx
    have HO : Hid (∀ W, Calls Tryz.prog 97 #[.agg #[.int .i64 st, .int .i64 ct, .slice ao fl' fc']] W fun e w' => e = .returned (.bool (decide (st = 1) && decide (ct = 1))) ∧ Below W.heap.size W w') := fun W => heldOnce_fn st ct _ W
    have x0 : W.cell? ⟨w.heap.size, 0, none⟩ = some (.int .i64 2) := cell_of_heap bx rfl
    have x1 : W.cell? ⟨w.heap.size, 1, none⟩ = some (.int .i64 j) := cell_of_heap bx rfl
    have K : Hid (∀ V, Below W.heap.size W V → V.cell? ⟨w.heap.size, 1, none⟩ = some (.int .i64 j) ∧ V.cell? ⟨h, 6, none⟩ = some (.slice (some ⟨g', 0, none⟩) (N + 1) cap') ∧ V.cell? ⟨g', j * 3, none⟩ = some (.int .i64 st) ∧ V.cell? ⟨g', j * 3 + 1, none⟩ = some (.int .i64 ct) ∧ V.cell? ⟨g', j * 3 + 2, none⟩ = some (.slice ao fl' fc')) := fun V hV =>
      ⟨(hV.cell (p := ⟨w.heap.size, 1, none⟩) hWs).trans x1, (hV.cell (p := ⟨h, 6, none⟩) (Nat.lt_trans hh hWs)).trans d0, (hV.cell (p := ⟨g', j * 3, none⟩) (Nat.lt_trans hg' hWs)).trans d1, (hV.cell (p := ⟨g', j * 3 + 1, none⟩) (Nat.lt_trans hg' hWs)).trans d2, (hV.cell (p := ⟨g', j * 3 + 2, none⟩) (Nat.lt_trans hg' hWs)).trans d3⟩
    have hjI : (j : Int) < (N : Int) + 1 := by omega
    have NO : Hid _ := hno
    have YES : Hid _ := hyes
    clear E hW hno hyes bx hj
    cases hx : (decide (st = 1) && decide (ct = 1)) with
    | false =>
      rw [hx] at HO
      have N1 : Hid _ := NO.out hx
      clear NO YES hx
      go_enter Tryz.func70, Tryz.ntmps70
      go_wp2_with fail
      rw [W3.out, HW.out]
      first | go_region_with ((go_at_call 97; refine Calls.mono (HO.out _) ?_; rintro e w1 ⟨rfl, hb1⟩; have B1 : Hid (Below W.heap.size W w1) := (Below.refl _ _).drew.trans hb1; obtain ⟨k0, k1, k2, k3, k4⟩ := K.out w1 B1.out; clear hb1)) | fail
      all_goals go_wp2_with fail
      all_goals refine Calls.mono (N1.out _ B1.out) ?_
      all_goals rintro e w4 ⟨rfl, hd⟩
      all_goals have D : Hid _ := hd
      all_goals clear hd
      all_goals go_wp2
      all_goals (first | go_end0 | refine bodyPost_ret (results_none rfl _ _ _) rfl ?_)
      all_goals exact ⟨rfl, D.out⟩
    | true =>
      rw [hx] at HO
      have Y1 : Hid _ := YES.out hx
      clear NO YES hx
      go_enter Tryz.func70, Tryz.ntmps70
      go_wp2_with fail
      rw [W3.out, HW.out]
      go_region_held3 (fun w' => w'.cell? ⟨w.heap.size, 1, none⟩ = some (.int .i64 j) ∧ w'.cell? ⟨h, 6, none⟩ = some (.slice (some ⟨g', 0, none⟩) (N + 1) cap') ∧ w'.cell? ⟨g', j * 3, none⟩ = some (.int .i64 st) ∧ w'.cell? ⟨g', j * 3 + 1, none⟩ = some (.int .i64 ct) ∧ w'.cell? ⟨g', j * 3 + 2, none⟩ = some (.slice ao fl' fc')) (go_keep)
        ((first
          | (go_at_call 97; refine Calls.mono (HO.out _) ?_; rintro e w1 ⟨rfl, hb1⟩; have B1 : Hid (Below W.heap.size W w1) := (Below.refl _ _).drew.trans hb1; obtain ⟨k0, k1, k2, k3, k4⟩ := K.out w1 B1.out; clear hb1)
          | (go_at_call 68; refine Calls.mono (Y1.out _ B1.out) ?_; rintro e w5 ⟨r, rfl, hb5, hrt, hrf⟩; obtain ⟨l0, l1, l2, l3, l4⟩ := K.out w5 (B1.out.trans (hb5.mono B1.out.size)); have RT : Hid _ := hrt; have RF : Hid _ := hrf; clear hb5 hrt hrf)))
      cases r with
      | true =>
        have R1 : Hid _ := RT.out rfl
        clear RT RF
        go_wp2_with fail
        refine Calls.mono R1.out ?_
        rintro e w4 ⟨rfl, hd⟩
        have D : Hid _ := hd
        clear hd
        go_wp2
        first | go_end0 | refine bodyPost_ret (results_none rfl _ _ _) rfl ?_
        exact ⟨rfl, D.out⟩
      | false =>
        obtain ⟨e0, e1, e2, hen⟩ := RF.out rfl
        have EN : Hid _ := hen
        have x4 : (w5.setCell ⟨g', j * 3 + 1, none⟩ (.int .i64 0)).cell? ⟨w.heap.size, 1, none⟩ = some (.int .i64 j) := (World.cell?_of_block (hso (Nat.ne_of_gt hg'))).trans l0
        clear RT RF hen k0 k1 k2 k3 k4 l2 l3 l4
        go_wp2_with fail
        go_region
        all_goals go_wp2_with fail
        all_goals refine Calls.mono (EN.out _ (Below.refl _ _).drew) ?_
        all_goals rintro e w6 ⟨rfl, hd⟩
        all_goals have D : Hid _ := hd
        all_goals clear hd
        all_goals go_wp2
        all_goals (first | go_end0 | refine bodyPost_ret (results_none rfl _ _ _) rfl ?_)
        all_goals exact ⟨rfl, D.out⟩

theorem clearField_any {h : Nat} {w : World} {m : HeapM} {s : St} {c : Cf} {N : Nat} (p : HB 0 h w m s c N) (b k : Nat) (hk : k < (s.ob b).fs.length) :
    Calls Tryz.prog 70 #[.pointer (some ⟨h, 0, none⟩), .int .i64 b, .int .i64 k] w fun e w' => e = .returned (.tuple #[]) ∧ ∃ m', HTurn h w m w' m' ∧ HB 0 h w' m' (letGo c.zero b k s) c N := by
  obtain ⟨g, capB, fg, fl, fc, C, E⟩ := clear_env p b k hk
  exact clearField_core h b k N w _ g capB fg fl fc C _ E

end Go.Proofs.YtbdkbkcjdbgloaaGreatDoor

/- OUR OWN. The program's heap: freeFirst. -/
namespace Go.Proofs.YtbdkbkcjdbgloaaGreatDoor
open Go.RowKit
set_option linter.unusedVariables false
set_option linter.unusedSimpArgs false

/-- behind the last field: the object leaves the queue, its block is free -/
theorem HSb.leave {m : HeapM} {s : St} {c : Cf} {N : Nat} (p : HSb 0 m s c N) {b : Nat} {v : Value} (hc : ∀ x, (s.leave b).count x = s.count x) :
    HSb 0 (({ m with vQ := v, queue := m.queue.tail } : HeapM).put b HObj.free) (s.leave b) c N := by
  refine ⟨?_, p.deep, p.zero, p.over, p.budget, fun y hy => ?_, fun i y hy hs => ?_⟩
  · rw [hput_st]
    have e : HObj.free.ob = Ob.free := by simp [HObj.free, HObj.ob, Ob.free]
    rw [e]
    unfold St.leave St.put
    rw [← p.st]
    rfl
  · rcases List.mem_or_eq_of_mem_set hy with e | e
    · exact p.state y e
    · subst e; exact .inl rfl
  · rw [hc]
    rcases set_get hy with ⟨rfl, rfl⟩ | ⟨_, e⟩
    · rcases hs with e | e <;> simp [HObj.free] at e
    · exact p.cnt i y e hs

set_option maxHeartbeats 1600000 in
theorem freeFirst_any {h : Nat} {w : World} {m : HeapM} {s : St} {c : Cf} {N : Nat} (p : HB 0 h w m s c N) (hq : s.queue.length ≠ 0) :
    Calls Tryz.prog 34 #[.pointer (some ⟨h, 0, none⟩)] w fun e w' => e = .returned (.tuple #[]) ∧ ∃ m', HTurn h w m w' m' ∧ HB 0 h w' m' (s.free c.zero) c N := by
  obtain ⟨q, hqe⟩ := p.good.first hq
  have hqd := p.good.first_queued hq
  have hcf := count_free (z := c.zero) p.good hq
  have hgf := p.good.freed c.zero hq
  have hsf := letTo_same c.zero s.first s (s.ob s.first).fs.length
  have target : s.free c.zero = (letTo c.zero s.first s (s.ob s.first).fs.length).leave s.first := rfl
  rw [target] at hcf hgf ⊢
  obtain ⟨b, hb⟩ : ∃ b, s.first = b := ⟨_, rfl⟩
  rw [hb] at hqe hqd hcf hgf hsf ⊢
  have hh := p.good.queued_here hqd
  obtain ⟨hb1, hbN⟩ := p.good.ne_zero hh
  obtain ⟨fl, hfl⟩ : ∃ fl, (s.ob b).fs.length = fl := ⟨_, rfl⟩
  have hf4 : fl ≤ 4 := by rw [← hfl]; exact p.good.four b
  rw [hfl] at hcf hgf hsf ⊢
  obtain ⟨S, hS⟩ : ∃ S : Nat → St, S = fun j => letTo c.zero b s j := ⟨_, rfl⟩
  have S0 : S 0 = s := by rw [hS]; rfl
  have S1 : ∀ j, S (j + 1) = letGo c.zero b j (S j) := fun j => by rw [hS]; rfl
  have SF : letTo c.zero b s fl = S fl := by rw [hS]
  have SL : ∀ j, ((S j).ob b).fs.length = fl := fun j => by rw [hS, ← hfl]; exact (letTo_ob p.good hqd j).2.1
  rw [SF] at hcf hgf hsf ⊢
  have hN := p.small
  -- the queue's first
  obtain ⟨qg, qo, qc, hvQ, _, _, hqc, hqcell, _⟩ := win_view p.r.queue (by rw [p.mqueue]; omega)
  have cQ : w.cell? ⟨h, 7, none⟩ = some (.slice (some ⟨qg, qo, none⟩) s.queue.length qc) := by rw [p.r.cell.2.2.2.2.1, hvQ, p.mqueue]
  have cq0 : w.cell? ⟨qg, qo, none⟩ = some (.int .i64 b) := hqcell 0 _ (by rw [p.mqueue, hqe]; rfl)
  obtain ⟨ql, hql⟩ : ∃ ql, s.queue.length = ql + 1 := ⟨s.queue.length - 1, by omega⟩
  have hql9 : ql ≤ 99 := by have := p.good.queue_len; omega
  rw [hql] at cQ
  have START : Hid (HTurn h w m w m ∧ HB 0 h w m (S 0) c N) := ⟨.refl p.r, by rw [S0]; exact p⟩
  have LEN : Hid (∀ wr mr (j : Nat), HTurn h w m wr mr → HB 0 h wr mr (S j) c N → ∃ g cap ao fc, wr.cell? ⟨h, 6, none⟩ = some (.slice (some ⟨g, 0, none⟩) (N + 1) cap) ∧ wr.cell? ⟨g, b * 3 + 2, none⟩ = some (.slice ao fl fc)) := fun wr mr j t q => by
    obtain ⟨g, cap, cB, hg, hobj⟩ := q.cells
    obtain ⟨o, ao, fl', fc, ho, _, hfl', _, _, c2⟩ := hobj b hbN
    have : fl' = fl := by rw [hfl', ← SL j, q.ob ho]; rfl
    rw [this] at c2
    exact ⟨g, cap, ao, fc, cB, c2⟩
  have ROUND : Hid (∀ wr mr (j : Nat), j < fl → HTurn h w m wr mr → HB 0 h wr mr (S j) c N → Calls Tryz.prog 70 #[.pointer (some ⟨h, 0, none⟩), .int .i64 b, .int .i64 j] wr fun e w' => e = .returned (.tuple #[]) ∧ ∃ m', HTurn h w m w' m' ∧ HB 0 h w' m' (S (j + 1)) c N) := fun wr mr j hj t q => by
    rw [S1]
    refine (clearField_any q b j (by rw [SL]; exact hj)).mono ?_
    rintro e w' ⟨he, m', t2, q2⟩
    exact ⟨he, m', t.trans t2, q2⟩
  have END : Hid (∀ wr mr, HTurn h w m wr mr → HB 0 h wr mr (S fl) c N → Calls Tryz.prog 71 #[.pointer (some ⟨h, 0, none⟩)] wr fun e w2 => e = .returned (.tuple #[]) ∧ ∃ g cap u0 u1 u2, w2.cell? ⟨h, 6, none⟩ = some (.slice (some ⟨g, 0, none⟩) (N + 1) cap) ∧
      w2.cell? ⟨g, b * 3, none⟩ = some u0 ∧ w2.cell? ⟨g, b * 3 + 1, none⟩ = some u1 ∧ w2.cell? ⟨g, b * 3 + 2, none⟩ = some u2 ∧
      w2.frozen? ⟨g, b * 3, none⟩ = false ∧ w2.frozen? ⟨g, b * 3 + 1, none⟩ = false ∧ w2.frozen? ⟨g, b * 3 + 2, none⟩ = false ∧
      ∀ W, Below ((((w2.setCell ⟨g, b * 3, none⟩ (.int .i64 0)).setCell ⟨g, b * 3 + 1, none⟩ (.int .i64 0)).setCell ⟨g, b * 3 + 2, none⟩ (.slice none 0 0))).heap.size (((w2.setCell ⟨g, b * 3, none⟩ (.int .i64 0)).setCell ⟨g, b * 3 + 1, none⟩ (.int .i64 0)).setCell ⟨g, b * 3 + 2, none⟩ (.slice none 0 0)) W →
        ∃ m', HTurn h w m W m' ∧ HB 0 h W m' ((S fl).leave b) c N) := fun wr mr t q => by
    obtain ⟨q2, hq2⟩ := hsf.2.2.2
    have hlq : ∃ l, mr.queue.length = l + 1 ∧ l ≤ 99 := by
      refine ⟨mr.queue.length - 1, ?_, ?_⟩
      · have : 0 < mr.queue.length := by rw [q.mqueue, hq2, List.length_append]; omega
        omega
      · have := q.good.queue_len; rw [q.mqueue]; omega
    obtain ⟨l, hl, hl9⟩ := hlq
    refine (shiftQueue_mem q.r hl hl9).mono ?_
    rintro e w2 ⟨he, v', t2⟩
    refine ⟨he, ?_⟩
    have r2 := t2.here
    have hlen2 : ({ mr with vQ := v', queue := mr.queue.tail } : HeapM).blks.length = N + 1 := q.len
    obtain ⟨g, cap, hv, hg, _, _, hfz, hobj⟩ := r2.view hlen2
    have hil : b < ({ mr with vQ := v', queue := mr.queue.tail } : HeapM).blks.length := by rw [hlen2]; omega
    obtain ⟨c0, c1, c2⟩ := hobj b hil
    refine ⟨g, cap, _, _, _, by rw [r2.cell.2.2.2.1, hv], c0, c1, c2, hfz _, hfz _, hfz _, fun W hbW => ?_⟩
    have t3 := r2.placed hlen2 (Below.refl _ _) hv b (List.getElem?_eq_getElem hil) HObj.free own_nil (fun x hx => by cases hx)
    have T : HTurn h w m _ _ := (t.trans t2).trans t3
    have hs3 := q.hs.leave (b := b) (v := v') hcf
    have hls : ((S fl).leave b).stack = (S fl).stack ∧ ((S fl).leave b).globals = (S fl).globals := ⟨rfl, rfl⟩
    refine ⟨_, T.after hbW, (T.after hbW).here, hs3, hgf, p.cf, p.small, ?_, ?_⟩
    · rw [hls.1]; exact q.stack
    · rw [hls.2]; exact q.globals
  clear p hqe hqd hcf hgf hsf target hh hS S0 S1 SL SF hvQ hqcell
  have hbI : (b : Int) < (N : Int) + 1 := by omega
  go_enter Tryz.func34, Tryz.ntmps34
  go_wp2
  go_loopw [3] (fun i wr => ∃ j : Nat, j ≤ fl ∧ i = .int .i64 j ∧ ∃ mr, HTurn h w m wr mr ∧ HB 0 h wr mr (S j) c N) (fun i _ => fl - (intOf i).toNat)
  case atStart => exact ⟨0, Nat.zero_le _, rfl, m, START.out⟩
  case round =>
    obtain ⟨j, hj, rfl, mr, ht, hq⟩ := hrel
    obtain ⟨g, cap, ao, fc, cB, c2⟩ := LEN.out wr mr j ht hq
    by_cases hlt : j < fl
    · have R : Hid _ := ROUND.out wr mr j hlt ht hq
      have hjI : (j : Int) < fl := by omega
      clear ht hq
      go_wp2_with fail
      refine Calls.mono R.out ?_
      rintro e w1 ⟨rfl, hm⟩
      have M : Hid _ := hm
      clear hm R cB c2
      go_wp2
      go_roundw
      case rel => exact ⟨j + 1, by omega, by go_num, M.out⟩
      case measure => simp [intOf]; omega
    · obtain rfl : j = fl := by omega
      have F : Hid _ := END.out wr mr ht hq
      clear ht hq
      go_wp2_with fail
      refine Calls.mono F.out ?_
      rintro e w2 ⟨rfl, g', cap', u0, u1, u2, d0, d1, d2, d3, f1, f2, f3, hm⟩
      have M : Hid _ := hm
      clear hm F cB c2
      go_wp2
      go_end0
      exact ⟨rfl, M.out _ (Below.refl _ _)⟩

end Go.Proofs.YtbdkbkcjdbgloaaGreatDoor

/- OUR OWN. The program's heap: blockToFill's answer, makeObject. -/
namespace Go.Proofs.YtbdkbkcjdbgloaaGreatDoor
open Go.RowKit
set_option linter.unusedVariables false
set_option linter.unusedSimpArgs false

set_option maxHeartbeats 400000 in
theorem hnew_index {w : World} {h : Nat} (n : Int) (hn : n < 0 ∨ 4 < n) :
    Calls Tryz.prog 42 #[.pointer (some ⟨h, 0, none⟩), .int .i64 n] w fun e w' => e = .returned (.int .i64 6) ∧ w' = w := by
  rcases hn with hn | hn
  · go_enter Tryz.func42, Tryz.ntmps42
    go_wp2
    go_ret
    exact ⟨rfl, rfl⟩
  · have h0 : ¬ n < 0 := by omega
    go_enter Tryz.func42, Tryz.ntmps42
    go_wp2
    go_ret
    exact ⟨rfl, rfl⟩

set_option maxHeartbeats 400000 in
theorem hnew_deep {w : World} {h : Nat} {m : HeapM} (r : HeapAt w h m) (n : Int) (h0 : 0 ≤ n) (h4 : n ≤ 4) (hd : m.room ≤ m.stack.length) :
    Calls Tryz.prog 42 #[.pointer (some ⟨h, 0, none⟩), .int .i64 n] w fun e w' => e = .returned (.int .i64 7) ∧ Below w.heap.size w w' := by
  have D : Hid (Calls Tryz.prog 77 #[.pointer (some ⟨h, 0, none⟩)] w fun e w' => e = .returned (.bool true) ∧ Below w.heap.size w w') := (isDeep_any r).mono fun e w' ⟨h1, h2⟩ => ⟨h1.trans (ret_bool (by simpa using hd)), h2⟩
  clear r hd
  go_enter Tryz.func42, Tryz.ntmps42
  go_wp2_with fail
  refine Calls.mono D.out ?_
  rintro e w1 ⟨rfl, hb⟩
  have B : Hid (Below w.heap.size w w1) := hb
  clear hb D
  go_wp2
  go_ret
  exact ⟨rfl, B.out⟩

/-- what blockToFill is asked for: the state is the one behind what a heap does that has no free block -/
def FillSays (h N : Nat) (w : World) (m : HeapM) (s : St) (c : Cf) : Prop := ∀ W, Below w.heap.size w W →
  Calls Tryz.prog 78 #[.pointer (some ⟨h, 0, none⟩)] W fun e w' => ∃ m', HTurn h W m w' m' ∧ HB 0 h w' m' (roomS c s) c N ∧
    ((∃ k : Nat, free? (roomS c s) = some k ∧ e = .returned (.int .i64 ((k : Int) + 1))) ∨ (free? (roomS c s) = none ∧ e = .returned (.int .i64 0)))

theorem fill_mr {h N : Nat} {w : World} {m : HeapM} {s : St} {c : Cf} (p : HB 0 h w m s c N) (n : Nat) (hn : n ≤ 4) (hd : (s.stack.length : Int) < c.deep) (k : Nat) (hk : free? s = some k) :
    Calls Tryz.prog 79 #[.pointer (some ⟨h, 0, none⟩)] w fun e w2 => e = .returned (.tuple #[]) ∧ ∃ g cap u0 u1 u2, h < w2.heap.size ∧ g < w2.heap.size ∧
      w2.cell? ⟨h, 6, none⟩ = some (.slice (some ⟨g, 0, none⟩) (N + 1) cap) ∧ w2.cell? ⟨g, (k + 1) * 3, none⟩ = some u0 ∧ w2.cell? ⟨g, (k + 1) * 3 + 1, none⟩ = some u1 ∧ w2.cell? ⟨g, (k + 1) * 3 + 2, none⟩ = some u2 ∧
      w2.frozen? ⟨g, (k + 1) * 3, none⟩ = false ∧ w2.frozen? ⟨g, (k + 1) * 3 + 1, none⟩ = false ∧ w2.frozen? ⟨g, (k + 1) * 3 + 2, none⟩ = false ∧
      Calls Tryz.prog 41 #[.pointer (some ⟨h, 0, none⟩), .agg #[.int .i64 2, .int .i64 ((k : Int) + 1)]] ((((w2.setCell ⟨g, (k + 1) * 3, none⟩ (.int .i64 1)).setCell ⟨g, (k + 1) * 3 + 1, none⟩ (.int .i64 0)).setCell ⟨g, (k + 1) * 3 + 2, none⟩ (.slice (some ⟨w2.heap.size, 0, none⟩) n n)).alloc (.cells (madeCells #[.int .i64 0, .int .i64 0] (n * 2)) 81)).drew
        fun e w' => e = .returned (.int .i64 0) ∧ ∃ m', HTurn h w m w' m' ∧ HS m' (layS c.zero s (k + 1) n) c N := by
  obtain ⟨hkl, hkf, hkt⟩ := free_iff hk
  have hkN : k < N := by rw [p.good.len] at hkl; omega
  have hN := p.small
  have stOf : ∀ {W : World} {mm : HeapM} {ss : St} {j : Nat} {o : HObj}, HB 0 h W mm ss c N → mm.blks[j]? = some o → (ss.ob j).here = decide (o.state ≠ 0) := fun q ho => by rw [q.ob ho]; rfl
  refine (makeRoom_any p).mono ?_
  rintro e w2 ⟨he, m2, t, q⟩
  refine ⟨he, ?_⟩
  obtain ⟨g, cap, hv, hg, _, _, hfz, hobj⟩ := q.r.view q.len
  have hil : k + 1 < m2.blks.length := by rw [q.len]; omega
  have hio : m2.blks[k + 1]? = some m2.blks[k + 1] := List.getElem?_eq_getElem hil
  obtain ⟨c0, c1, c2⟩ := hobj (k + 1) hil
  have hst0 : (m2.blks[k + 1]).state = 0 := by
    have h1 := stOf q hio
    rw [(sh_enter c.zero 0 s).2 (k + 1), hkf] at h1
    simpa using h1.symm
  refine ⟨g, cap, _, _, _, lt_of_heap q.r.head, hg, by rw [q.r.cell.2.2.2.1, hv], c0, c1, c2, hfz _, hfz _, hfz _, ?_⟩
  have hb1 : Below w2.heap.size w2 (w2.alloc (.cells (madeCells #[.int .i64 0, .int .i64 0] (n * 2)) 81)) := (Below.refl _ _).alloc (Nat.le_refl _) _
  have t3 := q.r.placed q.len hb1 hv (k + 1) hio ⟨1, 0, .slice (some ⟨w2.heap.size, 0, none⟩) n n, List.replicate n (0, 0)⟩ (by
    show (World.alloc _ _).ownsRow 0 _ 2 _ (List.replicate n ((0, 0) : Int × Int)).length _
    have := own_made_two w2 81 (.int .i64 0) (.int .i64 0) n (by omega)
    simpa [HObj.row, hrow, flat_rep, valCells] using this) (fun b hbb => by
    have : b = w2.heap.size := by simpa [Value.ownBlock, eq_comm] using hbb
    omega)
  have hs3 := q.hs.lay (n := n) q.good hio hst0 (by omega) (.slice (some ⟨w2.heap.size, 0, none⟩) n n)
  have g3 := q.good.laid (n := n) (by rw [stOf q hio, hst0]; simp) (by rw [q.good.len]; omega) (by omega : 1 ≤ k + 1) hn
  have hes := enter_same c.zero 0 s
  have q3 : HB 0 h _ _ ((s.enter c.zero 0).put (k + 1) (newOb n)) c N := ⟨t3.drew.here, hs3, g3, p.cf, p.small, q.stack, q.globals⟩
  have hms : (m2.put (k + 1) ⟨1, 0, .slice (some ⟨w2.heap.size, 0, none⟩) n n, List.replicate n (0, 0)⟩).stack = s.stack := q3.mstack.trans hes.1
  have ew : layBlk (w2.alloc (.cells (madeCells #[.int .i64 0, .int .i64 0] (n * 2)) 81)) g (k + 1) ⟨1, 0, .slice (some ⟨w2.heap.size, 0, none⟩) n n, List.replicate n (0, 0)⟩ =
      ((((w2.setCell ⟨g, (k + 1) * 3, none⟩ (.int .i64 1)).setCell ⟨g, (k + 1) * 3 + 1, none⟩ (.int .i64 0)).setCell ⟨g, (k + 1) * 3 + 2, none⟩ (.slice (some ⟨w2.heap.size, 0, none⟩) n n)).alloc (.cells (madeCells #[.int .i64 0, .int .i64 0] (n * 2)) 81)) := by
    unfold layBlk
    simp only
    rw [alloc_setCell hg, alloc_setCell (by simpa [World.setCell] using hg), alloc_setCell (by simpa [World.setCell] using hg)]
  rw [ew] at t3 q3
  refine (hpush_room q3.r (by rw [hms]; exact p.stack) (2, (k : Int) + 1) (by rw [hms, q3.hs.deep]; exact hd)).mono ?_
  rintro e w' ⟨he, v', t4⟩
  refine ⟨he, _, (t.trans t3.drew).trans t4, ?_⟩
  have hs4 := q3.hs
  refine ⟨?_, hs4.deep, hs4.zero, hs4.over, hs4.budget, hs4.state, fun i o hio hst => ?_⟩
  · unfold layS
    rw [show (⟨true, List.replicate n (0, 0), false, false⟩ : Ob) = newOb n from rfl, lay_enter p.good c.zero hkf hkl (by omega), ← hs4.st]
    show (⟨_, _, _, _⟩ : St) = ⟨_, _, _, _⟩
    rw [hms]
    rfl
  · have := hs4.cnt i o hio hst
    have ec : (layS c.zero s (k + 1) n).count i = ((s.enter c.zero 0).put (k + 1) (newOb n)).count i := by
      unfold layS
      rw [show (⟨true, List.replicate n (0, 0), false, false⟩ : Ob) = newOb n from rfl, lay_enter p.good c.zero hkf hkl (by omega)]
      rfl
    rw [ec]; exact this

set_option maxHeartbeats 1600000 in
theorem hnew_do {h N : Nat} {w : World} {m : HeapM} {s : St} {c : Cf} (p : HB 0 h w m s c N) (n : Nat) (hn : n ≤ 4) (hd : (s.stack.length : Int) < c.deep) (fill : FillSays h N w m s c) :
    Calls Tryz.prog 42 #[.pointer (some ⟨h, 0, none⟩), .int .i64 n] w
      fun e w' => e = .returned (.int .i64 (newS c s n).2.2) ∧ ∃ m', HTurn h w m w' m' ∧ HS m' (newS c s n).1 c N := by
  have hN := p.small
  have hdm : (m.stack.length : Int) < m.room := by rw [p.mstack, p.hs.deep]; exact hd
  have hnS : newS c s n = match free? (roomS c s) with
      | none => (roomS c s, 0, 8)
      | some k => (layS c.zero (roomS c s) (k + 1) n, 0, 0) := by
    unfold newS
    refine (if_neg (by omega)).trans ((if_neg (by omega)).trans ?_)
    rw [Int.toNat_natCast]
    cases free? (roomS c s) <;> rfl
  obtain ⟨tgt, htgt⟩ : ∃ t : St × Int × Int, newS c s n = t := ⟨_, rfl⟩
  rw [htgt] at hnS ⊢
  have D : Hid (Calls Tryz.prog 77 #[.pointer (some ⟨h, 0, none⟩)] w fun e w' => e = .returned (.bool false) ∧ Below w.heap.size w w') := (isDeep_any p.r).mono fun e w' ⟨h1, h2⟩ => ⟨h1.trans (ret_bool (by simp; omega)), h2⟩
  have F : Hid (∀ W, Below w.heap.size w W → Calls Tryz.prog 78 #[.pointer (some ⟨h, 0, none⟩)] W fun e w1 =>
      (e = .returned (.int .i64 0) ∧ tgt.2.2 = 8 ∧ ∃ m', HTurn h w m w1 m' ∧ HS m' tgt.1 c N) ∨
      ∃ k : Nat, k < N ∧ e = .returned (.int .i64 ((k : Int) + 1)) ∧ tgt.2.2 = 0 ∧ Calls Tryz.prog 79 #[.pointer (some ⟨h, 0, none⟩)] w1 fun e w2 => e = .returned (.tuple #[]) ∧ ∃ g cap u0 u1 u2, h < w2.heap.size ∧ g < w2.heap.size ∧
        w2.cell? ⟨h, 6, none⟩ = some (.slice (some ⟨g, 0, none⟩) (N + 1) cap) ∧ w2.cell? ⟨g, (k + 1) * 3, none⟩ = some u0 ∧ w2.cell? ⟨g, (k + 1) * 3 + 1, none⟩ = some u1 ∧ w2.cell? ⟨g, (k + 1) * 3 + 2, none⟩ = some u2 ∧
        w2.frozen? ⟨g, (k + 1) * 3, none⟩ = false ∧ w2.frozen? ⟨g, (k + 1) * 3 + 1, none⟩ = false ∧ w2.frozen? ⟨g, (k + 1) * 3 + 2, none⟩ = false ∧
        Calls Tryz.prog 41 #[.pointer (some ⟨h, 0, none⟩), .agg #[.int .i64 2, .int .i64 ((k : Int) + 1)]] ((((w2.setCell ⟨g, (k + 1) * 3, none⟩ (.int .i64 1)).setCell ⟨g, (k + 1) * 3 + 1, none⟩ (.int .i64 0)).setCell ⟨g, (k + 1) * 3 + 2, none⟩ (.slice (some ⟨w2.heap.size, 0, none⟩) n n)).alloc (.cells (madeCells #[.int .i64 0, .int .i64 0] (n * 2)) 81)).drew
          fun e w' => e = .returned (.int .i64 0) ∧ ∃ m', HTurn h w m w' m' ∧ HS m' tgt.1 c N) := by
    intro W hb
    refine (fill W hb).mono ?_
    rintro e w1 ⟨m1, t1, q1, hf⟩
    have T1 : HTurn h w m w1 m1 := .pre p.r hb t1
    rcases hf with ⟨k, hk, rfl⟩ | ⟨hk, rfl⟩
    · rw [hk] at hnS
      subst hnS
      obtain ⟨hkl, _, _⟩ := free_iff hk
      refine .inr ⟨k, by rw [q1.good.len] at hkl; omega, rfl, rfl, (fill_mr q1 n hn (by rw [room_stack]; exact hd) k hk).mono ?_⟩
      rintro e w2 ⟨he, g, cap, u0, u1, u2, a1, a2, a3, a4, a5, a6, a7, a8, a9, hp⟩
      refine ⟨he, g, cap, u0, u1, u2, a1, a2, a3, a4, a5, a6, a7, a8, a9, hp.mono ?_⟩
      rintro e w3 ⟨he, m', t2, hs⟩
      exact ⟨he, m', T1.trans t2, hs⟩
    · rw [hk] at hnS
      subst hnS
      exact .inl ⟨rfl, rfl, m1, T1, q1.hs⟩
  have hnI : ¬ (n : Int) < 0 := by omega
  have hn4 : ¬ (4 : Int) < n := by omega
  have mk1 := run_make_two (P := Tryz.prog) 69 81 (.int .i64 0) (.int .i64 0) 16 Tryz.underlying69 infoValue .i64 .i64 n (by omega) (by omega)
  clear p fill hd hdm htgt hnS
  obtain ⟨ts, t0, te⟩ := tgt
  simp only at F ⊢
  go_enter Tryz.func42, Tryz.ntmps42
  go_wp2_with fail
  refine Calls.mono D.out ?_
  rintro e w1 ⟨rfl, hb⟩
  have F1 : Hid _ := F.out _ hb
  clear hb D F
  go_wp2_with fail
  refine Calls.mono F1.out ?_
  rintro e w2 hf
  clear F1
  rcases hf with ⟨rfl, rfl, hm⟩ | ⟨k, hkN, rfl, rfl, hmr⟩
  · have M : Hid _ := hm
    clear hm
    go_wp2
    go_ret
    exact ⟨rfl, M.out⟩
  have MR : Hid _ := hmr
  clear hmr
  have hk0 : ((k : Int) + 1 == 0) = false := by simp; omega
  have hk1 : ¬ ((k : Int) + 1 = 0) := by omega
  have hkI : (k : Int) + 1 < (N : Int) + 1 := by omega
  go_wp2_with fail
  refine Calls.mono MR.out ?_
  rintro e w3 ⟨rfl, g, cap, u0, u1, u2, hh, hg, a0, a1, a2, a3, f1, f2, f3, hpush⟩
  have PU : Hid _ := hpush
  clear hpush MR
  have al : ∀ (ob : Obj) (b o : Nat), b < w3.heap.size → (w3.alloc ob).cell? ⟨b, o, none⟩ = w3.cell? ⟨b, o, none⟩ := fun ob b o hlt => World.cell?_of_block (hao hlt)
  have t0 : ∀ ob, (w3.alloc ob).cell? ⟨h, 6, none⟩ = w3.cell? ⟨h, 6, none⟩ := fun ob => al ob h 6 hh
  have t1 : ∀ ob, (w3.alloc ob).cell? ⟨g, (k + 1) * 3, none⟩ = w3.cell? ⟨g, (k + 1) * 3, none⟩ := fun ob => al ob g _ hg
  have t2 : ∀ ob, (w3.alloc ob).cell? ⟨g, (k + 1) * 3 + 1, none⟩ = w3.cell? ⟨g, (k + 1) * 3 + 1, none⟩ := fun ob => al ob g _ hg
  have t3 : ∀ ob, (w3.alloc ob).cell? ⟨g, (k + 1) * 3 + 2, none⟩ = w3.cell? ⟨g, (k + 1) * 3 + 2, none⟩ := fun ob => al ob g _ hg
  have z1 : ∀ ob, (w3.alloc ob).frozen? ⟨g, (k + 1) * 3, none⟩ = w3.frozen? ⟨g, (k + 1) * 3, none⟩ := fun ob => World.frozen?_of_block (hao hg)
  have z2 : ∀ ob, (w3.alloc ob).frozen? ⟨g, (k + 1) * 3 + 1, none⟩ = w3.frozen? ⟨g, (k + 1) * 3 + 1, none⟩ := fun ob => World.frozen?_of_block (hao hg)
  have z3 : ∀ ob, (w3.alloc ob).frozen? ⟨g, (k + 1) * 3 + 2, none⟩ = w3.frozen? ⟨g, (k + 1) * 3 + 2, none⟩ := fun ob => World.frozen?_of_block (hao hg)
  clear al
  go_wp2_with fail
  go_region
  all_goals go_wp2_with fail
  all_goals refine Calls.mono PU.out ?_
  all_goals rintro e w4 ⟨rfl, hm⟩
  all_goals have M : Hid _ := hm
  all_goals clear hm
  all_goals go_wp2
  all_goals go_ret
  all_goals exact ⟨rfl, M.out⟩

end Go.Proofs.YtbdkbkcjdbgloaaGreatDoor

/- OUR OWN. The program's heap: blockToFill. -/
namespace Go.Proofs.YtbdkbkcjdbgloaaGreatDoor
open Go.RowKit
set_option linter.unusedVariables false
set_option linter.unusedSimpArgs false

theorem freeBlock_st {h N : Nat} {w : World} {m : HeapM} {s : St} {c : Cf} (p : HB 0 h w m s c N) :
    Calls Tryz.prog 99 #[.pointer (some ⟨h, 0, none⟩)] w fun e w' => w' = w ∧ ((∃ k : Nat, free? s = some k ∧ e = .returned (.int .i64 ((k : Int) + 1))) ∨ (free? s = none ∧ e = .returned (.int .i64 0))) := by
  have stOf : ∀ {j : Nat} {o : HObj}, m.blks[j]? = some o → (s.ob j).here = decide (o.state ≠ 0) := fun ho => by rw [p.ob ho]; rfl
  refine (freeBlock_any p.r p.len p.small).mono ?_
  rintro e w' ⟨v, rfl, hs, rfl⟩
  refine ⟨rfl, ?_⟩
  cases hk : free? s with
  | none =>
    refine .inr ⟨rfl, ?_⟩
    rcases hs with ⟨rfl, _⟩ | ⟨k, hkN, rfl, ⟨o, ho, h0⟩, _⟩
    · rfl
    · obtain ⟨k', hk'⟩ := free_exists (s := s) (b := k + 1) (by omega) (by rw [p.good.len]; omega) (by rw [stOf ho]; simp [h0])
      rw [hk] at hk'; cases hk'
  | some k =>
    obtain ⟨hkl, hkf, hkt⟩ := free_iff hk
    have hkN : k < N := by rw [p.good.len] at hkl; omega
    refine .inl ⟨k, rfl, ?_⟩
    rcases hs with ⟨_, hs⟩ | ⟨k', hk', rfl, ⟨o1, ho1, hf1⟩, hs⟩
    · obtain ⟨o, ho, ht⟩ := hs k hkN
      rw [stOf ho] at hkf; simp at hkf; exact absurd hkf ht
    · have : k' = k := by
        rcases Nat.lt_trichotomy k' k with e | e | e
        · have := hkt k' e
          rw [stOf ho1] at this; simp at this; exact absurd hf1 this
        · exact e
        · obtain ⟨o, ho, ht⟩ := hs k e
          rw [stOf ho] at hkf; simp at hkf; exact absurd hkf ht
      rw [this]

set_option maxHeartbeats 800000 in
theorem fill_says {h N : Nat} {w : World} {m : HeapM} {s : St} {c : Cf} (p : HB 0 h w m s c N) (hr : (∃ k, free? s = some k) ∨ s.queue.length ≠ 0) : FillSays h N w m s c := by
  intro W hb
  have q := p.below hb
  cases hk : free? s with
  | some k =>
    have e : roomS c s = s := room_of_free hk
    rw [e]
    have F : Hid (Calls Tryz.prog 99 #[.pointer (some ⟨h, 0, none⟩)] W fun e w' => w' = W ∧ e = .returned (.int .i64 ((k : Int) + 1))) := (freeBlock_st q).mono fun e w' ⟨h1, h2⟩ => ⟨h1, by
      rcases h2 with ⟨k', h3, h4⟩ | ⟨h3, _⟩
      · rw [hk] at h3; cases h3; exact h4
      · rw [hk] at h3; cases h3⟩
    have K : Hid (∃ m', HTurn h W m W m' ∧ HB 0 h W m' s c N ∧ ((∃ k' : Nat, free? s = some k' ∧ (Ending.returned (.int .i64 ((k : Int) + 1))) = .returned (.int .i64 ((k' : Int) + 1))) ∨ (free? s = none ∧ (Ending.returned (.int .i64 ((k : Int) + 1))) = .returned (.int .i64 0)))) := ⟨m, .refl q.r, q, .inl ⟨k, hk, rfl⟩⟩
    have hk0 : ((k : Int) + 1 == 0) = false := by simp; omega
    have hk1 : ¬ ((k : Int) + 1 = 0) := by omega
    clear p hr e hk q hb
    go_enter Tryz.func78, Tryz.ntmps78
    go_wp2_with fail
    refine Calls.mono F.out ?_
    rintro e w1 ⟨hw, rfl⟩
    subst hw
    clear F
    go_wp2
    go_ret
    exact K.out
  | none =>
    have hq : s.queue.length ≠ 0 := by
      rcases hr with ⟨k, h1⟩ | h1
      · rw [hk] at h1; cases h1
      · exact h1
    have e : roomS c s = s.free c.zero := by unfold roomS; rw [hk]; exact if_pos (by omega)
    rw [e]
    have F : Hid (Calls Tryz.prog 99 #[.pointer (some ⟨h, 0, none⟩)] W fun e w' => w' = W ∧ e = .returned (.int .i64 0)) := (freeBlock_st q).mono fun e w' ⟨h1, h2⟩ => ⟨h1, by
      rcases h2 with ⟨k', h3, h4⟩ | ⟨_, h4⟩
      · rw [hk] at h3; cases h3
      · exact h4⟩
    obtain ⟨ao, qc, hvQ⟩ := win_slice q.r.queue
    have cQ : W.cell? ⟨h, 7, none⟩ = some (.slice ao s.queue.length qc) := by rw [q.r.cell.2.2.2.2.1, hvQ, q.mqueue]
    have FF : Hid (∀ W1, Below W.heap.size W W1 → Calls Tryz.prog 34 #[.pointer (some ⟨h, 0, none⟩)] W1 fun e w1 => e = .returned (.tuple #[]) ∧ Calls Tryz.prog 99 #[.pointer (some ⟨h, 0, none⟩)] w1 fun e w2 => (∃ v, e = .returned (.int .i64 v)) ∧
        ∃ m', HTurn h W m w2 m' ∧ HB 0 h w2 m' (s.free c.zero) c N ∧ ((∃ k : Nat, free? (s.free c.zero) = some k ∧ e = .returned (.int .i64 ((k : Int) + 1))) ∨ (free? (s.free c.zero) = none ∧ e = .returned (.int .i64 0)))) := fun W1 hb1 => by
      refine (freeFirst_any (q.below hb1) hq).mono ?_
      rintro e w1 ⟨he, m1, t1, q1⟩
      refine ⟨he, (freeBlock_st q1).mono ?_⟩
      rintro e w2 ⟨rfl, h2⟩
      refine ⟨?_, m1, .pre q.r hb1 t1, q1, h2⟩
      rcases h2 with ⟨k, _, h4⟩ | ⟨_, h4⟩
      · exact ⟨_, h4⟩
      · exact ⟨_, h4⟩
    have hql : s.queue.length ≤ 100 := by have := p.good.queue_len; have := p.small; omega
    obtain ⟨ql, hqle⟩ : ∃ ql, s.queue.length = ql := ⟨_, rfl⟩
    rw [hqle] at cQ hq hql
    have hqI : (0 : Int) < ql := by omega
    clear p hr e hk q hb hvQ hqle
    go_enter Tryz.func78, Tryz.ntmps78
    go_wp2_with fail
    refine Calls.mono F.out ?_
    rintro e w1 ⟨hw, rfl⟩
    subst hw
    clear F
    go_wp2_with fail
    refine Calls.mono (FF.out _ (Below.refl _ _)) ?_
    rintro e w2 ⟨rfl, h2⟩
    have H2 : Hid _ := h2
    clear h2 FF cQ
    go_wp2_with fail
    refine Calls.mono H2.out ?_
    rintro e w3 ⟨⟨v, rfl⟩, hm⟩
    have M : Hid _ := hm
    clear hm H2
    go_wp2
    go_ret
    exact M.out

end Go.Proofs.YtbdkbkcjdbgloaaGreatDoor

/- OUR OWN. The program's heap: store; what an operation's parts do, as the document's state. -/
namespace Go.Proofs.YtbdkbkcjdbgloaaGreatDoor
open Go.RowKit
set_option linter.unusedVariables false
set_option linter.unusedSimpArgs false

def HDone (h N : Nat) (w : World) (m : HeapM) (c : Cf) (r : St × Int × Int) (e : Ending) (w' : World) : Prop := e = .returned (.int .i64 r.2.2) ∧ ∃ m', HTurn h w m w' m' ∧ HS m' r.1 c N
def HDone2 (h N : Nat) (w : World) (m : HeapM) (c : Cf) (r : St × Int × Int) (e : Ending) (w' : World) : Prop := e = .returned (.tuple #[.int .i64 r.2.1, .int .i64 r.2.2]) ∧ ∃ m', HTurn h w m w' m' ∧ HS m' r.1 c N

/-- the blocks are as they were: so are the counts -/
theorem HStep.hs {h N : Nat} {w w' : World} {m m' : HeapM} {s : St} {c : Cf} (a : HStep h N w m w' m') (p : HSb 0 m s c N) {t : St} (ht : m'.st = t) : HS m' t c N := by
  have hr := a.rest
  unfold HeapM.rest at hr
  simp only [Prod.mk.injEq] at hr
  obtain ⟨h1, h6, h2, h3, h4, h5⟩ := hr
  refine ⟨ht, h1.trans p.deep, h2.trans p.zero, h3.trans p.over, h6.trans p.budget, by rw [h4]; exact p.state, fun i o hi hs => ?_⟩
  rw [h4] at hi
  rw [p.cnt i o hi hs]
  have : t.count i = s.count i := by
    unfold St.count
    rw [← ht, ← p.st]
    unfold HeapM.st
    simp only
    rw [h4]
  rw [this]
theorem HDid.done {h N : Nat} {w w' : World} {m : HeapM} {s : St} {c : Cf} {r : St × Int × Int} {e : Ending} (p : HSb 0 m s c N) (d : HDid h N w m r e w') : HDone h N w m c r e w' := by
  obtain ⟨he, m', hs, hm⟩ := d
  exact ⟨he, m', hs.turn, hs.hs p hm⟩
theorem HDid2.done {h N : Nat} {w w' : World} {m : HeapM} {s : St} {c : Cf} {r : St × Int × Int} {e : Ending} (p : HSb 0 m s c N) (d : HDid2 h N w m r e w') : HDone2 h N w m c r e w' := by
  obtain ⟨he, m', hs, hm⟩ := d
  exact ⟨he, m', hs.turn, hs.hs p hm⟩

theorem new_done {h N : Nat} {w : World} {m : HeapM} {s : St} {c : Cf} (p : HB 0 h w m s c N) (n : Int) (hr : (∃ k, free? s = some k) ∨ s.queue.length ≠ 0) :
    Calls Tryz.prog 42 #[.pointer (some ⟨h, 0, none⟩), .int .i64 n] w (HDone h N w m c (newS c s n)) := by
  by_cases h1 : n < 0 ∨ 4 < n
  · have e : newS c s n = (s, 0, 6) := by unfold newS; exact if_pos h1
    rw [e]
    exact (hnew_index n h1).mono fun e w' ⟨he, hw⟩ => ⟨he, m, by rw [hw]; exact .refl p.r, p.hs⟩
  by_cases h2 : c.deep ≤ s.stack.length
  · have e : newS c s n = (s, 0, 7) := by unfold newS; exact (if_neg h1).trans (if_pos h2)
    rw [e]
    exact (hnew_deep p.r n (by omega) (by omega) (by rw [p.hs.deep, p.mstack]; exact h2)).mono fun e w' ⟨he, hb⟩ => ⟨he, m, .of_below p.r hb, p.hs⟩
  obtain ⟨j, rfl⟩ : ∃ j : Nat, n = j := ⟨n.toNat, by omega⟩
  exact (hnew_do p j (by omega) (by omega) (fill_says p hr)).mono fun e w' ⟨he, m', ht, hs⟩ => ⟨he, m', ht, hs⟩

theorem HB.of_step {h N : Nat} {w w' : World} {m m' : HeapM} {s t : St} {c : Cf} (p : HB 0 h w m s c N) (a : HStep h N w m w' m') (ht : m'.st = t) (g : t.Good N) : HB 0 h w' m' t c N :=
  ⟨a.turn.here, a.hs p.hs ht, g, p.cf, p.small, by have := a.ok.stack; rw [← ht]; exact this, by have := a.ok.globals; rw [← ht]; exact this⟩

set_option maxHeartbeats 1600000 in
theorem store_done {h N : Nat} {w : World} {m : HeapM} {s : St} {c : Cf} (p : HB 0 h w m s c N) (n : Int) :
    Calls Tryz.prog 48 #[.pointer (some ⟨h, 0, none⟩), .int .i64 n] w (HDone h N w m c (storeS c s n)) := by
  obtain ⟨ao, cap, cS⟩ := p.pre.stackCell
  have hl := p.pre.ok.stack
  have hms := p.mstack
  by_cases hc : m.stack.length < 2
  · have e : storeS c s n = (s, 0, 3) := by unfold storeS; exact if_pos (by rw [← hms]; exact hc)
    rw [e]
    have K : Hid (∃ m', HTurn h w m w m' ∧ HS m' s c N) := ⟨m, .refl p.r, p.hs⟩
    obtain ⟨len, hlen⟩ : ∃ len, m.stack.length = len := ⟨_, rfl⟩
    rw [hlen] at hc cS hl
    clear p hlen e hms
    have hcI : (len : Int) < 2 := by omega
    go_enter Tryz.func48, Tryz.ntmps48
    go_wp2
    go_ret
    exact ⟨rfl, K.out⟩
  have hst := p.hs.st
  have hcs : ¬ s.stack.length < 2 := by rw [← hms]; exact hc
  have D0 : Hid _ := hdown_do p.pre 0 (by omega)
  have D1 : Hid (∀ W, Below w.heap.size w W → Calls Tryz.prog 80 #[.pointer (some ⟨h, 0, none⟩), .int .i64 1] W fun e w' => e = .returned (.agg #[.int .i64 (m.st.down 1).1, .int .i64 (m.st.down 1).2]) ∧ Below W.heap.size W w') := fun W hb => hdown_do (p.pre.below hb) 1 (by show 1 < m.stack.length; omega)
  have K : Hid (∀ W, Below w.heap.size w W → ∃ m', HTurn h w m W m' ∧ HS m' s c N) := fun W hb => ⟨m, .of_below p.r hb, p.hs⟩
  have hv := p.pre.inv.down 1
  have CK : Hid (∀ W, Below w.heap.size w W → Calls Tryz.prog 82 #[.pointer (some ⟨h, 0, none⟩), .agg #[.int .i64 (m.st.down 1).1, .int .i64 (m.st.down 1).2], .int .i64 n] W fun e w' => e = .returned (.int .i64 (fieldErr m.st (m.st.down 1) n)) ∧ Below W.heap.size W w') := fun W hb => checkField_any h N W m (p.pre.below hb) _ n hv
  rw [hst] at D0 D1 CK hv
  have hcI0 : ¬ (m.stack.length : Int) < 2 := by omega
  by_cases he : fieldErr s (s.down 1) n ≠ 0
  · rw [storeS_err hcs he]
    obtain ⟨len, hlen⟩ : ∃ len, m.stack.length = len := ⟨_, rfl⟩
    rw [hlen] at cS hcI0 hl
    obtain ⟨er, her⟩ : ∃ er, fieldErr s (s.down 1) n = er := ⟨_, rfl⟩
    rw [her] at he CK ⊢
    obtain ⟨x, hx⟩ : ∃ x, s.down 0 = x := ⟨_, rfl⟩
    rw [hx] at D0
    obtain ⟨q, hq⟩ : ∃ q, s.down 1 = q := ⟨_, rfl⟩
    rw [hq] at D1 CK
    obtain ⟨x1, x2⟩ := x
    obtain ⟨q1, q2⟩ := q
    have he2 : (er == 0) = false := by simpa using he
    clear p hlen hx hq hv her hc hms hst hcs
    go_enter Tryz.func48, Tryz.ntmps48
    go_wp2_with fail
    refine Calls.mono D0.out ?_
    rintro e w1 ⟨rfl, hb⟩
    have B : Hid (Below w.heap.size w w1) := hb
    clear hb D0
    go_wp2_with fail
    refine Calls.mono (D1.out _ (B.out.alloc B.out.size _)) ?_
    rintro e w2 ⟨rfl, hb⟩
    have B2 : Hid (Below w.heap.size w w2) := (B.out.alloc B.out.size _).trans (hb.mono (by simp; have := B.out.size; omega))
    clear hb D1
    go_wp2_with fail
    refine Calls.mono (CK.out _ (B2.out.alloc B2.out.size _)) ?_
    rintro e w3 ⟨rfl, hb⟩
    have B3 : Hid (Below w.heap.size w w3) := (B2.out.alloc B2.out.size _).trans (hb.mono (by simp; have := B2.out.size; omega))
    clear hb CK
    go_wp2
    go_ret
    exact ⟨rfl, K.out _ B3.out⟩
  have he : fieldErr s (s.down 1) n = 0 := by omega
  obtain ⟨ho, hn0, hnl⟩ := field_ok he
  obtain ⟨k, rfl⟩ : ∃ k : Nat, n = k := ⟨n.toNat, by omega⟩
  obtain ⟨hq1, hq2⟩ := ref_of hv ho
  obtain ⟨i, hi⟩ : ∃ i : Nat, (s.down 1).2 = i := ⟨(s.down 1).2.toNat, by omega⟩
  have hkf : k < (s.ob i).fs.length := by
    have : s.fields (s.down 1).2 = (s.ob i).fs := by unfold St.fields; rw [hi, Int.toNat_natCast]
    rw [this] at hnl; omega
  have e : storeS c s k = (putS c (s.pop 2) i k (s.down 0) (((s.pop 2).ob i).fs.getD k (0, 0)), 0, 0) := by
    unfold storeS
    refine (if_neg hcs).trans ((if_neg (by omega)).trans ((if_neg (by omega)).trans ?_))
    unfold St.fields
    rw [hi, Int.toNat_natCast, Int.toNat_natCast]
    rfl
  rw [e]
  have AFTER : Hid (∀ W, Below w.heap.size w W → Calls Tryz.prog 81 #[.pointer (some ⟨h, 0, none⟩), .int .i64 2] W fun e w' => e = .returned (.tuple #[]) ∧
      (∀ L ob, w.heap.size ≤ L → W.heap[L]? = some ob → w'.heap[L]? = some ob) ∧
      Calls Tryz.prog 83 #[.pointer (some ⟨h, 0, none⟩), .int .i64 i, .int .i64 k, .agg #[.int .i64 (s.down 0).1, .int .i64 (s.down 0).2]] w' fun e w2 => e = .returned (.tuple #[]) ∧
        ∃ m', HTurn h w m w2 m' ∧ HS m' (putS c (s.pop 2) i k (s.down 0) (((s.pop 2).ob i).fs.getD k (0, 0))) c N) := by
    intro W hb
    refine (hpop_do (p.pre.below hb) 2 (by omega) (by omega)).mono ?_
    rintro e w' ⟨he, v', hs⟩
    have s1 : HStep h N w m w' _ := (HStep.of_below p.pre hb).trans hs
    have q := p.of_step s1 (t := s.pop 2) (by
      unfold St.pop
      rw [← hst]
      rfl) (p.good.pop 2)
    refine ⟨he, fun L ob hL hW => hturn_local p.pre hb hW hL hs.turn, ?_⟩
    refine (setField_any q i k (s.down 0) hkf (p.good.down 0)).mono ?_
    rintro e w2 ⟨he, m', t, q2⟩
    exact ⟨he, m', s1.turn.trans t, q2.hs⟩
  rw [he] at CK
  obtain ⟨tgt, htgt⟩ : ∃ t : St, putS c (s.pop 2) i k (s.down 0) (((s.pop 2).ob i).fs.getD k (0, 0)) = t := ⟨_, rfl⟩
  rw [htgt] at AFTER ⊢
  obtain ⟨len, hlen⟩ : ∃ len, m.stack.length = len := ⟨_, rfl⟩
  rw [hlen] at cS hcI0 hl
  obtain ⟨x, hx⟩ : ∃ x, s.down 0 = x := ⟨_, rfl⟩
  rw [hx] at D0 AFTER
  obtain ⟨q, hq⟩ : ∃ q, s.down 1 = q := ⟨_, rfl⟩
  rw [hq] at D1 CK hi
  obtain ⟨x1, x2⟩ := x
  obtain ⟨q1, q2⟩ := q
  simp only at hi
  subst hi
  clear p hlen e hx hq hv he K hc hn0 hnl ho hkf htgt hms hst hcs hq1 hq2
  go_enter Tryz.func48, Tryz.ntmps48
  go_wp2_with fail
  refine Calls.mono D0.out ?_
  rintro e w1 ⟨rfl, hb⟩
  have B : Hid (Below w.heap.size w w1) := hb
  clear hb D0
  go_wp2_with fail
  refine Calls.mono (D1.out _ (B.out.alloc B.out.size _)) ?_
  rintro e w2 ⟨rfl, hb⟩
  have B2 : Hid (Below w.heap.size w w2 ∧ w1.heap.size + 1 ≤ w2.heap.size ∧ w2.heap[w1.heap.size]? = some (.cells #[.int .i64 x1, .int .i64 x2] 81)) := ⟨(B.out.alloc B.out.size _).trans (hb.mono (by simp; have := B.out.size; omega)), by have := hb.size; simpa using this, boxed' hb⟩
  clear hb D1
  go_wp2_with fail
  refine Calls.mono (CK.out _ (B2.out.1.alloc B2.out.1.size _)) ?_
  rintro e w3 ⟨rfl, hb⟩
  have B3 : Hid (Below w.heap.size w w3 ∧ w3.heap[w2.heap.size]? = some (.cells #[.int .i64 q1, .int .i64 i] 81) ∧ w3.heap[w1.heap.size]? = some (.cells #[.int .i64 x1, .int .i64 x2] 81)) :=
    ⟨(B2.out.1.alloc B2.out.1.size _).trans (hb.mono (by simp; have := B2.out.1.size; omega)), boxed' hb, by
      have h1 := B2.out.2.1
      rw [hb.block _ (by simp; omega), hao (by omega)]; exact B2.out.2.2⟩
  clear hb CK
  go_wp2_with fail
  refine Calls.mono (AFTER.out _ B3.out.1) ?_
  rintro e w4 ⟨rfl, hloc, hset⟩
  have l0 := hloc _ _ B.out.size B3.out.2.2
  have l1 := hloc _ _ B2.out.1.size B3.out.2.1
  have v0 : w4.cell? ⟨w1.heap.size, 0, none⟩ = some (.int .i64 x1) := cell_of_heap l0 rfl
  have v1 : w4.cell? ⟨w1.heap.size, 1, none⟩ = some (.int .i64 x2) := cell_of_heap l0 rfl
  have u1 : w4.cell? ⟨w2.heap.size, 1, none⟩ = some (.int .i64 i) := cell_of_heap l1 rfl
  have S : Hid _ := hset
  clear hset hloc AFTER B B2 B3 l0 l1
  go_wp2_with fail
  refine Calls.mono S.out ?_
  rintro e w5 ⟨rfl, hm⟩
  have M : Hid _ := hm
  clear hm S
  go_wp2
  go_ret
  exact ⟨rfl, M.out⟩

end Go.Proofs.YtbdkbkcjdbgloaaGreatDoor

