import Derived.Test.YtpmkjeihbddfpabDoorCoRFB4
import Derived.Deep.RegionHeld3
/- OUR OWN. The program's heap: clearField. -/
namespace Go.Proofs.YtpmkjeihbddfpabDoor
open Go.RowKit
set_option linter.unusedVariables false
set_option linter.unusedSimpArgs false

/-- behind the field's store: what is asked of the object that it had -/
def HeldAt (h N : Nat) (w : World) (j : Nat) (Done : World → Prop) (W3 : World) : Prop :=
  ∃ g cap st ct ao fl fc, g < w.heap.size ∧ j ≤ N ∧ W3.cell? ⟨h, 6, none⟩ = some (.slice (some ⟨g, 0, none⟩) (N + 1) cap) ∧
    W3.cell? ⟨g, j * 3, none⟩ = some (.int .i64 st) ∧ W3.cell? ⟨g, j * 3 + 1, none⟩ = some (.int .i64 ct) ∧ W3.cell? ⟨g, j * 3 + 2, none⟩ = some (.slice ao fl fc) ∧
    ((decide (st = 1) && decide (ct = 1)) = false → ∀ W4, Below W3.heap.size W3 W4 → Calls Tryd.prog 78 #[.pointer (some ⟨h, 0, none⟩), .int .i64 j] W4 fun e w5 => e = .returned (.tuple #[]) ∧ Done w5) ∧
    ((decide (st = 1) && decide (ct = 1)) = true → ∀ W4, Below W3.heap.size W3 W4 → Calls Tryd.prog 69 #[.pointer (some ⟨h, 0, none⟩), .int .i64 j] W4 fun e w5 => ∃ r, e = .returned (.bool r) ∧ Below W4.heap.size W4 w5 ∧
      (r = true → Calls Tryd.prog 78 #[.pointer (some ⟨h, 0, none⟩), .int .i64 j] w5 fun e w6 => e = .returned (.tuple #[]) ∧ Done w6) ∧
      (r = false → w5.cell? ⟨h, 6, none⟩ = some (.slice (some ⟨g, 0, none⟩) (N + 1) cap) ∧ w5.cell? ⟨g, j * 3 + 1, none⟩ = some (.int .i64 1) ∧ w5.frozen? ⟨g, j * 3 + 1, none⟩ = false ∧
        ∀ W6, Below (w5.setCell ⟨g, j * 3 + 1, none⟩ (.int .i64 0)).heap.size (w5.setCell ⟨g, j * 3 + 1, none⟩ (.int .i64 0)) W6 → Calls Tryd.prog 70 #[.pointer (some ⟨h, 0, none⟩), .int .i64 j] W6 fun e w6 => e = .returned (.tuple #[]) ∧ Done w6))

/-- what clearField's loads find -/
structure ClearCells (h b k N : Nat) (w : World) (y : Int × Int) (g capB fg fl fc : Nat) : Prop where
  cB : w.cell? ⟨h, 6, none⟩ = some (.slice (some ⟨g, 0, none⟩) (N + 1) capB)
  c1 : w.cell? ⟨g, b * 3 + 2, none⟩ = some (.slice (some ⟨fg, 0, none⟩) fl fc)
  y0 : w.cell? ⟨fg, k * 2, none⟩ = some (.int .i64 y.1)
  y1 : w.cell? ⟨fg, k * 2 + 1, none⟩ = some (.int .i64 y.2)
  f0 : w.frozen? ⟨fg, k * 2, none⟩ = false
  f1 : w.frozen? ⟨fg, k * 2 + 1, none⟩ = false
  hh : h < w.heap.size
  hg : g < w.heap.size
  hf : fg < w.heap.size
  hb : b ≤ N
  hN : N ≤ 99
  hk : k < fl
  hfl : fl ≤ 4
  hy : ¬ y.1 = 2 ∨ ∃ j : Nat, y = (2, (j : Int))

def ClearEnv (h b k N : Nat) (w : World) (fg : Nat) (y : Int × Int) (Done : World → Prop) : Prop := ∀ w3, (w.setCell ⟨fg, k * 2, none⟩ (.int .i64 0)).setCell ⟨fg, k * 2 + 1, none⟩ (.int .i64 0) = w3 →
  w3.heap.size = w.heap.size ∧ ∀ W3, Below w3.heap.size w3 W3 → (¬ y.1 = 2 → Done W3) ∧ ∀ j : Nat, y = (2, (j : Int)) → HeldAt h N w j Done W3

theorem clear_env {h : Nat} {w : World} {m : HeapM} {s : St} {c : Cf} {N : Nat} (p : HB 0 h w m s c N) (b k : Nat) (hk : k < (s.ob b).fs.length) :
    ∃ g capB fg fl fc, ClearCells h b k N w ((s.ob b).fs.getD k (0, 0)) g capB fg fl fc ∧ ClearEnv h b k N w fg ((s.ob b).fs.getD k (0, 0)) fun W => ∃ m', HTurn h w m W m' ∧ HB 0 h W m' (letGo c.zero b k s) c N := by
  have hh : (s.ob b).here = true := by
    cases e : (s.ob b).here with
    | true => rfl
    | false => rw [p.good.gone b e] at hk; simp [Ob.free] at hk
  obtain ⟨hb1, hbN⟩ := p.good.ne_zero hh
  obtain ⟨y, hy⟩ : ∃ y, (s.ob b).fs.getD k (0, 0) = y := ⟨_, rfl⟩
  have hyl : s.leads y := by rw [← hy]; exact leads_getD (p.good.fields b) k
  have q := p
  have hb : Below w.heap.size w w := Below.refl _ _
  obtain ⟨o, hio⟩ : ∃ o, m.blks[b]? = some o := ⟨_, List.getElem?_eq_getElem (by rw [p.len]; omega)⟩
  have hof : o.fs = (s.ob b).fs := by rw [p.ob hio]; rfl
  have hko : k < o.fs.length := by rw [hof]; exact hk
  obtain ⟨g, capB, fg, fc, hvB, hvF, hg, hfg, cB, c1, y0, y1, f0, f1⟩ := q.pre.facts b o hio k hko
  have hyk : o.fs[k] = (s.ob b).fs.getD k (0, 0) := by rw [← hof, getD_of hko]
  have h4 := p.good.four b
  refine ⟨g, capB, fg, _, fc, ⟨cB, c1, by rw [y0, hyk], by rw [y1, hyk], f0, f1, lt_of_heap p.r.head, hg, hfg, hbN, p.small, hko, by rw [hof]; exact h4, ?_⟩, ?_⟩
  · rw [hy]
    by_cases e : y.1 = 2
    · obtain ⟨j, hj, _⟩ := leads_alive hyl e; exact .inr ⟨j, hj⟩
    · exact .inl e
  rintro w3 rfl
  have t3 := q.r.fieldSet b hio hvF k hko (0, 0)
  refine ⟨by simp [World.setCell], fun W3 hb3 => ?_⟩
  have hs3 := HSb.field (x := (0, 0)) q.good (m := m) (by have : refTo (0, 0) = 0 := rfl; rw [this]; exact q.hs) hio hko
  rw [hy] at hs3 ⊢
  have g3 : (s.field b k (0, 0)).Good N := q.good.setField b k (.inl rfl)
  have q3 : HB (refTo y) h W3 _ (s.field b k (0, 0)) c N := ⟨(t3.after hb3).here, hs3, g3, p.cf, p.small, q.stack, q.globals⟩
  have T3 : HTurn h w m W3 _ := (HTurn.pre p.r hb t3).after hb3
  refine ⟨fun h2 => ?_, fun j hj => ?_⟩
  · have e3 : refTo y = 0 := by unfold refTo; rw [if_neg h2]
    rw [e3] at q3
    rw [letGo_not (by rw [hy]; exact h2)]
    exact ⟨_, T3, q3⟩
  · have e3 : refTo y = (j : Int) := by rw [hj]; rfl
    rw [e3] at q3
    rw [hj] at hy
    have ha : s.alive j := by
      obtain ⟨j', hj', ha⟩ := leads_alive hyl (by rw [hj])
      rw [hj] at hj'
      have : j = j' := by have := congrArg Prod.snd hj'; simp at this; omega
      rw [this]; exact ha
    have ha3 : (s.field b k (0, 0)).alive j := (alive_put (s := s) (i := b) (o := { s.ob b with fs := (s.ob b).fs.set k (0, 0) }) rfl rfl j).2 ha
    obtain ⟨hj1, hjN⟩ := p.good.ne_zero ha.1
    -- the blocks' row is where it was
    obtain ⟨g0, cap0, hv0, hg0, _, _, _, _⟩ := p.r.view p.len
    obtain ⟨g', cap', hv', hg', _, _, hfz', hobj'⟩ := q3.r.view q3.len
    have eg : (Value.slice (some ⟨g', 0, none⟩) (N + 1) cap') = .slice (some ⟨g0, 0, none⟩) (N + 1) cap0 := hv'.symm.trans hv0
    simp at eg
    obtain ⟨rfl, rfl⟩ := eg
    have hil : j < (m.put b { o with fs := o.fs.set k (0, 0) }).blks.length := by rw [q3.len]; omega
    obtain ⟨oj, hoj⟩ : ∃ oj, (m.put b { o with fs := o.fs.set k (0, 0) }).blks[j]? = some oj := ⟨_, List.getElem?_eq_getElem hil⟩
    have hoe := (List.getElem?_eq_some_iff.1 hoj).2
    obtain ⟨d0, d1, d2⟩ := hobj' j hil
    rw [hoe] at d0 d1 d2
    obtain ⟨ao, fc', hvFj⟩ := own_slice (q3.r.fields oj (List.mem_of_getElem? hoj))
    rw [hvFj] at d2
    have cB3 : W3.cell? ⟨h, 6, none⟩ = some (.slice (some ⟨g', 0, none⟩) (N + 1) cap') := by rw [q3.r.cell.2.2.2.1, hv']
    have UNC : ∀ W4, Below W3.heap.size W3 W4 → letGo c.zero b k s = dropS' c.zero (s.field b k (0, 0)) (2, (j : Int)) →
        Calls Tryd.prog 78 #[.pointer (some ⟨h, 0, none⟩), .int .i64 j] W4 fun e w5 => e = .returned (.tuple #[]) ∧ ∃ m', HTurn h w m w5 m' ∧ HB 0 h w5 m' (letGo c.zero b k s) c N := fun W4 hb4 e => by
      rw [e]
      refine (uncountField_any j (q3.below hb4) ha3).mono ?_
      rintro e w5 ⟨he, m5, t5, q5⟩
      exact ⟨he, m5, (T3.after hb4).trans t5, q5⟩
    refine ⟨g', cap', oj.state, oj.count, ao, _, fc', hg0, hjN, cB3, d0, d1, d2, fun hx W4 hb4 => UNC W4 hb4 ?_, fun hx W4 hb4 => ?_⟩
    · rcases alive_state q3.hs hoj ha3 with ⟨hst, hsk⟩ | ⟨hst, hsk⟩
      · have hct := q3.hs.cnt j oj hoj (.inl hst)
        rw [if_pos rfl] at hct
        have hc0 : 0 < (s.field b k (0, 0)).count j := by
          rcases Nat.eq_zero_or_pos ((s.field b k (0, 0)).count j) with e | e
          · rw [e] at hct
            simp [hst, hct] at hx
          · exact e
        rw [letGo_held hy (.inl hc0)]
        unfold dropS'
        rw [if_neg]
        rintro ⟨_, _, h3⟩
        have h3 : (s.field b k (0, 0)).count j = 0 := h3
        omega
      · rw [letGo_held hy (.inr hsk)]
        unfold dropS'
        rw [if_neg]
        rintro ⟨_, h2, _⟩
        rw [Int.toNat_natCast, hsk] at h2; cases h2
    · have hst : oj.state = 1 ∧ oj.count = 1 := by simpa using hx
      have hsk : ((s.field b k (0, 0)).ob j).stuck = false := by
        rcases alive_state q3.hs hoj ha3 with ⟨_, hsk⟩ | ⟨h2, _⟩
        · exact hsk
        · rw [hst.1] at h2; cases h2
      have hct := q3.hs.cnt j oj hoj (.inl hst.1)
      rw [if_pos rfl, hst.2] at hct
      have hc0 : (s.field b k (0, 0)).count j = 0 := by omega
      have q4 := q3.below hb4
      refine (isRoot_any q4 (j : Int)).mono ?_
      rintro e w5 ⟨rfl, hb5⟩
      have hb35 : Below W3.heap.size W3 w5 := hb4.trans (hb5.mono hb4.size)
      refine ⟨_, rfl, hb5, fun hr => UNC w5 hb35 ?_, fun hr => ?_⟩
      · rw [letGo_root hy hc0 hsk hr]
        unfold dropS'
        rw [if_pos ⟨rfl, by simpa using hsk, hc0⟩]
      · have q5 := q3.below hb35
        refine ⟨(hb35.cell (p := ⟨h, 6, none⟩) (lt_of_heap q3.r.head)).trans cB3, by rw [hb35.cell (p := ⟨g', j * 3 + 1, none⟩) hg', d1, hst.2], (hb35.frozen (p := ⟨g', j * 3 + 1, none⟩) hg').trans (hfz' _), fun W6 hb6 => ?_⟩
        have t5 := q5.r.flagged q5.len hv' j hoj { oj with count := 0 } 1 (by decide) (.int .i64 0) rfl rfl
        have hs5 : HSb 0 ((m.put b { o with fs := o.fs.set k (0, 0) }).put j { oj with count := 0 }) (s.field b k (0, 0)) c N :=
          q5.hs.recount hoj 0 (fun _ => by rw [if_neg (by omega), hc0]; rfl) fun i z hne hz hzs => ⟨fun e => absurd (by omega) hne, fun e => absurd e (q5.hs.pos q5.good hz hzs)⟩
        have q6 : HB 0 h _ _ (s.field b k (0, 0)) c N := ⟨t5.here, hs5, g3, p.cf, p.small, q5.stack, q5.globals⟩
        rw [letGo_queue hy hc0 hsk hr]
        refine (enqueue_any (q6.below hb6) j hjN (sorts_iff.2 ⟨waits_iff.2 ⟨ha3, hsk, hc0⟩, hr, by omega⟩)).mono ?_
        rintro e w6 ⟨he, m6, t6, q7⟩
        exact ⟨he, m6, (((T3.after hb35).trans t5).after hb6).trans t6, q7⟩

set_option maxHeartbeats 4000000 in
theorem clearField_core (h b k N : Nat) (w : World) (y : Int × Int) (g capB fg fl fc : Nat) (C : ClearCells h b k N w y g capB fg fl fc) (Done : World → Prop) (E : ClearEnv h b k N w fg y Done) :
    Calls Tryd.prog 71 #[.pointer (some ⟨h, 0, none⟩), .int .i64 b, .int .i64 k] w fun e w' => e = .returned (.tuple #[]) ∧ Done w' := by
  obtain ⟨cB, c1, y0, y1, f0, f1, hh, hg, hf, hb, hN, hk, hfl, hy⟩ := C
  have hbI : (b : Int) < (N : Int) + 1 := by omega
  have hkI : (k : Int) < fl := by omega
  obtain ⟨w3, hw3⟩ : ∃ w3, (w.setCell ⟨fg, k * 2, none⟩ (.int .i64 0)).setCell ⟨fg, k * 2 + 1, none⟩ (.int .i64 0) = w3 := ⟨_, rfl⟩
  obtain ⟨hsz, E⟩ := E w3 hw3
  have W3 : Hid ((w.setCell ⟨fg, k * 2, none⟩ (.int .i64 0)).setCell ⟨fg, k * 2 + 1, none⟩ (.int .i64 0) = w3) := hw3
  clear hw3
  obtain ⟨y1', y2'⟩ := y
  simp only at y0 y1 hy E
  have al : ∀ (ob : Obj) (b o : Nat), b < w.heap.size → (w.alloc ob).cell? ⟨b, o, none⟩ = w.cell? ⟨b, o, none⟩ := fun ob b o hlt => World.cell?_of_block (hao hlt)
  have t0 : ∀ ob, (w.alloc ob).cell? ⟨h, 6, none⟩ = w.cell? ⟨h, 6, none⟩ := fun ob => al ob h _ hh
  have t1 : ∀ ob, (w.alloc ob).cell? ⟨g, b * 3 + 2, none⟩ = w.cell? ⟨g, b * 3 + 2, none⟩ := fun ob => al ob g _ hg
  have t2 : ∀ ob, (w.alloc ob).cell? ⟨fg, k * 2, none⟩ = w.cell? ⟨fg, k * 2, none⟩ := fun ob => al ob fg _ hf
  have t3 : ∀ ob, (w.alloc ob).cell? ⟨fg, k * 2 + 1, none⟩ = w.cell? ⟨fg, k * 2 + 1, none⟩ := fun ob => al ob fg _ hf
  clear al
  have BX : Hid (∀ ob, Below w3.heap.size w3 (w3.alloc ob)) := fun ob => (Below.refl _ _).alloc (Nat.le_refl _) _
  rcases hy with hy | ⟨j, hj⟩
  · have hne : (y1' != 2) = true := by simpa using hy
    have D : Hid (∀ ob, Done (w3.alloc ob)) := fun ob => (E _ (BX.out ob)).1 hy
    clear E
    go_enter Tryd.func71, Tryd.ntmps71
    go_wp2
    rw [W3.out]
    first | go_end0 | refine bodyPost_ret (results_none rfl _ _ _) rfl ?_
    exact ⟨rfl, D.out _⟩
  · obtain ⟨rfl, rfl⟩ : y1' = 2 ∧ y2' = (j : Int) := by simpa using hj
    obtain ⟨W, hW⟩ : ∃ W, w3.alloc (.cells #[.int .i64 2, .int .i64 j] 64) = W := ⟨_, rfl⟩
    have HW : Hid (w3.alloc (.cells #[.int .i64 2, .int .i64 j] 64) = W) := hW
    obtain ⟨g', cap', st, ct, ao, fl', fc', hg', hjN, d0, d1, d2, d3, hno, hyes⟩ := (E _ (BX.out _)).2 j rfl
    rw [hW] at d0 d1 d2 d3 hno hyes
    have bx : W.heap[w.heap.size]? = some (.cells #[.int .i64 2, .int .i64 j] 64) := by rw [← hW, ← hsz]; exact heap_alloc_new w3 _
    have hWs : w.heap.size < W.heap.size := lt_of_heap bx
    have HO : Hid (∀ W, Calls Tryd.prog 80 #[.agg #[.int .i64 st, .int .i64 ct, .slice ao fl' fc']] W fun e w' => e = .returned (.bool (decide (st = 1) && decide (ct = 1))) ∧ Below W.heap.size W w') := fun W => heldOnce_fn st ct _ W
    have x0 : W.cell? ⟨w.heap.size, 0, none⟩ = some (.int .i64 2) := cell_of_heap bx rfl
    have x1 : W.cell? ⟨w.heap.size, 1, none⟩ = some (.int .i64 j) := cell_of_heap bx rfl
    have K : Hid (∀ V, Below W.heap.size W V → V.cell? ⟨w.heap.size, 1, none⟩ = some (.int .i64 j) ∧ V.cell? ⟨h, 6, none⟩ = some (.slice (some ⟨g', 0, none⟩) (N + 1) cap') ∧ V.cell? ⟨g', j * 3, none⟩ = some (.int .i64 st) ∧ V.cell? ⟨g', j * 3 + 1, none⟩ = some (.int .i64 ct) ∧ V.cell? ⟨g', j * 3 + 2, none⟩ = some (.slice ao fl' fc')) := fun V hV =>
      ⟨(hV.cell (p := ⟨w.heap.size, 1, none⟩) hWs).trans x1, (hV.cell (p := ⟨h, 6, none⟩) (Nat.lt_trans hh hWs)).trans d0, (hV.cell (p := ⟨g', j * 3, none⟩) (Nat.lt_trans hg' hWs)).trans d1, (hV.cell (p := ⟨g', j * 3 + 1, none⟩) (Nat.lt_trans hg' hWs)).trans d2, (hV.cell (p := ⟨g', j * 3 + 2, none⟩) (Nat.lt_trans hg' hWs)).trans d3⟩
    have hjI : (j : Int) < (N : Int) + 1 := by omega
    have NO : Hid _ := hno
    have YES : Hid _ := hyes
    clear E hW hno hyes bx hj
    cases hx : (decide (st = 1) && decide (ct = 1)) with
    | false =>
      rw [hx] at HO
      have N1 : Hid _ := NO.out hx
      clear NO YES hx
      go_enter Tryd.func71, Tryd.ntmps71
      go_wp2_with fail
      rw [W3.out, HW.out]
      first | go_region_with ((go_at_call 80; refine Calls.mono (HO.out _) ?_; rintro e w1 ⟨rfl, hb1⟩; have B1 : Hid (Below W.heap.size W w1) := (Below.refl _ _).drew.trans hb1; obtain ⟨k0, k1, k2, k3, k4⟩ := K.out w1 B1.out; clear hb1)) | fail
      all_goals go_wp2_with fail
      all_goals refine Calls.mono (N1.out _ B1.out) ?_
      all_goals rintro e w4 ⟨rfl, hd⟩
      all_goals have D : Hid _ := hd
      all_goals clear hd
      all_goals go_wp2
      all_goals (first | go_end0 | refine bodyPost_ret (results_none rfl _ _ _) rfl ?_)
      all_goals exact ⟨rfl, D.out⟩
    | true =>
      rw [hx] at HO
      have Y1 : Hid _ := YES.out hx
      clear NO YES hx
      go_enter Tryd.func71, Tryd.ntmps71
      go_wp2_with fail
      rw [W3.out, HW.out]
      go_region_held3 (fun w' => w'.cell? ⟨w.heap.size, 1, none⟩ = some (.int .i64 j) ∧ w'.cell? ⟨h, 6, none⟩ = some (.slice (some ⟨g', 0, none⟩) (N + 1) cap') ∧ w'.cell? ⟨g', j * 3, none⟩ = some (.int .i64 st) ∧ w'.cell? ⟨g', j * 3 + 1, none⟩ = some (.int .i64 ct) ∧ w'.cell? ⟨g', j * 3 + 2, none⟩ = some (.slice ao fl' fc')) (go_keep)
        ((first
          | (go_at_call 80; refine Calls.mono (HO.out _) ?_; rintro e w1 ⟨rfl, hb1⟩; have B1 : Hid (Below W.heap.size W w1) := (Below.refl _ _).drew.trans hb1; obtain ⟨k0, k1, k2, k3, k4⟩ := K.out w1 B1.out; clear hb1)
          | (go_at_call 69; refine Calls.mono (Y1.out _ B1.out) ?_; rintro e w5 ⟨r, rfl, hb5, hrt, hrf⟩; obtain ⟨l0, l1, l2, l3, l4⟩ := K.out w5 (B1.out.trans (hb5.mono B1.out.size)); have RT : Hid _ := hrt; have RF : Hid _ := hrf; clear hb5 hrt hrf)))
      cases r with
      | true =>
        have R1 : Hid _ := RT.out rfl
        clear RT RF
        go_wp2_with fail
        refine Calls.mono R1.out ?_
        rintro e w4 ⟨rfl, hd⟩
        have D : Hid _ := hd
        clear hd
        go_wp2
        first | go_end0 | refine bodyPost_ret (results_none rfl _ _ _) rfl ?_
        exact ⟨rfl, D.out⟩
      | false =>
        obtain ⟨e0, e1, e2, hen⟩ := RF.out rfl
        have EN : Hid _ := hen
        have x4 : (w5.setCell ⟨g', j * 3 + 1, none⟩ (.int .i64 0)).cell? ⟨w.heap.size, 1, none⟩ = some (.int .i64 j) := (World.cell?_of_block (hso (Nat.ne_of_gt hg'))).trans l0
        clear RT RF hen k0 k1 k2 k3 k4 l2 l3 l4
        go_wp2_with fail
        go_region
        all_goals go_wp2_with fail
        all_goals refine Calls.mono (EN.out _ (Below.refl _ _).drew) ?_
        all_goals rintro e w6 ⟨rfl, hd⟩
        all_goals have D : Hid _ := hd
        all_goals clear hd
        all_goals go_wp2
        all_goals (first | go_end0 | refine bodyPost_ret (results_none rfl _ _ _) rfl ?_)
        all_goals exact ⟨rfl, D.out⟩

theorem clearField_any {h : Nat} {w : World} {m : HeapM} {s : St} {c : Cf} {N : Nat} (p : HB 0 h w m s c N) (b k : Nat) (hk : k < (s.ob b).fs.length) :
    Calls Tryd.prog 71 #[.pointer (some ⟨h, 0, none⟩), .int .i64 b, .int .i64 k] w fun e w' => e = .returned (.tuple #[]) ∧ ∃ m', HTurn h w m w' m' ∧ HB 0 h w' m' (letGo c.zero b k s) c N := by
  obtain ⟨g, capB, fg, fl, fc, C, E⟩ := clear_env p b k hk
  exact clearField_core h b k N w _ g capB fg fl fc C _ E

end Go.Proofs.YtpmkjeihbddfpabDoor

/- OUR OWN. The program's heap: freeFirst. -/
namespace Go.Proofs.YtpmkjeihbddfpabDoor
open Go.RowKit
set_option linter.unusedVariables false
set_option linter.unusedSimpArgs false

/-- behind the last field: the object leaves the queue, its block is free -/
theorem HSb.leave {m : HeapM} {s : St} {c : Cf} {N : Nat} (p : HSb 0 m s c N) {b : Nat} {v : Value} (hc : ∀ x, (s.leave b).count x = s.count x) :
    HSb 0 (({ m with vQ := v, queue := m.queue.tail } : HeapM).put b HObj.free) (s.leave b) c N := by
  refine ⟨?_, p.deep, p.zero, p.over, p.budget, fun y hy => ?_, fun i y hy hs => ?_⟩
  · rw [hput_st]
    have e : HObj.free.ob = Ob.free := by simp [HObj.free, HObj.ob, Ob.free]
    rw [e]
    unfold St.leave St.put
    rw [← p.st]
    rfl
  · rcases List.mem_or_eq_of_mem_set hy with e | e
    · exact p.state y e
    · subst e; exact .inl rfl
  · rw [hc]
    rcases set_get hy with ⟨rfl, rfl⟩ | ⟨_, e⟩
    · rcases hs with e | e <;> simp [HObj.free] at e
    · exact p.cnt i y e hs

set_option maxHeartbeats 1600000 in
theorem freeFirst_any {h : Nat} {w : World} {m : HeapM} {s : St} {c : Cf} {N : Nat} (p : HB 0 h w m s c N) (hq : s.queue.length ≠ 0) :
    Calls Tryd.prog 47 #[.pointer (some ⟨h, 0, none⟩)] w fun e w' => e = .returned (.tuple #[]) ∧ ∃ m', HTurn h w m w' m' ∧ HB 0 h w' m' (s.free c.zero) c N := by
  obtain ⟨q, hqe⟩ := p.good.first hq
  have hqd := p.good.first_queued hq
  have hcf := count_free (z := c.zero) p.good hq
  have hgf := p.good.freed c.zero hq
  have hsf := letTo_same c.zero s.first s (s.ob s.first).fs.length
  have target : s.free c.zero = (letTo c.zero s.first s (s.ob s.first).fs.length).leave s.first := rfl
  rw [target] at hcf hgf ⊢
  obtain ⟨b, hb⟩ : ∃ b, s.first = b := ⟨_, rfl⟩
  rw [hb] at hqe hqd hcf hgf hsf ⊢
  have hh := p.good.queued_here hqd
  obtain ⟨hb1, hbN⟩ := p.good.ne_zero hh
  obtain ⟨fl, hfl⟩ : ∃ fl, (s.ob b).fs.length = fl := ⟨_, rfl⟩
  have hf4 : fl ≤ 4 := by rw [← hfl]; exact p.good.four b
  rw [hfl] at hcf hgf hsf ⊢
  obtain ⟨S, hS⟩ : ∃ S : Nat → St, S = fun j => letTo c.zero b s j := ⟨_, rfl⟩
  have S0 : S 0 = s := by rw [hS]; rfl
  have S1 : ∀ j, S (j + 1) = letGo c.zero b j (S j) := fun j => by rw [hS]; rfl
  have SF : letTo c.zero b s fl = S fl := by rw [hS]
  have SL : ∀ j, ((S j).ob b).fs.length = fl := fun j => by rw [hS, ← hfl]; exact (letTo_ob p.good hqd j).2.1
  rw [SF] at hcf hgf hsf ⊢
  have hN := p.small
  -- the queue's first
  obtain ⟨qg, qo, qc, hvQ, _, _, hqc, hqcell, _⟩ := win_view p.r.queue (by rw [p.mqueue]; omega)
  have cQ : w.cell? ⟨h, 7, none⟩ = some (.slice (some ⟨qg, qo, none⟩) s.queue.length qc) := by rw [p.r.cell.2.2.2.2.1, hvQ, p.mqueue]
  have cq0 : w.cell? ⟨qg, qo, none⟩ = some (.int .i64 b) := hqcell 0 _ (by rw [p.mqueue, hqe]; rfl)
  obtain ⟨ql, hql⟩ : ∃ ql, s.queue.length = ql + 1 := ⟨s.queue.length - 1, by omega⟩
  have hql9 : ql ≤ 99 := by have := p.good.queue_len; omega
  rw [hql] at cQ
  have START : Hid (HTurn h w m w m ∧ HB 0 h w m (S 0) c N) := ⟨.refl p.r, by rw [S0]; exact p⟩
  have LEN : Hid (∀ wr mr (j : Nat), HTurn h w m wr mr → HB 0 h wr mr (S j) c N → ∃ g cap ao fc, wr.cell? ⟨h, 6, none⟩ = some (.slice (some ⟨g, 0, none⟩) (N + 1) cap) ∧ wr.cell? ⟨g, b * 3 + 2, none⟩ = some (.slice ao fl fc)) := fun wr mr j t q => by
    obtain ⟨g, cap, cB, hg, hobj⟩ := q.cells
    obtain ⟨o, ao, fl', fc, ho, _, hfl', _, _, c2⟩ := hobj b hbN
    have : fl' = fl := by rw [hfl', ← SL j, q.ob ho]; rfl
    rw [this] at c2
    exact ⟨g, cap, ao, fc, cB, c2⟩
  have ROUND : Hid (∀ wr mr (j : Nat), j < fl → HTurn h w m wr mr → HB 0 h wr mr (S j) c N → Calls Tryd.prog 71 #[.pointer (some ⟨h, 0, none⟩), .int .i64 b, .int .i64 j] wr fun e w' => e = .returned (.tuple #[]) ∧ ∃ m', HTurn h w m w' m' ∧ HB 0 h w' m' (S (j + 1)) c N) := fun wr mr j hj t q => by
    rw [S1]
    refine (clearField_any q b j (by rw [SL]; exact hj)).mono ?_
    rintro e w' ⟨he, m', t2, q2⟩
    exact ⟨he, m', t.trans t2, q2⟩
  have END : Hid (∀ wr mr, HTurn h w m wr mr → HB 0 h wr mr (S fl) c N → Calls Tryd.prog 72 #[.pointer (some ⟨h, 0, none⟩)] wr fun e w2 => e = .returned (.tuple #[]) ∧ ∃ g cap u0 u1 u2, w2.cell? ⟨h, 6, none⟩ = some (.slice (some ⟨g, 0, none⟩) (N + 1) cap) ∧
      w2.cell? ⟨g, b * 3, none⟩ = some u0 ∧ w2.cell? ⟨g, b * 3 + 1, none⟩ = some u1 ∧ w2.cell? ⟨g, b * 3 + 2, none⟩ = some u2 ∧
      w2.frozen? ⟨g, b * 3, none⟩ = false ∧ w2.frozen? ⟨g, b * 3 + 1, none⟩ = false ∧ w2.frozen? ⟨g, b * 3 + 2, none⟩ = false ∧
      ∀ W, Below ((((w2.setCell ⟨g, b * 3, none⟩ (.int .i64 0)).setCell ⟨g, b * 3 + 1, none⟩ (.int .i64 0)).setCell ⟨g, b * 3 + 2, none⟩ (.slice none 0 0))).heap.size (((w2.setCell ⟨g, b * 3, none⟩ (.int .i64 0)).setCell ⟨g, b * 3 + 1, none⟩ (.int .i64 0)).setCell ⟨g, b * 3 + 2, none⟩ (.slice none 0 0)) W →
        ∃ m', HTurn h w m W m' ∧ HB 0 h W m' ((S fl).leave b) c N) := fun wr mr t q => by
    obtain ⟨q2, hq2⟩ := hsf.2.2.2
    have hlq : ∃ l, mr.queue.length = l + 1 ∧ l ≤ 99 := by
      refine ⟨mr.queue.length - 1, ?_, ?_⟩
      · have : 0 < mr.queue.length := by rw [q.mqueue, hq2, List.length_append]; omega
        omega
      · have := q.good.queue_len; rw [q.mqueue]; omega
    obtain ⟨l, hl, hl9⟩ := hlq
    refine (shiftQueue_mem q.r hl hl9).mono ?_
    rintro e w2 ⟨he, v', t2⟩
    refine ⟨he, ?_⟩
    have r2 := t2.here
    have hlen2 : ({ mr with vQ := v', queue := mr.queue.tail } : HeapM).blks.length = N + 1 := q.len
    obtain ⟨g, cap, hv, hg, _, _, hfz, hobj⟩ := r2.view hlen2
    have hil : b < ({ mr with vQ := v', queue := mr.queue.tail } : HeapM).blks.length := by rw [hlen2]; omega
    obtain ⟨c0, c1, c2⟩ := hobj b hil
    refine ⟨g, cap, _, _, _, by rw [r2.cell.2.2.2.1, hv], c0, c1, c2, hfz _, hfz _, hfz _, fun W hbW => ?_⟩
    have t3 := r2.placed hlen2 (Below.refl _ _) hv b (List.getElem?_eq_getElem hil) HObj.free own_nil (fun x hx => by cases hx)
    have T : HTurn h w m _ _ := (t.trans t2).trans t3
    have hs3 := q.hs.leave (b := b) (v := v') hcf
    have hls : ((S fl).leave b).stack = (S fl).stack ∧ ((S fl).leave b).globals = (S fl).globals := ⟨rfl, rfl⟩
    refine ⟨_, T.after hbW, (T.after hbW).here, hs3, hgf, p.cf, p.small, ?_, ?_⟩
    · rw [hls.1]; exact q.stack
    · rw [hls.2]; exact q.globals
  clear p hqe hqd hcf hgf hsf target hh hS S0 S1 SL SF hvQ hqcell
  have hbI : (b : Int) < (N : Int) + 1 := by omega
  go_enter Tryd.func47, Tryd.ntmps47
  go_wp2
  go_loopw [3] (fun i wr => ∃ j : Nat, j ≤ fl ∧ i = .int .i64 j ∧ ∃ mr, HTurn h w m wr mr ∧ HB 0 h wr mr (S j) c N) (fun i _ => fl - (intOf i).toNat)
  case atStart => exact ⟨0, Nat.zero_le _, rfl, m, START.out⟩
  case round =>
    obtain ⟨j, hj, rfl, mr, ht, hq⟩ := hrel
    obtain ⟨g, cap, ao, fc, cB, c2⟩ := LEN.out wr mr j ht hq
    by_cases hlt : j < fl
    · have R : Hid _ := ROUND.out wr mr j hlt ht hq
      have hjI : (j : Int) < fl := by omega
      clear ht hq
      go_wp2_with fail
      refine Calls.mono R.out ?_
      rintro e w1 ⟨rfl, hm⟩
      have M : Hid _ := hm
      clear hm R cB c2
      go_wp2
      go_roundw
      case rel => exact ⟨j + 1, by omega, by go_num, M.out⟩
      case measure => simp [intOf]; omega
    · obtain rfl : j = fl := by omega
      have F : Hid _ := END.out wr mr ht hq
      clear ht hq
      go_wp2_with fail
      refine Calls.mono F.out ?_
      rintro e w2 ⟨rfl, g', cap', u0, u1, u2, d0, d1, d2, d3, f1, f2, f3, hm⟩
      have M : Hid _ := hm
      clear hm F cB c2
      go_wp2
      go_end0
      exact ⟨rfl, M.out _ (Below.refl _ _)⟩

end Go.Proofs.YtpmkjeihbddfpabDoor

/- OUR OWN. What a collection makes of the program's blocks, one after the other. -/
namespace Go.Proofs.YtpmkjeihbddfpabDoor
open Go.RowKit
set_option linter.unusedVariables false
set_option linter.unusedSimpArgs false

/-! ### The blocks 1 to j turned -/
def HeapM.upTo (m : HeapM) (F : Nat → HObj → HObj) (j : Nat) : HeapM := { m with blks := m.blks.mapIdx fun i o => if 1 ≤ i ∧ i ≤ j then F i o else o }
theorem upTo_get (F : Nat → HObj → HObj) (m : HeapM) (j i : Nat) : (m.upTo F j).blks[i]? = (m.blks[i]?).map fun o => if 1 ≤ i ∧ i ≤ j then F i o else o := by simp [HeapM.upTo, List.getElem?_mapIdx]
theorem upTo_len (F : Nat → HObj → HObj) (m : HeapM) (j : Nat) : (m.upTo F j).blks.length = m.blks.length := by simp [HeapM.upTo]
theorem blks_eq {m : HeapM} {l l' : List HObj} (h : l = l') : ({ m with blks := l } : HeapM) = { m with blks := l' } := by rw [h]
theorem upTo_zero (F : Nat → HObj → HObj) (m : HeapM) : m.upTo F 0 = m := by
  refine (blks_eq (m := m) (l := (m.upTo F 0).blks) (l' := m.blks) (List.ext_getElem? fun i => ?_)).trans rfl
  rw [upTo_get]
  cases h : m.blks[i]? with
  | none => rfl
  | some o => rw [Option.map_some, if_neg (by omega)]
theorem upTo_old {F : Nat → HObj → HObj} {m : HeapM} {j : Nat} {o : HObj} (h : m.blks[j + 1]? = some o) : (m.upTo F j).blks[j + 1]? = some o := by
  rw [upTo_get, h, Option.map_some, if_neg (by omega)]
theorem upTo_step {F : Nat → HObj → HObj} {m : HeapM} {j : Nat} {o : HObj} (h : m.blks[j + 1]? = some o) : (m.upTo F j).put (j + 1) (F (j + 1) o) = m.upTo F (j + 1) := by
  have hl : j + 1 < m.blks.length := (List.getElem?_eq_some_iff.1 h).1
  refine blks_eq (m := m) (l := (m.upTo F j).blks.set (j + 1) (F (j + 1) o)) (l' := (m.upTo F (j + 1)).blks) (List.ext_getElem? fun i => ?_)
  rw [upTo_get]
  by_cases hi : i = j + 1
  · subst hi
    rw [List.getElem?_set_self (by rw [upTo_len]; exact hl), h, Option.map_some, if_pos (by omega)]
  · rw [List.getElem?_set_ne (fun e => hi e.symm), upTo_get]
    congr 1
    funext o'
    by_cases hj : 1 ≤ i ∧ i ≤ j
    · rw [if_pos hj, if_pos (by omega)]
    · rw [if_neg hj, if_neg (by omega)]
theorem put_same {m : HeapM} {i : Nat} {o : HObj} (h : m.blks[i]? = some o) : m.put i o = m := by
  refine (blks_eq (m := m) (l := m.blks.set i o) (l' := m.blks) (List.ext_getElem? fun k => ?_)).trans rfl
  by_cases hi : k = i
  · subst hi; rw [List.getElem?_set_self (List.getElem?_eq_some_iff.1 h).1, h]
  · rw [List.getElem?_set_ne (fun e => hi e.symm)]
theorem upTo_skip {F : Nat → HObj → HObj} {m : HeapM} {j : Nat} {o : HObj} (h : m.blks[j + 1]? = some o) (e : F (j + 1) o = o) : m.upTo F j = m.upTo F (j + 1) := by
  rw [← upTo_step h, e, put_same (upTo_old h)]
theorem upTo_put {F F' : Nat → HObj → HObj} {m : HeapM} {N i : Nat} {o : HObj} (h : m.blks[i]? = some o) (h1 : 1 ≤ i) (h2 : i ≤ N) (hF : ∀ k, k ≠ i → F' k = F k) : (m.upTo F N).put i (F' i o) = m.upTo F' N := by
  have hl : i < m.blks.length := (List.getElem?_eq_some_iff.1 h).1
  refine blks_eq (m := m) (l := (m.upTo F N).blks.set i (F' i o)) (l' := (m.upTo F' N).blks) (List.ext_getElem? fun k => ?_)
  rw [upTo_get]
  by_cases hi : k = i
  · subst hi
    rw [List.getElem?_set_self (by rw [upTo_len]; exact hl), h, Option.map_some, if_pos (by omega)]
  · rw [List.getElem?_set_ne (fun e => hi e.symm), upTo_get, hF k hi]
theorem upTo_congr {F F' : Nat → HObj → HObj} {m : HeapM} {N : Nat} (h : ∀ i o, 1 ≤ i → i ≤ N → m.blks[i]? = some o → F i o = F' i o) : m.upTo F N = m.upTo F' N := by
  refine blks_eq (m := m) (l := (m.upTo F N).blks) (l' := (m.upTo F' N).blks) (List.ext_getElem? fun i => ?_)
  rw [upTo_get, upTo_get]
  cases ho : m.blks[i]? with
  | none => rfl
  | some o =>
    rw [Option.map_some, Option.map_some]
    by_cases hi : 1 ≤ i ∧ i ≤ N
    · rw [if_pos hi, if_pos hi, h i o hi.1 hi.2 ho]
    · rw [if_neg hi, if_neg hi]

/-! ### What the four parts of a collection do to a block -/
def sweepF (f : Nat → Bool) (i : Nat) (o : HObj) : HObj := if decide (o.state ≠ 0) && !f i then HObj.free else o
def zeroF (_ : Nat) (o : HObj) : HObj := { o with count := 0, state := if o.state = 2 then 1 else o.state }
def cntF (c : Nat → Nat) (i : Nat) (o : HObj) : HObj := { o with count := (c i : Int) }
def stickF (over : Int) (c : Nat → Nat) (i : Nat) (o : HObj) : HObj := if 7 < c i ∧ over ≤ countTo (fun b => decide (7 < c b)) (i - 1) then { o with state := 2 } else o
/-- is swept -/
def HeapM.goes (m : HeapM) (f : Nat → Bool) (b : Nat) : Bool := match m.blks[b]? with
  | some o => decide (o.state ≠ 0) && !f b
  | none => false
theorem goes_at {m : HeapM} {f : Nat → Bool} {b : Nat} {o : HObj} (h : m.blks[b]? = some o) : m.goes f b = (decide (o.state ≠ 0) && !f b) := by unfold HeapM.goes; rw [h]
def HeapM.noQueue (m : HeapM) (v : Value) : HeapM := { m with vQ := v, queue := [] }

theorem restuck_count (s : St) (over b : Int) : (s.restuck over).count b = s.count b := by
  unfold St.count
  rw [List.map_tail, List.map_tail]
  have : (s.restuck over).objs.map (obCount b) = s.objs.map (obCount b) := List.ext_getElem? fun i => by
    rw [List.getElem?_map, List.getElem?_map]
    unfold St.restuck
    rw [List.getElem?_mapIdx]
    cases h : s.objs[i]? with
    | none => rfl
    | some o =>
      simp only [Option.map_some]
      congr 1
      unfold stuckOb; split <;> rfl
  rw [this]

section
variable {m : HeapM} {s : St} {c : Cf} {N : Nat}
/-- behind the sweep and the new start of the counts the blocks are those of the state that is swept -/
theorem zero_ob (p : HSb 0 m s c N) (g : s.Good N) {i : Nat} {o : HObj} (hi : m.blks[i]? = some o) (h1 : 1 ≤ i) :
    (zeroF i (sweepF s.reachB i o)).ob = s.swept.ob i ∧ ((zeroF i (sweepF s.reachB i o)).state = 0 ∨ (zeroF i (sweepF s.reachB i o)).state = 1) := by
  have ho : s.ob i = o.ob := by rw [← p.st]; exact hst_ob hi
  rw [ob_swept g]
  have hfree : (zeroF i HObj.free).ob = Ob.free := by simp [zeroF, HObj.free, HObj.ob, Ob.free]
  cases hr : s.reachB i with
  | false =>
    rw [if_neg (by simp)]
    by_cases h0 : o.state = 0
    · have e : sweepF s.reachB i o = o := by unfold sweepF; rw [if_neg (by simp [h0])]
      rw [e]
      have hg : s.ob i = Ob.free := g.gone i (by rw [ho]; simp [HObj.ob, h0])
      have hfs : o.fs = [] := by rw [ho] at hg; exact congrArg Ob.fs hg
      refine ⟨?_, .inl (by simp [zeroF, h0])⟩
      simp [zeroF, HObj.ob, h0, hfs, Ob.free]
    · have e : sweepF s.reachB i o = HObj.free := by unfold sweepF; rw [if_pos (by simp [h0, hr])]
      rw [e]
      exact ⟨hfree, .inl (by simp [zeroF, HObj.free])⟩
  | true =>
    rw [if_pos rfl]
    have e : sweepF s.reachB i o = o := by unfold sweepF; rw [if_neg (by simp [hr])]
    rw [e]
    have ha := g.reach_alive hr
    have a1 := ha.1; have a2 := ha.2
    rw [ho] at a1 a2 ⊢
    rcases p.state o (List.mem_of_getElem? hi) with e | e | e | e
    · simp [HObj.ob, e] at a1
    · exact ⟨by simp [zeroF, HObj.ob, e], .inr (by simp [zeroF, e])⟩
    · exact ⟨by simp [zeroF, HObj.ob, e], .inr (by simp [zeroF, e])⟩
    · simp [HObj.ob, e] at a2

/-- the four parts, one after the other -/
def HeapM.collected (m : HeapM) (s : St) (N : Nat) (over : Int) (v : Value) : HeapM :=
  (((((m.upTo (sweepF s.reachB) N).noQueue v).upTo zeroF N).upTo (cntF fun i => s.swept.count i) N).upTo (stickF over fun i => s.swept.count i) N)
theorem noQueue_blks (m : HeapM) (v : Value) : (m.noQueue v).blks = m.blks := rfl
theorem collected_get (m : HeapM) (s : St) (N : Nat) (over : Int) (v : Value) (i : Nat) : (m.collected s N over v).blks[i]? = (m.blks[i]?).map fun o => if 1 ≤ i ∧ i ≤ N then stickF over (fun i => s.swept.count i) i (cntF (fun i => s.swept.count i) i (zeroF i (sweepF s.reachB i o))) else o := by
  unfold HeapM.collected
  rw [upTo_get, upTo_get, upTo_get, noQueue_blks, upTo_get]
  cases m.blks[i]? with
  | none => rfl
  | some o =>
    simp only [Option.map_some]
    by_cases hi : 1 ≤ i ∧ i ≤ N
    · rw [if_pos hi, if_pos hi, if_pos hi, if_pos hi, if_pos hi]
    · rw [if_neg hi, if_neg hi, if_neg hi, if_neg hi, if_neg hi]
theorem stickF_ob (over : Int) (t : St) (i : Nat) (o : HObj) (h1 : 1 ≤ i) (hst : o.state = 0 ∨ o.state = 1) (h0 : o.state = 0 → t.count i = 0) :
    (stickF over (fun i => t.count i) i (cntF (fun i => t.count i) i o)).ob = stuckOb over t i o.ob := by
  have e7 : (fun b : Nat => decide (7 < t.count b)) = t.over7 := rfl
  unfold stickF stuckOb
  rw [e7]
  have hc : (i ≠ 0 ∧ t.over7 i = true ∧ over ≤ countTo t.over7 (i - 1)) ↔ (7 < t.count i ∧ over ≤ countTo t.over7 (i - 1)) := by
    unfold St.over7
    constructor
    · rintro ⟨_, b, d⟩; exact ⟨by simpa using b, d⟩
    · rintro ⟨b, d⟩; exact ⟨by omega, by simpa using b, d⟩
  by_cases h : 7 < t.count i ∧ over ≤ countTo t.over7 (i - 1)
  · rw [if_pos h, if_pos (hc.2 h)]
    rcases hst with e | e
    · have := h0 e; omega
    · simp [cntF, HObj.ob, e]
  · rw [if_neg h, if_neg (fun x => h (hc.1 x))]
    rfl
theorem stickF_state (over : Int) (c : Nat → Nat) (i : Nat) (o : HObj) : (stickF over c i (cntF c i o)).state = o.state ∨ (stickF over c i (cntF c i o)).state = 2 := by
  unfold stickF
  split
  · exact .inr rfl
  · exact .inl rfl
theorem stickF_count (over : Int) (c : Nat → Nat) (i : Nat) (o : HObj) : (stickF over c i (cntF c i o)).count = c i := by
  unfold stickF
  split <;> rfl

theorem collected_hs (p : HSb 0 m s c N) (g : s.Good N) (v : Value) : HSb 0 (m.collected s N c.over v) (s.collect c.over) c N := by
  have hlen : m.blks.length = N + 1 := by
    have := g.len; rw [← p.st] at this; simpa [HeapM.st] using this
  have gs := g.swept
  have zero : ∀ {i : Nat} {o : HObj}, m.blks[i]? = some o → ¬ (1 ≤ i ∧ i ≤ N) → i = 0 ∧ o.state = 0 := fun {i o} hi hn => by
    have hl := (List.getElem?_eq_some_iff.1 hi).1
    have h0 : i = 0 := by omega
    refine ⟨h0, ?_⟩
    have ho : s.ob i = o.ob := by rw [← p.st]; exact hst_ob hi
    have := g.zero
    rw [← h0, ho] at this
    have := congrArg Ob.here this
    simpa [HObj.ob, Ob.free] using this
  have gone : ∀ {i : Nat} {o : HObj}, m.blks[i]? = some o → 1 ≤ i → (zeroF i (sweepF s.reachB i o)).state = 0 → s.swept.count i = 0 := fun {i o} hi h1 h0 => by
    refine gs.count_gone fun ha => ?_
    have := ha.1
    rw [← (zero_ob p g hi h1).1] at this
    simp [HObj.ob, h0] at this
  refine ⟨?_, p.deep, p.zero, p.over, p.budget, fun y hy => ?_, fun i y hy hs => ?_⟩
  · have e : (m.collected s N c.over v).blks.map HObj.ob = (s.collect c.over).objs := List.ext_getElem? fun i => by
      unfold St.collect St.restuck
      rw [List.getElem?_map, collected_get, List.getElem?_mapIdx]
      have hs : s.swept.objs[i]? = (m.blks[i]?).map fun _ => s.swept.ob i := by
        cases h : m.blks[i]? with
        | none =>
          have := List.getElem?_eq_none_iff.1 h
          exact List.getElem?_eq_none_iff.2 (by rw [gs.len]; omega)
        | some o =>
          have hl := (List.getElem?_eq_some_iff.1 h).1
          have hl2 : i < s.swept.objs.length := by rw [gs.len]; omega
          rw [List.getElem?_eq_getElem hl2, ob_of (List.getElem?_eq_getElem hl2)]; rfl
      rw [hs]
      cases h : m.blks[i]? with
      | none => rfl
      | some o =>
        simp only [Option.map_some]
        congr 1
        by_cases hi : 1 ≤ i ∧ i ≤ N
        · rw [if_pos hi, stickF_ob _ _ _ _ hi.1 (zero_ob p g h hi.1).2 (gone h hi.1), (zero_ob p g h hi.1).1]
        · rw [if_neg hi]
          obtain ⟨h0, hst⟩ := zero h hi
          have ho : s.ob i = o.ob := by rw [← p.st]; exact hst_ob h
          unfold stuckOb
          rw [if_neg (fun x => x.1 h0), h0, gs.zero, ← g.zero, ← h0, ho]
    have es : (s.collect c.over).stack = s.stack ∧ (s.collect c.over).globals = s.globals ∧ (s.collect c.over).queue = [] := ⟨rfl, rfl, rfl⟩
    have em : m.stack = s.stack ∧ m.globals = s.globals := by rw [← p.st]; exact ⟨rfl, rfl⟩
    show (⟨m.stack, m.globals, (m.collected s N c.over v).blks.map HObj.ob, []⟩ : St) = _
    rw [e, em.1, em.2]
    rfl
  · obtain ⟨i, hi⟩ := List.getElem?_of_mem hy
    rw [collected_get] at hi
    cases h : m.blks[i]? with
    | none => rw [h] at hi; cases hi
    | some o =>
      rw [h, Option.map_some] at hi
      have hi := Option.some.inj hi
      by_cases hn : 1 ≤ i ∧ i ≤ N
      · rw [if_pos hn] at hi
        subst hi
        rcases stickF_state c.over (fun i => s.swept.count i) i (zeroF i (sweepF s.reachB i o)) with e | e
        · rw [e]
          rcases (zero_ob p g h hn.1).2 with e | e
          · exact .inl e
          · exact .inr (.inl e)
        · exact .inr (.inr (.inl e))
      · rw [if_neg hn] at hi
        subst hi
        exact p.state _ (List.mem_of_getElem? h)
  · rw [collected_get] at hy
    cases h : m.blks[i]? with
    | none => rw [h] at hy; cases hy
    | some o =>
      rw [h, Option.map_some] at hy
      have hi := Option.some.inj hy
      by_cases hn : 1 ≤ i ∧ i ≤ N
      · rw [if_pos hn] at hi
        subst hi
        rw [stickF_count, if_neg (by omega)]
        show _ = ((s.swept.restuck c.over).count i : Int) + 0
        rw [restuck_count]; omega
      · rw [if_neg hn] at hi
        subst hi
        have := (zero h hn).2
        rcases hs with e | e <;> omega
end

/-! ### The counts, block by block -/
def cntTo (s : St) (k : Nat) (b : Int) : Nat := ((s.objs.tail.take k).map (obCount b)).sum
theorem cntTo_zero (s : St) (b : Int) : cntTo s 0 b = 0 := by simp [cntTo]
theorem cntTo_succ {s : St} {N : Nat} (g : s.Good N) {k : Nat} (hk : k < N) (b : Int) : cntTo s (k + 1) b = cntTo s k b + refsN (s.ob (k + 1)).fs b := by
  have hl : k < s.objs.tail.length := by rw [List.length_tail, g.len]; omega
  have e : s.objs.tail[k] = s.ob (k + 1) := by
    rw [ob_of (i := k + 1) (o := s.objs.tail[k])]
    rw [List.getElem_tail]
    exact List.getElem?_eq_getElem _
  unfold cntTo
  rw [List.take_succ_eq_append_getElem hl, List.map_append, List.sum_append, e]
  simp only [List.map_cons, List.map_nil, List.sum_cons, List.sum_nil, Nat.add_zero]
  congr 1
  unfold obCount
  cases h : (s.ob (k + 1)).here with
  | true => rfl
  | false => rw [g.gone _ h]; rfl
theorem cntTo_all {s : St} {N : Nat} (g : s.Good N) (b : Int) : cntTo s N b = s.count b := by
  unfold cntTo St.count
  rw [List.take_of_length_le (by rw [List.length_tail, g.len]; omega)]
theorem cntTo_le {s : St} {N : Nat} (g : s.Good N) (k : Nat) (hk : k ≤ N) (b : Int) : cntTo s k b ≤ 4 * k := by
  induction k with
  | zero => rw [cntTo_zero]; omega
  | succ k ih =>
    have h1 := ih (by omega)
    have h2 := refsN_le (s.ob (k + 1)).fs b
    have h3 := g.four (k + 1)
    rw [cntTo_succ g (by omega)]
    omega

/-! ### A row of bools -/
/-- a row of bools, N + 1 of them -/
def HMark (N G : Nat) (f : Nat → Bool) (W : World) : Prop := W.ownsRow 0 4 1 (.slice (some ⟨G, 0, none⟩) (N + 1) (N + 1)) (N + 1) ((List.range (N + 1)).map fun b => Value.bool (f b))
theorem HMark.cell {N G : Nat} {f : Nat → Bool} {W : World} (h : HMark N G f W) {b : Nat} (hb : b ≤ N) : W.cell? ⟨G, b, none⟩ = some (.bool (f b)) := by
  obtain ⟨g, cap, hv, hg, _, _, hcell, hfz⟩ := own_view h (by omega)
  simp at hv
  obtain ⟨rfl, _⟩ := hv
  exact hcell b _ (by rw [List.getElem?_map, List.getElem?_range (by omega)]; rfl)
theorem HMark.carry {N G : Nat} {f : Nat → Bool} {W W' : World} (h : HMark N G f W) (hb : W'.heap[G]? = W.heap[G]?) : HMark N G f W' := own_carry h fun g hg => by
  have : g = G := by simpa [Value.ownBlock, eq_comm] using hg
  subst this; exact hb
theorem HMark.lt {N G : Nat} {f : Nat → Bool} {W : World} (h : HMark N G f W) : G < W.heap.size := (own_lt h (g := G) rfl).2

end Go.Proofs.YtpmkjeihbddfpabDoor

/- OUR OWN. The program's heap: sweep. -/
namespace Go.Proofs.YtpmkjeihbddfpabDoor
open Go.RowKit
set_option linter.unusedVariables false
set_option linter.unusedSimpArgs false

/-- a row that is not the heap's own stays -/
theorem HMark.turned {N G : Nat} {f : Nat → Bool} {h : Nat} {w W : World} {m m' : HeapM} (k : HMark N G f w) (t : HTurn h w m W m') (hG : G ∉ h :: m.foot) : HMark N G f W := k.carry (t.off.block G k.lt hG)

/-- what sweep wants of the heap -/
structure SwE (h N : Nat) (w : World) (m : HeapM) : Prop where
  r : HeapAt w h m
  len : m.blks.length = N + 1
  small : N ≤ 99
  ql : m.queue.length ≤ 100

set_option maxHeartbeats 1600000 in
theorem sweep_any {h N G : Nat} {w : World} {m : HeapM} (E : SwE h N w m) (f : Nat → Bool) (mk : HMark N G f w) (hG : G ∉ h :: m.foot) :
    Calls Tryd.prog 23 #[.pointer (some ⟨h, 0, none⟩), .slice (some ⟨G, 0, none⟩) (N + 1) (N + 1)] w fun e w' =>
      e = .returned (.int .i64 (countTo (m.goes f) N)) ∧ ∃ v, HTurn h w m w' ((m.upTo (sweepF f) N).noQueue v) := by
  have hN := E.small
  obtain ⟨P, hP⟩ : ∃ P : Nat → Bool, P = m.goes f := ⟨_, rfl⟩
  rw [← hP]
  obtain ⟨I, hI⟩ : ∃ I : Nat → World → Prop, I = fun j W => HTurn h w m W (m.upTo (sweepF f) j) := ⟨_, rfl⟩
  have START : Hid (I 0 w) := by show I 0 w; rw [hI]; show HTurn _ _ _ _ _; rw [upTo_zero]; exact .refl E.r
  have LEN : ∀ j, (m.upTo (sweepF f) j).blks.length = N + 1 := fun j => by rw [upTo_len]; exact E.len
  have CB : Hid (∃ g cap, ∀ j W, I j W → W.cell? ⟨h, 6, none⟩ = some (.slice (some ⟨g, 0, none⟩) (N + 1) cap) ∧
      (j < N → ∃ st, W.cell? ⟨g, (j + 1) * 3, none⟩ = some (.int .i64 st) ∧ W.cell? ⟨G, j + 1, none⟩ = some (.bool (f (j + 1))) ∧ P (j + 1) = (decide (st ≠ 0) && !f (j + 1)) ∧
        (P (j + 1) = false → I (j + 1) W) ∧
        (P (j + 1) = true → (∃ u1 u2, W.cell? ⟨g, (j + 1) * 3 + 1, none⟩ = some u1 ∧ W.cell? ⟨g, (j + 1) * 3 + 2, none⟩ = some u2) ∧ W.frozen? ⟨g, (j + 1) * 3, none⟩ = false ∧ W.frozen? ⟨g, (j + 1) * 3 + 1, none⟩ = false ∧ W.frozen? ⟨g, (j + 1) * 3 + 2, none⟩ = false ∧
          I (j + 1) (((W.setCell ⟨g, (j + 1) * 3, none⟩ (.int .i64 0)).setCell ⟨g, (j + 1) * 3 + 1, none⟩ (.int .i64 0)).setCell ⟨g, (j + 1) * 3 + 2, none⟩ (.slice none 0 0))))) := by
    obtain ⟨g, cap, hv, _⟩ := E.r.view E.len
    refine ⟨g, cap, fun j W hi => ?_⟩
    rw [hI] at hi
    have r := hi.here
    obtain ⟨g', cap', hv', hg, _, _, hfz, hobj⟩ := r.view (LEN j)
    have e1 : (Value.slice (some ⟨g', 0, none⟩) (N + 1) cap') = .slice (some ⟨g, 0, none⟩) (N + 1) cap := hv'.symm.trans hv
    simp at e1
    obtain ⟨rfl, rfl⟩ := e1
    refine ⟨by rw [r.cell.2.2.2.1, hv'], fun hj => ?_⟩
    have hjl : j + 1 < m.blks.length := by rw [E.len]; omega
    have ho : m.blks[j + 1]? = some m.blks[j + 1] := List.getElem?_eq_getElem hjl
    have hi2 := upTo_old (F := sweepF f) ho
    have hl2 : j + 1 < (m.upTo (sweepF f) j).blks.length := by rw [LEN]; omega
    obtain ⟨c0, c1, c2⟩ := hobj (j + 1) hl2
    have eo : (m.upTo (sweepF f) j).blks[j + 1] = m.blks[j + 1] := (List.getElem?_eq_some_iff.1 hi2).2
    rw [eo] at c0 c1 c2
    have hPe : P (j + 1) = (decide ((m.blks[j + 1]).state ≠ 0) && !f (j + 1)) := by rw [hP]; exact goes_at ho
    refine ⟨_, c0, (mk.turned hi hG).cell (by omega), hPe, fun hp => ?_, fun hp => ⟨⟨_, _, c1, c2⟩, hfz _, hfz _, hfz _, ?_⟩⟩
    · rw [hI]
      show HTurn _ _ _ _ _
      rw [← upTo_skip ho (by unfold sweepF; rw [if_neg (by rw [← hPe, hp]; simp)])]
      exact hi
    · rw [hI]
      show HTurn _ _ _ _ _
      have t3 := r.placed (LEN j) (Below.refl _ _) hv' (j + 1) hi2 HObj.free own_nil (fun x hx => by cases hx)
      have es : (m.upTo (sweepF f) j).put (j + 1) HObj.free = m.upTo (sweepF f) (j + 1) := by
        rw [← upTo_step ho]
        unfold sweepF
        rw [if_pos (by rw [← hPe]; exact hp)]
      rw [es] at t3
      exact hi.trans t3
  have FIN : Hid (∀ W, I N W → ∃ ao ql qc, W.cell? ⟨h, 7, none⟩ = some (.slice ao ql qc) ∧ ql ≤ 100 ∧ (ql ≤ qc) ∧ W.frozen? ⟨h, 7, none⟩ = false ∧ ((ao = none ∧ ql = 0 ∧ qc = 0) ∨ ∃ qg qo, ao = some ⟨qg, qo, none⟩) ∧
      ∃ v, HTurn h w m (W.setCell ⟨h, 7, none⟩ (.slice ao 0 qc)) ((m.upTo (sweepF f) N).noQueue v)) := fun W hi => by
    rw [hI] at hi
    have r := hi.here
    have hq := r.queue
    have eq : (m.upTo (sweepF f) N).queue = m.queue := rfl
    rw [eq] at hq
    have cq := r.cell.2.2.2.2.1
    rcases hq.2 with ⟨hv, hl0⟩ | ⟨qg, qo, qc, cur, hv, q1, q2, q3, q4, q5⟩
    · refine ⟨none, 0, 0, by rw [cq, hv], by omega, by omega, frozen_of_heap r.head, .inl ⟨rfl, rfl, rfl⟩, .slice none 0 0, ?_⟩
      exact hi.trans (r.requeued (w1 := W) (.slice none 0 0) [] win_nil (Off.refl _ _) (fun x hx => by cases hx))
    · refine ⟨some ⟨qg, qo, none⟩, m.queue.length, qc, by rw [cq, hv], E.ql, q2, frozen_of_heap r.head, .inr ⟨qg, qo, rfl⟩, .slice (some ⟨qg, qo, none⟩) 0 qc, ?_⟩
      have hq3 := hq
      rw [hv] at hq3
      have hq2 := win_take hq3 0 (Nat.zero_le _)
      exact hi.trans (r.requeued (w1 := W) (.slice (some ⟨qg, qo, none⟩) 0 qc) [] (by simpa using hq2) (Off.refl _ _) (fun b hb => .inl (by rw [hv]; exact hb)))
  obtain ⟨g, cap, CB1⟩ := CB.out
  have C : Hid _ := CB1
  have DRW : Hid (∀ j W, I j W → I j W.drew) := fun j W hi => by rw [hI] at hi ⊢; exact hi.drew
  clear CB CB1 hI hP E mk hG LEN
  go_enter Tryd.func23, Tryd.ntmps23
  go_wp2
  go_loopw [5, 6] (fun n i wr => ∃ j : Nat, j ≤ N ∧ i = .int .i64 (j + 1) ∧ n = .int .i64 (countTo P j) ∧ I j wr) (fun _ i _ => N + 1 - (intOf i).toNat)
  case atStart => exact ⟨0, Nat.zero_le _, rfl, rfl, START.out⟩
  case round =>
    obtain ⟨j, hj, rfl, rfl, hi⟩ := hrel
    obtain ⟨cB, hgo⟩ := C.out j wr hi
    have hle := countTo_le P j
    have KI : Hid (I j wr) := hi
    clear hi
    obtain ⟨k, hk⟩ : ∃ k, countTo P j = k := ⟨_, rfl⟩
    rw [hk] at hle ⊢
    by_cases hlt : j < N
    · obtain ⟨st, c0, cG, hPe, hno, hyes⟩ := hgo hlt
      have S : Hid (countTo P (j + 1) = k + if P (j + 1) then 1 else 0) := by show _ = _; rw [countTo_succ, hk]
      clear hk hgo
      have hjI : (j : Int) + 1 < (N : Int) + 1 := by omega
      obtain ⟨fb, hfb⟩ : ∃ fb, f (j + 1) = fb := ⟨_, rfl⟩
      rw [hfb] at cG hPe
      by_cases hp : P (j + 1) = true
      · obtain ⟨⟨u1, u2, c1, c2⟩, f0, f1, f2, hnx⟩ := hyes hp
        have NX : Hid _ := hnx
        have S2 : Hid (countTo P (j + 1) = k + 1) := by show _ = _; rw [S.out, if_pos hp]
        have hst : ¬ st = 0 := by intro e; rw [hPe] at hp; simp [e] at hp
        have hfb2 : fb = false := by rw [hPe] at hp; simp at hp; exact hp.2
        subst hfb2
        have hst2 : (st == 0) = false := by simpa using hst
        have hst3 : (st != 0) = true := by simpa using hst
        clear hno hyes hnx S hp hPe hfb
        go_wp2
        go_roundw
        case rel => exact ⟨j + 1, by omega, by go_num, by rw [S2.out]; go_num, NX.out⟩
        case measure => simp [intOf]; omega
      · have hp2 : P (j + 1) = false := by simpa using hp
        have NX : Hid _ := hno hp2
        have S2 : Hid (countTo P (j + 1) = k) := by show _ = _; rw [S.out, if_neg hp]; rfl
        rw [hp2] at hPe
        clear hno hyes S hp hp2 hfb
        by_cases hst : st = 0
        · subst hst
          clear hPe
          go_wp2
          go_roundw
          case rel => exact ⟨j + 1, by omega, by go_num, by rw [S2.out], NX.out⟩
          case measure => simp [intOf]; omega
        · have hst2 : (st == 0) = false := by simpa using hst
          have hst3 : (st != 0) = true := by simpa using hst
          have hfb2 : fb = true := by simpa [hst] using hPe.symm
          subst hfb2
          clear hPe
          go_wp2
          go_roundw
          case rel => exact ⟨j + 1, by omega, by go_num, by rw [S2.out], NX.out⟩
          case measure => simp [intOf]; omega
    · obtain rfl : j = N := by omega
      obtain ⟨ao, ql, qc, cQ, hql, hqc, fQ, hao, hm⟩ := FIN.out wr KI.out
      have M : Hid _ := hm
      have HC : Hid (countTo P j = k) := hk
      have hqI : (0 : Int) ≤ qc := by omega
      clear hk hgo hm
      rcases hao with ⟨rfl, rfl, rfl⟩ | ⟨qg, qo, rfl⟩
      · go_wp2
        go_ret
        exact ⟨ret_int (by rw [HC.out]), M.out⟩
      · go_wp2
        go_ret
        exact ⟨ret_int (by rw [HC.out]), M.out⟩

end Go.Proofs.YtpmkjeihbddfpabDoor

/- OUR OWN. The program's heap: countFieldsOf, recount. -/
namespace Go.Proofs.YtpmkjeihbddfpabDoor
open Go.RowKit
set_option linter.unusedVariables false
set_option linter.unusedSimpArgs false

theorem refsN_take_succ {l : List (Int × Int)} {k : Nat} (hk : k < l.length) (b : Int) : refsN (l.take (k + 1)) b = refsN (l.take k) b + if (l[k]).1 = 2 ∧ (l[k]).2 = b then 1 else 0 := by
  rw [take_snoc l k hk, refsN_snoc]

set_option maxHeartbeats 1600000 in
theorem countFieldsOf_any {h N : Nat} {w : World} {m : HeapM} (c : Nat → Nat) (r : HeapAt w h (m.upTo (cntF c) N)) (hlen : m.blks.length = N + 1) (hN : N ≤ 99) (hc : ∀ i, c i ≤ 400) (b : Nat) (hb1 : 1 ≤ b) (hbN : b ≤ N) {o : HObj} (ho : m.blks[b]? = some o) (h4 : o.fs.length ≤ 4)
    (lead : ∀ u ∈ o.fs, u.1 = 2 → ∃ x : Nat, u.2 = (x : Int) ∧ 1 ≤ x ∧ x ≤ N) :
    Calls Tryd.prog 56 #[.pointer (some ⟨h, 0, none⟩), .int .i64 b] w fun e w' => e = .returned (.tuple #[]) ∧ HTurn h w (m.upTo (cntF c) N) w' (m.upTo (cntF fun i => c i + refsN o.fs i) N) := by
  obtain ⟨CC, hCC⟩ : ∃ CC : Nat → Nat → Nat, CC = fun j i => c i + refsN (o.fs.take j) i := ⟨_, rfl⟩
  obtain ⟨I, hI⟩ : ∃ I : Nat → World → Prop, I = fun j W => HTurn h w (m.upTo (cntF c) N) W (m.upTo (cntF (CC j)) N) := ⟨_, rfl⟩
  have e0 : CC 0 = c := by rw [hCC]; funext i; simp [refsN]
  have START : Hid (I 0 w) := by show I 0 w; rw [hI]; show HTurn _ _ _ _ _; rw [e0]; exact .refl r
  have LEN : ∀ j, (m.upTo (cntF (CC j)) N).blks.length = N + 1 := fun j => by rw [upTo_len]; exact hlen
  have hbl : b < m.blks.length := by rw [hlen]; omega
  obtain ⟨g, cap, hv, _⟩ := r.view (by rw [upTo_len]; exact hlen)
  have hv0 : m.vB = .slice (some ⟨g, 0, none⟩) (N + 1) cap := hv
  -- the block's fields stay
  have get : ∀ (d : Nat → Nat) (i : Nat) (oi : HObj), m.blks[i]? = some oi → 1 ≤ i → i ≤ N → (m.upTo (cntF d) N).blks[i]? = some (cntF d i oi) := fun d i oi hoi h1 h2 => by rw [upTo_get, hoi, Option.map_some, if_pos ⟨h1, h2⟩]
  obtain ⟨ao, fc, hvF⟩ : ∃ ao fc, o.vF = .slice ao o.fs.length fc := by
    have := r.fields (cntF c b o) (List.mem_of_getElem? (get c b o ho hb1 hbN))
    exact own_slice this
  have CB : Hid (∀ j W, I j W → W.cell? ⟨h, 6, none⟩ = some (.slice (some ⟨g, 0, none⟩) (N + 1) cap) ∧ W.cell? ⟨g, b * 3 + 2, none⟩ = some (.slice ao o.fs.length fc) ∧
      ∀ hj : j < o.fs.length, ∃ lg, ao = some ⟨lg, 0, none⟩ ∧ W.cell? ⟨lg, j * 2, none⟩ = some (.int .i64 (o.fs[j]).1) ∧ W.cell? ⟨lg, j * 2 + 1, none⟩ = some (.int .i64 (o.fs[j]).2) ∧
        ((o.fs[j]).1 ≠ 2 → I (j + 1) W) ∧
        ((o.fs[j]).1 = 2 → ∃ x k : Nat, (o.fs[j]).2 = (x : Int) ∧ 1 ≤ x ∧ x ≤ N ∧ k ≤ 500 ∧ W.cell? ⟨g, x * 3 + 1, none⟩ = some (.int .i64 (k : Int)) ∧ W.frozen? ⟨g, x * 3 + 1, none⟩ = false ∧ I (j + 1) (W.setCell ⟨g, x * 3 + 1, none⟩ (.int .i64 ((k : Int) + 1))))) := fun j W hi => by
    have hi' := hi
    rw [hI] at hi'
    have r1 := hi'.here
    obtain ⟨g', cap', hv', hg, _, _, hfz, hobj⟩ := r1.view (LEN j)
    have e1 : (Value.slice (some ⟨g', 0, none⟩) (N + 1) cap') = .slice (some ⟨g, 0, none⟩) (N + 1) cap := hv'.symm.trans hv0
    simp at e1
    obtain ⟨rfl, rfl⟩ := e1
    have gb := get (CC j) b o ho hb1 hbN
    have hbl2 : b < (m.upTo (cntF (CC j)) N).blks.length := by rw [LEN]; omega
    have eo : (m.upTo (cntF (CC j)) N).blks[b] = cntF (CC j) b o := (List.getElem?_eq_some_iff.1 gb).2
    have c2 := (hobj b hbl2).2.2
    rw [eo] at c2
    refine ⟨by rw [r1.cell.2.2.2.1, hv'], by rw [c2]; show some o.vF = _; rw [hvF], fun hj => ?_⟩
    have row : W.ownsRow 0 64 2 o.vF o.fs.length (o.fs.flatMap valCells) := r1.fields (cntF (CC j) b o) (List.mem_of_getElem? gb)
    obtain ⟨lg, cap2, hvl, _, _, _, hcell, _⟩ := own_view row (by omega)
    rw [hvF] at hvl
    simp at hvl
    have same : (o.fs[j]).1 ≠ 2 → CC (j + 1) = CC j := fun hne => by
      rw [hCC]
      funext i
      show c i + refsN (o.fs.take (j + 1)) i = c i + refsN (o.fs.take j) i
      rw [refsN_take_succ hj, if_neg (fun x => hne x.1)]; rfl
    refine ⟨lg, hvl.1, hcell _ _ ?_, hcell _ _ ?_, fun hne => ?_, fun h2 => ?_⟩
    · have := flat_get valCells 2 (fun _ => rfl) o.fs j 0 (by decide); simpa [hj, valCells] using this
    · have := flat_get valCells 2 (fun _ => rfl) o.fs j 1 (by decide); simpa [hj, valCells] using this
    · rw [hI]
      show HTurn _ _ _ _ _
      rw [same hne]
      exact hi'
    · obtain ⟨x, hx, hx1, hxN⟩ := lead _ (List.getElem_mem hj) h2
      have hxl : x < m.blks.length := by rw [hlen]; omega
      have hox : m.blks[x]? = some m.blks[x] := List.getElem?_eq_getElem hxl
      have gx := get (CC j) x _ hox hx1 hxN
      have hxl2 : x < (m.upTo (cntF (CC j)) N).blks.length := by rw [LEN]; omega
      have eox : (m.upTo (cntF (CC j)) N).blks[x] = cntF (CC j) x m.blks[x] := (List.getElem?_eq_some_iff.1 gx).2
      have c1 := (hobj x hxl2).2.1
      rw [eox] at c1
      have hk : CC j x ≤ 500 := by
        rw [hCC]
        have h1 := hc x
        have h2 := refsN_le (o.fs.take j) x
        have h3 : (o.fs.take j).length ≤ o.fs.length := List.length_take_le' _ _
        show c x + refsN (o.fs.take j) x ≤ 500
        omega
      refine ⟨x, CC j x, hx, hx1, hxN, hk, c1, hfz _, ?_⟩
      rw [hI]
      show HTurn _ _ _ _ _
      have hF : ∀ k, k ≠ x → cntF (CC (j + 1)) k = cntF (CC j) k := fun k hk => by
        funext oo
        have : CC (j + 1) k = CC j k := by
          rw [hCC]
          show c k + refsN (o.fs.take (j + 1)) k = c k + refsN (o.fs.take j) k
          rw [refsN_take_succ hj, if_neg (fun y => hk (by have := y.2; rw [hx] at this; omega))]; rfl
        unfold cntF; rw [this]
      have hcx : CC (j + 1) x = CC j x + 1 := by
        rw [hCC]
        show c x + refsN (o.fs.take (j + 1)) x = c x + refsN (o.fs.take j) x + 1
        rw [refsN_take_succ hj, if_pos ⟨h2, hx⟩]; omega
      have t2 := r1.flagged (LEN j) hv' x gx (cntF (CC (j + 1)) x m.blks[x]) 1 (by decide) (.int .i64 ((CC j x : Int) + 1)) (by
        unfold cntF HObj.cells
        simp only [hcx, List.set_cons_zero, List.set_cons_succ]
        simp) rfl
      have es := upTo_put (F := cntF (CC j)) (F' := cntF (CC (j + 1))) hox hx1 hxN hF
      have t3 : HTurn h W (m.upTo (cntF (CC j)) N) (W.setCell ⟨g', x * 3 + 1, none⟩ (.int .i64 ((CC j x : Int) + 1))) ((m.upTo (cntF (CC j)) N).put x (cntF (CC (j + 1)) x m.blks[x])) := t2
      rw [es] at t3
      exact hi'.trans t3
  have FIN : Hid (∀ W, I o.fs.length W → HTurn h w (m.upTo (cntF c) N) W (m.upTo (cntF fun i => c i + refsN o.fs i) N)) := fun W hi => by
    rw [hI] at hi
    have e : CC o.fs.length = fun i => c i + refsN o.fs i := by rw [hCC]; funext i; simp
    rw [← e]; exact hi
  have DRW : Hid (∀ j W, I j W → I j W.drew) := fun j W hi => by rw [hI] at hi ⊢; exact hi.drew
  obtain ⟨fs, hfs⟩ : ∃ fs, o.fs = fs := ⟨_, rfl⟩
  obtain ⟨fl, hfl⟩ : ∃ fl, fs.length = fl := ⟨_, rfl⟩
  rw [hfs] at CB
  obtain ⟨cB, c2, _⟩ := CB.out 0 w START.out
  rw [hfl] at c2
  have LL : Hid (fs.length = fl) := hfl
  have hfl4 : fl ≤ 4 := by rw [← hfl, ← hfs]; exact h4
  have FIN2 : Hid (∀ W, I fl W → HTurn h w (m.upTo (cntF c) N) W (m.upTo (cntF fun i => c i + refsN o.fs i) N)) := fun W hi => FIN.out W (by rw [hfs, hfl]; exact hi)
  obtain ⟨Done, hD⟩ : ∃ Done : World → Prop, Done = fun W => HTurn h w (m.upTo (cntF c) N) W (m.upTo (cntF fun i => c i + refsN o.fs i) N) := ⟨_, rfl⟩
  have FIN3 : Hid (∀ W, I fl W → Done W) := fun W hi => by rw [hD]; exact FIN2.out W hi
  suffices hs : Calls Tryd.prog 56 #[.pointer (some ⟨h, 0, none⟩), .int .i64 b] w fun e w' => e = .returned (.tuple #[]) ∧ Done w' by rw [hD] at hs; exact hs
  clear FIN FIN2 hD hI hCC e0 LEN get hvF hv hv0 r hc lead ho h4 hfs hfl hbl
  have hbI : (b : Int) < (N : Int) + 1 := by omega
  go_enter Tryd.func56, Tryd.ntmps56
  go_wp2
  go_loopw [5] (fun i wr => ∃ j : Nat, j ≤ fl ∧ i = .int .i64 j ∧ I j wr) (fun i _ => fl - (intOf i).toNat)
  case atStart => exact ⟨0, Nat.zero_le _, rfl, START.out⟩
  case round =>
    obtain ⟨j, hj, rfl, hi⟩ := hrel
    by_cases hlt : j < fl
    · have hjl : j < fs.length := by rw [LL.out]; exact hlt
      obtain ⟨dB, d2, hgo⟩ := CB.out j wr hi
      obtain ⟨lg, rfl, v0, v1, hno, hyes⟩ := hgo hjl
      obtain ⟨y, hy⟩ : ∃ y, fs[j] = y := ⟨_, rfl⟩
      rw [hy] at v0 v1 hno hyes
      obtain ⟨y1, y2⟩ := y
      simp only at v0 v1 hno hyes
      have hjI : (j : Int) < fl := by omega
      clear hgo hy hi
      by_cases hk : y1 = 2
      · subst hk
        obtain ⟨x, k, rfl, hx1, hxN, hk5, e1, f1, hnx⟩ := hyes rfl
        have NX : Hid _ := hnx
        have hxI : (x : Int) < (N : Int) + 1 := by omega
        clear hno hyes hnx d2 cB c2
        go_wp2_with fail
        go_region
        go_wp2
        go_roundw
        case rel => exact ⟨j + 1, by omega, by go_num, DRW.out _ _ NX.out⟩
        case measure => simp [intOf]; omega
      · have NX : Hid _ := hno hk
        have hk1 : (y1 == 2) = false := by simpa using hk
        clear hno hyes d2 cB c2 v1
        go_wp2
        go_roundw
        case rel => exact ⟨j + 1, by omega, by go_num, NX.out⟩
        case measure => simp [intOf]; omega
    · obtain rfl : j = fl := by omega
      have M : Hid _ := FIN3.out wr hi
      have hjI : ¬ (j : Int) < j := by omega
      clear hi cB c2
      go_wp2
      go_end0
      exact ⟨rfl, M.out⟩

end Go.Proofs.YtpmkjeihbddfpabDoor

/- OUR OWN. The program's heap: recount. -/
namespace Go.Proofs.YtpmkjeihbddfpabDoor
open Go.RowKit
set_option linter.unusedVariables false
set_option linter.unusedSimpArgs false

/-- what the counting wants of the heap: the blocks are those of the state t -/
structure RcE (h N : Nat) (w : World) (m : HeapM) (t : St) : Prop where
  r : HeapAt w h m
  len : m.blks.length = N + 1
  small : N ≤ 99
  good : t.Good N
  fs : ∀ i o, m.blks[i]? = some o → 1 ≤ i → (t.ob i).fs = o.fs

set_option maxHeartbeats 1600000 in
theorem recount_any {h N : Nat} {w : World} {m : HeapM} {t : St} (E : RcE h N w m t) :
    Calls Tryd.prog 24 #[.pointer (some ⟨h, 0, none⟩)] w fun e w' => e = .returned (.tuple #[]) ∧ HTurn h w m w' ((m.upTo zeroF N).upTo (cntF fun i => t.count i) N) := by
  have hN := E.small
  obtain ⟨g, cap, hv0, _⟩ := E.r.view E.len
  obtain ⟨I, hI⟩ : ∃ I : Nat → World → Prop, I = fun j W => HTurn h w m W (m.upTo zeroF j) := ⟨_, rfl⟩
  obtain ⟨J, hJ⟩ : ∃ J : Nat → World → Prop, J = fun j W => HTurn h w m W ((m.upTo zeroF N).upTo (cntF fun i => cntTo t j i) N) := ⟨_, rfl⟩
  have START : Hid (I 0 w) := by show I 0 w; rw [hI]; show HTurn _ _ _ _ _; rw [upTo_zero]; exact .refl E.r
  have LEN : ∀ j, (m.upTo zeroF j).blks.length = N + 1 := fun j => by rw [upTo_len]; exact E.len
  have CI : Hid (∀ j W, I j W → W.cell? ⟨h, 6, none⟩ = some (.slice (some ⟨g, 0, none⟩) (N + 1) cap) ∧
      (j < N → ∃ st ct, W.cell? ⟨g, (j + 1) * 3, none⟩ = some (.int .i64 st) ∧ W.cell? ⟨g, (j + 1) * 3 + 1, none⟩ = some (.int .i64 ct) ∧ W.frozen? ⟨g, (j + 1) * 3, none⟩ = false ∧ W.frozen? ⟨g, (j + 1) * 3 + 1, none⟩ = false ∧
        (st ≠ 2 → I (j + 1) (W.setCell ⟨g, (j + 1) * 3 + 1, none⟩ (.int .i64 0))) ∧
        (st = 2 → I (j + 1) ((W.setCell ⟨g, (j + 1) * 3 + 1, none⟩ (.int .i64 0)).setCell ⟨g, (j + 1) * 3, none⟩ (.int .i64 1))))) := fun j W hi => by
    rw [hI] at hi
    have r := hi.here
    obtain ⟨g', cap', hv', hg, _, _, hfz, hobj⟩ := r.view (LEN j)
    have e1 : (Value.slice (some ⟨g', 0, none⟩) (N + 1) cap') = .slice (some ⟨g, 0, none⟩) (N + 1) cap := hv'.symm.trans hv0
    simp at e1
    obtain ⟨rfl, rfl⟩ := e1
    refine ⟨by rw [r.cell.2.2.2.1, hv'], fun hj => ?_⟩
    have hjl : j + 1 < m.blks.length := by rw [E.len]; omega
    have ho : m.blks[j + 1]? = some m.blks[j + 1] := List.getElem?_eq_getElem hjl
    have hi2 := upTo_old (F := zeroF) ho
    have hl2 : j + 1 < (m.upTo zeroF j).blks.length := by rw [LEN]; omega
    obtain ⟨c0, c1, c2⟩ := hobj (j + 1) hl2
    have eo : (m.upTo zeroF j).blks[j + 1] = m.blks[j + 1] := (List.getElem?_eq_some_iff.1 hi2).2
    rw [eo] at c0 c1 c2
    have t1 : HTurn h W (m.upTo zeroF j) (W.setCell ⟨g', (j + 1) * 3 + 1, none⟩ (.int .i64 0)) ((m.upTo zeroF j).put (j + 1) { m.blks[j + 1] with count := 0 }) := r.flagged (LEN j) hv' (j + 1) hi2 { m.blks[j + 1] with count := 0 } 1 (by decide) (.int .i64 0) rfl rfl
    refine ⟨_, _, c0, c1, hfz _, hfz _, fun hst => ?_, fun hst => ?_⟩
    · rw [hI]
      show HTurn _ _ _ _ _
      have ez : zeroF (j + 1) m.blks[j + 1] = { m.blks[j + 1] with count := 0 } := by unfold zeroF; rw [if_neg hst]
      rw [← upTo_step ho, ez]
      exact hi.trans t1
    · rw [hI]
      show HTurn _ _ _ _ _
      have hl3 : ((m.upTo zeroF j).put (j + 1) { m.blks[j + 1] with count := 0 }).blks.length = N + 1 := by simp [HeapM.put, LEN]
      have hi3 : ((m.upTo zeroF j).put (j + 1) { m.blks[j + 1] with count := 0 }).blks[j + 1]? = some { m.blks[j + 1] with count := 0 } := by
        show ((m.upTo zeroF j).blks.set (j + 1) _)[j + 1]? = _
        rw [List.getElem?_set_self hl2]
      have t2 := t1.here.flagged hl3 hv' (j + 1) hi3 { m.blks[j + 1] with count := 0, state := 1 } 0 (by decide) (.int .i64 1) rfl rfl
      rw [Nat.add_zero] at t2
      have ez : zeroF (j + 1) m.blks[j + 1] = { m.blks[j + 1] with count := 0, state := 1 } := by unfold zeroF; rw [if_pos hst]
      have es : ({ (m.upTo zeroF j).put (j + 1) { m.blks[j + 1] with count := 0 } with blks := ((m.upTo zeroF j).put (j + 1) { m.blks[j + 1] with count := 0 }).blks.set (j + 1) { m.blks[j + 1] with count := 0, state := 1 } } : HeapM) = m.upTo zeroF (j + 1) := by
        rw [← upTo_step ho, ez]
        simp [HeapM.put, List.set_set]
      rw [es] at t2
      exact hi.trans (t1.trans t2)
  have IJ : Hid (∀ W, I N W → J 0 W) := fun W hi => by
    rw [hI] at hi
    rw [hJ]
    show HTurn _ _ _ _ _
    have e : (m.upTo zeroF N).upTo (cntF fun i => cntTo t 0 i) N = m.upTo zeroF N := by
      refine (blks_eq (m := m) (l := ((m.upTo zeroF N).upTo (cntF fun i => cntTo t 0 i) N).blks) (l' := (m.upTo zeroF N).blks) (List.ext_getElem? fun i => ?_))
      rw [upTo_get, upTo_get]
      cases ho : m.blks[i]? with
      | none => rfl
      | some o =>
        simp only [Option.map_some]
        by_cases hi : 1 ≤ i ∧ i ≤ N
        · rw [if_pos hi, if_pos hi]
          simp [cntF, zeroF, cntTo_zero]
        · rw [if_neg hi, if_neg hi]
    rw [e]; exact hi
  have LENJ : ∀ c : Nat → Nat, ((m.upTo zeroF N).upTo (cntF c) N).blks.length = N + 1 := fun c => by rw [upTo_len]; exact LEN N
  have CJ : Hid (∀ j W, J j W → W.cell? ⟨h, 6, none⟩ = some (.slice (some ⟨g, 0, none⟩) (N + 1) cap) ∧
      (j < N → Calls Tryd.prog 56 #[.pointer (some ⟨h, 0, none⟩), .int .i64 ((j : Int) + 1)] W fun e w' => e = .returned (.tuple #[]) ∧ J (j + 1) w')) := fun j W hi => by
    rw [hJ] at hi
    have r := hi.here
    refine ⟨by rw [r.cell.2.2.2.1]; exact congrArg some hv0, fun hj => ?_⟩
    have hjl : j + 1 < m.blks.length := by rw [E.len]; omega
    have ho : m.blks[j + 1]? = some m.blks[j + 1] := List.getElem?_eq_getElem hjl
    have hoz : (m.upTo zeroF N).blks[j + 1]? = some (zeroF (j + 1) m.blks[j + 1]) := by rw [upTo_get, ho, Option.map_some, if_pos (by omega)]
    have hfs := E.fs (j + 1) _ ho (by omega)
    have hfz : (zeroF (j + 1) m.blks[j + 1]).fs = (t.ob (j + 1)).fs := hfs.symm
    have key := countFieldsOf_any (fun i => cntTo t j i) r (LEN N) hN (fun i => by have := cntTo_le E.good j (by omega) i; omega) (j + 1) (by omega) (by omega) hoz (by rw [hfz]; exact E.good.four _) (fun u hu h2 => leadM E.good (E.good.fields (j + 1) u (by rw [← hfz]; exact hu)) h2)
    have ej : ((j + 1 : Nat) : Int) = (j : Int) + 1 := by omega
    rw [ej] at key
    refine key.mono ?_
    rintro e w' ⟨he, t2⟩
    refine ⟨he, ?_⟩
    rw [hJ]
    show HTurn _ _ _ _ _
    have ec : (fun i : Nat => cntTo t (j + 1) i) = fun i : Nat => cntTo t j i + refsN (zeroF (j + 1) m.blks[j + 1]).fs i := by
      funext i
      rw [cntTo_succ E.good hj, hfz]
    rw [ec]
    exact hi.trans t2
  obtain ⟨Done, hD⟩ : ∃ Done : World → Prop, Done = fun W => HTurn h w m W ((m.upTo zeroF N).upTo (cntF fun i => t.count i) N) := ⟨_, rfl⟩
  have FIN : Hid (∀ W, J N W → Done W) := fun W hi => by
    rw [hJ] at hi
    rw [hD]
    have e : (fun i : Nat => cntTo t N i) = fun i : Nat => t.count i := by funext i; exact cntTo_all E.good i
    have hi' : HTurn h w m W ((m.upTo zeroF N).upTo (cntF fun i => cntTo t N i) N) := hi
    rw [e] at hi'
    exact hi'
  suffices hs : Calls Tryd.prog 24 #[.pointer (some ⟨h, 0, none⟩)] w fun e w' => e = .returned (.tuple #[]) ∧ Done w' by rw [hD] at hs; exact hs
  clear hD hI hJ LEN LENJ hv0 E
  go_enter Tryd.func24, Tryd.ntmps24
  go_wp2
  go_loopw [2] (fun i wr => ∃ j : Nat, j ≤ N ∧ i = .int .i64 (j + 1) ∧ I j wr) (fun i _ => N + 1 - (intOf i).toNat)
  case atStart => exact ⟨0, Nat.zero_le _, rfl, START.out⟩
  case round =>
    obtain ⟨j, hj, rfl, hi⟩ := hrel
    obtain ⟨cB, hgo⟩ := CI.out j wr hi
    by_cases hlt : j < N
    · obtain ⟨st, ct, c0, c1, f0, f1, hno, hyes⟩ := hgo hlt
      have hjI : (j : Int) + 1 < (N : Int) + 1 := by omega
      clear hgo hi
      by_cases hst : st = 2
      · subst hst
        have NX : Hid _ := hyes rfl
        clear hno hyes
        go_wp2
        go_roundw
        case rel => exact ⟨j + 1, by omega, by go_num, NX.out⟩
        case measure => simp [intOf]; omega
      · have hst2 : (st == 2) = false := by simpa using hst
        have NX : Hid _ := hno hst
        clear hno hyes
        go_wp2
        go_roundw
        case rel => exact ⟨j + 1, by omega, by go_num, NX.out⟩
        case measure => simp [intOf]; omega
    · obtain rfl : j = N := by omega
      have J0 : Hid _ := IJ.out wr hi
      clear hgo hi START
      go_wp2
      go_loopw [3] (fun i wx => ∃ k : Nat, k ≤ j ∧ i = .int .i64 (k + 1) ∧ J k wx) (fun i _ => j + 1 - (intOf i).toNat)
      case atStart => exact ⟨0, Nat.zero_le _, rfl, J0.out⟩
      case round =>
        obtain ⟨k, hk, rfl, hi⟩ := hrel
        obtain ⟨dB, hgo⟩ := CJ.out k wr hi
        by_cases hlt2 : k < j
        · have R : Hid _ := hgo hlt2
          have hkI : (k : Int) + 1 < (j : Int) + 1 := by omega
          clear hgo hi J0
          go_wp2_with fail
          refine Calls.mono R.out ?_
          rintro e w2 ⟨rfl, hm⟩
          have M : Hid _ := hm
          clear hm R dB
          go_wp2
          go_roundw
          case rel => exact ⟨k + 1, by omega, by go_num, M.out⟩
          case measure => simp [intOf]; omega
        · obtain rfl : k = j := by omega
          have M : Hid _ := FIN.out wr hi
          clear hgo hi J0
          go_wp2
          go_end0
          exact ⟨rfl, M.out⟩

end Go.Proofs.YtpmkjeihbddfpabDoor

/- OUR OWN. The program's heap: handOutExtras. -/
namespace Go.Proofs.YtpmkjeihbddfpabDoor
open Go.RowKit
set_option linter.unusedVariables false
set_option linter.unusedSimpArgs false

set_option maxHeartbeats 1600000 in
theorem handOut_any {h N : Nat} {w : World} {m : HeapM} (c : Nat → Nat) (r0 : HeapAt w h m) (hlen : m.blks.length = N + 1) (hN : N ≤ 99) (hc : ∀ i o, m.blks[i]? = some o → 1 ≤ i → o.count = (c i : Int)) (ho9 : 0 ≤ m.over ∧ m.over ≤ 9) :
    Calls Tryd.prog 25 #[.pointer (some ⟨h, 0, none⟩)] w fun e w' => e = .returned (.tuple #[]) ∧ HTurn h w m w' (m.upTo (stickF m.over c) N) := by
  obtain ⟨g, cap, hv0, _⟩ := r0.view hlen
  obtain ⟨ov, hov⟩ : ∃ ov : Nat, m.over = ov := ⟨m.over.toNat, by omega⟩
  have hov9 : ov ≤ 9 := by omega
  obtain ⟨P, hP⟩ : ∃ P : Nat → Bool, P = fun b => decide (7 < c b) := ⟨_, rfl⟩
  obtain ⟨F, hF⟩ : ∃ F, F = stickF m.over c := ⟨_, rfl⟩
  have Fyes : ∀ j o, P (j + 1) = true → ov ≤ countTo P j → F (j + 1) o = { o with state := 2 } := fun j o h1 h2 => by
    rw [hF]; unfold stickF; rw [hP] at h1 h2; rw [if_pos ⟨by simpa using h1, by rw [Nat.add_sub_cancel, hov]; omega⟩]
  have Fno : ∀ j o, ¬ (P (j + 1) = true ∧ ov ≤ countTo P j) → F (j + 1) o = o := fun j o h1 => by
    rw [hF]; unfold stickF; rw [hP] at h1; rw [if_neg (fun x => h1 ⟨by simpa using x.1, by have := x.2; rw [Nat.add_sub_cancel, hov] at this; omega⟩)]
  rw [← hF]
  obtain ⟨I, hI⟩ : ∃ I : Nat → World → Prop, I = fun j W => HTurn h w m W (m.upTo F j) := ⟨_, rfl⟩
  have START : Hid (I 0 w) := by show I 0 w; rw [hI]; show HTurn _ _ _ _ _; rw [upTo_zero]; exact .refl r0
  have LEN : ∀ j, (m.upTo F j).blks.length = N + 1 := fun j => by rw [upTo_len]; exact hlen
  have CI : Hid (∀ j W, I j W → W.cell? ⟨h, 6, none⟩ = some (.slice (some ⟨g, 0, none⟩) (N + 1) cap) ∧
      (j < N → ∃ st, W.cell? ⟨g, (j + 1) * 3, none⟩ = some (.int .i64 st) ∧ W.cell? ⟨g, (j + 1) * 3 + 1, none⟩ = some (.int .i64 (c (j + 1) : Int)) ∧ W.frozen? ⟨g, (j + 1) * 3, none⟩ = false ∧
        (¬ (7 < c (j + 1) ∧ ov ≤ countTo P j) → I (j + 1) W) ∧
        (7 < c (j + 1) → ov ≤ countTo P j → I (j + 1) (W.setCell ⟨g, (j + 1) * 3, none⟩ (.int .i64 2))))) := fun j W hi => by
    rw [hI] at hi
    have r := hi.here
    obtain ⟨g', cap', hv', hg, _, _, hfz, hobj⟩ := r.view (LEN j)
    have e1 : (Value.slice (some ⟨g', 0, none⟩) (N + 1) cap') = .slice (some ⟨g, 0, none⟩) (N + 1) cap := hv'.symm.trans hv0
    simp at e1
    obtain ⟨rfl, rfl⟩ := e1
    refine ⟨by rw [r.cell.2.2.2.1, hv'], fun hj => ?_⟩
    have hjl : j + 1 < m.blks.length := by rw [hlen]; omega
    have ho : m.blks[j + 1]? = some m.blks[j + 1] := List.getElem?_eq_getElem hjl
    have hi2 := upTo_old (F := F) ho
    have hl2 : j + 1 < (m.upTo F j).blks.length := by rw [LEN]; omega
    obtain ⟨c0, c1, c2⟩ := hobj (j + 1) hl2
    have eo : (m.upTo F j).blks[j + 1] = m.blks[j + 1] := (List.getElem?_eq_some_iff.1 hi2).2
    rw [eo] at c0 c1 c2
    rw [hc (j + 1) _ ho (by omega)] at c1
    have hPe : P (j + 1) = decide (7 < c (j + 1)) := by rw [hP]
    refine ⟨_, c0, c1, hfz _, fun hn => ?_, fun h1 h2 => ?_⟩
    · rw [hI]
      show HTurn _ _ _ _ _
      rw [← upTo_skip ho (Fno j _ (fun x => hn ⟨by simpa [hPe] using x.1, x.2⟩))]
      exact hi
    · rw [hI]
      show HTurn _ _ _ _ _
      have t1 := r.flagged (LEN j) hv' (j + 1) hi2 { m.blks[j + 1] with state := 2 } 0 (by decide) (.int .i64 2) rfl rfl
      rw [Nat.add_zero] at t1
      have t2 : HTurn h W (m.upTo F j) (W.setCell ⟨g', (j + 1) * 3, none⟩ (.int .i64 2)) ((m.upTo F j).put (j + 1) { m.blks[j + 1] with state := 2 }) := t1
      rw [← Fyes j m.blks[j + 1] (by simpa [hPe] using h1) h2, upTo_step ho] at t2
      exact hi.trans t2
  have cO : w.cell? ⟨h, 3, none⟩ = some (.int .i64 ov) := by rw [r0.cell.2.2.2.2.2.2.1, hov]
  have CT : Hid (∀ j, countTo P (j + 1) = countTo P j + if 7 < c (j + 1) then 1 else 0) := fun j => by
    rw [countTo_succ]
    have hPe : P (j + 1) = decide (7 < c (j + 1)) := by rw [hP]
    rw [hPe]; simp
  obtain ⟨Done, hD⟩ : ∃ Done : World → Prop, Done = fun W => HTurn h w m W (m.upTo F N) := ⟨_, rfl⟩
  have FIN : Hid (∀ W, I N W → Done W) := fun W hi => by rw [hI] at hi; rw [hD]; exact hi
  suffices hs : Calls Tryd.prog 25 #[.pointer (some ⟨h, 0, none⟩)] w fun e w' => e = .returned (.tuple #[]) ∧ Done w' by rw [hD] at hs; exact hs
  clear hD hI LEN hv0 r0 hc hP Fyes Fno hF hov ho9
  go_enter Tryd.func25, Tryd.ntmps25
  go_wp2
  go_loopw [2, 3] (fun l i wr => ∃ j k : Nat, j ≤ N ∧ i = .int .i64 (j + 1) ∧ l = .int .i64 k ∧ k = ov - countTo P j ∧ I j wr) (fun _ i _ => N + 1 - (intOf i).toNat)
  case atStart => exact ⟨0, ov, Nat.zero_le _, rfl, rfl, by simp [countTo], START.out⟩
  case round =>
    obtain ⟨j, k, hj, rfl, rfl, hk, hi⟩ := hrel
    obtain ⟨cB, hgo⟩ := CI.out j wr hi
    have hk9 : k ≤ 9 := by omega
    by_cases hlt : j < N
    · obtain ⟨st, c0, c1, f0, hno, hyes⟩ := hgo hlt
      have hjI : (j : Int) + 1 < (N : Int) + 1 := by omega
      have S := CT.out j
      obtain ⟨cj, hcj⟩ : ∃ cj, c (j + 1) = cj := ⟨_, rfl⟩
      rw [hcj] at c1 hno hyes S
      clear hgo hi
      by_cases h7 : 7 < cj
      · rw [if_pos h7] at S
        have h7I : ¬ (cj : Int) ≤ 7 := by omega
        by_cases h0 : k = 0
        · have NX : Hid _ := hyes h7 (by omega)
          have K : Hid (0 = ov - countTo P (j + 1)) := by show 0 = _; omega
          subst h0
          clear hno hyes S hk hcj
          go_wp2
          go_roundw
          case rel => exact ⟨j + 1, 0, by omega, by go_num, rfl, K.out, NX.out⟩
          case measure => simp [intOf]; omega
        · have NX : Hid _ := hno (by omega)
          have K : Hid (k - 1 = ov - countTo P (j + 1)) := by show k - 1 = _; omega
          have h0I : ((k : Int) == 0) = false := by simpa using h0
          have h0J : ¬ (k : Int) = 0 := by omega
          clear hno hyes S hk hcj
          go_wp2
          go_roundw
          case rel => exact ⟨j + 1, k - 1, by omega, by go_num, by rw [show ((k - 1 : Nat) : Int) = (k : Int) - 1 by omega], K.out, NX.out⟩
          case measure => simp [intOf]; omega
      · rw [if_neg h7] at S
        have h7I : (cj : Int) ≤ 7 := by omega
        have NX : Hid _ := hno (by omega)
        have K : Hid (k = ov - countTo P (j + 1)) := by show k = _; omega
        clear hno hyes S hk hcj
        go_wp2
        go_roundw
        case rel => exact ⟨j + 1, k, by omega, by go_num, rfl, K.out, NX.out⟩
        case measure => simp [intOf]; omega
    · obtain rfl : j = N := by omega
      have M : Hid _ := FIN.out wr hi
      clear hgo hi hk
      go_wp2
      go_end0
      exact ⟨rfl, M.out⟩

end Go.Proofs.YtpmkjeihbddfpabDoor

/- OUR OWN. What is asked of the program: one contract a call. -/
namespace Go.Proofs.YtpmkjeihbddfpabDoor
open Go.RowKit
set_option linter.unusedVariables false
set_option linter.unusedSimpArgs false

/-- 'HS hm s c N': the program's heap hm is the state s of a heap of the configuration c, with N blocks. Room: what an OpNew may be asked of. -/
def DoPact (HS : HeapM → St → Cf → Nat → Prop) (Room : St → Prop) : Prop := ∀ (x N : Nat) (w : World) (hm : HeapM) (s : St) (c : Cf) (op n : Int), HeapAt w x hm → HS hm s c N → s.Good N → CfOk c → N ≤ 99 → s.stack.length ≤ 16 → s.globals.length ≤ 8 → fits op → fits n → (op = 2 → Room s) →
  Calls Tryd.prog 10 #[.pointer (some ⟨x, 0, none⟩), .int .i64 op, .int .i64 n] w fun e w' => e = .returned (.tuple #[.int .i64 (doS c s op n).2.1, .int .i64 (doS c s op n).2.2]) ∧ ∃ hm', HTurn x w hm w' hm' ∧ HS hm' (doS c s op n).1 c N
def GaugePact (HS : HeapM → St → Cf → Nat → Prop) : Prop := ∀ (x N : Nat) (w : World) (hm : HeapM) (s : St) (c : Cf), HeapAt w x hm → HS hm s c N → s.Good N → CfOk c → N ≤ 99 → s.stack.length ≤ 16 → s.globals.length ≤ 8 →
  Calls Tryd.prog 15 #[.pointer (some ⟨x, 0, none⟩)] w fun e w' => e = .returned (.agg #[.int .i64 (gaugeS s).1, .int .i64 (gaugeS s).2.1, .int .i64 (gaugeS s).2.2.1, .int .i64 (gaugeS s).2.2.2.1, .int .i64 (gaugeS s).2.2.2.2]) ∧ ∃ hm', HTurn x w hm w' hm' ∧ HS hm' s c N
def SafePact (HS : HeapM → St → Cf → Nat → Prop) : Prop := ∀ (x N : Nat) (w : World) (hm : HeapM) (s : St) (c : Cf), HeapAt w x hm → HS hm s c N → s.Good N → CfOk c → N ≤ 99 → s.stack.length ≤ 16 → s.globals.length ≤ 8 →
  Calls Tryd.prog 14 #[.pointer (some ⟨x, 0, none⟩)] w fun e w' => e = .returned (.int .i64 (s.safe c).2) ∧ ∃ hm', HTurn x w hm w' hm' ∧ HS hm' (s.safe c).1 c N
def CollPact (HS : HeapM → St → Cf → Nat → Prop) : Prop := ∀ (x N : Nat) (w : World) (hm : HeapM) (s : St) (c : Cf), HeapAt w x hm → HS hm s c N → s.Good N → CfOk c → N ≤ 99 → s.stack.length ≤ 16 → s.globals.length ≤ 8 →
  Calls Tryd.prog 9 #[.pointer (some ⟨x, 0, none⟩)] w fun e w' => e = .returned (.int .i64 s.gone) ∧ ∃ hm', HTurn x w hm w' hm' ∧ HS hm' (s.collect c.over) c N
theorem St.Good.fits {s : St} {N : Nat} (g : s.Good N) (hN : N ≤ 99) : Fits s := by
  have hv : ∀ v, s.leads v → fitsV v := by
    rintro v (e | e | ⟨_, i, e, ha⟩)
    · rw [e]; exact ⟨by decide, by decide⟩
    · exact e.2
    · have := g.ne_zero ha.1; exact ⟨by omega, by omega⟩
  refine ⟨fun v h => hv v (g.stack v h), fun v h => hv v (g.globals v h), fun o ho v h => hv v ?_, fun b hb => ?_⟩
  · obtain ⟨i, hi, rfl⟩ := List.getElem_of_mem ho
    exact g.fields i v (by rw [ob_of (List.getElem?_eq_getElem hi)]; exact h)
  · have h0 := g.nat b hb
    have hq := (g.inq b.toNat).1 (by rw [Int.toNat_of_nonneg h0]; exact hb)
    have hh : (s.ob b.toNat).here = true := by
      cases e : (s.ob b.toNat).here with
      | true => rfl
      | false => rw [g.gone _ e] at hq; cases hq
    have := g.ne_zero hh
    exact ⟨by omega, by omega⟩
def room2 (s : St) : Prop := ∃ k, free? s = some k
def room3 (s : St) : Prop := room2 s ∨ s.queue.length ≠ 0

end Go.Proofs.YtpmkjeihbddfpabDoor

