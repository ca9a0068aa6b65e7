/- OUR OWN. The document's heap: stored, where nothing is stored. -/
import Derived.Test.YtblekkjamemloaaRefM
namespace Go.Proofs.Ytblekkjamemloaa
open Go.RowKit
set_option linter.unusedVariables false
set_option linter.unusedSimpArgs false

set_option maxHeartbeats 1600000 in
theorem stored_not (h N : Nat) (w : World) (m : RefM) (n : Int) (p : RPre h N w m)
    (hbad : m.stack.length < 2 ∨ objErr (m.st.down 1) ≠ 0 ∨ n < 0 ∨ ((m.st.fields (m.st.down 1).2).length : Int) ≤ n) :
    Calls Try.prog 66 #[.pointer (some ⟨h, 0, none⟩), .int .i64 n] w (RDid h N w m (storeS m.st n)) := by
  obtain ⟨ao, cap, cS⟩ := p.stackCell
  by_cases hc : m.stack.length < 2
  · have e : storeS m.st n = (m.st, 0, 3) := by unfold storeS; exact if_pos hc
    rw [e]
    have K : Hid (∃ m', RStep h N w m w m' ∧ m'.st = m.st) := ⟨m, .refl p, rfl⟩
    obtain ⟨len, hlen⟩ : ∃ len, m.stack.length = len := ⟨_, rfl⟩
    rw [hlen] at hc cS
    clear p hlen e hbad
    have hcI : (len : Int) < 2 := by omega
    go_enter Try.func66, Try.ntmps66
    go_wp2
    go_ret
    exact ⟨rfl, K.out⟩
  have D0 : Hid _ := down_do p 0 (by omega)
  have D1 : Hid (∀ W, Below w.heap.size w W → Calls Try.prog 78 #[.pointer (some ⟨h, 0, none⟩), .int .i64 1] W fun e w' => e = .returned (.agg #[.int .i64 (m.st.down 1).1, .int .i64 (m.st.down 1).2]) ∧ Below W.heap.size W w') := fun W hb => down_do (p.below hb) 1 (by show 1 < m.stack.length; omega)
  have K : Hid (∀ W, Below w.heap.size w W → ∃ m', RStep h N w m W m' ∧ m'.st = m.st) := fun W hb => ⟨m, .of_below p hb, rfl⟩
  have hv := p.inv.down 1
  have hcI0 : ¬ (m.stack.length : Int) < 2 := by omega
  obtain ⟨x, hx⟩ : ∃ x, m.st.down 0 = x := ⟨_, rfl⟩
  rw [hx] at D0
  obtain ⟨x1, x2⟩ := x
  by_cases he : objErr (m.st.down 1) ≠ 0
  · have e : storeS m.st n = (m.st, 0, objErr (m.st.down 1)) := by unfold storeS; exact (if_neg hc).trans (if_pos he)
    rw [e]
    obtain ⟨len, hlen⟩ : ∃ len, m.stack.length = len := ⟨_, rfl⟩
    rw [hlen] at hc cS hcI0
    obtain ⟨q, hq⟩ : ∃ q, m.st.down 1 = q := ⟨_, rfl⟩
    rw [hq] at D1 he ⊢
    obtain ⟨q1, q2⟩ := q
    have O : Hid (∀ W, Calls Try.prog 79 #[.agg #[.int .i64 q1, .int .i64 q2]] W fun e w' => e = .returned (.int .i64 (objErr (q1, q2))) ∧ Below W.heap.size W w') := object_any (q1, q2)
    obtain ⟨er, her⟩ : ∃ er, objErr (q1, q2) = er := ⟨_, rfl⟩
    rw [her] at he O ⊢
    have he2 : (er == 0) = false := by simpa using he
    clear p hlen e hx hv her hbad hq
    go_enter Try.func66, Try.ntmps66
    go_wp2_with fail
    refine Calls.mono D0.out ?_
    rintro e w1 ⟨rfl, hb⟩
    have B : Hid (Below w.heap.size w w1) := hb
    clear hb D0
    go_wp2_with fail
    refine Calls.mono (D1.out _ (B.out.alloc B.out.size _)) ?_
    rintro e w2 ⟨rfl, hb⟩
    have B2 : Hid (Below w.heap.size w w2) := (B.out.alloc B.out.size _).trans (hb.mono (by simp; have := B.out.size; omega))
    clear hb D1
    go_wp2_with fail
    refine Calls.mono (O.out _) ?_
    rintro e w3 ⟨rfl, hb⟩
    have B3 : Hid (Below w.heap.size w w3) := (B2.out.alloc B2.out.size _).trans (hb.mono (by simp; have := B2.out.size; omega))
    clear hb O
    go_wp2
    go_ret
    exact ⟨rfl, K.out _ B3.out⟩
  have he : objErr (m.st.down 1) = 0 := by omega
  obtain ⟨i, hi, hbi, hiN, hfs⟩ := p.obj _ (ref_of hv he)
  obtain ⟨g, capB, hvB, hg, _, _, _, hobj⟩ := p.r.view p.ok
  have cB : w.cell? ⟨h, 5, none⟩ = some (.slice (some ⟨g, 0, none⟩) (N + 1) capB) := by rw [p.r.cell.2.2.2.2.2.1, hvB]
  have c1 := (hobj i hi).2.1
  have hh := lt_of_heap p.r.head
  have hN := p.ok.small
  have hiI : (i : Int) < (N : Int) + 1 := by omega
  have hr : n < 0 ∨ ((m.objs[i]).fs.length : Int) ≤ n := by
    rcases hbad with hb | hb | hb | hb
    · exact absurd hb hc
    · exact absurd he hb
    · exact .inl hb
    · rw [hfs] at hb; exact .inr hb
  have e : storeS m.st n = (m.st, 0, 6) := by unfold storeS; exact (if_neg hc).trans ((if_neg (by omega)).trans (if_pos (by rw [hfs]; exact hr)))
  rw [e]
  obtain ⟨fo, fc, hvF⟩ := own_slice (p.r.fields _ (List.getElem_mem hi))
  rw [hvF] at c1
  obtain ⟨fl, hfl⟩ : ∃ fl, (m.objs[i]).fs.length = fl := ⟨_, rfl⟩
  rw [hfl] at c1 hr
  obtain ⟨len, hlen⟩ : ∃ len, m.stack.length = len := ⟨_, rfl⟩
  rw [hlen] at hc cS hcI0
  obtain ⟨q, hq⟩ : ∃ q, m.st.down 1 = q := ⟨_, rfl⟩
  rw [hq] at D1 he hbi
  obtain ⟨q1, q2⟩ := q
  simp only at hbi
  subst hbi
  have O : Hid (∀ W, Calls Try.prog 79 #[.agg #[.int .i64 q1, .int .i64 i]] W fun e w' => e = .returned (.int .i64 0) ∧ Below W.heap.size W w') := fun W => (object_any (q1, (i : Int)) W).mono fun e w' ⟨h1, h2⟩ => ⟨h1.trans (ret_int he), h2⟩
  have OLD : Hid (∀ W, Below w.heap.size w W → W.cell? ⟨h, 5, none⟩ = some (.slice (some ⟨g, 0, none⟩) (N + 1) capB) ∧ W.cell? ⟨g, i * 4 + 1, none⟩ = some (.slice fo fl fc)) := fun W hb =>
    ⟨(hb.cell (p := ⟨h, 5, none⟩) hh).trans cB, (hb.cell (p := ⟨g, i * 4 + 1, none⟩) hg).trans c1⟩
  clear p hlen e hx hv he hfs hobj hvB hvF hfl cB c1 hq hbad
  rcases hr with hr | hr
  · have hd : decide (n < 0) = true := by simpa using hr
    go_enter Try.func66, Try.ntmps66
    go_wp2_with fail
    refine Calls.mono D0.out ?_
    rintro e w1 ⟨rfl, hb⟩
    have B : Hid (Below w.heap.size w w1) := hb
    clear hb D0
    go_wp2_with fail
    refine Calls.mono (D1.out _ (B.out.alloc B.out.size _)) ?_
    rintro e w2 ⟨rfl, hb⟩
    have B2 : Hid (Below w.heap.size w w2) := (B.out.alloc B.out.size _).trans (hb.mono (by simp; have := B.out.size; omega))
    clear hb D1
    go_wp2_with fail
    refine Calls.mono (O.out _) ?_
    rintro e w3 ⟨rfl, hb⟩
    have B3 : Hid (Below w.heap.size w w3) := (B2.out.alloc B2.out.size _).trans (hb.mono (by simp; have := B2.out.size; omega))
    have l1 : w3.cell? ⟨w2.heap.size, 1, none⟩ = some (.int .i64 i) := cell_of_heap (boxed' hb) rfl
    obtain ⟨d0, d1⟩ := OLD.out w3 B3.out
    clear hb O
    go_wp2_with fail
    go_quiet (fail)
    go_wp2
    go_ret
    exact ⟨rfl, K.out _ (below_drewN B3.out _)⟩
  · have hn0 : ¬ n < 0 := by omega
    have hd : decide (n < 0) = false := by simpa using hn0
    go_enter Try.func66, Try.ntmps66
    go_wp2_with fail
    refine Calls.mono D0.out ?_
    rintro e w1 ⟨rfl, hb⟩
    have B : Hid (Below w.heap.size w w1) := hb
    clear hb D0
    go_wp2_with fail
    refine Calls.mono (D1.out _ (B.out.alloc B.out.size _)) ?_
    rintro e w2 ⟨rfl, hb⟩
    have B2 : Hid (Below w.heap.size w w2) := (B.out.alloc B.out.size _).trans (hb.mono (by simp; have := B.out.size; omega))
    clear hb D1
    go_wp2_with fail
    refine Calls.mono (O.out _) ?_
    rintro e w3 ⟨rfl, hb⟩
    have B3 : Hid (Below w.heap.size w w3) := (B2.out.alloc B2.out.size _).trans (hb.mono (by simp; have := B2.out.size; omega))
    have l1 : w3.cell? ⟨w2.heap.size, 1, none⟩ = some (.int .i64 i) := cell_of_heap (boxed' hb) rfl
    obtain ⟨d0, d1⟩ := OLD.out w3 B3.out
    clear hb O
    go_wp2_with fail
    go_quiet (fail)
    go_wp2
    go_ret
    exact ⟨rfl, K.out _ (below_drewN B3.out _)⟩

end Go.Proofs.Ytblekkjamemloaa
