/- OUR OWN. The document's heap: loaded. -/
import Derived.Test.YtblekkjamemloaaRefJ
namespace Go.Proofs.Ytblekkjamemloaa
open Go.RowKit
set_option linter.unusedVariables false
set_option linter.unusedSimpArgs false

/-- the fields' row of the object in block i -/
theorem RefAt.fieldView {w : World} {h : Nat} {m : RefM} (r : RefAt w h m) (i : Nat) (hi : i < m.objs.length) (hs : 0 < (m.objs[i]).fs.length) :
    ∃ g cap, (m.objs[i]).vF = .slice (some ⟨g, 0, none⟩) (m.objs[i]).fs.length cap ∧ g < w.heap.size ∧ g ≠ h ∧ (m.objs[i]).vF.ownBlock = some g ∧ (∀ j, w.frozen? ⟨g, j, none⟩ = false) ∧
      ∀ j (hj : j < (m.objs[i]).fs.length), w.cell? ⟨g, j * 2, none⟩ = some (.int .i64 ((m.objs[i]).fs[j]).1) ∧ w.cell? ⟨g, j * 2 + 1, none⟩ = some (.int .i64 ((m.objs[i]).fs[j]).2) := by
  obtain ⟨g, cap, hv, hg, hb, hc, hcell, hf⟩ := own_view (r.fields _ (List.getElem_mem hi)) hs
  refine ⟨g, cap, hv, hg, fun e => r.ne (x := (m.objs[i]).row) (by simp only [RefM.rows, List.mem_cons, List.mem_map]; exact .inr (.inr (.inr (.inr ⟨_, List.getElem_mem hi, rfl⟩)))) (by rw [← e]; exact hb), hb, hf, fun j hj => ⟨?_, ?_⟩⟩
  · exact hcell _ _ (by have := flat_get valCells 2 (fun _ => rfl) (m.objs[i]).fs j 0 (by decide); simpa [hj, valCells] using this)
  · exact hcell _ _ (by have := flat_get valCells 2 (fun _ => rfl) (m.objs[i]).fs j 1 (by decide); simpa [hj, valCells] using this)

def LoadSays : Prop := ∀ (h N : Nat) (w : World) (m : RefM) (n : Int), RPre h N w m →
  Calls Try.prog 65 #[.pointer (some ⟨h, 0, none⟩), .int .i64 n] w (RDid h N w m (loadS m.deep m.st n))

set_option maxHeartbeats 1600000 in
theorem loaded_any : LoadSays := by
  intro h N w m n p
  obtain ⟨ao, cap, cS⟩ := p.stackCell
  by_cases hc : m.stack.length < 1
  · have e : loadS m.deep m.st n = (m.st, 0, 3) := by unfold loadS; exact if_pos hc
    rw [e]
    have K : Hid (∃ m', RStep h N w m w m' ∧ m'.st = m.st) := ⟨m, .refl p, rfl⟩
    obtain ⟨len, hlen⟩ : ∃ len, m.stack.length = len := ⟨_, rfl⟩
    rw [hlen] at hc cS
    clear p hlen e
    obtain rfl : len = 0 := by omega
    go_enter Try.func65, Try.ntmps65
    go_wp2
    go_ret
    exact ⟨rfl, K.out⟩
  have D : Hid _ := down_do p 0 (by omega)
  have K : Hid (∀ W, Below w.heap.size w W → ∃ m', RStep h N w m W m' ∧ m'.st = m.st) := fun W hb => ⟨m, .of_below p hb, rfl⟩
  have hv := p.inv.down 0
  have hcI0 : ¬ (m.stack.length : Int) < 1 := by omega
  by_cases he : objErr (m.st.down 0) ≠ 0
  · have e : loadS m.deep m.st n = (m.st, 0, objErr (m.st.down 0)) := by unfold loadS; exact (if_neg hc).trans (if_pos he)
    rw [e]
    obtain ⟨len, hlen⟩ : ∃ len, m.stack.length = len := ⟨_, rfl⟩
    rw [hlen] at hc cS hcI0
    obtain ⟨x, hx⟩ : ∃ x, m.st.down 0 = x := ⟨_, rfl⟩
    rw [hx] at D he ⊢
    obtain ⟨x1, x2⟩ := x
    have O : Hid (∀ W, Calls Try.prog 79 #[.agg #[.int .i64 x1, .int .i64 x2]] W fun e w' => e = .returned (.int .i64 (objErr (x1, x2))) ∧ Below W.heap.size W w') := object_any (x1, x2)
    obtain ⟨er, her⟩ : ∃ er, objErr (x1, x2) = er := ⟨_, rfl⟩
    rw [her] at he O ⊢
    have he2 : (er == 0) = false := by simpa using he
    clear p hlen e hx hv her
    go_enter Try.func65, Try.ntmps65
    go_wp2_with fail
    refine Calls.mono D.out ?_
    rintro e w1 ⟨rfl, hb⟩
    have B : Hid (Below w.heap.size w w1) := hb
    clear hb D
    go_wp2_with fail
    refine Calls.mono (O.out _) ?_
    rintro e w2 ⟨rfl, hb⟩
    have B2 : Hid (Below w.heap.size w w2) := (B.out.alloc B.out.size _).trans (hb.mono (by simp; have := B.out.size; omega))
    clear hb O
    go_wp2
    go_ret
    exact ⟨rfl, K.out _ B2.out⟩
  have he : objErr (m.st.down 0) = 0 := by omega
  obtain ⟨i, hi, hbi, hiN, hfs⟩ := p.obj _ (ref_of hv he)
  obtain ⟨g, capB, hvB, hg, _, _, _, hobj⟩ := p.r.view p.ok
  have cB : w.cell? ⟨h, 5, none⟩ = some (.slice (some ⟨g, 0, none⟩) (N + 1) capB) := by rw [p.r.cell.2.2.2.2.2.1, hvB]
  have c1 := (hobj i hi).2.1
  have hh := lt_of_heap p.r.head
  have hN := p.ok.small
  have hiI : (i : Int) < (N : Int) + 1 := by omega
  by_cases hr : n < 0 ∨ ((m.objs[i]).fs.length : Int) ≤ n
  · have e : loadS m.deep m.st n = (m.st, 0, 6) := by unfold loadS; exact (if_neg hc).trans ((if_neg (by omega)).trans (if_pos (by rw [hfs]; exact hr)))
    rw [e]
    obtain ⟨fo, fc, hvF⟩ := own_slice (p.r.fields _ (List.getElem_mem hi))
    rw [hvF] at c1
    obtain ⟨fl, hfl⟩ : ∃ fl, (m.objs[i]).fs.length = fl := ⟨_, rfl⟩
    rw [hfl] at c1 hr
    obtain ⟨len, hlen⟩ : ∃ len, m.stack.length = len := ⟨_, rfl⟩
    rw [hlen] at hc cS hcI0
    obtain ⟨x, hx⟩ : ∃ x, m.st.down 0 = x := ⟨_, rfl⟩
    rw [hx] at D he hbi
    obtain ⟨x1, x2⟩ := x
    simp only at hbi
    subst hbi
    have O : Hid (∀ W, Calls Try.prog 79 #[.agg #[.int .i64 x1, .int .i64 i]] W fun e w' => e = .returned (.int .i64 0) ∧ Below W.heap.size W w') := fun W => (object_any (x1, (i : Int)) W).mono fun e w' ⟨h1, h2⟩ => ⟨h1.trans (ret_int he), h2⟩
    have OLD : Hid (∀ W, Below w.heap.size w W → W.cell? ⟨h, 5, none⟩ = some (.slice (some ⟨g, 0, none⟩) (N + 1) capB) ∧ W.cell? ⟨g, i * 4 + 1, none⟩ = some (.slice fo fl fc)) := fun W hb =>
      ⟨(hb.cell (p := ⟨h, 5, none⟩) hh).trans cB, (hb.cell (p := ⟨g, i * 4 + 1, none⟩) hg).trans c1⟩
    clear p hlen e hx hv he hfs hobj hvB hvF hfl cB c1
    rcases hr with hr | hr
    · have hd : decide (n < 0) = true := by simpa using hr
      go_enter Try.func65, Try.ntmps65
      go_wp2_with fail
      refine Calls.mono D.out ?_
      rintro e w1 ⟨rfl, hb⟩
      have B : Hid (Below w.heap.size w w1) := hb
      clear hb D
      go_wp2_with fail
      refine Calls.mono (O.out _) ?_
      rintro e w2 ⟨rfl, hb⟩
      have B2 : Hid (Below w.heap.size w w2) := (B.out.alloc B.out.size _).trans (hb.mono (by simp; have := B.out.size; omega))
      have l1 : w2.cell? ⟨w1.heap.size, 1, none⟩ = some (.int .i64 i) := cell_of_heap (boxed' hb) rfl
      obtain ⟨d0, d1⟩ := OLD.out w2 B2.out
      clear hb O
      go_wp2_with fail
      go_quiet (fail)
      go_wp2
      go_ret
      exact ⟨rfl, K.out _ (below_drewN B2.out _)⟩
    · have hn0 : ¬ n < 0 := by omega
      have hd : decide (n < 0) = false := by simpa using hn0
      go_enter Try.func65, Try.ntmps65
      go_wp2_with fail
      refine Calls.mono D.out ?_
      rintro e w1 ⟨rfl, hb⟩
      have B : Hid (Below w.heap.size w w1) := hb
      clear hb D
      go_wp2_with fail
      refine Calls.mono (O.out _) ?_
      rintro e w2 ⟨rfl, hb⟩
      have B2 : Hid (Below w.heap.size w w2) := (B.out.alloc B.out.size _).trans (hb.mono (by simp; have := B.out.size; omega))
      have l1 : w2.cell? ⟨w1.heap.size, 1, none⟩ = some (.int .i64 i) := cell_of_heap (boxed' hb) rfl
      obtain ⟨d0, d1⟩ := OLD.out w2 B2.out
      clear hb O
      go_wp2_with fail
      go_quiet (fail)
      go_wp2
      go_ret
      exact ⟨rfl, K.out _ (below_drewN B2.out _)⟩
  obtain ⟨k, rfl⟩ : ∃ k : Nat, n = k := ⟨n.toNat, by omega⟩
  have hk : k < (m.objs[i]).fs.length := by omega
  have e : loadS m.deep m.st k = pushA m.deep (m.st.pop 1) ((m.objs[i]).fs[k]) := by
    unfold loadS
    refine (if_neg hc).trans ((if_neg (by omega)).trans ((if_neg (by rw [hfs]; exact hr)).trans ?_))
    rw [hfs, Int.toNat_natCast, List.getD_eq_getElem?_getD, List.getElem?_eq_getElem hk]
    rfl
  rw [e]
  obtain ⟨fg, fc, hvF, hfg, hfgh, hfob, _, hfc⟩ := p.r.fieldView i hi (by omega)
  rw [hvF] at c1
  obtain ⟨v0, v1⟩ := hfc k hk
  obtain ⟨fl, hfl⟩ : ∃ fl, (m.objs[i]).fs.length = fl := ⟨_, rfl⟩
  rw [hfl] at c1
  have hkl : k < fl := by omega
  -- what stays behind the pop: the blocks' row, the fields' row
  have AFTER : Hid (∀ W, Below w.heap.size w W → Calls Try.prog 80 #[.pointer (some ⟨h, 0, none⟩), .int .i64 1] W fun e w' => e = .returned (.tuple #[]) ∧
      (w'.cell? ⟨h, 5, none⟩ = some (.slice (some ⟨g, 0, none⟩) (N + 1) capB) ∧ w'.cell? ⟨g, i * 4 + 1, none⟩ = some (.slice (some ⟨fg, 0, none⟩) fl fc) ∧ w'.cell? ⟨fg, k * 2, none⟩ = some (.int .i64 ((m.objs[i]).fs[k]).1) ∧ w'.cell? ⟨fg, k * 2 + 1, none⟩ = some (.int .i64 ((m.objs[i]).fs[k]).2)) ∧
      (∀ W2, Below w'.heap.size w' W2 → Calls Try.prog 77 #[.pointer (some ⟨h, 0, none⟩), .agg #[.int .i64 ((m.objs[i]).fs[k]).1, .int .i64 ((m.objs[i]).fs[k]).2]] W2 (fun e w'' => RDid h N w m (pushA m.deep (m.st.pop 1) ((m.objs[i]).fs[k])) e w'')) ∧
      ∀ L ob, w.heap.size ≤ L → W.heap[L]? = some ob → w'.heap[L]? = some ob) := by
    intro W hb
    refine (pop_do (p.below hb) 1 (by omega) (by omega)).mono ?_
    rintro e w' ⟨he, v', hs⟩
    have s1 : RStep h N w m w' _ := (RStep.of_below p hb).trans hs
    have p1 : RPre h N w' _ := s1.pre p (by exact (p.inv.pop 1))
    have hob1 := p1.r.view p1.ok
    obtain ⟨g2, cap2, hvB2, _, _, _, _, hobj2⟩ := hob1
    have heq : (Value.slice (some ⟨g2, 0, none⟩) (N + 1) cap2) = .slice (some ⟨g, 0, none⟩) (N + 1) capB := hvB2.symm.trans hvB
    simp at heq
    obtain ⟨rfl, rfl⟩ := heq
    obtain ⟨fg2, fc2, hvF2, _, _, _, _, hfc2⟩ := p1.r.fieldView i hi (by show 0 < (m.objs[i]).fs.length; omega)
    have heq2 : (Value.slice (some ⟨fg2, 0, none⟩) (m.objs[i]).fs.length fc2) = .slice (some ⟨fg, 0, none⟩) (m.objs[i]).fs.length fc := hvF2.symm.trans hvF
    simp at heq2
    obtain ⟨rfl, rfl⟩ := heq2
    refine ⟨he, ⟨by rw [p1.r.cell.2.2.2.2.2.1]; exact congrArg some hvB, ?_, (hfc2 k hk).1, (hfc2 k hk).2⟩, fun W2 hb2 => ?_, fun L ob hL hW => turn_local p hb hW hL hs.turn⟩
    · rw [(hobj2 i hi).2.1, ← hfl]; exact congrArg some hvF
    · exact (push_do (p1.below hb2) _).mono fun e w'' ⟨he, m', hs', hm⟩ => ⟨he, m', s1.trans ((RStep.of_below p1 hb2).trans hs'), hm⟩
  obtain ⟨len, hlen⟩ : ∃ len, m.stack.length = len := ⟨_, rfl⟩
  rw [hlen] at hc cS hcI0
  obtain ⟨x, hx⟩ : ∃ x, m.st.down 0 = x := ⟨_, rfl⟩
  rw [hx] at D he hbi
  obtain ⟨x1, x2⟩ := x
  simp only at hbi
  subst hbi
  have O : Hid (∀ W, Calls Try.prog 79 #[.agg #[.int .i64 x1, .int .i64 i]] W fun e w' => e = .returned (.int .i64 0) ∧ Below W.heap.size W w') := fun W => (object_any (x1, (i : Int)) W).mono fun e w' ⟨h1, h2⟩ => ⟨h1.trans (ret_int he), h2⟩
  have OLD : Hid (∀ W, Below w.heap.size w W → W.cell? ⟨h, 5, none⟩ = some (.slice (some ⟨g, 0, none⟩) (N + 1) capB) ∧ W.cell? ⟨g, i * 4 + 1, none⟩ = some (.slice (some ⟨fg, 0, none⟩) fl fc)) := fun W hb =>
    ⟨(hb.cell (p := ⟨h, 5, none⟩) hh).trans cB, (hb.cell (p := ⟨g, i * 4 + 1, none⟩) hg).trans c1⟩
  obtain ⟨y, hy⟩ : ∃ y, (m.objs[i]).fs[k] = y := ⟨_, rfl⟩
  rw [hy] at AFTER ⊢
  obtain ⟨y1, y2⟩ := y
  have hn0 : ¬ (k : Int) < 0 := by omega
  have hd : decide ((k : Int) < 0) = false := by simp
  have hkI : (k : Int) < fl := by omega
  have hfl4 : fl ≤ 4 := by rw [← hfl]; exact p.ok.fields _ (List.getElem_mem hi)
  clear p hlen e hx hv he hfs hobj hvB hvF hfl cB c1 hr hk v0 v1 hfc hy K
  go_enter Try.func65, Try.ntmps65
  go_wp2_with fail
  refine Calls.mono D.out ?_
  rintro e w1 ⟨rfl, hb⟩
  have B : Hid (Below w.heap.size w w1) := hb
  clear hb D
  go_wp2_with fail
  refine Calls.mono (O.out _) ?_
  rintro e w2 ⟨rfl, hb⟩
  have B2 : Hid (Below w.heap.size w w2) := (B.out.alloc B.out.size _).trans (hb.mono (by simp; have := B.out.size; omega))
  have l1 : w2.cell? ⟨w1.heap.size, 1, none⟩ = some (.int .i64 i) := cell_of_heap (boxed' hb) rfl
  have L1 : Hid (w2.heap[w1.heap.size]? = some (.cells #[.int .i64 x1, .int .i64 i] 96)) := boxed' hb
  obtain ⟨d0, d1⟩ := OLD.out w2 B2.out
  clear hb O
  go_wp2_with fail
  go_quiet (fail)
  go_wp2_with fail
  refine Calls.mono (AFTER.out _ (below_drewN B2.out _)) ?_
  rintro e w3 ⟨rfl, ⟨a0, a1, a2, a3⟩, hpush, hloc⟩
  have l3 : w3.cell? ⟨w1.heap.size, 1, none⟩ = some (.int .i64 i) := cell_of_heap (hloc _ _ B.out.size L1.out) rfl
  have PU : Hid _ := hpush
  clear hpush hloc AFTER OLD d0 d1 l1 L1 B B2
  go_wp2_with fail
  go_region_with (go_at_call 77; refine Calls.mono (PU.out _ (Below.refl _ _).drew) ?_; rintro e w4 ⟨rfl, hm⟩; have M : Hid _ := hm; clear hm)
  all_goals go_wp2
  all_goals go_ret
  all_goals exact ⟨rfl, M.out⟩

end Go.Proofs.Ytblekkjamemloaa
