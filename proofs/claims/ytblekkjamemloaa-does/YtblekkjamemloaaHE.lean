/- OUR OWN. The program's heap: load, store. -/
import Derived.Test.YtblekkjamemloaaHD
namespace Go.Proofs.Ytblekkjamemloaa
open Go.RowKit
set_option linter.unusedVariables false
set_option linter.unusedSimpArgs false

theorem loadS_err {d : Int} {s : St} {n : Int} (hc : ¬ s.stack.length < 1) (he : fieldErr s (s.down 0) n ≠ 0) : loadS d s n = (s, 0, fieldErr s (s.down 0) n) := by
  unfold loadS
  rw [if_neg hc]
  unfold fieldErr at he ⊢
  by_cases h1 : objErr (s.down 0) ≠ 0
  · rw [if_pos h1, if_pos h1]
  · rw [if_neg h1] at he
    rw [if_neg h1, if_neg h1]
    by_cases h2 : n < 0 ∨ ((s.fields (s.down 0).2).length : Int) ≤ n
    · rw [if_pos h2, if_pos h2]
    · rw [if_neg h2] at he; exact absurd rfl he
theorem field_ok {s : St} {v : Int × Int} {n : Int} (he : fieldErr s v n = 0) : objErr v = 0 ∧ ¬ n < 0 ∧ ¬ ((s.fields v.2).length : Int) ≤ n := by
  unfold fieldErr at he
  by_cases h1 : objErr v ≠ 0
  · rw [if_pos h1] at he; exact absurd he h1
  · rw [if_neg h1] at he
    by_cases h2 : n < 0 ∨ ((s.fields v.2).length : Int) ≤ n
    · rw [if_pos h2] at he; cases he
    · exact ⟨by omega, fun e => h2 (.inl e), fun e => h2 (.inr e)⟩
theorem storeS_err {s : St} {n : Int} (hc : ¬ s.stack.length < 2) (he : fieldErr s (s.down 1) n ≠ 0) : storeS s n = (s, 0, fieldErr s (s.down 1) n) := by
  unfold storeS
  rw [if_neg hc]
  unfold fieldErr at he ⊢
  by_cases h1 : objErr (s.down 1) ≠ 0
  · rw [if_pos h1, if_pos h1]
  · rw [if_neg h1] at he
    rw [if_neg h1, if_neg h1]
    by_cases h2 : n < 0 ∨ ((s.fields (s.down 1).2).length : Int) ≤ n
    · rw [if_pos h2, if_pos h2]
    · rw [if_neg h2] at he; exact absurd rfl he

theorem HeapAt.fieldView {w : World} {h : Nat} {m : HeapM} (r : HeapAt w h m) (i : Nat) (hi : i < m.blks.length) (hs : 0 < (m.blks[i]).fs.length) :
    ∃ g cap, (m.blks[i]).vF = .slice (some ⟨g, 0, none⟩) (m.blks[i]).fs.length cap ∧ g < w.heap.size ∧ g ≠ h ∧ (m.blks[i]).vF.ownBlock = some g ∧ (∀ j, w.frozen? ⟨g, j, none⟩ = false) ∧
      ∀ j (hj : j < (m.blks[i]).fs.length), w.cell? ⟨g, j * 2, none⟩ = some (.int .i64 ((m.blks[i]).fs[j]).1) ∧ w.cell? ⟨g, j * 2 + 1, none⟩ = some (.int .i64 ((m.blks[i]).fs[j]).2) := by
  obtain ⟨g, cap, hv, hg, hb, hc, hcell, hf⟩ := own_view (r.fields _ (List.getElem_mem hi)) hs
  refine ⟨g, cap, hv, hg, fun e => r.ne (x := (m.blks[i]).row) (by simp only [HeapM.rows, List.mem_cons, List.mem_map]; exact .inr (.inr (.inr ⟨_, List.getElem_mem hi, rfl⟩))) (by rw [← e]; exact hb), hb, hf, fun j hj => ⟨?_, ?_⟩⟩
  · exact hcell _ _ (by have := flat_get valCells 2 (fun _ => rfl) (m.blks[i]).fs j 0 (by decide); simpa [hj, valCells] using this)
  · exact hcell _ _ (by have := flat_get valCells 2 (fun _ => rfl) (m.blks[i]).fs j 1 (by decide); simpa [hj, valCells] using this)

/-- the head's cell of the blocks, the object i's cell of its fields, the field k -/
theorem HPre.facts {h N : Nat} {w : World} {m : HeapM} (p : HPre h N w m) (i : Nat) (o : HObj) (hi : m.blks[i]? = some o) (k : Nat) (hk : k < o.fs.length) :
    ∃ g capB fg fc, m.vB = .slice (some ⟨g, 0, none⟩) (N + 1) capB ∧ o.vF = .slice (some ⟨fg, 0, none⟩) o.fs.length fc ∧ g < w.heap.size ∧ fg < w.heap.size ∧ w.cell? ⟨h, 3, none⟩ = some (.slice (some ⟨g, 0, none⟩) (N + 1) capB) ∧
      w.cell? ⟨g, i * 2 + 1, none⟩ = some (.slice (some ⟨fg, 0, none⟩) o.fs.length fc) ∧ w.cell? ⟨fg, k * 2, none⟩ = some (.int .i64 (o.fs[k]).1) ∧ w.cell? ⟨fg, k * 2 + 1, none⟩ = some (.int .i64 (o.fs[k]).2) ∧
      w.frozen? ⟨fg, k * 2, none⟩ = false ∧ w.frozen? ⟨fg, k * 2 + 1, none⟩ = false := by
  obtain ⟨g, capB, hvB, hg, _, _, _, hobj⟩ := p.r.view p.ok
  have hil : i < m.blks.length := (List.getElem?_eq_some_iff.1 hi).1
  have hio : m.blks[i] = o := (List.getElem?_eq_some_iff.1 hi).2
  obtain ⟨fg, fc, hvF, hfg, _, _, hfz, hfc⟩ := p.r.fieldView i hil (by rw [hio]; omega)
  have c1 := (hobj i hil).2
  rw [hvF] at c1
  simp only [hio] at *
  exact ⟨g, capB, fg, fc, hvB, hvF, hg, hfg, by rw [p.r.cell.2.2.2.1, hvB], c1, (hfc k hk).1, (hfc k hk).2, hfz _, hfz _⟩

set_option maxHeartbeats 1600000 in
theorem hload_do (h N : Nat) (w : World) (m : HeapM) (n : Int) (p : HPre h N w m) : Calls Try.prog 27 #[.pointer (some ⟨h, 0, none⟩), .int .i64 n] w (HDid h N w m (loadS m.room m.st n)) := by
  obtain ⟨ao, cap, cS⟩ := p.stackCell
  by_cases hc : m.stack.length < 1
  · have e : loadS m.room m.st n = (m.st, 0, 3) := by unfold loadS; exact if_pos hc
    rw [e]
    have K : Hid (∃ m', HStep h N w m w m' ∧ m'.st = m.st) := ⟨m, .refl p, rfl⟩
    obtain ⟨len, hlen⟩ : ∃ len, m.stack.length = len := ⟨_, rfl⟩
    rw [hlen] at hc cS
    clear p hlen e
    obtain rfl : len = 0 := by omega
    go_enter Try.func27, Try.ntmps27
    go_wp2
    go_ret
    exact ⟨rfl, K.out⟩
  have D : Hid _ := hdown_do p 0 (by omega)
  have K : Hid (∀ W, Below w.heap.size w W → ∃ m', HStep h N w m W m' ∧ m'.st = m.st) := fun W hb => ⟨m, .of_below p hb, rfl⟩
  have hv := p.inv.down 0
  have CK : Hid (∀ W, Below w.heap.size w W → Calls Try.prog 46 #[.pointer (some ⟨h, 0, none⟩), .agg #[.int .i64 (m.st.down 0).1, .int .i64 (m.st.down 0).2], .int .i64 n] W fun e w' => e = .returned (.int .i64 (fieldErr m.st (m.st.down 0) n)) ∧ Below W.heap.size W w') := fun W hb => checkField_any h N W m (p.below hb) _ n hv
  have hcI0 : ¬ m.stack.length = 0 := by omega
  have hcI1 : ((m.stack.length : Int) == 0) = false := by rw [beq_eq_false_iff_ne]; omega
  by_cases he : fieldErr m.st (m.st.down 0) n ≠ 0
  · rw [loadS_err hc he]
    obtain ⟨len, hlen⟩ : ∃ len, m.stack.length = len := ⟨_, rfl⟩
    rw [hlen] at cS hcI0 hcI1
    obtain ⟨er, her⟩ : ∃ er, fieldErr m.st (m.st.down 0) n = er := ⟨_, rfl⟩
    rw [her] at he CK ⊢
    obtain ⟨x, hx⟩ : ∃ x, m.st.down 0 = x := ⟨_, rfl⟩
    rw [hx] at D CK
    obtain ⟨x1, x2⟩ := x
    have he2 : (er == 0) = false := by simpa using he
    clear p hlen hx hv her hc
    go_enter Try.func27, Try.ntmps27
    go_wp2_with fail
    refine Calls.mono D.out ?_
    rintro e w1 ⟨rfl, hb⟩
    have B : Hid (Below w.heap.size w w1) := hb
    clear hb D
    go_wp2_with fail
    refine Calls.mono (CK.out _ (B.out.alloc B.out.size _)) ?_
    rintro e w2 ⟨rfl, hb⟩
    have B2 : Hid (Below w.heap.size w w2) := (B.out.alloc B.out.size _).trans (hb.mono (by simp; have := B.out.size; omega))
    clear hb CK
    go_wp2
    go_ret
    exact ⟨rfl, K.out _ B2.out⟩
  have he : fieldErr m.st (m.st.down 0) n = 0 := by omega
  obtain ⟨ho, hn0, hnl⟩ := field_ok he
  obtain ⟨i, hi, hbi, hiN, hfs⟩ := p.obj _ (ref_of hv ho)
  have hio : m.blks[i]? = some m.blks[i] := List.getElem?_eq_getElem hi
  obtain ⟨k, rfl⟩ : ∃ k : Nat, n = k := ⟨n.toNat, by omega⟩
  have hk : k < (m.blks[i]).fs.length := by rw [hfs] at hnl; omega
  obtain ⟨g, capB, fg, fc, hvB, hvF, hg, hfg, cB, c1, y0, y1, _, _⟩ := p.facts i _ hio k hk
  have e : loadS m.room m.st k = pushA m.room (m.st.pop 1) ((m.blks[i]).fs[k]) := by
    unfold loadS
    refine (if_neg hc).trans ((if_neg (by omega)).trans ((if_neg (by omega)).trans ?_))
    rw [hfs, Int.toNat_natCast, List.getD_eq_getElem?_getD, List.getElem?_eq_getElem hk]
    rfl
  rw [e]
  have hN := p.ok.small
  have hiI : (i : Int) < (N : Int) + 1 := by omega
  have hfl4 := p.ok.fields _ (List.getElem_mem hi)
  have AFTER : Hid (∀ W, Below w.heap.size w W → Calls Try.prog 45 #[.pointer (some ⟨h, 0, none⟩), .int .i64 1] W fun e w' => e = .returned (.tuple #[]) ∧
      (w'.cell? ⟨h, 3, none⟩ = some (.slice (some ⟨g, 0, none⟩) (N + 1) capB) ∧ w'.cell? ⟨g, i * 2 + 1, none⟩ = some (.slice (some ⟨fg, 0, none⟩) (m.blks[i]).fs.length fc) ∧ w'.cell? ⟨fg, k * 2, none⟩ = some (.int .i64 ((m.blks[i]).fs[k]).1) ∧ w'.cell? ⟨fg, k * 2 + 1, none⟩ = some (.int .i64 ((m.blks[i]).fs[k]).2)) ∧
      (∀ W2, Below w'.heap.size w' W2 → Calls Try.prog 21 #[.pointer (some ⟨h, 0, none⟩), .agg #[.int .i64 ((m.blks[i]).fs[k]).1, .int .i64 ((m.blks[i]).fs[k]).2]] W2 (fun e w'' => HDid h N w m (pushA m.room (m.st.pop 1) ((m.blks[i]).fs[k])) e w'')) ∧
      ∀ L ob, w.heap.size ≤ L → W.heap[L]? = some ob → w'.heap[L]? = some ob) := by
    intro W hb
    refine (hpop_do (p.below hb) 1 (by omega) (by omega)).mono ?_
    rintro e w' ⟨he, v', hs⟩
    have s1 : HStep h N w m w' _ := (HStep.of_below p hb).trans hs
    have p1 : HPre h N w' _ := s1.pre p (by exact (p.inv.pop 1))
    obtain ⟨g', capB', fg', fc', hvB', hvF', _, _, cB', c1', y0', y1', _, _⟩ := p1.facts i _ hio k hk
    have e1 : (Value.slice (some ⟨g', 0, none⟩) (N + 1) capB') = .slice (some ⟨g, 0, none⟩) (N + 1) capB := hvB'.symm.trans hvB
    simp at e1
    obtain ⟨rfl, rfl⟩ := e1
    have e2 : (Value.slice (some ⟨fg', 0, none⟩) (m.blks[i]).fs.length fc') = .slice (some ⟨fg, 0, none⟩) (m.blks[i]).fs.length fc := hvF'.symm.trans hvF
    simp at e2
    obtain ⟨rfl, rfl⟩ := e2
    refine ⟨he, ⟨cB', c1', y0', y1'⟩, fun W2 hb2 => ?_, fun L ob hL hW => hturn_local p hb hW hL hs.turn⟩
    exact (hpush_do (p1.below hb2) _).mono fun e w'' ⟨he, m', hs', hm⟩ => ⟨he, m', s1.trans ((HStep.of_below p1 hb2).trans hs'), hm⟩
  have hkl := hk
  obtain ⟨y, hy⟩ : ∃ y, (m.blks[i]).fs[k] = y := ⟨_, rfl⟩
  rw [hy] at AFTER ⊢
  clear hy
  obtain ⟨fl, hfl⟩ : ∃ fl, (m.blks[i]).fs.length = fl := ⟨_, rfl⟩
  rw [hfl] at AFTER hkl hfl4
  obtain ⟨len, hlen⟩ : ∃ len, m.stack.length = len := ⟨_, rfl⟩
  rw [hlen] at cS hcI0 hcI1
  rw [he] at CK
  obtain ⟨x, hx⟩ : ∃ x, m.st.down 0 = x := ⟨_, rfl⟩
  rw [hx] at D CK hbi
  obtain ⟨x1, x2⟩ := x
  simp only at hbi
  subst hbi
  obtain ⟨y1', y2'⟩ := y
  have hkI : (k : Int) < fl := by omega
  clear p hlen e hx hv he hfs hvB hvF hfl cB c1 hk y0 y1 K hc hn0 hnl ho hio
  go_enter Try.func27, Try.ntmps27
  go_wp2_with fail
  refine Calls.mono D.out ?_
  rintro e w1 ⟨rfl, hb⟩
  have B : Hid (Below w.heap.size w w1) := hb
  clear hb D
  go_wp2_with fail
  refine Calls.mono (CK.out _ (B.out.alloc B.out.size _)) ?_
  rintro e w2 ⟨rfl, hb⟩
  have B2 : Hid (Below w.heap.size w w2) := (B.out.alloc B.out.size _).trans (hb.mono (by simp; have := B.out.size; omega))
  have L1 : Hid (w2.heap[w1.heap.size]? = some (.cells #[.int .i64 x1, .int .i64 i] 53)) := boxed' hb
  clear hb CK
  go_wp2_with fail
  refine Calls.mono (AFTER.out _ B2.out) ?_
  rintro e w3 ⟨rfl, ⟨a0, a1, a2, a3⟩, hpush, hloc⟩
  have l3 : w3.cell? ⟨w1.heap.size, 1, none⟩ = some (.int .i64 i) := cell_of_heap (hloc _ _ B.out.size L1.out) rfl
  have PU : Hid _ := hpush
  clear hpush hloc AFTER L1 B B2
  go_wp2_with fail
  go_region_with (go_at_call 21; refine Calls.mono (PU.out _ (Below.refl _ _).drew) ?_; rintro e w4 ⟨rfl, hm⟩; have M : Hid _ := hm; clear hm)
  all_goals go_wp2
  all_goals go_ret
  all_goals exact ⟨rfl, M.out⟩

end Go.Proofs.Ytblekkjamemloaa
