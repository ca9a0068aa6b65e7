/- OUR OWN. The program's heap: same, checkField, load, store. -/
import Derived.Test.YtblekkjamemloaaHC
namespace Go.Proofs.Ytblekkjamemloaa
open Go.RowKit
set_option linter.unusedVariables false
set_option linter.unusedSimpArgs false

set_option maxHeartbeats 1000000 in
theorem hsame_do (h N : Nat) (w : World) (m : HeapM) (p : HPre h N w m) : Calls Try.prog 29 #[.pointer (some ⟨h, 0, none⟩)] w (HDid2 h N w m (sameS m.st)) := by
  obtain ⟨ao, cap, cS⟩ := p.stackCell
  have hl := p.ok.stack
  by_cases hc : m.stack.length < 2
  · have e : sameS m.st = (m.st, 0, 3) := by unfold sameS; exact if_pos hc
    rw [e]
    have K : Hid (∃ m', HStep h N w m w m' ∧ m'.st = m.st) := ⟨m, .refl p, rfl⟩
    obtain ⟨len, hlen⟩ : ∃ len, m.stack.length = len := ⟨_, rfl⟩
    rw [hlen] at hc cS hl
    clear p hlen e
    have hcI : (len : Int) < 2 := by omega
    go_enter Try.func29, Try.ntmps29
    go_wp2
    go_ret2
    exact ⟨rfl, K.out⟩
  · have D0 : Hid _ := hdown_do p 0 (by omega)
    have D1 : Hid (∀ W, Below w.heap.size w W → Calls Try.prog 44 #[.pointer (some ⟨h, 0, none⟩), .int .i64 1] W fun e w' => e = .returned (.agg #[.int .i64 (m.st.down 1).1, .int .i64 (m.st.down 1).2]) ∧ Below W.heap.size W w') := fun W hb => hdown_do (p.below hb) 1 (by show 1 < m.stack.length; omega)
    have PO : Hid (∀ W, Below w.heap.size w W → Calls Try.prog 45 #[.pointer (some ⟨h, 0, none⟩), .int .i64 2] W fun e w' => e = .returned (.tuple #[]) ∧ (∀ W2, Below w'.heap.size w' W2 → ∃ m', HStep h N w m W2 m' ∧ m'.st = m.st.pop 2) ∧ ∀ L ob, w.heap.size ≤ L → W.heap[L]? = some ob → w'.heap[L]? = some ob) :=
      fun W hb => (hpop_do (p.below hb) 2 (by omega) (by omega)).mono fun e w' ⟨he, v', hs⟩ => ⟨he, fun W2 hb2 => ⟨_, ((HStep.of_below p hb).trans hs).after hb2, rfl⟩, fun L ob hL hW => hturn_local p hb hW hL hs.turn⟩
    obtain ⟨x, hx⟩ : ∃ x, m.st.down 0 = x := ⟨_, rfl⟩
    obtain ⟨y, hy⟩ : ∃ y, m.st.down 1 = y := ⟨_, rfl⟩
    have e : sameS m.st = (m.st.pop 2, if x = y then 1 else 0, 0) := by
      unfold sameS
      refine (if_neg hc).trans ?_
      rw [hx, hy]
      by_cases hxy : x = y
      · rw [if_pos hxy, if_pos hxy]
      · rw [if_neg hxy, if_neg hxy]
    rw [e]
    rw [hx] at D0
    rw [hy] at D1
    obtain ⟨ans, hans⟩ : ∃ a : Int, (if x = y then (1 : Int) else 0) = a := ⟨_, rfl⟩
    rw [hans]
    have HA : Hid ((if x = y then (1 : Int) else 0) = ans) := hans
    have SV : Hid (∀ W, Calls Try.prog 47 #[.agg #[.int .i64 x.1, .int .i64 x.2], .agg #[.int .i64 y.1, .int .i64 y.2]] W fun e w' => e = .returned (.bool (decide (x = y))) ∧ Below W.heap.size W w') := sameValue_any x y
    obtain ⟨len, hlen⟩ : ∃ len, m.stack.length = len := ⟨_, rfl⟩
    rw [hlen] at hc cS hl
    obtain ⟨sv, hsv⟩ : ∃ b : Bool, decide (x = y) = b := ⟨_, rfl⟩
    rw [hsv] at SV
    have HS : Hid (decide (x = y) = sv) := hsv
    clear p hlen e hx hy hans hsv
    have hcJ : ¬ (len : Int) < 2 := by omega
    obtain ⟨x1, x2⟩ := x
    obtain ⟨y1, y2⟩ := y
    go_enter Try.func29, Try.ntmps29
    go_wp2_with fail
    refine Calls.mono D0.out ?_
    rintro e w1 ⟨rfl, hb⟩
    have B : Hid (Below w.heap.size w w1) := hb
    clear hb D0
    go_wp2_with fail
    refine Calls.mono (D1.out _ (B.out.alloc B.out.size _)) ?_
    rintro e w2 ⟨rfl, hb⟩
    have B2 : Hid (Below w.heap.size w w2 ∧ w1.heap.size + 1 ≤ w2.heap.size ∧ w2.heap[w1.heap.size]? = some (.cells #[.int .i64 x1, .int .i64 x2] 53)) := ⟨(B.out.alloc B.out.size _).trans (hb.mono (by simp; have := B.out.size; omega)), by have := hb.size; simpa using this, boxed' hb⟩
    clear hb D1
    go_wp2_with fail
    refine Calls.mono (PO.out _ (B2.out.1.alloc B2.out.1.size _)) ?_
    rintro e w3 ⟨rfl, hm, hloc⟩
    have l0 := hloc w1.heap.size _ B.out.size (by rw [hao (by have := B2.out.2.1; omega)]; exact B2.out.2.2)
    have k0 := hloc w2.heap.size _ B2.out.1.size (heap_alloc_new w2 _)
    have l1 : w3.cell? ⟨w1.heap.size, 0, none⟩ = some (.int .i64 x1) := cell_of_heap l0 rfl
    have l2 : w3.cell? ⟨w1.heap.size, 1, none⟩ = some (.int .i64 x2) := cell_of_heap l0 rfl
    have k1 : w3.cell? ⟨w2.heap.size, 0, none⟩ = some (.int .i64 y1) := cell_of_heap k0 rfl
    have k2 : w3.cell? ⟨w2.heap.size, 1, none⟩ = some (.int .i64 y2) := cell_of_heap k0 rfl
    have M : Hid _ := hm
    clear hm hloc l0 k0 PO B B2
    go_wp2_with fail
    refine Calls.mono (SV.out _) ?_
    rintro e w4 ⟨rfl, hb⟩
    have MM : Hid (∃ m', HStep h N w m w4 m' ∧ m'.st = m.st.pop 2) := M.out _ hb
    clear hb M SV l1 l2 k1 k2
    cases sv with
    | true =>
      have hxy : ((x1, x2) : Int × Int) = (y1, y2) := by simpa using HS.out
      have ha := HA.out
      rw [if_pos hxy] at ha
      subst ha
      clear hxy HA HS
      go_wp2
      go_ret2
      exact ⟨rfl, MM.out⟩
    | false =>
      have hxy : ¬ ((x1, x2) : Int × Int) = (y1, y2) := by simpa using HS.out
      have ha := HA.out
      rw [if_neg hxy] at ha
      subst ha
      clear hxy HA HS
      go_wp2
      go_ret2
      exact ⟨rfl, MM.out⟩

/-- why there is no field n in what v leads to -/
def fieldErr (s : St) (v : Int × Int) (n : Int) : Int := if objErr v ≠ 0 then objErr v else if n < 0 ∨ ((s.fields v.2).length : Int) ≤ n then 6 else 0

set_option maxHeartbeats 1000000 in
theorem checkField_any (h N : Nat) (w : World) (m : HeapM) (p : HPre h N w m) (v : Int × Int) (n : Int) (hv : okV N v) :
    Calls Try.prog 46 #[.pointer (some ⟨h, 0, none⟩), .agg #[.int .i64 v.1, .int .i64 v.2], .int .i64 n] w fun e w' => e = .returned (.int .i64 (fieldErr m.st v n)) ∧ Below w.heap.size w w' := by
  by_cases he : objErr v ≠ 0
  · have e : fieldErr m.st v n = objErr v := by unfold fieldErr; exact if_pos he
    rw [e]
    have O : Hid (∀ W, Calls Try.prog 48 #[.agg #[.int .i64 v.1, .int .i64 v.2]] W fun e w' => e = .returned (.int .i64 (objErr v)) ∧ Below W.heap.size W w') := checkRef_any v
    obtain ⟨v1, v2⟩ := v
    obtain ⟨er, her⟩ : ∃ er, objErr (v1, v2) = er := ⟨_, rfl⟩
    rw [her] at he O ⊢
    have he2 : (er == 0) = false := by simpa using he
    simp only at *
    clear p e hv her
    go_enter Try.func46, Try.ntmps46
    go_wp2_with fail
    refine Calls.mono (O.out _) ?_
    rintro e w1 ⟨rfl, hb⟩
    have B : Hid (Below w.heap.size w w1) := ((Below.refl _ _).alloc (Nat.le_refl _) _).trans (hb.mono (by simp))
    clear hb O
    go_wp2
    go_ret
    exact ⟨rfl, B.out⟩
  have he : objErr v = 0 := by omega
  obtain ⟨i, hi, hbi, hiN, hfs⟩ := p.obj _ (ref_of hv he)
  obtain ⟨g, capB, hvB, hg, _, _, _, hobj⟩ := p.r.view p.ok
  have cB : w.cell? ⟨h, 3, none⟩ = some (.slice (some ⟨g, 0, none⟩) (N + 1) capB) := by rw [p.r.cell.2.2.2.1, hvB]
  have c1 := (hobj i hi).2
  obtain ⟨fo, fc, hvF⟩ := own_slice (p.r.fields _ (List.getElem_mem hi))
  rw [hvF] at c1
  have hh := lt_of_heap p.r.head
  have hN := p.ok.small
  have hiI : (i : Int) < (N : Int) + 1 := by omega
  have e : fieldErr m.st v n = if n < 0 ∨ ((m.blks[i]).fs.length : Int) ≤ n then 6 else 0 := by unfold fieldErr; rw [if_neg (by omega), hfs]
  rw [e]
  obtain ⟨fl, hfl⟩ : ∃ fl, (m.blks[i]).fs.length = fl := ⟨_, rfl⟩
  rw [hfl] at c1 ⊢
  obtain ⟨v1, v2⟩ := v
  simp only at hbi
  subst hbi
  have O : Hid (∀ W, Calls Try.prog 48 #[.agg #[.int .i64 v1, .int .i64 i]] W fun e w' => e = .returned (.int .i64 0) ∧ Below W.heap.size W w') := fun W => (checkRef_any (v1, (i : Int)) W).mono fun e w' ⟨h1, h2⟩ => ⟨h1.trans (ret_int he), h2⟩
  have OLD : Hid (∀ W, Below w.heap.size w W → W.cell? ⟨h, 3, none⟩ = some (.slice (some ⟨g, 0, none⟩) (N + 1) capB) ∧ W.cell? ⟨g, i * 2 + 1, none⟩ = some (.slice fo fl fc)) := fun W hb =>
    ⟨(hb.cell (p := ⟨h, 3, none⟩) hh).trans cB, (hb.cell (p := ⟨g, i * 2 + 1, none⟩) hg).trans c1⟩
  clear p e hv he hfs hobj hvB hvF hfl cB c1
  by_cases hn0 : n < 0
  · rw [if_pos (.inl hn0)]
    have hd : decide (n < 0) = true := by simpa using hn0
    go_enter Try.func46, Try.ntmps46
    go_wp2_with fail
    refine Calls.mono (O.out _) ?_
    rintro e w1 ⟨rfl, hb⟩
    have B : Hid (Below w.heap.size w w1) := ((Below.refl _ _).alloc (Nat.le_refl _) _).trans (hb.mono (by simp))
    have l1 : w1.cell? ⟨w.heap.size, 1, none⟩ = some (.int .i64 i) := cell_of_heap (boxed' hb) rfl
    obtain ⟨d0, d1⟩ := OLD.out w1 B.out
    clear hb O
    go_wp2_with fail
    go_quiet (fail)
    go_wp2
    go_ret
    exact ⟨rfl, below_drewN B.out _⟩
  · have hd : decide (n < 0) = false := by simpa using hn0
    by_cases hnl : (fl : Int) ≤ n
    · rw [if_pos (.inr hnl)]
      have hd2 : decide ((fl : Int) ≤ n) = true := by simpa using hnl
      go_enter Try.func46, Try.ntmps46
      go_wp2_with fail
      refine Calls.mono (O.out _) ?_
      rintro e w1 ⟨rfl, hb⟩
      have B : Hid (Below w.heap.size w w1) := ((Below.refl _ _).alloc (Nat.le_refl _) _).trans (hb.mono (by simp))
      have l1 : w1.cell? ⟨w.heap.size, 1, none⟩ = some (.int .i64 i) := cell_of_heap (boxed' hb) rfl
      obtain ⟨d0, d1⟩ := OLD.out w1 B.out
      clear hb O
      go_wp2_with fail
      go_quiet (fail)
      go_wp2
      go_ret
      exact ⟨rfl, below_drewN B.out _⟩
    · rw [if_neg (by omega)]
      have hd2 : decide ((fl : Int) ≤ n) = false := by simpa using hnl
      go_enter Try.func46, Try.ntmps46
      go_wp2_with fail
      refine Calls.mono (O.out _) ?_
      rintro e w1 ⟨rfl, hb⟩
      have B : Hid (Below w.heap.size w w1) := ((Below.refl _ _).alloc (Nat.le_refl _) _).trans (hb.mono (by simp))
      have l1 : w1.cell? ⟨w.heap.size, 1, none⟩ = some (.int .i64 i) := cell_of_heap (boxed' hb) rfl
      obtain ⟨d0, d1⟩ := OLD.out w1 B.out
      clear hb O
      go_wp2_with fail
      go_quiet (fail)
      go_wp2
      go_ret
      exact ⟨rfl, below_drewN B.out _⟩

end Go.Proofs.Ytblekkjamemloaa
