/- OUR OWN. The document's heap: tells, by operation. -/
import Derived.Test.YtblekkjamemloaaRefI
namespace Go.Proofs.Ytblekkjamemloaa
open Go.RowKit
set_option linter.unusedVariables false
set_option linter.unusedSimpArgs false

def RDid2 (h N : Nat) (w : World) (m : RefM) (p : St × Int × Int) (e : Ending) (w' : World) : Prop := e = .returned (.tuple #[.int .i64 p.2.1, .int .i64 p.2.2]) ∧ ∃ m', RStep h N w m w' m' ∧ m'.st = p.1
def TellsSays (op : Int) (f : St → St × Int × Int) : Prop := ∀ (h N : Nat) (w : World) (m : RefM), RPre h N w m →
  Calls Try.prog 67 #[.pointer (some ⟨h, 0, none⟩), .int .i64 op] w (RDid2 h N w m (f m.st))

theorem turn_local {h N L : Nat} {w W w' : World} {m m' : RefM} {ob : Obj} (p : RPre h N w m) (hb : Below w.heap.size w W) (hW : W.heap[L]? = some ob) (hL : w.heap.size ≤ L) (t : Turn h W m w' m') : w'.heap[L]? = some ob := by
  rw [t.off.block L (lt_of_heap hW) ?_]
  · exact hW
  · intro e
    have := p.r.lt L e
    omega

/-- the fields of the object that a reference leads to -/
theorem RPre.obj {h N : Nat} {w : World} {m : RefM} (p : RPre h N w m) (b : Int) (hb : 1 ≤ b ∧ b ≤ N) : ∃ (i : Nat) (hi : i < m.objs.length), b = i ∧ i ≤ N ∧ m.st.fields b = (m.objs[i]).fs := by
  refine ⟨b.toNat, by rw [p.ok.len]; omega, by omega, by omega, ?_⟩
  unfold St.fields
  rw [List.getD_eq_getElem?_getD]
  show (((m.objs.map fun o => (o.here, o.fs))[b.toNat]?).getD (false, [])).2 = _
  rw [List.getElem?_map, List.getElem?_eq_getElem (by rw [p.ok.len]; omega)]
  rfl

theorem ref_of {N : Nat} {v : Int × Int} (h : okV N v) (he : objErr v = 0) : 1 ≤ v.2 ∧ v.2 ≤ N := by
  unfold objErr at he
  rcases h with h | h | h
  · rw [if_pos h] at he; omega
  · rw [if_neg (by omega), if_pos h] at he; omega
  · exact h

set_option maxHeartbeats 800000 in
theorem tells_empty (op : Int) (h N : Nat) (w : World) (m : RefM) (p : RPre h N w m) (hc : m.stack.length < 1) :
    Calls Try.prog 67 #[.pointer (some ⟨h, 0, none⟩), .int .i64 op] w (RDid2 h N w m (m.st, 0, 3)) := by
  obtain ⟨ao, cap, cS⟩ := p.stackCell
  have K : Hid (∃ m', RStep h N w m w m' ∧ m'.st = m.st) := ⟨m, .refl p, rfl⟩
  obtain ⟨len, hlen⟩ : ∃ len, m.stack.length = len := ⟨_, rfl⟩
  rw [hlen] at hc cS
  clear p hlen
  obtain rfl : len = 0 := by omega
  go_enter Try.func67, Try.ntmps67
  go_wp2
  go_ret2
  exact ⟨rfl, K.out⟩

set_option maxHeartbeats 800000 in
theorem tells_kind : TellsSays 12 kindS := by
  intro h N w m p
  by_cases hc : m.stack.length < 1
  · have e : kindS m.st = (m.st, 0, 3) := by unfold kindS; exact if_pos hc
    rw [e]
    exact tells_empty 12 h N w m p hc
  · have e : kindS m.st = (m.st, (m.st.down 0).1, 0) := by unfold kindS; exact if_neg hc
    rw [e]
    obtain ⟨ao, cap, cS⟩ := p.stackCell
    have DN := down_do p 0 (by omega)
    have D : Hid _ := DN
    have K : Hid (∀ W, Below w.heap.size w W → ∃ m', RStep h N w m W m' ∧ m'.st = m.st) := fun W hb => ⟨m, .of_below p hb, rfl⟩
    obtain ⟨len, hlen⟩ : ∃ len, m.stack.length = len := ⟨_, rfl⟩
    rw [hlen] at hc cS
    obtain ⟨x, hx⟩ : ∃ x, m.st.down 0 = x := ⟨_, rfl⟩
    rw [hx] at D ⊢
    obtain ⟨x1, x2⟩ := x
    clear p hlen e DN hx
    have hcI : ¬ (len : Int) < 1 := by omega
    go_enter Try.func67, Try.ntmps67
    go_wp2_with fail
    refine Calls.mono D.out ?_
    rintro e w1 ⟨rfl, hb⟩
    have B : Hid (Below w.heap.size w w1) := hb
    clear hb D
    go_wp2
    go_ret2
    exact ⟨rfl, K.out _ (B.out.alloc B.out.size _)⟩

set_option maxHeartbeats 800000 in
theorem tells_size : TellsSays 11 sizeS := by
  intro h N w m p
  by_cases hc : m.stack.length < 1
  · have e : sizeS m.st = (m.st, 0, 3) := by unfold sizeS; exact if_pos hc
    rw [e]
    exact tells_empty 11 h N w m p hc
  · obtain ⟨ao, cap, cS⟩ := p.stackCell
    have DN := down_do p 0 (by omega)
    have D : Hid _ := DN
    have K : Hid (∀ W, Below w.heap.size w W → ∃ m', RStep h N w m W m' ∧ m'.st = m.st) := fun W hb => ⟨m, .of_below p hb, rfl⟩
    have hv := p.inv.down 0
    by_cases he : objErr (m.st.down 0) ≠ 0
    · have e : sizeS m.st = (m.st, 0, objErr (m.st.down 0)) := by unfold sizeS; exact (if_neg hc).trans (if_pos he)
      rw [e]
      obtain ⟨len, hlen⟩ : ∃ len, m.stack.length = len := ⟨_, rfl⟩
      rw [hlen] at hc cS
      obtain ⟨x, hx⟩ : ∃ x, m.st.down 0 = x := ⟨_, rfl⟩
      rw [hx] at D he ⊢
      obtain ⟨x1, x2⟩ := x
      have OB := object_any (x1, x2)
      have O : Hid (∀ W, Calls Try.prog 79 #[.agg #[.int .i64 x1, .int .i64 x2]] W fun e w' => e = .returned (.int .i64 (objErr (x1, x2))) ∧ Below W.heap.size W w') := OB
      obtain ⟨er, her⟩ : ∃ er, objErr (x1, x2) = er := ⟨_, rfl⟩
      rw [her] at he O ⊢
      have he2 : (er == 0) = false := by simpa using he
      clear p hlen e DN hx hv OB her
      have hcI : ¬ (len : Int) < 1 := by omega
      go_enter Try.func67, Try.ntmps67
      go_wp2_with fail
      refine Calls.mono D.out ?_
      rintro e w1 ⟨rfl, hb⟩
      have B : Hid (Below w.heap.size w w1) := hb
      clear hb D
      go_wp2_with fail
      refine Calls.mono (O.out _) ?_
      rintro e w2 ⟨rfl, hb⟩
      have B2 : Hid (Below w.heap.size w w2) := (B.out.alloc B.out.size _).trans (hb.mono (by simp; have := B.out.size; omega))
      clear hb O
      go_wp2
      go_ret2
      exact ⟨rfl, K.out _ B2.out⟩
    · have he : objErr (m.st.down 0) = 0 := by omega
      have e : sizeS m.st = (m.st, ((m.st.fields (m.st.down 0).2).length : Int), 0) := by unfold sizeS; exact (if_neg hc).trans (if_neg (by omega))
      rw [e]
      obtain ⟨i, hi, hbi, hiN, hfs⟩ := p.obj _ (ref_of hv he)
      obtain ⟨g, capB, hvB, hg, _, _, _, hobj⟩ := p.r.view p.ok
      have cB : w.cell? ⟨h, 5, none⟩ = some (.slice (some ⟨g, 0, none⟩) (N + 1) capB) := by rw [p.r.cell.2.2.2.2.2.1, hvB]
      have c1 := (hobj i hi).2.1
      obtain ⟨fo, fc, hvF⟩ := own_slice (p.r.fields _ (List.getElem_mem hi))
      rw [hvF] at c1
      rw [hfs]
      have hh := lt_of_heap p.r.head
      obtain ⟨fl, hfl⟩ : ∃ fl, (m.objs[i]).fs.length = fl := ⟨_, rfl⟩
      rw [hfl] at c1 ⊢
      obtain ⟨len, hlen⟩ : ∃ len, m.stack.length = len := ⟨_, rfl⟩
      rw [hlen] at hc cS
      obtain ⟨x, hx⟩ : ∃ x, m.st.down 0 = x := ⟨_, rfl⟩
      rw [hx] at D he hbi
      obtain ⟨x1, x2⟩ := x
      simp only at hbi
      subst hbi
      have OB := object_any (x1, (i : Int))
      have O : Hid (∀ W, Calls Try.prog 79 #[.agg #[.int .i64 x1, .int .i64 i]] W fun e w' => e = .returned (.int .i64 0) ∧ Below W.heap.size W w') := fun W => (OB W).mono fun e w' ⟨h1, h2⟩ => ⟨h1.trans (ret_int he), h2⟩
      have OLD : Hid (∀ W, Below w.heap.size w W → W.cell? ⟨h, 5, none⟩ = some (.slice (some ⟨g, 0, none⟩) (N + 1) capB) ∧ W.cell? ⟨g, i * 4 + 1, none⟩ = some (.slice fo fl fc)) := fun W hb =>
        ⟨(hb.cell (p := ⟨h, 5, none⟩) hh).trans cB, (hb.cell (p := ⟨g, i * 4 + 1, none⟩) hg).trans c1⟩
      have hN := p.ok.small
      clear p hlen e DN hx hv OB he hfs hobj hvB hvF hfl cB c1
      have hcI : ¬ (len : Int) < 1 := by omega
      have hiI : (i : Int) < (N : Int) + 1 := by omega
      go_enter Try.func67, Try.ntmps67
      go_wp2_with fail
      refine Calls.mono D.out ?_
      rintro e w1 ⟨rfl, hb⟩
      have B : Hid (Below w.heap.size w w1) := hb
      clear hb D
      go_wp2_with fail
      refine Calls.mono (O.out _) ?_
      rintro e w2 ⟨rfl, hb⟩
      have B2 : Hid (Below w.heap.size w w2) := (B.out.alloc B.out.size _).trans (hb.mono (by simp; have := B.out.size; omega))
      have l1 : w2.cell? ⟨w1.heap.size, 1, none⟩ = some (.int .i64 i) := cell_of_heap (boxed' hb) rfl
      obtain ⟨d0, d1⟩ := OLD.out w2 B2.out
      clear hb O
      go_wp2
      go_quiet (fail)
      go_wp2
      go_ret2
      exact ⟨rfl, K.out _ (below_drewN B2.out _)⟩

set_option maxHeartbeats 800000 in
theorem tells_take : TellsSays 10 takeS := by
  intro h N w m p
  by_cases hc : m.stack.length < 1
  · have e : takeS m.st = (m.st, 0, 3) := by unfold takeS; exact if_pos hc
    rw [e]
    exact tells_empty 10 h N w m p hc
  · obtain ⟨ao, cap, cS⟩ := p.stackCell
    have DN := down_do p 0 (by omega)
    have D : Hid _ := DN
    have K : Hid (∀ W, Below w.heap.size w W → ∃ m', RStep h N w m W m' ∧ m'.st = m.st) := fun W hb => ⟨m, .of_below p hb, rfl⟩
    by_cases he : (m.st.down 0).1 = 1
    · have e : takeS m.st = (m.st.pop 1, (m.st.down 0).2, 0) := by unfold takeS; exact (if_neg hc).trans (if_pos he)
      rw [e]
      have POP : Hid (∀ W, Below w.heap.size w W → Calls Try.prog 80 #[.pointer (some ⟨h, 0, none⟩), .int .i64 1] W fun e w' => e = .returned (.tuple #[]) ∧ (∃ m', RStep h N w m w' m' ∧ m'.st = m.st.pop 1) ∧ ∀ L ob, w.heap.size ≤ L → W.heap[L]? = some ob → w'.heap[L]? = some ob) :=
        fun W hb => (pop_do (p.below hb) 1 (by omega) (by omega)).mono fun e w' ⟨he, v', hs⟩ => ⟨he, ⟨_, (RStep.of_below p hb).trans hs, rfl⟩, fun L ob hL hW => turn_local p hb hW hL hs.turn⟩
      obtain ⟨len, hlen⟩ : ∃ len, m.stack.length = len := ⟨_, rfl⟩
      rw [hlen] at hc cS
      obtain ⟨x, hx⟩ : ∃ x, m.st.down 0 = x := ⟨_, rfl⟩
      rw [hx] at D he ⊢
      obtain ⟨x1, x2⟩ := x
      simp only at he
      subst he
      clear p hlen e DN hx K
      have hcI : ¬ (len : Int) < 1 := by omega
      go_enter Try.func67, Try.ntmps67
      go_wp2_with fail
      refine Calls.mono D.out ?_
      rintro e w1 ⟨rfl, hb⟩
      have B : Hid (Below w.heap.size w w1) := hb
      clear hb D
      go_wp2_with fail
      refine Calls.mono (POP.out _ (B.out.alloc B.out.size _)) ?_
      rintro e w2 ⟨rfl, hm, hloc⟩
      have l0 := hloc w1.heap.size _ B.out.size (heap_alloc_new w1 _)
      have l1 : w2.cell? ⟨w1.heap.size, 1, none⟩ = some (.int .i64 x2) := cell_of_heap l0 rfl
      have M : Hid _ := hm
      clear hm hloc l0 POP B
      go_wp2
      go_ret2
      exact ⟨rfl, M.out⟩
    · have e : takeS m.st = (m.st, 0, 5) := by unfold takeS; exact (if_neg hc).trans (if_neg he)
      rw [e]
      obtain ⟨len, hlen⟩ : ∃ len, m.stack.length = len := ⟨_, rfl⟩
      rw [hlen] at hc cS
      obtain ⟨x, hx⟩ : ∃ x, m.st.down 0 = x := ⟨_, rfl⟩
      rw [hx] at D he
      obtain ⟨x1, x2⟩ := x
      simp only at he
      have he2 : (x1 == 1) = false := by simpa using he
      clear p hlen e DN hx
      have hcI : ¬ (len : Int) < 1 := by omega
      go_enter Try.func67, Try.ntmps67
      go_wp2_with fail
      refine Calls.mono D.out ?_
      rintro e w1 ⟨rfl, hb⟩
      have B : Hid (Below w.heap.size w w1) := hb
      clear hb D
      go_wp2
      go_ret2
      exact ⟨rfl, K.out _ (B.out.alloc B.out.size _)⟩

set_option maxHeartbeats 1000000 in
theorem tells_same : TellsSays 9 sameS := by
  intro h N w m p
  by_cases hc0 : m.stack.length < 1
  · have e : sameS m.st = (m.st, 0, 3) := by unfold sameS; exact if_pos (by show m.stack.length < 2; omega)
    rw [e]
    exact tells_empty 9 h N w m p hc0
  · obtain ⟨ao, cap, cS⟩ := p.stackCell
    by_cases hc : m.stack.length < 2
    · have e : sameS m.st = (m.st, 0, 3) := by unfold sameS; exact if_pos hc
      rw [e]
      have K : Hid (∃ m', RStep h N w m w m' ∧ m'.st = m.st) := ⟨m, .refl p, rfl⟩
      obtain ⟨len, hlen⟩ : ∃ len, m.stack.length = len := ⟨_, rfl⟩
      rw [hlen] at hc cS hc0
      clear p hlen e
      obtain rfl : len = 1 := by omega
      go_enter Try.func67, Try.ntmps67
      go_wp2
      go_ret2
      exact ⟨rfl, K.out⟩
    · have D0 : Hid _ := down_do p 0 (by omega)
      have D1 : Hid (∀ W, Below w.heap.size w W → Calls Try.prog 78 #[.pointer (some ⟨h, 0, none⟩), .int .i64 1] W fun e w' => e = .returned (.agg #[.int .i64 (m.st.down 1).1, .int .i64 (m.st.down 1).2]) ∧ Below W.heap.size W w') := fun W hb => down_do (p.below hb) 1 (by show 1 < m.stack.length; omega)
      have POP : Hid (∀ W, Below w.heap.size w W → Calls Try.prog 80 #[.pointer (some ⟨h, 0, none⟩), .int .i64 2] W fun e w' => e = .returned (.tuple #[]) ∧ (∃ m', RStep h N w m w' m' ∧ m'.st = m.st.pop 2) ∧ ∀ L ob, w.heap.size ≤ L → W.heap[L]? = some ob → w'.heap[L]? = some ob) :=
        fun W hb => (pop_do (p.below hb) 2 (by omega) (by omega)).mono fun e w' ⟨he, v', hs⟩ => ⟨he, ⟨_, (RStep.of_below p hb).trans hs, rfl⟩, fun L ob hL hW => turn_local p hb hW hL hs.turn⟩
      obtain ⟨x, hx⟩ : ∃ x, m.st.down 0 = x := ⟨_, rfl⟩
      obtain ⟨y, hy⟩ : ∃ y, m.st.down 1 = y := ⟨_, rfl⟩
      have e : sameS m.st = (m.st.pop 2, if x = y then 1 else 0, 0) := by
        unfold sameS
        refine (if_neg hc).trans ?_
        rw [hx, hy]
        by_cases hxy : x = y
        · rw [if_pos hxy, if_pos hxy]
        · rw [if_neg hxy, if_neg hxy]
      rw [e]
      rw [hx] at D0
      rw [hy] at D1
      obtain ⟨len, hlen⟩ : ∃ len, m.stack.length = len := ⟨_, rfl⟩
      rw [hlen] at hc cS hc0
      clear p hlen e hx hy
      have hcI : ¬ (len : Int) < 1 := by omega
      have hcJ : ¬ (len : Int) < 2 := by omega
      obtain ⟨x1, x2⟩ := x
      obtain ⟨y1, y2⟩ := y
      by_cases hxy : (x1, x2) = (y1, y2)
      · rw [if_pos hxy]
        simp only [Prod.mk.injEq] at hxy
        obtain ⟨rfl, rfl⟩ := hxy
        go_enter Try.func67, Try.ntmps67
        go_wp2_with fail
        refine Calls.mono D0.out ?_
        rintro e w1 ⟨rfl, hb⟩
        have B : Hid (Below w.heap.size w w1) := hb
        clear hb D0
        go_wp2_with fail
        refine Calls.mono (D1.out _ (B.out.alloc B.out.size _)) ?_
        rintro e w2 ⟨rfl, hb⟩
        have B2 : Hid (Below w.heap.size w w2 ∧ w1.heap.size + 1 ≤ w2.heap.size ∧ w2.heap[w1.heap.size]? = some (.cells #[.int .i64 x1, .int .i64 x2] 96)) := ⟨(B.out.alloc B.out.size _).trans (hb.mono (by simp; have := B.out.size; omega)), by have := hb.size; simpa using this, boxed' hb⟩
        clear hb D1
        go_wp2_with fail
        refine Calls.mono (POP.out _ (B2.out.1.alloc B2.out.1.size _)) ?_
        rintro e w3 ⟨rfl, hm, hloc⟩
        have l0 := hloc w1.heap.size _ B.out.size (by rw [hao (by have := B2.out.2.1; omega)]; exact B2.out.2.2)
        have k0 := hloc w2.heap.size _ B2.out.1.size (heap_alloc_new w2 _)
        have l1 : w3.cell? ⟨w1.heap.size, 0, none⟩ = some (.int .i64 x1) := cell_of_heap l0 rfl
        have l2 : w3.cell? ⟨w1.heap.size, 1, none⟩ = some (.int .i64 x2) := cell_of_heap l0 rfl
        have k1 : w3.cell? ⟨w2.heap.size, 0, none⟩ = some (.int .i64 x1) := cell_of_heap k0 rfl
        have k2 : w3.cell? ⟨w2.heap.size, 1, none⟩ = some (.int .i64 x2) := cell_of_heap k0 rfl
        have M : Hid _ := hm
        clear hm hloc l0 k0 POP B B2
        go_wp2
        go_ret2
        exact ⟨rfl, M.out⟩
      · rw [if_neg hxy]
        have hxy2 : ¬ (x1 = y1 ∧ x2 = y2) := by simpa using hxy
        clear hxy
        go_enter Try.func67, Try.ntmps67
        go_wp2_with fail
        refine Calls.mono D0.out ?_
        rintro e w1 ⟨rfl, hb⟩
        have B : Hid (Below w.heap.size w w1) := hb
        clear hb D0
        go_wp2_with fail
        refine Calls.mono (D1.out _ (B.out.alloc B.out.size _)) ?_
        rintro e w2 ⟨rfl, hb⟩
        have B2 : Hid (Below w.heap.size w w2 ∧ w1.heap.size + 1 ≤ w2.heap.size ∧ w2.heap[w1.heap.size]? = some (.cells #[.int .i64 x1, .int .i64 x2] 96)) := ⟨(B.out.alloc B.out.size _).trans (hb.mono (by simp; have := B.out.size; omega)), by have := hb.size; simpa using this, boxed' hb⟩
        clear hb D1
        go_wp2_with fail
        refine Calls.mono (POP.out _ (B2.out.1.alloc B2.out.1.size _)) ?_
        rintro e w3 ⟨rfl, hm, hloc⟩
        have l0 := hloc w1.heap.size _ B.out.size (by rw [hao (by have := B2.out.2.1; omega)]; exact B2.out.2.2)
        have k0 := hloc w2.heap.size _ B2.out.1.size (heap_alloc_new w2 _)
        have l1 : w3.cell? ⟨w1.heap.size, 0, none⟩ = some (.int .i64 x1) := cell_of_heap l0 rfl
        have l2 : w3.cell? ⟨w1.heap.size, 1, none⟩ = some (.int .i64 x2) := cell_of_heap l0 rfl
        have k1 : w3.cell? ⟨w2.heap.size, 0, none⟩ = some (.int .i64 y1) := cell_of_heap k0 rfl
        have k2 : w3.cell? ⟨w2.heap.size, 1, none⟩ = some (.int .i64 y2) := cell_of_heap k0 rfl
        have M : Hid _ := hm
        clear hm hloc l0 k0 POP B B2
        by_cases q1 : x1 = y1
        · have q2 : ¬ x2 = y2 := fun e => hxy2 ⟨q1, e⟩
          have q3 : (x2 == y2) = false := by simpa using q2
          subst q1
          clear hxy2
          go_wp2
          go_ret2
          exact ⟨rfl, M.out⟩
        · have q3 : (x1 == y1) = false := by simpa using q1
          clear hxy2
          go_wp2
          all_goals go_ret2
          all_goals exact ⟨rfl, M.out⟩

end Go.Proofs.Ytblekkjamemloaa
