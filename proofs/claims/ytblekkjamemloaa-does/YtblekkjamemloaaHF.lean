/- OUR OWN. The program's heap: store. -/
import Derived.Test.YtblekkjamemloaaHE
namespace Go.Proofs.Ytblekkjamemloaa
open Go.RowKit
set_option linter.unusedVariables false
set_option linter.unusedSimpArgs false

def HeapM.put (m : HeapM) (i : Nat) (o : HObj) : HeapM := { m with blks := m.blks.set i o }
theorem hput_rows (m : HeapM) (i : Nat) (o : HObj) : (m.put i o).rows = (m.rows.set (3 + i) o.row).set 2 ⟨74, 2, m.vB, (m.blks.set i o).length, (m.blks.set i o).flatMap HObj.cells⟩ := by
  simp only [HeapM.rows, HeapM.put, show 3 + i = i + 1 + 1 + 1 by omega, List.set_cons_succ, List.set_cons_zero, List.map_set]
theorem hput_st (m : HeapM) (i : Nat) (o : HObj) : (m.put i o).st = { m.st with objs := m.st.objs.set i (o.taken, o.fs) } := by
  simp [HeapM.st, HeapM.put, List.map_set]
theorem hrow_at (m : HeapM) (i : Nat) {o : HObj} (hi : m.blks[i]? = some o) : m.rows[3 + i]? = some o.row := by
  simp only [HeapM.rows, show 3 + i = i + 1 + 1 + 1 by omega, List.getElem?_cons_succ, List.getElem?_map, hi]; rfl

theorem HeapAt.fieldSet {w : World} {h : Nat} {m : HeapM} (r : HeapAt w h m) (i : Nat) {o : HObj} (hi : m.blks[i]? = some o) {g cap : Nat} (hv : o.vF = .slice (some ⟨g, 0, none⟩) o.fs.length cap) (k : Nat) (hk : k < o.fs.length) (x : Int × Int) :
    HTurn h w m ((w.setCell ⟨g, k * 2, none⟩ (.int .i64 x.1)).setCell ⟨g, k * 2 + 1, none⟩ (.int .i64 x.2)) (m.put i { o with fs := o.fs.set k x }) := by
  have hob : o.vF.ownBlock = some g := by rw [hv]; rfl
  have hmem : o.row ∈ m.rows := by simp only [HeapM.rows, List.mem_cons, List.mem_map]; exact .inr (.inr (.inr ⟨o, List.mem_of_getElem? hi, rfl⟩))
  have hgh : g ≠ h := fun e => r.ne hmem (by rw [← e]; exact hob)
  refine r.turn (3 + i) o.row ({ o with fs := o.fs.set k x } : HObj).row (hrow_at m i hi) ?_ ?_ ?_ ?_ ?_
  · rw [hput_rows, flat_same HObj.cells m.blks i o { o with fs := o.fs.set k x } hi rfl, List.length_set]
    simp only [HeapM.rows, show 3 + i = i + 1 + 1 + 1 by omega, List.set_cons_succ, List.set_cons_zero]
  · rw [hso (fun e => hgh e.symm), hso (fun e => hgh e.symm)]; exact r.head
  · show (World.setCell _ _ _).ownsRow 0 _ 2 o.vF (o.fs.set k x).length ((o.fs.set k x).flatMap valCells)
    have hik : o.fs[k]? = some o.fs[k] := List.getElem?_eq_getElem hk
    have e1 := flat_set valCells 2 (fun _ => rfl) o.fs k 0 (by decide) _ (.int .i64 x.1) hik (x.1, (o.fs[k]).2) rfl
    have h1 : (o.fs.set k (x.1, (o.fs[k]).2))[k]? = some (x.1, (o.fs[k]).2) := by simp [hk]
    have e2 := flat_set valCells 2 (fun _ => rfl) _ k 1 (by decide) _ (.int .i64 x.2) h1 x rfl
    rw [List.set_set, e1] at e2
    rw [List.length_set, e2, Nat.add_zero]
    have hb := r.fields o (List.mem_of_getElem? hi)
    rw [hv] at hb ⊢
    exact ((hb.stored _ _).1.stored _ _).1
  · intro j hj
    exact .inl hj
  · have hm : ∀ y ∈ [g], y ∈ h :: o.row.ob.toList := fun y hy => by simp at hy; subst hy; exact List.mem_cons_of_mem _ (by simp [SRow.ob, HObj.row, hrow, hob])
    exact ((off_setCell w g _ _).mono hm).trans ((off_setCell _ g _ _).mono hm)

set_option maxHeartbeats 1600000 in
theorem hstore_do (h N : Nat) (w : World) (m : HeapM) (n : Int) (p : HPre h N w m) : Calls Try.prog 28 #[.pointer (some ⟨h, 0, none⟩), .int .i64 n] w (HDid h N w m (storeS m.st n)) := by
  obtain ⟨ao, cap, cS⟩ := p.stackCell
  have hl := p.ok.stack
  by_cases hc : m.stack.length < 2
  · have e : storeS m.st n = (m.st, 0, 3) := by unfold storeS; exact if_pos hc
    rw [e]
    have K : Hid (∃ m', HStep h N w m w m' ∧ m'.st = m.st) := ⟨m, .refl p, rfl⟩
    obtain ⟨len, hlen⟩ : ∃ len, m.stack.length = len := ⟨_, rfl⟩
    rw [hlen] at hc cS hl
    clear p hlen e
    have hcI : (len : Int) < 2 := by omega
    go_enter Try.func28, Try.ntmps28
    go_wp2
    go_ret
    exact ⟨rfl, K.out⟩
  have D0 : Hid _ := hdown_do p 0 (by omega)
  have D1 : Hid (∀ W, Below w.heap.size w W → Calls Try.prog 44 #[.pointer (some ⟨h, 0, none⟩), .int .i64 1] W fun e w' => e = .returned (.agg #[.int .i64 (m.st.down 1).1, .int .i64 (m.st.down 1).2]) ∧ Below W.heap.size W w') := fun W hb => hdown_do (p.below hb) 1 (by show 1 < m.stack.length; omega)
  have K : Hid (∀ W, Below w.heap.size w W → ∃ m', HStep h N w m W m' ∧ m'.st = m.st) := fun W hb => ⟨m, .of_below p hb, rfl⟩
  have hv := p.inv.down 1
  have hvx := p.inv.down 0
  have CK : Hid (∀ W, Below w.heap.size w W → Calls Try.prog 46 #[.pointer (some ⟨h, 0, none⟩), .agg #[.int .i64 (m.st.down 1).1, .int .i64 (m.st.down 1).2], .int .i64 n] W fun e w' => e = .returned (.int .i64 (fieldErr m.st (m.st.down 1) n)) ∧ Below W.heap.size W w') := fun W hb => checkField_any h N W m (p.below hb) _ n hv
  have hcI0 : ¬ (m.stack.length : Int) < 2 := by omega
  by_cases he : fieldErr m.st (m.st.down 1) n ≠ 0
  · rw [storeS_err hc he]
    obtain ⟨len, hlen⟩ : ∃ len, m.stack.length = len := ⟨_, rfl⟩
    rw [hlen] at cS hcI0 hl
    obtain ⟨er, her⟩ : ∃ er, fieldErr m.st (m.st.down 1) n = er := ⟨_, rfl⟩
    rw [her] at he CK ⊢
    obtain ⟨x, hx⟩ : ∃ x, m.st.down 0 = x := ⟨_, rfl⟩
    rw [hx] at D0
    obtain ⟨q, hq⟩ : ∃ q, m.st.down 1 = q := ⟨_, rfl⟩
    rw [hq] at D1 CK
    obtain ⟨x1, x2⟩ := x
    obtain ⟨q1, q2⟩ := q
    have he2 : (er == 0) = false := by simpa using he
    clear p hlen hx hq hv hvx her hc
    go_enter Try.func28, Try.ntmps28
    go_wp2_with fail
    refine Calls.mono D0.out ?_
    rintro e w1 ⟨rfl, hb⟩
    have B : Hid (Below w.heap.size w w1) := hb
    clear hb D0
    go_wp2_with fail
    refine Calls.mono (D1.out _ (B.out.alloc B.out.size _)) ?_
    rintro e w2 ⟨rfl, hb⟩
    have B2 : Hid (Below w.heap.size w w2) := (B.out.alloc B.out.size _).trans (hb.mono (by simp; have := B.out.size; omega))
    clear hb D1
    go_wp2_with fail
    refine Calls.mono (CK.out _ (B2.out.alloc B2.out.size _)) ?_
    rintro e w3 ⟨rfl, hb⟩
    have B3 : Hid (Below w.heap.size w w3) := (B2.out.alloc B2.out.size _).trans (hb.mono (by simp; have := B2.out.size; omega))
    clear hb CK
    go_wp2
    go_ret
    exact ⟨rfl, K.out _ B3.out⟩
  have he : fieldErr m.st (m.st.down 1) n = 0 := by omega
  obtain ⟨ho, hn0, hnl⟩ := field_ok he
  obtain ⟨i, hi, hbi, hiN, hfs⟩ := p.obj _ (ref_of hv ho)
  have hio : m.blks[i]? = some m.blks[i] := List.getElem?_eq_getElem hi
  obtain ⟨k, rfl⟩ : ∃ k : Nat, n = k := ⟨n.toNat, by omega⟩
  have hk : k < (m.blks[i]).fs.length := by rw [hfs] at hnl; omega
  obtain ⟨g, capB, fg, fc, hvB, hvF, hg, hfg, cB, c1, y0, y1, _, _⟩ := p.facts i _ hio k hk
  have hobjs : (m.st.objs.getD (m.st.down 1).2.toNat (false, [])).1 = (m.blks[i]).taken := by
    rw [hbi, Int.toNat_natCast, List.getD_eq_getElem?_getD]
    show (((m.blks.map fun o => (o.taken, o.fs))[i]?).getD (false, [])).1 = _
    rw [List.getElem?_map, hio]; rfl
  have e : storeS m.st k = ({ m.st.pop 2 with objs := m.st.objs.set i ((m.blks[i]).taken, (m.blks[i]).fs.set k (m.st.down 0)) }, 0, 0) := by
    unfold storeS
    refine (if_neg hc).trans ((if_neg (by omega)).trans ((if_neg (by omega)).trans ?_))
    rw [hobjs, hfs, hbi, Int.toNat_natCast, Int.toNat_natCast]
  rw [e]
  have hN := p.ok.small
  have hiI : (i : Int) < (N : Int) + 1 := by omega
  have hfl4 := p.ok.fields _ (List.getElem_mem hi)
  have AFTER : Hid (∀ W, Below w.heap.size w W → Calls Try.prog 45 #[.pointer (some ⟨h, 0, none⟩), .int .i64 2] W fun e w' => e = .returned (.tuple #[]) ∧
      (w'.cell? ⟨h, 3, none⟩ = some (.slice (some ⟨g, 0, none⟩) (N + 1) capB) ∧ w'.cell? ⟨g, i * 2 + 1, none⟩ = some (.slice (some ⟨fg, 0, none⟩) (m.blks[i]).fs.length fc) ∧ w'.cell? ⟨fg, k * 2, none⟩ = some (.int .i64 ((m.blks[i]).fs[k]).1) ∧ w'.cell? ⟨fg, k * 2 + 1, none⟩ = some (.int .i64 ((m.blks[i]).fs[k]).2) ∧
        w'.frozen? ⟨fg, k * 2, none⟩ = false ∧ w'.frozen? ⟨fg, k * 2 + 1, none⟩ = false) ∧
      (∃ m', HStep h N w m ((w'.setCell ⟨fg, k * 2, none⟩ (.int .i64 (m.st.down 0).1)).setCell ⟨fg, k * 2 + 1, none⟩ (.int .i64 (m.st.down 0).2)).drew m' ∧ m'.st = { m.st.pop 2 with objs := m.st.objs.set i ((m.blks[i]).taken, (m.blks[i]).fs.set k (m.st.down 0)) }) ∧
      ∀ L ob, w.heap.size ≤ L → W.heap[L]? = some ob → w'.heap[L]? = some ob) := by
    intro W hb
    refine (hpop_do (p.below hb) 2 (by omega) (by omega)).mono ?_
    rintro e w' ⟨he, v', hs⟩
    have s1 : HStep h N w m w' _ := (HStep.of_below p hb).trans hs
    have p1 : HPre h N w' _ := s1.pre p (by exact (p.inv.pop 2))
    obtain ⟨g', capB', fg', fc', hvB', hvF', _, _, cB', c1', y0', y1', f0', f1'⟩ := p1.facts i _ hio k hk
    have e1 : (Value.slice (some ⟨g', 0, none⟩) (N + 1) capB') = .slice (some ⟨g, 0, none⟩) (N + 1) capB := hvB'.symm.trans hvB
    simp at e1
    obtain ⟨rfl, rfl⟩ := e1
    have e2 : (Value.slice (some ⟨fg', 0, none⟩) (m.blks[i]).fs.length fc') = .slice (some ⟨fg, 0, none⟩) (m.blks[i]).fs.length fc := hvF'.symm.trans hvF
    simp at e2
    obtain ⟨rfl, rfl⟩ := e2
    have t := p1.r.fieldSet i hio hvF k hk (m.st.down 0)
    refine ⟨he, ⟨cB', c1', y0', y1', f0', f1'⟩, ⟨_, s1.trans ⟨t.drew, ⟨by simp [HeapM.put, p.ok.len], p.ok.small, fun y hy => ?_, p1.ok.stack, p.ok.globals⟩, rfl⟩, ?_⟩, fun L ob hL hW => hturn_local p hb hW hL hs.turn⟩
    · rcases List.mem_or_eq_of_mem_set hy with e | e
      · exact p.ok.fields y e
      · subst e; simpa using hfl4
    · rw [hput_st]; rfl
  have hkl := hk
  obtain ⟨y, hy⟩ : ∃ y, (m.blks[i]).fs[k] = y := ⟨_, rfl⟩
  rw [hy] at AFTER
  clear hy
  obtain ⟨tgt, htgt⟩ : ∃ t : St, { m.st.pop 2 with objs := m.st.objs.set i ((m.blks[i]).taken, (m.blks[i]).fs.set k (m.st.down 0)) } = t := ⟨_, rfl⟩
  rw [htgt] at AFTER ⊢
  obtain ⟨fl, hfl⟩ : ∃ fl, (m.blks[i]).fs.length = fl := ⟨_, rfl⟩
  rw [hfl] at AFTER hkl hfl4
  obtain ⟨len, hlen⟩ : ∃ len, m.stack.length = len := ⟨_, rfl⟩
  rw [hlen] at cS hcI0 hl
  rw [he] at CK
  obtain ⟨x, hx⟩ : ∃ x, m.st.down 0 = x := ⟨_, rfl⟩
  rw [hx] at D0 AFTER
  obtain ⟨q, hq⟩ : ∃ q, m.st.down 1 = q := ⟨_, rfl⟩
  rw [hq] at D1 CK hbi
  obtain ⟨x1, x2⟩ := x
  obtain ⟨q1, q2⟩ := q
  simp only at hbi
  subst hbi
  obtain ⟨y1', y2'⟩ := y
  have hkI : (k : Int) < fl := by omega
  clear p hlen e hx hq hv hvx he hfs hvB hvF hfl cB c1 hk y0 y1 K hc hn0 hnl ho hio hobjs htgt
  go_enter Try.func28, Try.ntmps28
  go_wp2_with fail
  refine Calls.mono D0.out ?_
  rintro e w1 ⟨rfl, hb⟩
  have B : Hid (Below w.heap.size w w1) := hb
  clear hb D0
  go_wp2_with fail
  refine Calls.mono (D1.out _ (B.out.alloc B.out.size _)) ?_
  rintro e w2 ⟨rfl, hb⟩
  have B2 : Hid (Below w.heap.size w w2 ∧ w1.heap.size + 1 ≤ w2.heap.size ∧ w2.heap[w1.heap.size]? = some (.cells #[.int .i64 x1, .int .i64 x2] 53)) := ⟨(B.out.alloc B.out.size _).trans (hb.mono (by simp; have := B.out.size; omega)), by have := hb.size; simpa using this, boxed' hb⟩
  clear hb D1
  go_wp2_with fail
  refine Calls.mono (CK.out _ (B2.out.1.alloc B2.out.1.size _)) ?_
  rintro e w3 ⟨rfl, hb⟩
  have B3 : Hid (Below w.heap.size w w3 ∧ w3.heap[w2.heap.size]? = some (.cells #[.int .i64 q1, .int .i64 i] 53) ∧ w3.heap[w1.heap.size]? = some (.cells #[.int .i64 x1, .int .i64 x2] 53)) :=
    ⟨(B2.out.1.alloc B2.out.1.size _).trans (hb.mono (by simp; have := B2.out.1.size; omega)), boxed' hb, by
      have h1 := B2.out.2.1
      rw [hb.block _ (by simp; omega), hao (by omega)]; exact B2.out.2.2⟩
  clear hb CK
  go_wp2_with fail
  refine Calls.mono (AFTER.out _ B3.out.1) ?_
  rintro e w4 ⟨rfl, ⟨a0, a1, a2, a3, a4, a5⟩, hm, hloc⟩
  have l0 := hloc _ _ B.out.size B3.out.2.2
  have l1 := hloc _ _ B2.out.1.size B3.out.2.1
  have v0 : w4.cell? ⟨w1.heap.size, 0, none⟩ = some (.int .i64 x1) := cell_of_heap l0 rfl
  have v1 : w4.cell? ⟨w1.heap.size, 1, none⟩ = some (.int .i64 x2) := cell_of_heap l0 rfl
  have u1 : w4.cell? ⟨w2.heap.size, 1, none⟩ = some (.int .i64 i) := cell_of_heap l1 rfl
  have M : Hid _ := hm
  clear hm hloc AFTER B B2 B3 l0 l1
  go_wp2_with fail
  go_region
  all_goals go_wp2
  all_goals go_ret
  all_goals exact ⟨rfl, M.out⟩

end Go.Proofs.Ytblekkjamemloaa
