/- OUR OWN. The document's heap: stored whole; Do. -/
import Derived.Test.YtblekkjamemloaaRefP
import Derived.Test.YtblekkjamemloaaRefQ
import Derived.Test.YtblekkjamemloaaRefR
import Derived.Test.YtblekkjamemloaaRefS
namespace Go.Proofs.Ytblekkjamemloaa
open Go.RowKit
set_option linter.unusedVariables false
set_option linter.unusedSimpArgs false

/-- the heap as it stands ahead of the store: the stack is cut, object i has its fields where they were -/
structure Mid (h N : Nat) (w : World) (m : RefM) (i : Nat) (o : RObj) (W : World) (m2 : RefM) : Prop where
  pre : RPre h N W m2
  step : RStep h N w m W m2
  st : m2.st = m.st.pop 2
  vB : m2.vB = m.vB
  over : m2.over = m.over
  obj : ∃ o2, m2.objs[i]? = some o2 ∧ o2.fs = o.fs ∧ o2.here = o.here ∧ o2.vF = o.vF

theorem Mid.below {h N : Nat} {w W W' : World} {m m2 : RefM} {i : Nat} {o : RObj} (t : Mid h N w m i o W m2) (hb : Below W.heap.size W W') : Mid h N w m i o W' m2 := ⟨t.pre.below hb, t.step.after hb, t.st, t.vB, t.over, t.obj⟩

theorem Mid.stuck {h N : Nat} {w W : World} {m m2 : RefM} {i : Nat} {o : RObj} (t : Mid h N w m i o W m2) {g cap : Nat} (hv : m.vB = .slice (some ⟨g, 0, none⟩) (N + 1) cap) (j : Nat) {oj : RObj} (hj : m2.objs[j]? = some oj) :
    Mid h N w m i o (W.setCell ⟨g, j * 4 + 2, none⟩ (.bool true)) (m2.put j { oj with stuck := true }) := by
  obtain ⟨s, hst⟩ := RStep.stuck t.pre (t.vB.trans hv) j hj
  refine ⟨s.pre t.pre (by rw [hst]; exact t.pre.inv), t.step.trans s, hst.trans t.st, t.vB, t.over, ?_⟩
  obtain ⟨o1, h1, h2, h3, h4⟩ := t.obj
  have hl : j < m2.objs.length := (List.getElem?_eq_some_iff.1 hj).1
  by_cases hij : j = i
  · subst hij
    rw [hj] at h1
    cases h1
    exact ⟨{ oj with stuck := true }, by simp [RefM.put, hl], h2, h3, h4⟩
  · exact ⟨o1, by simp only [RefM.put]; rw [List.getElem?_set_ne hij]; exact h1, h2, h3, h4⟩

/-- the field is turned, the old value's object not yet let go -/
structure Tl (h N : Nat) (w : World) (m : RefM) (s' : St) (W : World) (m3 : RefM) : Prop where
  pre : RPre h N W m3
  step : RStep h N w m W m3
  st : m3.st = s'
  vB : m3.vB = m.vB

theorem stored_any : StoreSays := by
  intro h N w m n p
  by_cases hbad : m.stack.length < 2 ∨ objErr (m.st.down 1) ≠ 0 ∨ n < 0 ∨ ((m.st.fields (m.st.down 1).2).length : Int) ≤ n
  · exact stored_not h N w m n p hbad
  simp only [not_or] at hbad
  obtain ⟨hc, he', hn0, hnl⟩ := hbad
  have he : objErr (m.st.down 1) = 0 := by omega
  obtain ⟨k, rfl⟩ : ∃ k : Nat, n = k := ⟨n.toNat, by omega⟩
  have hk : k < (m.st.fields (m.st.down 1).2).length := by omega
  obtain ⟨ao, cap, cS⟩ := p.stackCell
  have hv := p.inv.down 1
  have hvx := p.inv.down 0
  obtain ⟨i, hi, hbi, hiN, hfs⟩ := p.obj _ (ref_of hv he)
  have hio : m.objs[i]? = some m.objs[i] := List.getElem?_eq_getElem hi
  rw [hfs] at hk
  obtain ⟨g, capB, fg, fc, hvB, hvF, hg, hfg, cB, c1, y0, y1, f0, f1⟩ := p.facts i _ hio k hk
  have hyok : okV N ((m.objs[i]).fs[k]) := p.inv.fields ((m.objs[i]).here, (m.objs[i]).fs) (List.mem_map.2 ⟨_, List.getElem_mem hi, rfl⟩) _ (List.getElem_mem hk)
  have hobjs : (m.st.objs.getD (m.st.down 1).2.toNat (false, [])).1 = (m.objs[i]).here := by
    rw [hbi, Int.toNat_natCast, List.getD_eq_getElem?_getD]
    show (((m.objs.map fun o => (o.here, o.fs))[i]?).getD (false, [])).1 = _
    rw [List.getElem?_map, hio]; rfl
  have e : storeS m.st k = ({ m.st.pop 2 with objs := m.st.objs.set i ((m.objs[i]).here, (m.objs[i]).fs.set k (m.st.down 0)) }, 0, 0) := by
    unfold storeS
    refine (if_neg hc).trans ((if_neg (by omega)).trans ((if_neg (by rw [hfs]; omega)).trans ?_))
    rw [hobjs, hfs, hbi, Int.toNat_natCast, Int.toNat_natCast]
  rw [e]
  have hgf : ¬ g = fg := fun eq => by
    have hap := (List.nodup_cons.1 p.r.rowsAt.apart).2
    have h1 : m.rows[0]? = some ⟨81, 4, m.vB, m.objs.length, m.objs.flatMap RObj.cells⟩ := rfl
    have h2 : m.rows[4 + i]? = some (m.objs[i]).row := by
      simp only [RefM.rows, show 4 + i = i + 1 + 1 + 1 + 1 by omega, List.getElem?_cons_succ, List.getElem?_map, hio]; rfl
    have := filterMap_idx SRow.ob m.rows hap 0 (4 + i) _ _ g h1 h2 (by show m.vB.ownBlock = _; rw [hvB]; rfl) (by show (m.objs[i]).vF.ownBlock = _; rw [hvF, eq]; rfl)
    omega
  have RANGE : ∀ v : Int × Int, okV N v → v.1 = 2 → ∃ j : Nat, v.2 = j ∧ j ≤ N := fun v hok h2 => by
    rcases hok with h | h | h
    · omega
    · omega
    · exact ⟨v.2.toNat, by omega, by omega⟩
  have COUNTM : ∀ W m2 b, RPre h N W m2 → Calls Try.prog 61 #[.pointer (some ⟨h, 0, none⟩), .int .i64 b] W fun e w' => e = .returned (.int .i64 (m2.count b)) ∧ w' = W := fun W m2 b p2 => count_any p2.r p2.ok b
  obtain ⟨target, htarget⟩ : ∃ t : St, t = { m.st.pop 2 with objs := m.st.objs.set i ((m.objs[i]).here, (m.objs[i]).fs.set k (m.st.down 0)) } := ⟨_, rfl⟩
  obtain ⟨x, hx⟩ : ∃ x, m.st.down 0 = x := ⟨_, rfl⟩
  obtain ⟨y, hy⟩ : ∃ y, (m.objs[i]).fs[k] = y := ⟨_, rfl⟩
  obtain ⟨q, hq⟩ : ∃ q, m.st.down 1 = q := ⟨_, rfl⟩
  have cxe : ∀ b, ({ m with vS := m.vS, stack := m.stack.take (m.stack.length - 2) } : RefM).count b = m.count b := fun b => rfl
  have ENV : StoreEnv h N g capB fg (m.objs[i]).fs.length fc i k x.1 x.2 y.1 y.2 q.1 m.over (m.count x.2) (m.extrasN N) w
      (fun W => ∃ v', Mid h N w m i m.objs[i] W { m with vS := v', stack := m.stack.take (m.stack.length - 2) }) (fun W => ∃ m2, Mid h N w m i m.objs[i] W m2) (fun W => ∃ m3, Tl h N w m target W m3) (fun W => ∃ m', RStep h N w m W m' ∧ m'.st = target) := by
    refine ⟨?_, ?_, ?_, ?_, ?_, ?_, ?_, ?_, ?_, ?_, ?_, ?_, ?_, ?_, ?_, ?_, ?_, ?_, ?_, ?_, ?_⟩
    · rw [← hx]; exact down_do p 0 (by omega)
    · intro W hb
      have := down_do (p.below hb) 1 (by show 1 < m.stack.length; omega)
      rw [hbi, hq] at this
      exact this
    · intro W
      refine (object_any (q.1, (i : Int)) W).mono fun e w' ⟨h1, h2⟩ => ⟨h1.trans (ret_int ?_), h2⟩
      have : objErr q = 0 := by rw [← hq]; exact he
      exact this
    · intro W hb
      exact ⟨(hb.cell (p := ⟨h, 5, none⟩) (lt_of_heap p.r.head)).trans cB, (hb.cell (p := ⟨g, i * 4 + 1, none⟩) hg).trans c1⟩
    · intro W hb
      refine (pop_do (p.below hb) 2 (by omega) (by omega)).mono ?_
      rintro e w' ⟨he, v', hs⟩
      have s1 : RStep h N w m w' _ := (RStep.of_below p hb).trans hs
      have p1 : RPre h N w' _ := s1.pre p (by exact (p.inv.pop 2))
      exact ⟨he, ⟨v', p1, s1, rfl, rfl, rfl, ⟨_, hio, rfl, rfl, rfl⟩⟩, hs.turn.off.size, fun L ob hL hW => turn_local p hb hW hL hs.turn⟩
    · rintro W ⟨m2, t⟩
      obtain ⟨o2, ho2, h1, h2, h3⟩ := t.obj
      obtain ⟨g', capB', fg', fc', hvB', hvF', _, _, a1, a2, a3, a4, a5, a6⟩ := t.pre.facts i o2 ho2 k (by rw [h1]; exact hk)
      have e1 : (Value.slice (some ⟨g', 0, none⟩) (N + 1) capB') = .slice (some ⟨g, 0, none⟩) (N + 1) capB := hvB'.symm.trans (t.vB.trans hvB)
      simp at e1
      obtain ⟨rfl, rfl⟩ := e1
      have e2 : (Value.slice (some ⟨fg', 0, none⟩) o2.fs.length fc') = .slice (some ⟨fg, 0, none⟩) (m.objs[i]).fs.length fc := hvF'.symm.trans (h3.trans hvF)
      simp at e2
      obtain ⟨rfl, _, rfl⟩ := e2
      have h4 : o2.fs[k]'(by rw [h1]; exact hk) = y := by rw [← hy]; simp only [h1]
      rw [h4] at a3 a4
      rw [h1] at a2
      exact ⟨a1, a2, a3, a4, a5, a6, by rw [t.pre.r.cell.2.2.2.2.1, t.over]⟩
    · rintro W ⟨v', t⟩; exact ⟨_, t⟩
    · rintro W W' ⟨v', t⟩ hb; exact ⟨v', t.below hb⟩
    · rintro W W' ⟨m2, t⟩ hb; exact ⟨m2, t.below hb⟩
    · rintro W ⟨m2, t⟩ h1 h2
      refine ⟨m2, t.step, t.st.trans ?_⟩
      have hxy : y = x := Prod.ext h1 h2
      have h3 : (m.objs[i]).fs.set k (m.st.down 0) = (m.objs[i]).fs := by rw [hx, ← hxy, ← hy]; exact List.set_getElem_self hk
      have h4 : m.st.objs.set i ((m.objs[i]).here, (m.objs[i]).fs) = m.st.objs := by
        have hl : i < m.st.objs.length := by simpa [RefM.st] using hi
        have : m.st.objs[i] = ((m.objs[i]).here, (m.objs[i]).fs) := by simp [RefM.st]
        rw [← this]; exact List.set_getElem_self hl
      rw [htarget, h3, h4]
      rfl
    · rintro W ⟨v', t⟩
      have h1 := COUNTM W _ x.2 t.pre
      exact h1
    · rintro W ⟨v', t⟩
      have h1 := extras_any t.pre.r t.pre.ok
      exact h1
    · rintro W j ⟨m2, t⟩ h1 h2
      obtain ⟨j', hj', hjN⟩ := RANGE x (by rw [← hx]; exact hvx) h2
      have hjj : j' = j := by omega
      subst hjj
      obtain ⟨oj, hoj, a1, a2⟩ := t.pre.stuckCell (t.vB.trans hvB) j' hjN
      exact ⟨hjN, ⟨_, a1⟩, a2, _, t.stuck hvB j' hoj⟩
    · rintro W ⟨m2, t⟩
      obtain ⟨o2, ho2, h1, h2, h3⟩ := t.obj
      obtain ⟨s, pp⟩ := RStep.field t.pre i ho2 (by rw [h3, h1]; exact hvF) k (by rw [h1]; exact hk) x (by rw [← hx]; exact hvx)
      refine ⟨_, pp, t.step.trans s, ?_, t.vB⟩
      rw [put_st, t.st, htarget, hx]
      show ({ m.st.pop 2 with objs := (m.st.pop 2).objs.set i (o2.here, o2.fs.set k x) } : St) = _
      rw [h1, h2]
      rfl
    · rintro W W' ⟨m3, t⟩ hb; exact ⟨m3, t.pre.below hb, t.step.after hb, t.st, t.vB⟩
    · rintro W ⟨m3, t⟩
      refine ⟨by rw [t.pre.r.cell.2.2.2.2.2.1, t.vB, hvB], fun j hj => ?_⟩
      obtain ⟨oj, _, a1, _⟩ := t.pre.stuckCell (t.vB.trans hvB) j hj
      exact ⟨_, a1⟩
    · rintro W ⟨m3, t⟩; exact ⟨m3, t.step, t.st⟩
    · rintro W b ⟨m3, t⟩; exact ⟨_, COUNTM W m3 b t.pre⟩
    · rintro W b ⟨m3, t⟩
      refine (enter_any t.pre.r t.pre.ok b).mono ?_
      rintro e w' ⟨he, m', hE, hT, hok⟩
      obtain ⟨s, hst⟩ := RStep.enter t.pre hE hT hok
      exact ⟨he, m', t.step.trans s, hst.trans t.st⟩
    · intro h2; exact RANGE x (by rw [← hx]; exact hvx) h2
    · intro h2; exact RANGE y (by rw [← hy]; exact hyok) h2
  have hN := p.ok.small
  have hl := p.ok.stack
  have hfl := p.ok.fields _ (List.getElem_mem hi)
  have hh := lt_of_heap p.r.head
  have hcI : ¬ (m.stack.length : Int) < 2 := by omega
  rw [← htarget]
  have RX := RANGE x (by rw [← hx]; exact hvx)
  have RY := RANGE y (by rw [← hy]; exact hyok)
  obtain ⟨x1, x2⟩ := x
  obtain ⟨y1, y2⟩ := y
  simp only at ENV RX RY
  show Calls Try.prog _ _ w fun e w' => e = .returned (.int .i64 0) ∧ _
  by_cases xk : x1 = 2
  · obtain ⟨jx, rfl, hjx⟩ := RX xk
    subst xk
    by_cases yk : y1 = 2
    · obtain ⟨jy, rfl, hjy⟩ := RY yk
      subst yk
      by_cases hne : (jy : Int) = (jx : Int)
      · rw [hne] at ENV
        exact stored_same h N g capB fg _ fc i k _ cap ao jx _ _ _ _ w _ _ _ _ ENV cS hcI hl hN hiN hk hfl hh hg hfg hgf
      · by_cases c7 : ((m.count (jx : Int) : Nat) : Int) = 7
        · by_cases hov : m.over ≤ ((m.extrasN N : Nat) : Int)
          · exact stored_sr h N g capB fg _ fc i k _ cap ao jx hjx jy hjy _ _ _ _ c7 hov hne w _ _ _ _ ENV cS hcI hl hN hiN hk hfl hh hg hfg hgf
          · exact stored_or h N g capB fg _ fc i k _ cap ao jx hjx jy hjy _ _ _ _ c7 hov hne w _ _ _ _ ENV cS hcI hl hN hiN hk hfl hh hg hfg hgf
        · exact stored_cr h N g capB fg _ fc i k _ cap ao jx hjx jy hjy _ _ _ _ c7 hne w _ _ _ _ ENV cS hcI hl hN hiN hk hfl hh hg hfg hgf
    · by_cases c7 : ((m.count (jx : Int) : Nat) : Int) = 7
      · by_cases hov : m.over ≤ ((m.extrasN N : Nat) : Int)
        · exact stored_sn h N g capB fg _ fc i k _ cap ao jx hjx y1 y2 yk _ _ _ _ c7 hov w _ _ _ _ ENV cS hcI hl hN hiN hk hfl hh hg hfg hgf
        · exact stored_on h N g capB fg _ fc i k _ cap ao jx hjx y1 y2 yk _ _ _ _ c7 hov w _ _ _ _ ENV cS hcI hl hN hiN hk hfl hh hg hfg hgf
      · exact stored_cn h N g capB fg _ fc i k _ cap ao jx hjx y1 y2 yk _ _ _ _ c7 w _ _ _ _ ENV cS hcI hl hN hiN hk hfl hh hg hfg hgf
  · by_cases yk : y1 = 2
    · obtain ⟨jy, rfl, hjy⟩ := RY yk
      subst yk
      exact stored_nr h N g capB fg _ fc i k _ cap ao x1 x2 xk jy hjy _ _ _ _ w _ _ _ _ ENV cS hcI hl hN hiN hk hfl hh hg hfg hgf
    · exact stored_nn h N g capB fg _ fc i k _ cap ao x1 x2 xk y1 y2 yk _ _ _ _ w _ _ _ _ ENV cS hcI hl hN hiN hk hfl hh hg hfg hgf

end Go.Proofs.Ytblekkjamemloaa
