import Derived.Test.YteekoiljkklnmaaGreatDoorDumpsB5
/- OUR OWN. The document's heap: free, exact. -/
namespace Go.Proofs.YteekoiljkklnmaaGreatDoor
open Go.RowKit
set_option linter.unusedVariables false
set_option linter.unusedSimpArgs false

theorem SortRel.vB {but : Int} {m : RefM} : ∀ {k : Nat} {m' : RefM}, SortRel but m k m' → m'.vB = m.vB := by
  intro k
  induction k with
  | zero => intro m' h; rw [show m' = m from h]
  | succ k ih =>
    rintro m' ⟨m1, h1, ⟨_, v, rfl⟩ | ⟨_, rfl⟩⟩
    · have := ih h1; exact this
    · exact ih h1
theorem EnterRel.vB {but : Int} {m m' : RefM} {N : Nat} (h : EnterRel but m N m') : m'.vB = m.vB := by
  unfold EnterRel at h
  split at h
  · exact h.vB
  · rw [h]
theorem alike_obj {m m' : RefM} (a : Alikeq m m') {i : Nat} {o : RObj} (h : m.objs[i]? = some o) : ∃ o', m'.objs[i]? = some o' ∧ o'.vF = o.vF ∧ o'.fs = o.fs ∧ o'.here = o.here ∧ o'.stuck = o.stuck := by
  have e := congrArg (fun l => l[i]?) a.objs
  simp only [List.getElem?_map, h] at e
  cases h' : m'.objs[i]? with
  | none => rw [h'] at e; cases e
  | some o' =>
    rw [h'] at e
    simp [RObj.strip] at e
    exact ⟨o', rfl, e.2.1, e.2.2.1, e.1, e.2.2.2⟩

/-- the blocks' row and an object's fields lie apart -/
theorem RPre.apart {h N : Nat} {w : World} {m : RefM} (p : RPre h N w m) {i : Nat} {o : RObj} (hi : m.objs[i]? = some o) {g fg : Nat} (hg : m.vB.ownBlock = some g) (hf : o.vF.ownBlock = some fg) : fg ≠ g ∧ fg ≠ h := by
  have hap := List.nodup_cons.1 p.r.rowsAt.apart
  have h1 : m.rows[0]? = some ⟨54, 4, m.vB, m.objs.length, m.objs.flatMap RObj.cells⟩ := rfl
  have h2 : m.rows[4 + i]? = some o.row := by
    simp only [RefM.rows, show 4 + i = i + 1 + 1 + 1 + 1 by omega, List.getElem?_cons_succ, List.getElem?_map, hi]; rfl
  refine ⟨fun e => ?_, fun e => ?_⟩
  · subst e
    have := filterMap_idx SRow.ob m.rows hap.2 0 (4 + i) _ _ fg h1 h2 hg hf
    omega
  · subst e
    exact p.r.ne (List.mem_of_getElem? h2) hf

/-! ### What letting go does, by cases -/
theorem letGo_not {z : Int} {b k : Nat} {s : St} (h : ((s.ob b).fs.getD k (0, 0)).1 ≠ 2) : letGo z b k s = s.field b k (0, 0) := by unfold letGo; exact if_pos h
theorem letGo_held {z : Int} {b k : Nat} {s : St} {i : Nat} (h : (s.ob b).fs.getD k (0, 0) = (2, (i : Int))) (hc : 0 < (s.field b k (0, 0)).count i ∨ ((s.field b k (0, 0)).ob i).stuck = true) : letGo z b k s = s.field b k (0, 0) := by
  unfold letGo; rw [h]; exact (if_neg (by simp)).trans (if_pos hc)
theorem letGo_root {z : Int} {b k : Nat} {s : St} {i : Nat} (h : (s.ob b).fs.getD k (0, 0) = (2, (i : Int))) (hc : (s.field b k (0, 0)).count i = 0) (hs : ((s.field b k (0, 0)).ob i).stuck = false) (hr : (s.field b k (0, 0)).rooted i = true) :
    letGo z b k s = (s.field b k (0, 0)).enter z i := by
  unfold letGo; rw [h]
  refine (if_neg (by simp)).trans ((if_neg ?_).trans (if_pos hr))
  rintro (h1 | h1)
  · have h2 : 0 < (s.field b k (0, 0)).count i := h1
    omega
  · have h2 : ((s.field b k (0, 0)).ob i).stuck = true := h1
    rw [hs] at h2; cases h2
theorem letGo_queue {z : Int} {b k : Nat} {s : St} {i : Nat} (h : (s.ob b).fs.getD k (0, 0) = (2, (i : Int))) (hc : (s.field b k (0, 0)).count i = 0) (hs : ((s.field b k (0, 0)).ob i).stuck = false) (hr : (s.field b k (0, 0)).rooted i = false) :
    letGo z b k s = (s.field b k (0, 0)).enq i := by
  unfold letGo; rw [h]
  refine (if_neg (by simp)).trans ((if_neg ?_).trans ((if_neg ?_).trans ?_))
  · rintro (h1 | h1)
    · have h2 : 0 < (s.field b k (0, 0)).count i := h1
      omega
    · have h2 : ((s.field b k (0, 0)).ob i).stuck = true := h1
      rw [hs] at h2; cases h2
  · intro h1
    have h2 : (s.field b k (0, 0)).rooted i = true := h1
    rw [hr] at h2; cases h2
  · rfl

/-- the heap in the midst of it: the object in block b has its fields where they were -/
structure Fr (h N : Nat) (w : World) (m : RefM) (b : Nat) (vF : Value) (fl : Nat) (s : St) (W : World) (m1 : RefM) : Prop where
  pre : RPre h N W m1
  step : RStep h N w m W m1
  st : m1.st = s
  vB : m1.vB = m.vB
  obj : ∃ o, m1.objs[b]? = some o ∧ o.vF = vF ∧ o.fs.length = fl
theorem Fr.below {h N : Nat} {w W W' : World} {m m1 : RefM} {b fl : Nat} {vF : Value} {s : St} (t : Fr h N w m b vF fl s W m1) (hb : Below W.heap.size W W') : Fr h N w m b vF fl s W' m1 := ⟨t.pre.below hb, t.step.after hb, t.st, t.vB, t.obj⟩
theorem Fr.zero {h N : Nat} {w W : World} {m m1 : RefM} {b fl : Nat} {vF : Value} {s : St} (t : Fr h N w m b vF fl s W m1) : m1.zero = m.zero := congrArg Cf.zero t.step.cf

/-- an object in the block of which the state says so -/
theorem st_obj {m : RefM} {i : Nat} (h : (m.st.ob i).here = true) : ∃ o, m.objs[i]? = some o ∧ o.ob = m.st.ob i := by
  cases e : m.objs[i]? with
  | none => rw [st_ob_none e] at h; cases h
  | some o => exact ⟨o, rfl, (st_ob e).symm⟩

theorem win_tail {w : World} {g off n cap : Nat} {x : Value} {xs : List Value} {e : TypeId} (h : ownsWin w e (.slice (some ⟨g, off, none⟩) (n + 1) cap) (n + 1) (x :: xs)) (off' : Nat) (ho : off' = off + 1 ∨ (cap = 1 ∧ off' = off)) :
    ownsWin w e (.slice (some ⟨g, off', none⟩) n (cap - 1)) n xs := by
  rcases h.2 with ⟨hv, _⟩ | ⟨g', off1, cap', cur, hv, h1, h2, h3, h4, h5⟩
  · cases hv
  · simp at hv
    obtain ⟨⟨rfl, rfl⟩, rfl⟩ := hv
    have hl := h.1
    simp at hl
    refine ⟨hl, .inr ⟨g, off', cap - 1, cur, rfl, h1, by omega, by omega, by omega, fun j u hu => ?_⟩⟩
    have hj : j < xs.length := (List.getElem?_eq_some_iff.1 hu).1
    rcases ho with rfl | ⟨hc, _⟩
    · have := h5 (j + 1) u (by simpa using hu)
      rw [show off + 1 + j = off + (j + 1) by omega]; exact this
    · omega

theorem countP_unset {l : List RObj} {i : Nat} {o o' : RObj} (h : l[i]? = some o) (hq : o.queued = true) (hq' : o'.queued = false) : (l.set i o').countP RObj.queued + 1 = l.countP RObj.queued := by
  induction l generalizing i with
  | nil => simp at h
  | cons a l ih =>
    cases i with
    | zero => simp at h; subst h; simp [List.countP_cons, hq, hq']
    | succ i => simp at h; rw [List.set_cons_succ, List.countP_cons, List.countP_cons]; have := ih h; omega

/-- the first of the queue leaves it, its block is free -/
theorem RStep.leave {h N : Nat} {W : World} {m : RefM} (p : RPre h N W m) {g capB b qg qo ql qc qo' : Nat} (hvB : m.vB = .slice (some ⟨g, 0, none⟩) (N + 1) capB) {o : RObj} (hi : m.objs[b]? = some o) (hq : o.queued = true) {q : List Int} (hqe : m.queue = (b : Int) :: q)
    (hvQ : m.vQ = .slice (some ⟨qg, qo, none⟩) (ql + 1) qc) (hql : m.queue.length = ql + 1) (ho : qo' = qo + 1 ∨ (qc = 1 ∧ qo' = qo)) :
    ∃ m', RStep h N W m ((layObj W g b noObj).setCell ⟨h, 6, none⟩ (.slice (some ⟨qg, qo', none⟩) ql (qc - 1))) m' ∧ m'.st = m.st.leave b ∧ m'.vB = m.vB := by
  have t1 : Turn h W m (layObj W g b noObj) (m.put b noObj) := p.r.placed p.ok (Below.refl _ _) hvB b hi noObj (World.ownsRow_nil _ _ _ _) (fun x hx => by cases hx)
  have r1 := t1.here
  have hw : ownsWin (layObj W g b noObj) 3 (.slice (some ⟨qg, qo, none⟩) (ql + 1) qc) (ql + 1) (.int .i64 (b : Int) :: q.map (Value.int .i64)) := by
    have := r1.queue
    have e1 : (m.put b noObj).vQ = .slice (some ⟨qg, qo, none⟩) (ql + 1) qc := hvQ
    have e2 : (m.put b noObj).queue = (b : Int) :: q := hqe
    have e3 : (m.put b noObj).queue.length = ql + 1 := hql
    rw [e3, e1, e2] at this
    exact this
  have hw' := win_tail hw qo' ho
  have hl : q.length = ql := by rw [hqe] at hql; simpa using hql
  have t2 := r1.requeued (w1 := layObj W g b noObj) (.slice (some ⟨qg, qo', none⟩) ql (qc - 1)) q (by rw [hl]; exact hw') (Off.refl _ _) (fun x hx => .inl (by
    have e1 : (m.put b noObj).vQ = .slice (some ⟨qg, qo, none⟩) (ql + 1) qc := hvQ
    rw [e1]; exact hx))
  refine ⟨_, ⟨t1.trans t2, ⟨p.ok.most, by simp [RefM.put, p.ok.len], p.ok.small, fun x hx => ?_, p.ok.stack, p.ok.globals, ?_⟩, rfl, fun x hx hf => ?_⟩, ?_, rfl⟩
  · rcases List.mem_or_eq_of_mem_set hx with e | e
    · exact p.ok.fields x e
    · subst e; simp [noObj]
  · show q.length ≤ (m.objs.set b noObj).countP RObj.queued
    have := countP_unset (o' := noObj) hi hq rfl
    have := p.ok.queue
    omega
  · rcases List.mem_or_eq_of_mem_set hx with e | e
    · exact p.clean x e hf
    · subst e; rfl
  · have e1 : (m.put b noObj).st = m.st.put b Ob.free := put_st m b noObj
    unfold St.leave
    have e2 : m.st.queue = (b : Int) :: q := hqe
    rw [e2]
    show (⟨m.stack, m.globals, (m.objs.set b noObj).map RObj.ob, q⟩ : St) = ⟨m.stack, m.globals, (m.objs.map RObj.ob).set b Ob.free, q⟩
    rw [List.map_set]; rfl

theorem free_any {h N : Nat} {w : World} {m : RefM} (p : RPre h N w m) (gd : m.st.Good N) (hq : m.queue.length ≠ 0) :
    Calls Tryz.prog 34 #[.pointer (some ⟨h, 0, none⟩)] w fun e w' => e = .returned (.tuple #[]) ∧ ∃ m', RStep h N w m w' m' ∧ m'.st = m.st.free m.zero ∧ m'.vB = m.vB := by
  obtain ⟨q, hqe⟩ := gd.first hq
  obtain ⟨b, hb⟩ : ∃ b, m.st.first = b := ⟨_, rfl⟩
  rw [hb] at hqe
  have hqd : (m.st.ob b).queued = true := (gd.inq b).1 (by rw [hqe]; simp)
  have hh : (m.st.ob b).here = true := by
    cases e : (m.st.ob b).here with
    | true => rfl
    | false => rw [gd.gone b e] at hqd; cases hqd
  have hbN := gd.ne_zero hh
  obtain ⟨o, ho, hoo⟩ := st_obj hh
  have hbl : b < m.objs.length := (List.getElem?_eq_some_iff.1 ho).1
  have hom : o ∈ m.objs := List.mem_of_getElem? ho
  obtain ⟨ao, fc, hvF⟩ := own_slice (p.r.fields o hom)
  obtain ⟨g, capB, hvB, hg, hgh, hgo, hfz, hobj⟩ := p.r.view p.ok
  obtain ⟨fl, hfl⟩ : ∃ fl, o.fs.length = fl := ⟨_, rfl⟩
  have hfs : (m.st.ob b).fs = o.fs := by rw [← hoo]; rfl
  obtain ⟨S, hS⟩ : ∃ S : Nat → St, S = fun j => letTo m.zero b m.st j := ⟨_, rfl⟩
  have gS : ∀ j, (S j).Good N := fun j => by rw [hS]; exact gd.letTo _ _ _
  have S0 : S 0 = m.st := by rw [hS]; rfl
  have S1 : ∀ j, S (j + 1) = letGo m.zero b j (S j) := fun j => by rw [hS]; rfl
  have target : m.st.free m.zero = (S fl).leave b := by
    unfold St.free
    rw [hb, hfs, hfl, hS]
  rw [target]
  obtain ⟨qg0, qo0, qc0, hvQ0, _, _, hqc0, hqcell0, _⟩ := win_view p.r.queue (by omega)
  obtain ⟨ql0, hql0⟩ : ∃ ql0, m.queue.length = ql0 + 1 := ⟨m.queue.length - 1, by omega⟩
  have VIEW : ∀ (s : St) W m1, Fr h N w m b o.vF fl s W m1 → W.cell? ⟨h, 5, none⟩ = some (.slice (some ⟨g, 0, none⟩) (N + 1) capB) ∧ g < W.heap.size ∧ (∀ j, W.frozen? ⟨g, j, none⟩ = false) ∧ (∀ i (hi : i < m1.objs.length), W.cell? ⟨g, i * 4, none⟩ = some (.bool (m1.objs[i]).here) ∧ W.cell? ⟨g, i * 4 + 1, none⟩ = some (m1.objs[i]).vF ∧
      W.cell? ⟨g, i * 4 + 2, none⟩ = some (.bool (m1.objs[i]).stuck) ∧ W.cell? ⟨g, i * 4 + 3, none⟩ = some (.bool (m1.objs[i]).queued)) := by
    intro s W m1 t
    obtain ⟨g', capB', hvB', hg', _, _, hfz', hobj'⟩ := t.pre.r.view t.pre.ok
    have e1 : (Value.slice (some ⟨g', 0, none⟩) (N + 1) capB') = .slice (some ⟨g, 0, none⟩) (N + 1) capB := hvB'.symm.trans (t.vB.trans hvB)
    simp at e1
    obtain ⟨rfl, rfl⟩ := e1
    exact ⟨by rw [t.pre.r.cell.2.2.2.2.2.1, hvB'], hg', hfz', hobj'⟩
  have OBJ : ∀ (s : St) W m1, Fr h N w m b o.vF fl s W m1 → W.cell? ⟨g, b * 4 + 1, none⟩ = some (.slice ao fl fc) := by
    intro s W m1 t
    obtain ⟨o1, h1, h2, h3⟩ := t.obj
    have hl : b < m1.objs.length := (List.getElem?_eq_some_iff.1 h1).1
    have e : m1.objs[b] = o1 := (List.getElem?_eq_some_iff.1 h1).2
    rw [((VIEW s W m1 t).2.2.2 b hl).2.1, e, h2, hvF, hfl]
  have ENV : FreeEnv h N g capB fl fc b ao (fun j W => ∃ m1, Fr h N w m b o.vF fl (S j) W m1) (fun j y1 y2 W => ∃ m2, Fr h N w m b o.vF fl ((S j).field b j (0, 0)) W m2 ∧ ((S j).ob b).fs.getD j (0, 0) = (y1, y2))
      (fun W => ∃ m', RStep h N w m W m' ∧ m'.st = (S fl).leave b ∧ m'.vB = m.vB) := by
    refine ⟨?_, ?_, ?_, ?_, ?_, ?_, ?_, ?_⟩
    · rintro j W W' ⟨m1, t⟩ hbl; exact ⟨m1, t.below hbl⟩
    · rintro j W ⟨m1, t⟩; exact ⟨lt_of_heap t.pre.r.head, (VIEW _ W m1 t).2.1⟩
    · rintro j W ⟨m1, t⟩; exact ⟨(VIEW _ W m1 t).1, OBJ _ W m1 t⟩
    · rintro j W ⟨m1, t⟩ hj
      obtain ⟨o1, h1, h2, h3⟩ := t.obj
      have hj1 : j < o1.fs.length := by omega
      obtain ⟨g', capB', fg, fc', hvB', hvF', hg', hfg, a1, a2, a3, a4, a5, a6⟩ := t.pre.facts b o1 h1 j hj1
      have e1 : (Value.slice (some ⟨g', 0, none⟩) (N + 1) capB') = .slice (some ⟨g, 0, none⟩) (N + 1) capB := hvB'.symm.trans (t.vB.trans hvB)
      simp at e1
      obtain ⟨rfl, rfl⟩ := e1
      have e2 : (Value.slice (some ⟨fg, 0, none⟩) o1.fs.length fc') = .slice ao o.fs.length fc := hvF'.symm.trans (h2.trans hvF)
      simp at e2
      obtain ⟨e2, _, rfl⟩ := e2
      obtain ⟨ne1, ne2⟩ := t.pre.apart h1 (by rw [hvB']; rfl) (by rw [hvF']; rfl)
      refine ⟨fg, (o1.fs[j]).1, (o1.fs[j]).2, e2.symm, hfg, ne2, ne1, a3, a4, a5, a6, fun W' hbl => ?_⟩
      obtain ⟨s1, p1, st1⟩ := RStep.field (t.pre.below hbl) b h1 hvF' j hj1 (0, 0) (.inl rfl)
      refine ⟨_, ⟨p1, (t.step.after hbl).trans s1, ?_, t.vB, ?_⟩, ?_⟩
      · rw [st1, t.st]
      · have hl : b < m1.objs.length := (List.getElem?_eq_some_iff.1 h1).1
        exact ⟨{ o1 with fs := o1.fs.set j (0, 0) }, by simp [RefM.put, hl], h2, by simpa using h3⟩
      · rw [← t.st, st_ob h1]
        show o1.fs.getD j (0, 0) = _
        rw [List.getD_eq_getElem?_getD, List.getElem?_eq_getElem hj1]; rfl
    · rintro j y1 y2 W W' ⟨m2, t, hy⟩ hbl; exact ⟨m2, t.below hbl, hy⟩
    · rintro j y1 y2 W ⟨m2, t, hy⟩ hne
      refine ⟨m2, ?_⟩
      rw [S1, letGo_not (by rw [hy]; exact hne)]; exact t
    · rintro j y2 W ⟨m2, t, hy⟩
      have hlead : ((S j).field b j (0, 0)).leads (2, y2) := leads_put (i := b) (o := { (S j).ob b with fs := ((S j).ob b).fs.set j (0, 0) }) rfl rfl (by rw [← hy]; exact leads_getD ((gS j).fields b) j)
      obtain ⟨i, hi, ha⟩ := leads_ref hlead rfl
      have hi' : y2 = i := hi
      subst hi'
      rw [← t.st] at ha
      have g2 : m2.st.Good N := by rw [t.st]; exact (gS j).setField b j (.inl rfl)
      have hiN := g2.ne_zero ha.1
      obtain ⟨oi, hoi, hoo2⟩ := st_obj ha.1
      have hil : i < m2.objs.length := (List.getElem?_eq_some_iff.1 hoi).1
      have eoi : m2.objs[i] = oi := (List.getElem?_eq_some_iff.1 hoi).2
      have hstk : oi.stuck = (m2.st.ob i).stuck := by rw [← hoo2]; rfl
      have hqi : oi.queued = false := by have : (oi.ob).queued = false := by rw [hoo2]; exact ha.2
                                         exact this
      refine ⟨i, m2.st.count i, (m2.st.ob i).stuck, m2.st.rooted i, hiN.2, rfl, (VIEW _ W m2 t).1, ?_, ?_, ?_, ?_, ?_, ?_, ?_⟩
      · rw [((VIEW _ W m2 t).2.2.2 i hil).2.2.1, eoi, hstk]
      · rw [st_count]; exact count_any t.pre.r t.pre.ok i
      · intro hc
        exact ⟨m2, by rw [S1, letGo_held hy (.inl (by rw [← t.st]; exact hc))]; exact t⟩
      · intro hc
        exact ⟨m2, by rw [S1, letGo_held hy (.inr (by rw [← t.st]; exact hc))]; exact t⟩
      · intro W' hbl
        exact rooted_any (t.below hbl).pre.r t.pre.ok i
      · intro W' hbl hc hs hr
        have t' := t.below hbl
        refine (enter_any t'.pre.r t'.pre.ok (i : Int)).mono ?_
        rintro e w' ⟨he, m3, hE, hT, hok⟩
        obtain ⟨s3, st3⟩ := RStep.enter t'.pre hE hT hok
        have st4 : m3.st = S (j + 1) := by
          rw [S1, letGo_root hy (by rw [← t.st]; exact hc) (by rw [← t.st]; exact hs) (by rw [← t.st]; exact hr), st3, t.zero, t.st]
        obtain ⟨o2, h1, h2, h3⟩ := t.obj
        obtain ⟨o3, k1, k2, k3, _, _⟩ := alike_obj hE.alike h1
        exact ⟨he, m3, s3.pre t'.pre (by rw [st4]; exact (gS (j + 1)).inv), t'.step.trans s3, st4, hE.vB.trans t.vB, ⟨o3, k1, k2.trans h2, by rw [k3]; exact h3⟩⟩
      · intro W' hbl hc hs hr
        have t' := t.below hbl
        refine (queued_any t'.pre.r t'.pre.ok i hiN.2).mono ?_
        rintro e w' ⟨he, v', hT⟩
        have hwait : m2.waitsB i = true := by
          rw [← st_waits]
          exact waits_iff.2 ⟨ha, hs, hc⟩
        have st4 : (m2.enq i v').st = S (j + 1) := by
          rw [S1, letGo_queue hy (by rw [← t.st]; exact hc) (by rw [← t.st]; exact hs) (by rw [← t.st]; exact hr), enq_st, t.st]
        have s3 : RStep h N W' m2 w' (m2.enq i v') := ⟨hT, t.pre.ok.enq hoi hqi v', rfl, clean_enq t.pre.clean hwait⟩
        obtain ⟨o2, h1, h2, h3⟩ := t.obj
        obtain ⟨o3, k1, k2, k3, _, _⟩ := alike_obj (alikeq_enq m2 i v') h1
        exact ⟨he, m2.enq i v', s3.pre t'.pre (by rw [st4]; exact (gS (j + 1)).inv), t'.step.trans s3, st4, t.vB, ⟨o3, k1, k2.trans h2, by rw [k3]; exact h3⟩⟩
    · rintro W ⟨m1, t⟩
      obtain ⟨_, _, _, q', hq'⟩ := letTo_same m.zero b m.st fl
      have hqm : m1.queue = (b : Int) :: (q ++ q') := by
        have : m1.st.queue = (b : Int) :: (q ++ q') := by rw [t.st, hS]; show (letTo m.zero b m.st fl).queue = _; rw [hq', hqe]; simp
        exact this
      obtain ⟨o1, h1, h2, h3⟩ := t.obj
      have hl : b < m1.objs.length := (List.getElem?_eq_some_iff.1 h1).1
      have eo : m1.objs[b] = o1 := (List.getElem?_eq_some_iff.1 h1).2
      have hqd1 : o1.queued = true := by
        have := ((gS fl).inq b).1 (by rw [← t.st]; show (b : Int) ∈ m1.queue; rw [hqm]; simp)
        rw [← t.st, st_ob h1] at this
        exact this
      obtain ⟨ql, hql⟩ : ∃ ql, m1.queue.length = ql + 1 := ⟨(q ++ q').length, by rw [hqm]; rfl⟩
      have hw := t.pre.r.queue
      obtain ⟨qg, qo, qc, hvQ, _, _, hqc, _, _⟩ := win_view hw (by omega)
      have hmax : qc ≤ maxLen := by
        rcases hw.2 with ⟨hn, _⟩ | ⟨g', off', cap', cur, hn, _, _, hx, _⟩
        · rw [hvQ] at hn; cases hn
        · rw [hvQ] at hn; simp at hn; rw [hn.2]; exact hx
      rw [hql] at hvQ hqc
      obtain ⟨v1, v2, v3, v4⟩ := VIEW _ W m1 t
      obtain ⟨d0, d1, d2, d3⟩ := v4 b hl
      refine ⟨qg, qo, ql, qc, _, _, _, _, by rw [t.pre.r.cell.2.2.2.2.2.2.1, hvQ], hqc, hmax, d0, d1, d2, d3, v3, frozen_of_heap t.pre.r.head, fun W' qo' hqo hW' W'' hbl => ?_⟩
      obtain ⟨m', s', st', vb'⟩ := RStep.leave t.pre (t.vB.trans hvB) h1 hqd1 hqm hvQ hql hqo
      rw [← hW'] at s'
      exact ⟨m', (t.step.trans s').after hbl, by rw [st', t.st], vb'.trans t.vB⟩
  refine free_walk h N g capB fl fc b qg0 qo0 ql0 qc0 ao w _ _ _ ENV ?_ ?_ ?_ p.ok.small hbN.2 ?_ hgh
  · rw [p.r.cell.2.2.2.2.2.2.1, hvQ0, hql0]
  · have := hqcell0 0 (.int .i64 b) (by
      have e : m.queue = (b : Int) :: q := hqe
      rw [e]; rfl)
    simpa using this
  · exact ⟨m, ⟨p, .refl p, S0.symm, rfl, ⟨o, ho, rfl, hfl⟩⟩⟩
  · rw [← hfl]; exact p.ok.fields o hom

end Go.Proofs.YteekoiljkklnmaaGreatDoor

/- OUR OWN. The document's heap: Safepoint, exact. -/
namespace Go.Proofs.YteekoiljkklnmaaGreatDoor
open Go.RowKit
set_option linter.unusedVariables false
set_option linter.unusedSimpArgs false

theorem sort_do {h N : Nat} {w : World} {m : RefM} (p : RPre h N w m) (but : Int) :
    Calls Tryz.prog 33 #[.pointer (some ⟨h, 0, none⟩), .int .i64 but] w fun e w' => e = .returned (.tuple #[]) ∧ ∃ m', RStep h N w m w' m' ∧ m'.st = m.st.sort but := by
  refine (sort_any p.r p.ok but).mono ?_
  rintro e w' ⟨he, m', hS, hT, hok⟩
  refine ⟨he, m', ⟨hT, hok, hS.alike.cf, hS.clean p.clean⟩, ?_⟩
  rw [hS.st]; unfold St.sort; rw [st_N p.ok]

/-- in the midst of a safepoint: j are freed -/
structure Sf (h N : Nat) (w : World) (m : RefM) (B : Nat) (fin : St × Nat) (j : Nat) (W : World) (m1 : RefM) : Prop where
  pre : RPre h N W m1
  step : RStep h N w m W m1
  good : m1.st.Good N
  le : j ≤ B
  st : (safeN m.zero (B - j) m1.st).1 = fin.1
  n : (safeN m.zero (B - j) m1.st).2 + j = fin.2

theorem Sf.done {h N : Nat} {w : World} {m : RefM} {B : Nat} {fin : St × Nat} {j : Nat} {W : World} {m1 : RefM} (t : Sf h N w m B fin j W m1) (hd : ¬ (j < B ∧ m1.queue.length ≠ 0)) : m1.st = fin.1 ∧ j = fin.2 := by
  have e : safeN m.zero (B - j) m1.st = (m1.st, 0) := by
    cases k : B - j with
    | zero => rfl
    | succ k => unfold safeN; exact if_pos (by show m1.queue.length = 0; have : j < B := by omega
                                               exact Classical.byContradiction fun hn => hd ⟨this, hn⟩)
  have h1 := t.st
  have h2 := t.n
  rw [e] at h1 h2
  exact ⟨h1, by simpa using h2⟩
theorem Sf.next {h N : Nat} {w : World} {m : RefM} {B : Nat} {fin : St × Nat} {j : Nat} {W W' : World} {m1 m2 : RefM} (t : Sf h N w m B fin j W m1) (hj : j < B) (hq : m1.queue.length ≠ 0) (s : RStep h N W m1 W' m2) (st : m2.st = m1.st.free m1.zero) : Sf h N w m B fin (j + 1) W' m2 := by
  have hz : m1.zero = m.zero := congrArg Cf.zero t.step.cf
  have g2 : m2.st.Good N := by rw [st]; exact t.good.freed _ hq
  have e : safeN m.zero (B - j) m1.st = ((safeN m.zero (B - (j + 1)) m2.st).1, (safeN m.zero (B - (j + 1)) m2.st).2 + 1) := by
    rw [show B - j = (B - (j + 1)) + 1 by omega, st, hz]
    show safeN m.zero (B - (j + 1) + 1) m1.st = _
    conv => lhs; unfold safeN
    exact if_neg hq
  have h1 := t.st
  have h2 := t.n
  rw [e] at h1 h2
  have h3 : (safeN m.zero (B - (j + 1)) m2.st).2 + 1 + j = fin.2 := h2
  exact ⟨s.pre t.pre g2.inv, t.step.trans s, g2, hj, h1, by omega⟩

set_option maxHeartbeats 1600000 in
theorem safe_any {h N : Nat} {w : World} {m : RefM} (p : RPre h N w m) (gd : m.st.Good N) (hbd : m.budget ≤ 99) :
    Calls Tryz.prog 19 #[.pointer (some ⟨h, 0, none⟩)] w fun e w' => e = .returned (.int .i64 (m.st.safe m.cf).2) ∧ ∃ m', RStep h N w m w' m' ∧ m'.st = (m.st.safe m.cf).1 := by
  obtain ⟨B, hB⟩ : ∃ B, m.budget.toNat = B := ⟨_, rfl⟩
  obtain ⟨fin, hfin⟩ : ∃ fin, m.st.safe m.cf = fin := ⟨_, rfl⟩
  have SORT : Hid (Calls Tryz.prog 33 #[.pointer (some ⟨h, 0, none⟩), .int .i64 0] w fun e w' => e = .returned (.tuple #[]) ∧ ∃ m', Sf h N w m B fin 0 w' m') := by
    refine (sort_do p 0).mono ?_
    rintro e w' ⟨he, m', s, st⟩
    have g' : m'.st.Good N := by rw [st]; exact gd.sort 0
    have e : fin = safeN m.zero B (m.st.sort 0) := by rw [← hfin, ← hB]; rfl
    exact ⟨he, m', s.pre p g'.inv, s, g', Nat.zero_le _, by rw [Nat.sub_zero, st, e], by rw [Nat.sub_zero, st, e]; rfl⟩
  rw [hfin]
  have FACT : Hid (∀ j W m1, Sf h N w m B fin j W m1 → W.cell? ⟨h, 2, none⟩ = some (.int .i64 m.budget) ∧ ∃ ao cp, W.cell? ⟨h, 6, none⟩ = some (.slice ao m1.queue.length cp)) := fun j W m1 t => by
    have hb : m1.budget = m.budget := congrArg Cf.budget t.step.cf
    obtain ⟨ao, cp, hv⟩ := win_slice t.pre.r.queue
    exact ⟨by rw [t.pre.r.cell.2.2.1, hb], ao, cp, by rw [t.pre.r.cell.2.2.2.2.2.2.1, hv]⟩
  have FREE : Hid (∀ j W m1, Sf h N w m B fin j W m1 → j < B → m1.queue.length ≠ 0 → ∀ W1, Below W.heap.size W W1 → Calls Tryz.prog 34 #[.pointer (some ⟨h, 0, none⟩)] W1 fun e w' => e = .returned (.tuple #[]) ∧ ∃ m2, Sf h N w m B fin (j + 1) w' m2) := fun j W m1 t hj hq W1 hb => by
    refine (free_any (t.pre.below hb) t.good hq).mono ?_
    rintro e w' ⟨he, m2, s, st, _⟩
    exact ⟨he, m2, Sf.next ⟨t.pre.below hb, t.step.after hb, t.good, t.le, t.st, t.n⟩ hj hq s st⟩
  obtain ⟨bud, hbud⟩ : ∃ bud, m.budget = bud := ⟨_, rfl⟩
  rw [hbud] at hbd hB FACT
  have LT : Hid (∀ j : Nat, ((j : Int) < bud ↔ j < B)) := fun j => by omega
  have hB99 : B ≤ 99 := by omega
  have LEN : Hid (∀ W m1, RefAt W h m1 → m1.Ok N → m1.queue.length ≤ 100) := fun W m1 r ok => by
    have h1 := ok.queue
    have h2 : m1.objs.countP RObj.queued ≤ m1.objs.length := List.countP_le_length
    have := ok.len; have := ok.small; omega
  clear p gd hfin hbud hB
  go_enter Tryz.func19, Tryz.ntmps19
  go_wp2_with fail
  refine SORT.out.mono ?_
  rintro e w1 ⟨rfl, m1, t1⟩
  have T1 : Hid (Sf h N w m B fin 0 w1 m1) := t1
  clear t1 SORT
  go_wp2
  go_loopw [3] (fun i wr => ∃ (j : Nat) (m1 : RefM), i = .int .i64 j ∧ Sf h N w m B fin j wr m1) (fun i _ => B - (intOf i).toNat)
  case atStart => exact ⟨0, m1, rfl, T1.out⟩
  case round =>
    obtain ⟨j, m2, rfl, t⟩ := hrel
    have T : Hid (Sf h N w m B fin j wr m2) := t
    have hjB := t.le
    have hql := LEN.out wr m2 t.pre.r t.pre.ok
    obtain ⟨c2, ao, cp, c6⟩ := FACT.out j wr m2 t
    obtain ⟨ql, hqe⟩ : ∃ ql, m2.queue.length = ql := ⟨_, rfl⟩
    rw [hqe] at c6 hql
    have QE : Hid (m2.queue.length = ql) := hqe
    clear t hqe T1
    by_cases hj : j < B
    · have hjI : (j : Int) < bud := (LT.out j).2 hj
      have hjd : decide ((j : Int) < bud) = true := by simpa using hjI
      by_cases hq : ql = 0
      · have hqI : ¬ (0 : Int) < ql := by omega
        have hqd : decide ((0 : Int) < ql) = false := by simpa using hqI
        have R : Hid (m2.st = fin.1 ∧ j = fin.2) := T.out.done fun h2 => h2.2 (by rw [QE.out]; exact hq)
        go_wp2
        go_ret
        exact ⟨ret_int (congrArg Int.ofNat R.out.2), m2, T.out.step, R.out.1⟩
      · have hqI : (0 : Int) < ql := by omega
        have hqd : decide ((0 : Int) < ql) = true := by simpa using hqI
        have F : Hid _ := FREE.out j wr m2 T.out hj (by rw [QE.out]; exact hq) wr (Below.refl _ _)
        go_wp2_with fail
        refine Calls.mono F.out ?_
        rintro e w3 ⟨rfl, m3, t3⟩
        have T3 : Hid (Sf h N w m B fin (j + 1) w3 m3) := t3
        clear t3 F
        go_wp2
        go_roundw
        case rel => exact ⟨j + 1, m3, by go_num, T3.out⟩
        case measure => simp [intOf]; omega
    · have hjI : ¬ (j : Int) < bud := fun hn => hj ((LT.out j).1 hn)
      have hjd : decide ((j : Int) < bud) = false := by simpa using hjI
      have R : Hid (m2.st = fin.1 ∧ j = fin.2) := T.out.done fun h2 => hj h2.1
      go_wp2
      go_ret
      exact ⟨ret_int (congrArg Int.ofNat R.out.2), m2, T.out.step, R.out.1⟩

end Go.Proofs.YteekoiljkklnmaaGreatDoor

