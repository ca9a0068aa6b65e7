import Derived.Test.YtpmkjeihbddfpaaEndlessB1
/- OUR OWN. The document's heap without memory: behind a safepoint only what a root has waits (Freed). -/
namespace Go.Proofs.Ytpmkjeihbddfpaa
set_option linter.unusedVariables false
set_option linter.unusedSimpArgs false

/-- a root has all that wait -/
def Held (s : St) : Prop := ∀ b, s.waits b = true → s.rooted b = true
theorem enter_waits (z but : Int) (s : St) (b : Nat) (h : (s.enter z but).waits b = true) : s.waits b = true := by
  unfold St.enter at h
  split at h
  · unfold St.sort at h
    rw [sortTo_waits] at h
    simp only [Bool.and_eq_true] at h
    exact h.1
  · exact h
theorem held_sort (s : St) {N : Nat} (g : s.Good N) : Held (s.sort 0) := fun b hb => by
  have gs := g.sort 0
  obtain ⟨a1, _, _⟩ := waits_iff.1 hb
  have hz := gs.ne_zero a1.1
  rw [sort_waits hz.1 (by rw [g.sN]; exact hz.2)] at hb
  have e0 : decide ((b : Int) = 0) = false := by simp; omega
  rw [e0] at hb
  simp only [Bool.and_eq_true, Bool.or_false] at hb
  show (sortTo 0 s s.N).rooted b = true
  rw [sortTo_root]; exact hb.2
theorem held_letGo {s : St} {N : Nat} (hd : Held s) (g : s.Good N) (z : Int) {b k : Nat} (hk : k < (s.ob b).fs.length) : Held (letGo z b k s) := by
  have W : ∀ x : Nat, (s.field b k (0, 0)).waits x = true → s.rooted x = true ∨ (((s.ob b).fs.getD k (0, 0)).1 = 2 ∧ ((s.ob b).fs.getD k (0, 0)).2 = x) := fun x hx => by
    rcases field_waits g hk (0, 0) hx with e | e
    · exact .inl (hd x e)
    · exact .inr e
  intro x hx
  rw [letGo_rooted]
  unfold letGo at hx
  split at hx
  · rename_i hr
    rcases W x hx with e | e
    · exact e
    · exact absurd e.1 hr
  · rename_i hr
    have hr2 : ((s.ob b).fs.getD k (0, 0)).1 = 2 := by omega
    obtain ⟨j, hj, ha⟩ := leads_ref (leads_put (s := s) (i := b) (o := { s.ob b with fs := (s.ob b).fs.set k (0, 0) }) rfl rfl (leads_getD (g.fields b) k)) hr2
    split at hx
    · rename_i hc
      rcases W x hx with e | e
      · exact e
      · exfalso
        obtain ⟨_, w2, w3⟩ := waits_iff.1 hx
        rw [e.2, Int.toNat_natCast] at hc
        rcases hc with hc | hc
        · omega
        · rw [w2] at hc; cases hc
    · split at hx
      · rename_i hroot
        rcases W x (enter_waits _ _ _ _ hx) with e | e
        · exact e
        · have hroot' : s.rooted ((s.ob b).fs.getD k (0, 0)).2 = true := hroot
          rw [e.2] at hroot'; exact hroot'
      · rw [hj, Int.toNat_natCast] at hx
        have hl : j < (s.field b k (0, 0)).objs.length := here_lt ha.1
        rw [waits_enq hl] at hx
        by_cases e : x = j
        · rw [if_pos e] at hx; cases hx
        · rw [if_neg e] at hx
          rcases W x hx with e2 | e2
          · exact e2
          · exact absurd (by rw [hj] at e2; omega : x = j) e
theorem held_letTo {s : St} {N : Nat} (hd : Held s) (g : s.Good N) (z : Int) {b : Nat} (hq : (s.ob b).queued = true) (k : Nat) (hk : k ≤ (s.ob b).fs.length) : Held (letTo z b s k) := by
  induction k with
  | zero => exact hd
  | succ k ih =>
    obtain ⟨q1, l1, _, _⟩ := letTo_ob (z := z) g hq k
    exact held_letGo (ih (by omega)) (g.letTo z b k) z (by rw [l1]; omega)
theorem held_free {s : St} {N : Nat} (hd : Held s) (g : s.Good N) (z : Int) (hq : s.queue.length ≠ 0) : Held (s.free z) := by
  have hqd := g.first_queued hq
  have hz := g.ne_zero (g.queued_here hqd)
  have g1 := g.letTo z s.first (s.ob s.first).fs.length
  have h1 := held_letTo hd g z hqd (s.ob s.first).fs.length (Nat.le_refl _)
  have hl : s.first < (letTo z s.first s (s.ob s.first).fs.length).objs.length := by rw [g1.len]; omega
  have eo : ∀ x, (s.free z).ob x = if x = s.first then Ob.free else (letTo z s.first s (s.ob s.first).fs.length).ob x := fun x => getD_set _ _ _ _ hl
  intro x hx
  obtain ⟨a1, a2, a3⟩ := waits_iff.1 hx
  unfold St.alive at a1
  rw [eo] at a1 a2
  by_cases e : x = s.first
  · rw [if_pos e] at a1; cases a1.1
  · rw [if_neg e] at a1 a2
    rw [count_free g hq] at a3
    exact h1 x (waits_iff.2 ⟨a1, a2, a3⟩)
theorem held_safeN {N : Nat} (z : Int) (k : Nat) : ∀ {s : St}, Held s → s.Good N → Held (safeN z k s).1 := by
  induction k with
  | zero => intro s h g; exact h
  | succ k ih =>
    intro s h g
    unfold safeN
    split
    · exact h
    · rename_i hq; exact ih (held_free h g z hq) (g.freed z hq)
/-- behind a safepoint a root has all that wait -/
theorem held_safe {s : St} {N : Nat} (g : s.Good N) (c : Cf) : Held (s.safe c).1 := held_safeN _ _ (held_sort s g) (g.sort 0)

end Go.Proofs.Ytpmkjeihbddfpaa

/- OUR OWN. A new object waits: sorted ahead of it or with it left out, it is the same. -/
namespace Go.Proofs.Ytpmkjeihbddfpaa
set_option linter.unusedVariables false
set_option linter.unusedSimpArgs false

def newOb (n : Nat) : Ob := ⟨true, List.replicate n (0, 0), false, false⟩
theorem put_enq {s : St} {b k : Nat} (o : Ob) (hk : k ≠ b) (hl : b < s.objs.length) : (s.put b o).enq k = (s.enq k).put b o := by
  unfold St.enq
  rw [ob_put o k hl, if_neg hk]
  unfold St.put
  simp only
  rw [List.set_comm _ _ (fun e => hk e.symm)]
theorem lay_others {s : St} {N : Nat} (g : s.Good N) {b n : Nat} (hb : (s.ob b).here = false) (hl : b < s.objs.length) (h1 : 1 ≤ b) {k : Nat} (hk : 1 ≤ k) : (s.put b (newOb n)).others b k = s.others 0 k := by
  unfold St.others St.waits
  rw [ob_put _ k hl]
  have hc : (s.put b (newOb n)).count k = s.count k := count_lay g hb hl h1 k
  by_cases e : k = b
  · subst e; simp [hb]
  · rw [if_neg e, hc]
    have e1 : ((k : Int) ≠ (b : Int)) := by omega
    have e2 : ((k : Int) ≠ 0) := by omega
    rw [decide_eq_true e1, decide_eq_true e2]
theorem lay_sorts {s : St} {N : Nat} (g : s.Good N) {b n : Nat} (hb : (s.ob b).here = false) (hl : b < s.objs.length) (h1 : 1 ≤ b) {k : Nat} (hk : 1 ≤ k) : (s.put b (newOb n)).sorts b k = s.sorts 0 k := by
  have h := lay_others (n := n) g hb hl h1 hk
  unfold St.others at h
  unfold St.sorts
  have hr : (s.put b (newOb n)).rooted k = s.rooted k := rfl
  rw [hr]
  have e : ∀ x y z : Bool, (x && y && z) = (x && z && y) := by decide
  rw [e, h, e]
theorem lay_sortTo {s : St} {N : Nat} (g : s.Good N) {b n : Nat} (hb : (s.ob b).here = false) (hl : b < s.objs.length) (h1 : 1 ≤ b) (k : Nat) : sortTo b (s.put b (newOb n)) k = (sortTo 0 s k).put b (newOb n) := by
  induction k with
  | zero => rfl
  | succ k ih =>
    have gk := g.sortTo 0 k
    have hbk : ((sortTo 0 s k).ob b).here = false := by rw [(sh_sortTo 0 s k).2 b]; exact hb
    have hlk : b < (sortTo 0 s k).objs.length := by rw [(sortTo_same 0 s k).2.2.1]; exact hl
    unfold sortTo
    rw [ih, lay_sorts gk hbk hlk h1 (by omega)]
    split
    · rename_i h
      refine put_enq _ (fun e => ?_) hlk
      obtain ⟨hw, _⟩ := sorts_iff.1 h
      have := (waits_iff.1 hw).1.1
      rw [e, hbk] at this; cases this
    · rfl
theorem lay_enter {s : St} {N : Nat} (g : s.Good N) (z : Int) {b n : Nat} (hb : (s.ob b).here = false) (hl : b < s.objs.length) (h1 : 1 ≤ b) : (s.put b (newOb n)).enter z b = (s.enter z 0).put b (newOb n) := by
  unfold St.enter
  have hc : countTo ((s.put b (newOb n)).others b) (s.put b (newOb n)).N = countTo (s.others 0) s.N := by
    rw [put_N]
    exact countTo_congr fun k hk _ => lay_others g hb hl h1 hk
  rw [hc]
  split
  · unfold St.sort
    rw [put_N]
    exact lay_sortTo g hb hl h1 _
  · rfl

theorem sum_le {l : List Nat} {k : Nat} (h : ∀ x ∈ l, x ≤ k) : l.sum ≤ k * l.length := by
  induction l with
  | nil => simp
  | cons a l ih =>
    rw [List.sum_cons, List.length_cons, Nat.mul_succ]
    have := h a (by simp)
    have := ih fun x hx => h x (List.mem_cons_of_mem _ hx)
    omega
theorem St.Good.count_le {s : St} {N : Nat} (g : s.Good N) (b : Int) : s.count b ≤ 4 * N := by
  unfold St.count
  have h := sum_le (l := s.objs.tail.map (obCount b)) (k := 4) fun x hx => by
    obtain ⟨o, ho, rfl⟩ := List.mem_map.1 hx
    obtain ⟨i, _, _, rfl⟩ := ob_tail.1 ho
    have h4 := g.four i
    unfold obCount
    split
    · exact Nat.le_trans List.countP_le_length h4
    · omega
  have hl : (s.objs.tail.map (obCount b)).length = N := by rw [List.length_map, List.length_tail, g.len]; rfl
  rw [hl] at h
  exact h

end Go.Proofs.Ytpmkjeihbddfpaa

/- OUR OWN. Freeing the first of the queue, by cases: without memory. -/
namespace Go.Proofs.Ytpmkjeihbddfpaa
set_option linter.unusedVariables false
set_option linter.unusedSimpArgs false

theorem letGo_not {z : Int} {b k : Nat} {s : St} (h : ((s.ob b).fs.getD k (0, 0)).1 ≠ 2) : letGo z b k s = s.field b k (0, 0) := by unfold letGo; exact if_pos h
theorem letGo_held {z : Int} {b k : Nat} {s : St} {i : Nat} (h : (s.ob b).fs.getD k (0, 0) = (2, (i : Int))) (hc : 0 < (s.field b k (0, 0)).count i ∨ ((s.field b k (0, 0)).ob i).stuck = true) : letGo z b k s = s.field b k (0, 0) := by
  unfold letGo; rw [h]; exact (if_neg (by simp)).trans (if_pos hc)
theorem letGo_root {z : Int} {b k : Nat} {s : St} {i : Nat} (h : (s.ob b).fs.getD k (0, 0) = (2, (i : Int))) (hc : (s.field b k (0, 0)).count i = 0) (hs : ((s.field b k (0, 0)).ob i).stuck = false) (hr : (s.field b k (0, 0)).rooted i = true) :
    letGo z b k s = (s.field b k (0, 0)).enter z i := by
  unfold letGo; rw [h]
  refine (if_neg (by simp)).trans ((if_neg ?_).trans (if_pos hr))
  rintro (h1 | h1)
  · have h2 : 0 < (s.field b k (0, 0)).count i := h1
    omega
  · have h2 : ((s.field b k (0, 0)).ob i).stuck = true := h1
    rw [hs] at h2; cases h2
theorem letGo_queue {z : Int} {b k : Nat} {s : St} {i : Nat} (h : (s.ob b).fs.getD k (0, 0) = (2, (i : Int))) (hc : (s.field b k (0, 0)).count i = 0) (hs : ((s.field b k (0, 0)).ob i).stuck = false) (hr : (s.field b k (0, 0)).rooted i = false) :
    letGo z b k s = (s.field b k (0, 0)).enq i := by
  unfold letGo; rw [h]
  refine (if_neg (by simp)).trans ((if_neg ?_).trans ((if_neg ?_).trans ?_))
  · rintro (h1 | h1)
    · have h2 : 0 < (s.field b k (0, 0)).count i := h1
      omega
    · have h2 : ((s.field b k (0, 0)).ob i).stuck = true := h1
      rw [hs] at h2; cases h2
  · intro h1
    have h2 : (s.field b k (0, 0)).rooted i = true := h1
    rw [hr] at h2; cases h2
  · rfl

theorem free_iff {s : St} {k : Nat} (h : free? s = some k) : k + 1 < s.objs.length ∧ (s.ob (k + 1)).here = false ∧ ∀ j, j < k → (s.ob (j + 1)).here = true := by
  unfold free? at h
  obtain ⟨hk, h1, h2⟩ := List.findIdx?_eq_some_iff_getElem.1 h
  rw [List.length_tail] at hk
  refine ⟨by omega, ?_, fun j hj => ?_⟩
  · rw [ob_of (List.getElem?_eq_getElem (by omega))]
    simpa using h1
  · have := h2 j hj
    rw [ob_of (List.getElem?_eq_getElem (by omega))]
    simpa using this
theorem free_exists {s : St} {b : Nat} (h1 : 1 ≤ b) (h2 : b < s.objs.length) (hb : (s.ob b).here = false) : ∃ k, free? s = some k := by
  cases e : free? s with
  | some k => exact ⟨k, rfl⟩
  | none =>
    unfold free? at e
    rw [List.findIdx?_eq_none_iff] at e
    have := e (s.ob b) (ob_tail.2 ⟨b, h1, h2, rfl⟩)
    rw [hb] at this; cases this
theorem freed_room {s : St} {N : Nat} (g : s.Good N) (z : Int) (hq : s.queue.length ≠ 0) : ∃ k, free? (s.free z) = some k := by
  obtain ⟨q, e⟩ := g.first hq
  have hb : (s.ob s.first).queued = true := (g.inq s.first).1 (by rw [e]; simp)
  have hh : (s.ob s.first).here = true := by
    cases e2 : (s.ob s.first).here with
    | true => rfl
    | false => rw [g.gone _ e2] at hb; cases hb
  have hz := g.ne_zero hh
  have hl : s.first < (letTo z s.first s (s.ob s.first).fs.length).objs.length := by rw [(letTo_same z s.first s _).2.2.1]; exact here_lt hh
  refine free_exists hz.1 (by rw [(g.freed z hq).len]; omega) ?_
  have : (s.free z).ob s.first = if s.first = s.first then Ob.free else (letTo z s.first s (s.ob s.first).fs.length).ob s.first := getD_set _ _ _ _ hl
  rw [this, if_pos rfl]; rfl
theorem free_stack (s : St) (z : Int) : (s.free z).stack = s.stack := (letTo_same z s.first s _).1

end Go.Proofs.Ytpmkjeihbddfpaa

