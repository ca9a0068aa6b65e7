import Derived.Test.YtpmkjeihbddfpaaDoorCoCJB1
/- OUR OWN. Freeing the first of the queue, by cases: without memory. -/
namespace Go.Proofs.YtpmkjeihbddfpaaDoor
set_option linter.unusedVariables false
set_option linter.unusedSimpArgs false

theorem letGo_not {z : Int} {b k : Nat} {s : St} (h : ((s.ob b).fs.getD k (0, 0)).1 ≠ 2) : letGo z b k s = s.field b k (0, 0) := by unfold letGo; exact if_pos h
theorem letGo_held {z : Int} {b k : Nat} {s : St} {i : Nat} (h : (s.ob b).fs.getD k (0, 0) = (2, (i : Int))) (hc : 0 < (s.field b k (0, 0)).count i ∨ ((s.field b k (0, 0)).ob i).stuck = true) : letGo z b k s = s.field b k (0, 0) := by
  unfold letGo; rw [h]; exact (if_neg (by simp)).trans (if_pos hc)
theorem letGo_root {z : Int} {b k : Nat} {s : St} {i : Nat} (h : (s.ob b).fs.getD k (0, 0) = (2, (i : Int))) (hc : (s.field b k (0, 0)).count i = 0) (hs : ((s.field b k (0, 0)).ob i).stuck = false) (hr : (s.field b k (0, 0)).rooted i = true) :
    letGo z b k s = (s.field b k (0, 0)).enter z i := by
  unfold letGo; rw [h]
  refine (if_neg (by simp)).trans ((if_neg ?_).trans (if_pos hr))
  rintro (h1 | h1)
  · have h2 : 0 < (s.field b k (0, 0)).count i := h1
    omega
  · have h2 : ((s.field b k (0, 0)).ob i).stuck = true := h1
    rw [hs] at h2; cases h2
theorem letGo_queue {z : Int} {b k : Nat} {s : St} {i : Nat} (h : (s.ob b).fs.getD k (0, 0) = (2, (i : Int))) (hc : (s.field b k (0, 0)).count i = 0) (hs : ((s.field b k (0, 0)).ob i).stuck = false) (hr : (s.field b k (0, 0)).rooted i = false) :
    letGo z b k s = (s.field b k (0, 0)).enq i := by
  unfold letGo; rw [h]
  refine (if_neg (by simp)).trans ((if_neg ?_).trans ((if_neg ?_).trans ?_))
  · rintro (h1 | h1)
    · have h2 : 0 < (s.field b k (0, 0)).count i := h1
      omega
    · have h2 : ((s.field b k (0, 0)).ob i).stuck = true := h1
      rw [hs] at h2; cases h2
  · intro h1
    have h2 : (s.field b k (0, 0)).rooted i = true := h1
    rw [hr] at h2; cases h2
  · rfl

theorem free_iff {s : St} {k : Nat} (h : free? s = some k) : k + 1 < s.objs.length ∧ (s.ob (k + 1)).here = false ∧ ∀ j, j < k → (s.ob (j + 1)).here = true := by
  unfold free? at h
  obtain ⟨hk, h1, h2⟩ := List.findIdx?_eq_some_iff_getElem.1 h
  rw [List.length_tail] at hk
  refine ⟨by omega, ?_, fun j hj => ?_⟩
  · rw [ob_of (List.getElem?_eq_getElem (by omega))]
    simpa using h1
  · have := h2 j hj
    rw [ob_of (List.getElem?_eq_getElem (by omega))]
    simpa using this
theorem free_exists {s : St} {b : Nat} (h1 : 1 ≤ b) (h2 : b < s.objs.length) (hb : (s.ob b).here = false) : ∃ k, free? s = some k := by
  cases e : free? s with
  | some k => exact ⟨k, rfl⟩
  | none =>
    unfold free? at e
    rw [List.findIdx?_eq_none_iff] at e
    have := e (s.ob b) (ob_tail.2 ⟨b, h1, h2, rfl⟩)
    rw [hb] at this; cases this
theorem freed_room {s : St} {N : Nat} (g : s.Good N) (z : Int) (hq : s.queue.length ≠ 0) : ∃ k, free? (s.free z) = some k := by
  obtain ⟨q, e⟩ := g.first hq
  have hb : (s.ob s.first).queued = true := (g.inq s.first).1 (by rw [e]; simp)
  have hh : (s.ob s.first).here = true := by
    cases e2 : (s.ob s.first).here with
    | true => rfl
    | false => rw [g.gone _ e2] at hb; cases hb
  have hz := g.ne_zero hh
  have hl : s.first < (letTo z s.first s (s.ob s.first).fs.length).objs.length := by rw [(letTo_same z s.first s _).2.2.1]; exact here_lt hh
  refine free_exists hz.1 (by rw [(g.freed z hq).len]; omega) ?_
  have : (s.free z).ob s.first = if s.first = s.first then Ob.free else (letTo z s.first s (s.ob s.first).fs.length).ob s.first := getD_set _ _ _ _ hl
  rw [this, if_pos rfl]; rfl
theorem free_stack (s : St) (z : Int) : (s.free z).stack = s.stack := (letTo_same z s.first s _).1

end Go.Proofs.YtpmkjeihbddfpaaDoor

