import Derived.Test.YtpmkjeihbddfpabDoorCoRFB12
/- OUR OWN. The document's heap without memory: objects without a ring, that no root has, are freed by safepoints alone. -/
namespace Go.Proofs.YtpmkjeihbddfpabDoor
set_option linter.unusedVariables false
set_option linter.unusedSimpArgs false

def usedC (s : St) : Nat := countTo (fun b => (s.ob b).here) s.N
theorem used_free (s : St) : freeN s + usedC s = s.N := countTo_not _ _

/-- no root has any; none is stuck; fields lead downwards -/
structure Calm (s : St) : Prop where
  root : ∀ b : Int, s.rooted b = false
  loose : ∀ b, (s.ob b).stuck = false
  rank : ∃ r : Nat → Nat, ∀ (a b : Nat) (v : Int × Int), v ∈ (s.ob a).fs → v.1 = 2 → v.2 = (b : Int) → r b < r a
/-- nothing waits -/
def Still (s : St) : Prop := ∀ b, s.waits b = false

theorem max_of (r : Nat → Nat) (p : Nat → Bool) (n : Nat) (h : ∃ b, b ≤ n ∧ p b = true) : ∃ b, b ≤ n ∧ p b = true ∧ ∀ a, a ≤ n → p a = true → r a ≤ r b := by
  induction n with
  | zero =>
    obtain ⟨b, hb, hp⟩ := h
    exact ⟨b, hb, hp, fun a ha _ => by have : a = b := by omega
                                       rw [this]; exact Nat.le_refl _⟩
  | succ n ih =>
    by_cases hn : ∃ b, b ≤ n ∧ p b = true
    · obtain ⟨b, hb, hp, hm⟩ := ih hn
      cases e : p (n + 1) with
      | false => exact ⟨b, by omega, hp, fun a ha hpa => by
          by_cases ea : a = n + 1
          · rw [ea, e] at hpa; cases hpa
          · exact hm a (by omega) hpa⟩
      | true =>
        by_cases hr : r b ≤ r (n + 1)
        · exact ⟨n + 1, Nat.le_refl _, e, fun a ha hpa => by
            by_cases ea : a = n + 1
            · rw [ea]; exact Nat.le_refl _
            · have := hm a (by omega) hpa; omega⟩
        · exact ⟨b, by omega, hp, fun a ha hpa => by
            by_cases ea : a = n + 1
            · rw [ea]; omega
            · exact hm a (by omega) hpa⟩
    · obtain ⟨b, hb, hp⟩ := h
      have : b = n + 1 := by
        by_cases e : b = n + 1
        · exact e
        · exact absurd ⟨b, by omega, hp⟩ hn
      subst this
      exact ⟨n + 1, Nat.le_refl _, hp, fun a ha hpa => by
        by_cases ea : a = n + 1
        · rw [ea]; exact Nat.le_refl _
        · exact absurd ⟨a, by omega, hpa⟩ hn⟩
/-- as long as there is an object, one is in the queue -/
theorem Calm.queued {s : St} {N : Nat} (c : Calm s) (g : s.Good N) (st : Still s) (hu : 0 < usedC s) : s.queue.length ≠ 0 := by
  obtain ⟨r, hr⟩ := c.rank
  have hex : ∃ b, b ≤ N ∧ (s.ob b).here = true := by
    unfold usedC countTo at hu
    obtain ⟨j, hj, hp⟩ := List.countP_pos_iff.1 hu
    have := g.ne_zero (i := j + 1) hp
    exact ⟨j + 1, this.2, hp⟩
  obtain ⟨b, hb, hh, hm⟩ := max_of r (fun b => (s.ob b).here) N hex
  have hc : s.count b = 0 := by
    rcases Nat.eq_zero_or_pos (s.count b) with e | e
    · exact e
    · exfalso
      obtain ⟨a, h1, h2, ha, v, hv, e1, e2⟩ := count_some e
      have h3 := hr a b v hv e1 e2
      have h4 := hm a (by have := g.len; omega) ha
      omega
  cases hq : (s.ob b).queued with
  | true =>
    have := (g.inq b).2 hq
    intro e
    rw [List.eq_nil_of_length_eq_zero e] at this; cases this
  | false =>
    have := st b
    rw [waits_iff.2 ⟨⟨hh, hq⟩, c.loose b, hc⟩] at this; cases this

theorem letGo_fs (z : Int) (b k : Nat) (s : St) (a : Nat) (hb : b < s.objs.length) : ((letGo z b k s).ob a).fs = if a = b then (s.ob b).fs.set k (0, 0) else (s.ob a).fs := by
  have e1 : ((s.field b k (0, 0)).ob a).fs = if a = b then (s.ob b).fs.set k (0, 0) else (s.ob a).fs := by
    unfold St.field
    rw [ob_put _ a hb]
    by_cases e : a = b
    · rw [if_pos e, if_pos e]
    · rw [if_neg e, if_neg e]
  unfold letGo
  split
  · exact e1
  · split
    · exact e1
    · split
      · rw [enter_fs]; exact e1
      · rw [enq_fs]; exact e1
theorem letGo_stuck (z : Int) (b k : Nat) (s : St) (a : Nat) : ((letGo z b k s).ob a).stuck = (s.ob a).stuck := by
  have e1 : ((s.field b k (0, 0)).ob a).stuck = (s.ob a).stuck := (field_ob a).2.1
  have en : ∀ (but : Int) (t : St), ((t.enter z but).ob a).stuck = (t.ob a).stuck := fun but t => by
    unfold St.enter
    split
    · exact (sortTo_alike but t _ a).2
    · rfl
  unfold letGo
  split
  · exact e1
  · split
    · exact e1
    · split
      · rw [en]; exact e1
      · rw [(enq_alike _ _ a).2]; exact e1
theorem letGo_rooted (z : Int) (b k : Nat) (s : St) (x : Int) : (letGo z b k s).rooted x = s.rooted x := by
  obtain ⟨e1, e2, _⟩ := letGo_same z b k s
  unfold St.rooted; rw [e1, e2]
theorem Calm.letGo {s : St} {N : Nat} (c : Calm s) (g : s.Good N) (z : Int) {b : Nat} (k : Nat) (hb : b < s.objs.length) : Calm (letGo z b k s) := by
  refine ⟨fun x => by rw [letGo_rooted]; exact c.root x, fun a => by rw [letGo_stuck]; exact c.loose a, ?_⟩
  obtain ⟨r, hr⟩ := c.rank
  refine ⟨r, fun a x v hv h1 h2 => ?_⟩
  rw [letGo_fs z b k s a hb] at hv
  by_cases e : a = b
  · rw [if_pos e] at hv
    rcases List.mem_or_eq_of_mem_set hv with h | h
    · exact hr a x v (by rw [e]; exact h) h1 h2
    · rw [h] at h1; cases h1
  · rw [if_neg e] at hv; exact hr a x v hv h1 h2
theorem still_letGo {s : St} {N : Nat} (c : Calm s) (g : s.Good N) (st : Still s) (z : Int) {b k : Nat} (hk : k < (s.ob b).fs.length) : Still (YtpmkjeihbddfpabDoor.letGo z b k s) := by
  have W : ∀ x : Nat, (s.field b k (0, 0)).waits x = true → ((s.ob b).fs.getD k (0, 0)).1 = 2 ∧ ((s.ob b).fs.getD k (0, 0)).2 = x := fun x hx => by
    rcases field_waits g hk (0, 0) hx with e | e
    · rw [st x] at e; cases e
    · exact e
  intro x
  cases hx : (YtpmkjeihbddfpabDoor.letGo z b k s).waits x with
  | false => rfl
  | true =>
    exfalso
    unfold YtpmkjeihbddfpabDoor.letGo at hx
    split at hx
    · rename_i hr; exact hr (W x hx).1
    · rename_i hr
      have hr2 : ((s.ob b).fs.getD k (0, 0)).1 = 2 := by omega
      obtain ⟨j, hj, ha⟩ := leads_ref (leads_put (s := s) (i := b) (o := { s.ob b with fs := (s.ob b).fs.set k (0, 0) }) rfl rfl (leads_getD (g.fields b) k)) hr2
      split at hx
      · rename_i hc
        obtain ⟨_, w2, w3⟩ := waits_iff.1 hx
        have e := (W x hx).2
        rw [e, Int.toNat_natCast] at hc
        rcases hc with hc | hc
        · omega
        · rw [w2] at hc; cases hc
      · split at hx
        · rename_i hroot
          have : (s.field b k (0, 0)).rooted ((s.ob b).fs.getD k (0, 0)).2 = s.rooted ((s.ob b).fs.getD k (0, 0)).2 := rfl
          rw [this, c.root] at hroot; cases hroot
        · rw [hj, Int.toNat_natCast] at hx
          have hl : j < (s.field b k (0, 0)).objs.length := here_lt ha.1
          rw [waits_enq hl] at hx
          by_cases e : x = j
          · rw [if_pos e] at hx; cases hx
          · rw [if_neg e] at hx
            have e2 := (W x hx).2
            rw [hj] at e2
            exact e (by omega)
theorem calm_letTo {s : St} {N : Nat} (c : Calm s) (g : s.Good N) (st : Still s) (z : Int) {b : Nat} (hq : (s.ob b).queued = true) (k : Nat) (hk : k ≤ (s.ob b).fs.length) : Calm (letTo z b s k) ∧ Still (letTo z b s k) := by
  induction k with
  | zero => exact ⟨c, st⟩
  | succ k ih =>
    obtain ⟨c1, s1⟩ := ih (by omega)
    have g1 := g.letTo z b k
    obtain ⟨q1, l1, _, _⟩ := letTo_ob (z := z) g hq k
    exact ⟨c1.letGo g1 z k (here_lt (g1.queued_here q1)), still_letGo c1 g1 s1 z (by rw [l1]; omega)⟩
theorem calm_free {s : St} {N : Nat} (c : Calm s) (g : s.Good N) (st : Still s) (z : Int) (hq : s.queue.length ≠ 0) : Calm (s.free z) ∧ Still (s.free z) := by
  have hqd := g.first_queued hq
  have hz := g.ne_zero (g.queued_here hqd)
  have g1 := g.letTo z s.first (s.ob s.first).fs.length
  obtain ⟨c1, s1⟩ := calm_letTo c g st z hqd (s.ob s.first).fs.length (Nat.le_refl _)
  have hl : s.first < (letTo z s.first s (s.ob s.first).fs.length).objs.length := by rw [g1.len]; omega
  have eo : ∀ x, (s.free z).ob x = if x = s.first then Ob.free else (letTo z s.first s (s.ob s.first).fs.length).ob x := fun x => getD_set _ _ _ _ hl
  refine ⟨⟨fun b => ?_, fun b => ?_, ?_⟩, fun x => ?_⟩
  · have : (s.free z).rooted b = (letTo z s.first s (s.ob s.first).fs.length).rooted b := rfl
    rw [this]; exact c1.root b
  · rw [eo]
    by_cases e : b = s.first
    · rw [if_pos e]; rfl
    · rw [if_neg e]; exact c1.loose b
  · obtain ⟨r, hr⟩ := c1.rank
    refine ⟨r, fun a b v hv h1 h2 => ?_⟩
    rw [eo] at hv
    by_cases e : a = s.first
    · rw [if_pos e] at hv; simp [Ob.free] at hv
    · rw [if_neg e] at hv; exact hr a b v hv h1 h2
  · cases hx : (s.free z).waits x with
    | false => rfl
    | true =>
      obtain ⟨a1, a2, a3⟩ := waits_iff.1 hx
      unfold St.alive at a1
      rw [eo] at a1 a2
      by_cases e : x = s.first
      · rw [if_pos e] at a1; cases a1.1
      · rw [if_neg e] at a1 a2
        rw [count_free g hq] at a3
        have := s1 x
        rw [waits_iff.2 ⟨a1, a2, a3⟩] at this; cases this
theorem calm_safeN {N : Nat} (z : Int) (k : Nat) : ∀ {s : St}, Calm s → s.Good N → Still s → (safeN z k s).2 = min k (usedC s) ∧ Calm (safeN z k s).1 := by
  induction k with
  | zero => intro s c g st; exact ⟨by simp [safeN], c⟩
  | succ k ih =>
    intro s c g st
    unfold safeN
    split
    · rename_i hq
      have : usedC s = 0 := by
        rcases Nat.eq_zero_or_pos (usedC s) with e | e
        · exact e
        · exact absurd hq (c.queued g st e)
      exact ⟨by rw [this]; simp, c⟩
    · rename_i hq
      obtain ⟨c1, s1⟩ := calm_free c g st z hq
      obtain ⟨h1, h2⟩ := ih c1 (g.freed z hq) s1
      refine ⟨?_, h2⟩
      show (safeN z k (s.free z)).2 + 1 = _
      have f1 := freeN_free g z hq
      have u1 := used_free s
      have u2 := used_free (s.free z)
      rw [(g.freed z hq).sN] at u2
      rw [g.sN] at u1
      have hh := g.queued_here (g.first_queued hq)
      rw [h1]; omega
theorem calm_sort {s : St} {N : Nat} (c : Calm s) (g : s.Good N) : Calm (s.sort 0) ∧ Still (s.sort 0) := by
  refine ⟨⟨fun b => by show (sortTo 0 s s.N).rooted b = false; rw [sortTo_root]; exact c.root b, fun b => by show ((sortTo 0 s s.N).ob b).stuck = false; rw [(sortTo_alike 0 s s.N b).2]; exact c.loose b, ?_⟩, fun b => ?_⟩
  · obtain ⟨r, hr⟩ := c.rank
    exact ⟨r, fun a b v hv h1 h2 => hr a b v (by rw [← sortTo_fs 0 s s.N a]; exact hv) h1 h2⟩
  · cases hx : (s.sort 0).waits b with
    | false => rfl
    | true =>
      have gs := g.sort 0
      obtain ⟨a1, _, _⟩ := waits_iff.1 hx
      have hz := gs.ne_zero a1.1
      rw [sort_waits hz.1 (by rw [g.sN]; exact hz.2), c.root] at hx
      have : decide ((b : Int) = 0) = false := by simp; omega
      rw [this] at hx
      simp at hx
/-- A safepoint frees as many as the budget says, or all the rest. -/
theorem calm_safe {s : St} {N : Nat} (c : Calm s) (g : s.Good N) (cf : Cf) : (s.safe cf).2 = min cf.budget.toNat (usedC s) ∧ Calm (s.safe cf).1 := by
  obtain ⟨c1, s1⟩ := calm_sort c g
  obtain ⟨h1, h2⟩ := calm_safeN cf.zero cf.budget.toNat c1 (g.sort 0) s1
  refine ⟨?_, h2⟩
  have : usedC (s.sort 0) = usedC s := by
    have h := sh_sortTo 0 s s.N
    unfold usedC
    rw [show (s.sort 0).N = s.N from h.1]
    exact countTo_congr fun b _ _ => h.2 b
  rw [← this]; exact h1

end Go.Proofs.YtpmkjeihbddfpabDoor

/- OUR OWN. The document's heap without memory: behind a safepoint only what a root has waits (Freed). -/
namespace Go.Proofs.YtpmkjeihbddfpabDoor
set_option linter.unusedVariables false
set_option linter.unusedSimpArgs false

/-- a root has all that wait -/
def Held (s : St) : Prop := ∀ b, s.waits b = true → s.rooted b = true
theorem enter_waits (z but : Int) (s : St) (b : Nat) (h : (s.enter z but).waits b = true) : s.waits b = true := by
  unfold St.enter at h
  split at h
  · unfold St.sort at h
    rw [sortTo_waits] at h
    simp only [Bool.and_eq_true] at h
    exact h.1
  · exact h
theorem held_sort (s : St) {N : Nat} (g : s.Good N) : Held (s.sort 0) := fun b hb => by
  have gs := g.sort 0
  obtain ⟨a1, _, _⟩ := waits_iff.1 hb
  have hz := gs.ne_zero a1.1
  rw [sort_waits hz.1 (by rw [g.sN]; exact hz.2)] at hb
  have e0 : decide ((b : Int) = 0) = false := by simp; omega
  rw [e0] at hb
  simp only [Bool.and_eq_true, Bool.or_false] at hb
  show (sortTo 0 s s.N).rooted b = true
  rw [sortTo_root]; exact hb.2
theorem held_letGo {s : St} {N : Nat} (hd : Held s) (g : s.Good N) (z : Int) {b k : Nat} (hk : k < (s.ob b).fs.length) : Held (letGo z b k s) := by
  have W : ∀ x : Nat, (s.field b k (0, 0)).waits x = true → s.rooted x = true ∨ (((s.ob b).fs.getD k (0, 0)).1 = 2 ∧ ((s.ob b).fs.getD k (0, 0)).2 = x) := fun x hx => by
    rcases field_waits g hk (0, 0) hx with e | e
    · exact .inl (hd x e)
    · exact .inr e
  intro x hx
  rw [letGo_rooted]
  unfold letGo at hx
  split at hx
  · rename_i hr
    rcases W x hx with e | e
    · exact e
    · exact absurd e.1 hr
  · rename_i hr
    have hr2 : ((s.ob b).fs.getD k (0, 0)).1 = 2 := by omega
    obtain ⟨j, hj, ha⟩ := leads_ref (leads_put (s := s) (i := b) (o := { s.ob b with fs := (s.ob b).fs.set k (0, 0) }) rfl rfl (leads_getD (g.fields b) k)) hr2
    split at hx
    · rename_i hc
      rcases W x hx with e | e
      · exact e
      · exfalso
        obtain ⟨_, w2, w3⟩ := waits_iff.1 hx
        rw [e.2, Int.toNat_natCast] at hc
        rcases hc with hc | hc
        · omega
        · rw [w2] at hc; cases hc
    · split at hx
      · rename_i hroot
        rcases W x (enter_waits _ _ _ _ hx) with e | e
        · exact e
        · have hroot' : s.rooted ((s.ob b).fs.getD k (0, 0)).2 = true := hroot
          rw [e.2] at hroot'; exact hroot'
      · rw [hj, Int.toNat_natCast] at hx
        have hl : j < (s.field b k (0, 0)).objs.length := here_lt ha.1
        rw [waits_enq hl] at hx
        by_cases e : x = j
        · rw [if_pos e] at hx; cases hx
        · rw [if_neg e] at hx
          rcases W x hx with e2 | e2
          · exact e2
          · exact absurd (by rw [hj] at e2; omega : x = j) e
theorem held_letTo {s : St} {N : Nat} (hd : Held s) (g : s.Good N) (z : Int) {b : Nat} (hq : (s.ob b).queued = true) (k : Nat) (hk : k ≤ (s.ob b).fs.length) : Held (letTo z b s k) := by
  induction k with
  | zero => exact hd
  | succ k ih =>
    obtain ⟨q1, l1, _, _⟩ := letTo_ob (z := z) g hq k
    exact held_letGo (ih (by omega)) (g.letTo z b k) z (by rw [l1]; omega)
theorem held_free {s : St} {N : Nat} (hd : Held s) (g : s.Good N) (z : Int) (hq : s.queue.length ≠ 0) : Held (s.free z) := by
  have hqd := g.first_queued hq
  have hz := g.ne_zero (g.queued_here hqd)
  have g1 := g.letTo z s.first (s.ob s.first).fs.length
  have h1 := held_letTo hd g z hqd (s.ob s.first).fs.length (Nat.le_refl _)
  have hl : s.first < (letTo z s.first s (s.ob s.first).fs.length).objs.length := by rw [g1.len]; omega
  have eo : ∀ x, (s.free z).ob x = if x = s.first then Ob.free else (letTo z s.first s (s.ob s.first).fs.length).ob x := fun x => getD_set _ _ _ _ hl
  intro x hx
  obtain ⟨a1, a2, a3⟩ := waits_iff.1 hx
  unfold St.alive at a1
  rw [eo] at a1 a2
  by_cases e : x = s.first
  · rw [if_pos e] at a1; cases a1.1
  · rw [if_neg e] at a1 a2
    rw [count_free g hq] at a3
    exact h1 x (waits_iff.2 ⟨a1, a2, a3⟩)
theorem held_safeN {N : Nat} (z : Int) (k : Nat) : ∀ {s : St}, Held s → s.Good N → Held (safeN z k s).1 := by
  induction k with
  | zero => intro s h g; exact h
  | succ k ih =>
    intro s h g
    unfold safeN
    split
    · exact h
    · rename_i hq; exact ih (held_free h g z hq) (g.freed z hq)
/-- behind a safepoint a root has all that wait -/
theorem held_safe {s : St} {N : Nat} (g : s.Good N) (c : Cf) : Held (s.safe c).1 := held_safeN _ _ (held_sort s g) (g.sort 0)

end Go.Proofs.YtpmkjeihbddfpabDoor

/- OUR OWN. What a Dump shows: its text, read again. -/
namespace Go.Proofs.YtpmkjeihbddfpabDoor
set_option linter.unusedVariables false
set_option linter.unusedSimpArgs false

/-! ### A text, cut at a byte -/
def splitGo (c : UInt8) : List UInt8 → List UInt8 → List (List UInt8)
  | cur, [] => [cur]
  | cur, x :: l => if x = c then cur :: splitGo c [] l else splitGo c (cur ++ [x]) l
def splitL (c : UInt8) (l : List UInt8) : List (List UInt8) := splitGo c [] l
theorem splitGo_plain {c : UInt8} (a : List UInt8) (cur : List UInt8) (h : ∀ x ∈ a, x ≠ c) : splitGo c cur a = [cur ++ a] := by
  induction a generalizing cur with
  | nil => simp [splitGo]
  | cons x a ih =>
    unfold splitGo
    rw [if_neg (h x (by simp)), ih _ (fun y hy => h y (List.mem_cons_of_mem _ hy))]
    simp
theorem splitGo_cut {c : UInt8} (a b : List UInt8) (cur : List UInt8) (h : ∀ x ∈ a, x ≠ c) : splitGo c cur (a ++ c :: b) = (cur ++ a) :: splitGo c [] b := by
  induction a generalizing cur with
  | nil => simp [splitGo]
  | cons x a ih =>
    have e : splitGo c cur (x :: (a ++ c :: b)) = splitGo c (cur ++ [x]) (a ++ c :: b) := by rw [splitGo, if_neg (h x (by simp))]
    rw [List.cons_append, e, ih _ (fun y hy => h y (List.mem_cons_of_mem _ hy))]
    simp
theorem splitL_plain {c : UInt8} {a : List UInt8} (h : ∀ x ∈ a, x ≠ c) : splitL c a = [a] := by unfold splitL; rw [splitGo_plain a [] h]; rfl
theorem splitL_cut {c : UInt8} {a b : List UInt8} (h : ∀ x ∈ a, x ≠ c) : splitL c (a ++ c :: b) = a :: splitL c b := by unfold splitL; rw [splitGo_cut a b [] h]; rfl

/-! ### The bytes of a number, of a value, of a list -/
def isDig (x : UInt8) : Bool := decide (48 ≤ x.toNat ∧ x.toNat ≤ 57)
theorem dig_byte (n : Nat) : isDig (48 + UInt8.ofNat (n % 10)) = true ∧ (48 + UInt8.ofNat (n % 10)).toNat = 48 + n % 10 := by
  have h : (48 + UInt8.ofNat (n % 10)).toNat = 48 + n % 10 := by
    rw [UInt8.toNat_add, UInt8.toNat_ofNat]
    show (48 + n % 10 % 256) % 256 = _
    omega
  refine ⟨?_, h⟩
  unfold isDig
  rw [h]; simp; omega
theorem digF_dig (f n : Nat) : ∀ x ∈ digF f n, isDig x = true := by
  induction f generalizing n with
  | zero => simp [digF]
  | succ f ih =>
    intro x hx
    unfold digF at hx
    rcases List.mem_append.1 hx with h | h
    · by_cases e : n / 10 = 0
      · rw [if_pos e] at h; cases h
      · rw [if_neg e] at h; exact ih _ x h
    · simp at h; rw [h]; exact (dig_byte n).1
theorem digF_ne (f n : Nat) (hf : 1 ≤ f) : digF f n ≠ [] := by
  obtain ⟨g, rfl⟩ : ∃ g, f = g + 1 := ⟨f - 1, by omega⟩
  unfold digF
  simp
theorem digits_bytes (n : Int) : ∀ x ∈ digits n, x = 45 ∨ isDig x = true := by
  intro x hx
  unfold digits at hx
  split at hx
  · rcases List.mem_cons.1 hx with h | h
    · exact .inl h
    · exact .inr (digF_dig _ _ x h)
  · exact .inr (digF_dig _ _ x hx)
theorem digits_ne (n : Int) : digits n ≠ [] := by
  unfold digits
  split
  · simp
  · exact digF_ne 20 _ (by decide)
theorem written_bytes (v : Int × Int) : ∀ x ∈ writtenL v, x = 110 ∨ x = 35 ∨ x = 45 ∨ isDig x = true := by
  intro x hx
  unfold writtenL at hx
  split at hx
  · simp at hx; exact .inl hx
  split at hx
  · exact .inr (.inr (digits_bytes _ x hx))
  · rcases List.mem_cons.1 hx with h | h
    · exact .inr (.inl h)
    · exact .inr (.inr (digits_bytes _ x h))
theorem written_ne (v : Int × Int) : writtenL v ≠ [] := by
  unfold writtenL
  split
  · simp
  split
  · exact digits_ne _
  · simp
theorem dig_not {x : UInt8} (h : isDig x = true) (c : UInt8) (hc : ¬ (48 ≤ c.toNat ∧ c.toNat ≤ 57)) : x ≠ c := fun e => by
  unfold isDig at h
  rw [e] at h
  exact hc (by simpa using h)
theorem written_no {v : Int × Int} (c : UInt8) (hc : c = 124 ∨ c = 59 ∨ c = 44 ∨ c = 91 ∨ c = 93) : ∀ x ∈ writtenL v, x ≠ c := fun x hx => by
  rcases written_bytes v x hx with h | h | h | h
  · rw [h]; rcases hc with e | e | e | e | e <;> rw [e] <;> decide
  · rw [h]; rcases hc with e | e | e | e | e <;> rw [e] <;> decide
  · rw [h]; rcases hc with e | e | e | e | e <;> rw [e] <;> decide
  · refine dig_not h c ?_
    rcases hc with e | e | e | e | e <;> rw [e] <;> decide

/-! ### A list of values -/
/-- the values' texts, with commas between -/
def joinL : List (List UInt8) → List UInt8
  | [] => []
  | [a] => a
  | a :: b :: l => a ++ 44 :: joinL (b :: l)
theorem join_snoc (l : List (List UInt8)) (a : List UInt8) : joinL (l ++ [a]) = joinL l ++ (if l = [] then [] else [44]) ++ a := by
  induction l with
  | nil => simp [joinL]
  | cons b l ih =>
    cases l with
    | nil => simp [joinL]
    | cons c l =>
      have e : joinL (b :: c :: l ++ [a]) = b ++ 44 :: joinL (c :: l ++ [a]) := rfl
      rw [e, ih]
      simp [joinL]
theorem split_join (l : List (List UInt8)) (hl : l ≠ []) (h : ∀ a ∈ l, ∀ x ∈ a, x ≠ 44) : splitL 44 (joinL l) = l := by
  induction l with
  | nil => exact absurd rfl hl
  | cons a l ih =>
    cases l with
    | nil => exact splitL_plain (h a (by simp))
    | cons b l =>
      show splitL 44 (a ++ 44 :: joinL (b :: l)) = _
      rw [splitL_cut (h a (by simp)), ih (by simp) (fun y hy => h y (List.mem_cons_of_mem _ hy))]
theorem join_ne (l : List (List UInt8)) (hl : l ≠ []) (h : ∀ a ∈ l, a ≠ []) : joinL l ≠ [] := by
  cases l with
  | nil => exact absurd rfl hl
  | cons a l =>
    cases l with
    | nil => exact h a (by simp)
    | cons b l => show a ++ 44 :: joinL (b :: l) ≠ []; simp
theorem join_no (l : List (List UInt8)) (c : UInt8) (hc : c ≠ 44) (h : ∀ a ∈ l, ∀ x ∈ a, x ≠ c) : ∀ x ∈ joinL l, x ≠ c := by
  induction l with
  | nil => intro x hx; cases hx
  | cons a l ih =>
    cases l with
    | nil => exact h a (by simp)
    | cons b l =>
      intro x hx
      have hx' : x ∈ a ++ 44 :: joinL (b :: l) := hx
      rcases List.mem_append.1 hx' with e | e
      · exact h a (by simp) x e
      · rcases List.mem_cons.1 e with e | e
        · rw [e]; exact fun e2 => hc e2.symm
        · exact ih (fun y hy => h y (List.mem_cons_of_mem _ hy)) x e
theorem listN_join (l : List (Int × Int)) (k : Nat) (hk : k ≤ l.length) : listN l k = joinL ((l.take k).map writtenL) := by
  induction k with
  | zero => rfl
  | succ k ih =>
    have hk' : k < l.length := by omega
    have e1 : listN l (k + 1) = listN l k ++ (if k = 0 then [] else [44]) ++ writtenL (l.getD k (0, 0)) := rfl
    have e2 : (if k = 0 then ([] : List UInt8) else [44]) = if (l.take k).map writtenL = [] then [] else [44] := by
      by_cases e : k = 0
      · subst e; simp
      · rw [if_neg e, if_neg]
        intro h
        have := congrArg List.length h
        rw [List.length_map, List.length_take] at this
        simp only [List.length_nil] at this
        omega
    rw [List.take_succ_eq_append_getElem hk', List.map_append, List.map_cons, List.map_nil, join_snoc, ← ih (by omega), e1, e2, List.getD_eq_getElem?_getD, List.getElem?_eq_getElem hk']
    rfl
theorem list_join (l : List (Int × Int)) : listL l = joinL (l.map writtenL) := by
  have := listN_join l l.length (Nat.le_refl _)
  rw [List.take_length] at this
  exact this
theorem list_no (l : List (Int × Int)) (c : UInt8) (hc : c = 124 ∨ c = 59 ∨ c = 91 ∨ c = 93) : ∀ x ∈ listL l, x ≠ c := by
  rw [list_join]
  refine join_no _ c (by rcases hc with e | e | e | e <;> rw [e] <;> decide) fun a ha => ?_
  obtain ⟨v, _, rfl⟩ := List.mem_map.1 ha
  exact written_no c (by rcases hc with e | e | e | e <;> rw [e] <;> simp)

/-! ### Numbers, values and lists, read again -/
def numL (l : List UInt8) : Nat := l.foldl (fun n x => 10 * n + (x.toNat - 48)) 0
def smallL (l : List UInt8) : Int := if l.all isDig && decide (1 ≤ l.length ∧ l.length ≤ 3) then (numL l : Int) else -1
theorem small_digits (n : Nat) (hn : n ≤ 999) : smallL (digits n) = n := by
  have e : digits (n : Int) = digF 20 n := by unfold digits; rw [if_neg (by omega)]; rfl
  have ha : (digF 20 n).all isDig = true := List.all_eq_true.2 (digF_dig 20 n)
  have hb : ∀ m : Nat, (48 + UInt8.ofNat (m % 10)).toNat - 48 = m % 10 := fun m => by rw [(dig_byte m).2]; omega
  rw [e]
  unfold smallL
  rw [ha]
  by_cases h1 : n / 10 = 0
  · have e1 := digF_last (f := 20) (n := n) (by decide) h1
    rw [e1]
    simp only [List.length_cons, List.length_nil, numL, List.foldl_cons, List.foldl_nil, hb]
    simp
    omega
  · have e1 := digF_more (f := 20) (n := n) (by decide) h1
    by_cases h2 : n / 10 / 10 = 0
    · have e2 := digF_last (f := 19) (n := n / 10) (by decide) h2
      rw [e1, show (20 - 1 : Nat) = 19 from rfl, e2]
      simp only [List.cons_append, List.nil_append, List.length_cons, List.length_nil, numL, List.foldl_cons, List.foldl_nil, hb]
      simp
      omega
    · have e2 := digF_more (f := 19) (n := n / 10) (by decide) h2
      have h3 : n / 10 / 10 / 10 = 0 := by omega
      have e3 := digF_last (f := 18) (n := n / 10 / 10) (by decide) h3
      rw [e1, show (20 - 1 : Nat) = 19 from rfl, e2, show (19 - 1 : Nat) = 18 from rfl, e3]
      simp only [List.cons_append, List.nil_append, List.length_cons, List.length_nil, numL, List.foldl_cons, List.foldl_nil, hb]
      simp
      omega
/-- 'n', '0' (a number) or '#', and the number -/
def readL (l : List UInt8) : UInt8 × Int := if l = [110] then (110, 0) else if 1 < l.length ∧ l.getD 0 0 = 35 then (35, smallL l.tail) else (48, 0)
def absV (v : Int × Int) : UInt8 × Int := if v.1 = 0 then (110, 0) else if v.1 = 1 then (48, 0) else (35, v.2)
theorem read_written {v : Int × Int} (h : v.1 = 0 ∨ v.1 = 1 ∨ (v.1 = 2 ∧ ∃ i : Nat, v.2 = i ∧ i ≤ 999)) : readL (writtenL v) = absV v := by
  unfold writtenL absV
  by_cases h0 : v.1 = 0
  · rw [if_pos h0, if_pos h0]; rfl
  rw [if_neg h0, if_neg h0]
  by_cases h1 : v.1 = 1
  · rw [if_pos h1, if_pos h1]
    unfold readL
    have hb := digits_bytes v.2
    have hx : ∀ x ∈ digits v.2, x ≠ 110 ∧ x ≠ 35 := fun x hx => by
      rcases hb x hx with e | e
      · rw [e]; exact ⟨by decide, by decide⟩
      · exact ⟨dig_not e 110 (by decide), dig_not e 35 (by decide)⟩
    rw [if_neg (fun e => (hx 110 (by rw [e]; simp)).1 rfl), if_neg]
    rintro ⟨h2, h3⟩
    cases e : digits v.2 with
    | nil => rw [e] at h2; simp at h2
    | cons a l =>
      rw [e] at h3
      have h3' : a = 35 := h3
      exact (hx a (by rw [e]; simp)).2 h3'
  · rw [if_neg h1, if_neg h1]
    obtain ⟨_, i, hi, hi9⟩ : v.1 = 2 ∧ ∃ i : Nat, v.2 = i ∧ i ≤ 999 := by
      rcases h with h | h | h
      · exact absurd h h0
      · exact absurd h h1
      · exact h
    unfold readL
    have hne := digits_ne v.2
    rw [if_neg (by intro e; simp at e), if_pos]
    · show ((35 : UInt8), smallL (digits v.2)) = _
      rw [hi, small_digits i hi9]
    · refine ⟨?_, rfl⟩
      cases e : digits v.2 with
      | nil => exact absurd e hne
      | cons a l => simp
def valuesL (l : List UInt8) : List (UInt8 × Int) := if l = [] then [] else (splitL 44 l).map readL
theorem values_list (l : List (Int × Int)) (h : ∀ v ∈ l, v.1 = 0 ∨ v.1 = 1 ∨ (v.1 = 2 ∧ ∃ i : Nat, v.2 = i ∧ i ≤ 999)) : valuesL (listL l) = l.map absV := by
  unfold valuesL
  rw [list_join]
  by_cases hl : l = []
  · subst hl; rfl
  · have h1 : l.map writtenL ≠ [] := by simpa using hl
    rw [if_neg (join_ne _ h1 fun a ha => by obtain ⟨v, _, rfl⟩ := List.mem_map.1 ha; exact written_ne v), split_join _ h1 fun a ha => by obtain ⟨v, _, rfl⟩ := List.mem_map.1 ha; exact written_no 44 (by simp)]
    rw [List.map_map]
    exact List.map_congr_left fun v hv => read_written (h v hv)
/-- of a heap that is as it should be, every value can be read -/
theorem St.Good.readable {s : St} {N : Nat} (g : s.Good N) (hN : N ≤ 99) {v : Int × Int} (h : s.leads v) : v.1 = 0 ∨ v.1 = 1 ∨ (v.1 = 2 ∧ ∃ i : Nat, v.2 = i ∧ i ≤ 999) := by
  rcases h with e | e | ⟨e, i, hi, ha⟩
  · rw [e]; exact .inl rfl
  · exact .inr (.inl e.1)
  · have := g.ne_zero ha.1
    exact .inr (.inr ⟨e, i, hi, by omega⟩)
theorem values_stack {s : St} {N : Nat} (g : s.Good N) (hN : N ≤ 99) : valuesL (listL s.stack) = s.stack.map absV := values_list _ fun v hv => g.readable hN (g.stack v hv)
theorem values_globals {s : St} {N : Nat} (g : s.Good N) (hN : N ≤ 99) : valuesL (listL s.globals) = s.globals.map absV := values_list _ fun v hv => g.readable hN (g.globals v hv)
theorem values_fields {s : St} {N : Nat} (g : s.Good N) (hN : N ≤ 99) (i : Nat) : valuesL (listL (s.ob i).fs) = (s.ob i).fs.map absV := values_list _ fun v hv => g.readable hN (g.fields i v hv)

end Go.Proofs.YtpmkjeihbddfpabDoor

/- OUR OWN. What a Dump shows: its parts and its records, read again. -/
namespace Go.Proofs.YtpmkjeihbddfpabDoor
set_option linter.unusedVariables false
set_option linter.unusedSimpArgs false

theorem digits_no (n : Int) (c : UInt8) (hc : c = 124 ∨ c = 59 ∨ c = 44 ∨ c = 91 ∨ c = 93) : ∀ x ∈ digits n, x ≠ c := fun x hx => by
  rcases digits_bytes n x hx with h | h
  · rw [h]; rcases hc with e | e | e | e | e <;> rw [e] <;> decide
  · refine dig_not h c ?_
    rcases hc with e | e | e | e | e <;> rw [e] <;> decide

/-! ### The queue -/
theorem queueN_join (q : List Int) (k : Nat) (hk : k ≤ q.length) : queueN q k = joinL ((q.take k).map digits) := by
  induction k with
  | zero => rfl
  | succ k ih =>
    have hk' : k < q.length := by omega
    have e1 : queueN q (k + 1) = queueN q k ++ (if k = 0 then [] else [44]) ++ digits (q.getD k 0) := rfl
    have e2 : (if k = 0 then ([] : List UInt8) else [44]) = if (q.take k).map digits = [] then [] else [44] := by
      by_cases e : k = 0
      · subst e; simp
      · rw [if_neg e, if_neg]
        intro h
        have := congrArg List.length h
        rw [List.length_map, List.length_take] at this
        simp only [List.length_nil] at this
        omega
    rw [List.take_succ_eq_append_getElem hk', List.map_append, List.map_cons, List.map_nil, join_snoc, ← ih (by omega), e1, e2, List.getD_eq_getElem?_getD, List.getElem?_eq_getElem hk']
    rfl
theorem queue_join (q : List Int) : queueN q q.length = joinL (q.map digits) := by
  have := queueN_join q q.length (Nat.le_refl _)
  rw [List.take_length] at this
  exact this
def numbersL (l : List UInt8) : List (UInt8 × Int) := if l = [] then [] else (splitL 44 l).map fun t => (35, smallL t)
theorem numbers_queue {s : St} {N : Nat} (g : s.Good N) (hN : N ≤ 99) : numbersL (queueN s.queue s.queue.length) = s.queue.map fun b => (35, b) := by
  have hb : ∀ b ∈ s.queue, ∃ i : Nat, b = i ∧ i ≤ 99 := fun b hb => by
    have h0 := g.nat b hb
    refine ⟨b.toNat, by omega, ?_⟩
    have := (g.inq b.toNat).1 (by rw [Int.toNat_of_nonneg h0]; exact hb)
    have := g.ne_zero (g.queued_here this)
    omega
  unfold numbersL
  rw [queue_join]
  by_cases hl : s.queue = []
  · rw [hl]; rfl
  · have h1 : s.queue.map digits ≠ [] := by simpa using hl
    rw [if_neg (join_ne _ h1 fun a ha => by obtain ⟨v, _, rfl⟩ := List.mem_map.1 ha; exact digits_ne v), split_join _ h1 fun a ha => by obtain ⟨v, _, rfl⟩ := List.mem_map.1 ha; exact digits_no v 44 (by simp)]
    rw [List.map_map]
    refine List.map_congr_left fun b hbm => ?_
    obtain ⟨i, rfl, hi⟩ := hb b hbm
    show ((35 : UInt8), smallL (digits (i : Int))) = _
    rw [small_digits i (by omega)]

/-! ### A record -/
/-- without its ';' -/
def bodyL (s : St) (i : Nat) : List UInt8 := if (s.ob i).here then letterL s i ++ 91 :: (listL (s.ob i).fs ++ [93]) else [46]
theorem record_body (s : St) (i : Nat) : recordL s i = bodyL s i ++ [59] := by
  unfold recordL bodyL
  split
  · simp
  · rfl
theorem letter_no (s : St) (i : Nat) (c : UInt8) (hc : c = 124 ∨ c = 59 ∨ c = 91 ∨ c = 93) : ∀ x ∈ letterL s i, x ≠ c := by
  have hd := digits_no (s.count i) c (by rcases hc with e | e | e | e <;> rw [e] <;> simp)
  have hl : ∀ y : UInt8, y = 113 ∨ y = 119 ∨ y = 104 ∨ y = 115 → y ≠ c := fun y hy => by
    rcases hc with e | e | e | e <;> rcases hy with f | f | f | f <;> rw [e, f] <;> decide
  intro x hx
  unfold letterL at hx
  split at hx
  · rcases List.mem_cons.1 hx with e | e
    · exact hl x (.inl e)
    · exact hd x e
  split at hx
  · simp at hx; exact hl x (.inr (.inr (.inr hx)))
  split at hx
  · rcases List.mem_cons.1 hx with e | e
    · exact hl x (.inr (.inl e))
    · exact hd x e
  · rcases List.mem_cons.1 hx with e | e
    · exact hl x (.inr (.inr (.inl e)))
    · exact hd x e
theorem body_no (s : St) (i : Nat) (c : UInt8) (hc : c = 124 ∨ c = 59) : ∀ x ∈ bodyL s i, x ≠ c := by
  intro x hx
  unfold bodyL at hx
  split at hx
  · rcases List.mem_append.1 hx with e | e
    · exact letter_no s i c (by rcases hc with h | h <;> rw [h] <;> simp) x e
    · rcases List.mem_cons.1 e with e | e
      · rw [e]; rcases hc with h | h <;> rw [h] <;> decide
      · rcases List.mem_append.1 e with e | e
        · exact list_no _ c (by rcases hc with h | h <;> rw [h] <;> simp) x e
        · simp at e; rw [e]; rcases hc with h | h <;> rw [h] <;> decide
  · simp at hx; rw [hx]; rcases hc with h | h <;> rw [h] <;> decide
theorem recs_eq (s : St) (k : Nat) : recsTo s k = ((List.range k).map fun i => bodyL s (i + 1) ++ [59]).flatten := by
  induction k with
  | zero => rfl
  | succ k ih =>
    show recsTo s k ++ recordL s (k + 1) = _
    rw [List.range_succ, List.map_append, List.flatten_append, ih, record_body]
    simp
theorem recs_no (s : St) (k : Nat) : ∀ x ∈ recsTo s k, x ≠ 124 := by
  rw [recs_eq]
  intro x hx
  obtain ⟨l, hl, hx⟩ := List.mem_flatten.1 hx
  obtain ⟨i, _, rfl⟩ := List.mem_map.1 hl
  rcases List.mem_append.1 hx with e | e
  · exact body_no s (i + 1) 124 (by simp) x e
  · simp at e; rw [e]; decide
theorem split_bodies (l : List (List UInt8)) (h : ∀ a ∈ l, ∀ x ∈ a, x ≠ 59) : splitL 59 ((l.map (· ++ [59])).flatten) = l ++ [[]] := by
  induction l with
  | nil => rfl
  | cons a l ih =>
    have e : ((a :: l).map (· ++ [59])).flatten = a ++ 59 :: (l.map (· ++ [59])).flatten := by simp
    rw [e, splitL_cut (h a (by simp)), ih fun y hy => h y (List.mem_cons_of_mem _ hy)]
    rfl
theorem split_recs (s : St) (k : Nat) : splitL 59 (recsTo s k) = ((List.range k).map fun i => bodyL s (i + 1)) ++ [[]] := by
  rw [recs_eq, show ((List.range k).map fun i => bodyL s (i + 1) ++ [59]) = ((List.range k).map fun i => bodyL s (i + 1)).map (· ++ [59]) by rw [List.map_map]; rfl]
  refine split_bodies _ fun a ha => ?_
  obtain ⟨i, _, rfl⟩ := List.mem_map.1 ha
  exact body_no s (i + 1) 59 (by simp)
/-- the four parts -/
theorem split_dump (s : St) : splitL 124 (dumpL s) = [recsTo s s.N, queueN s.queue s.queue.length, listL s.stack, listL s.globals] := by
  have hq : ∀ x ∈ queueN s.queue s.queue.length, x ≠ 124 := by
    rw [queue_join]
    refine join_no _ 124 (by decide) fun a ha => ?_
    obtain ⟨v, _, rfl⟩ := List.mem_map.1 ha
    exact digits_no v 124 (by simp)
  have e : dumpL s = recsTo s s.N ++ 124 :: (queueN s.queue s.queue.length ++ 124 :: (listL s.stack ++ 124 :: listL s.globals)) := by
    unfold dumpL
    simp
  rw [e, splitL_cut (recs_no s s.N), splitL_cut hq, splitL_cut (list_no _ 124 (by simp)), splitL_plain (list_no _ 124 (by simp))]

/-! ### A record, read again -/
structure Cell where
  letter : UInt8
  count : Int
  fields : List (UInt8 × Int)
/-- how many bytes ahead of the first '[' -/
def aheadL (l : List UInt8) : Nat := l.findIdx (· == 91)
def blockL (l : List UInt8) : Cell × Bool :=
  if l = [46] then (⟨46, 0, []⟩, true) else
  if aheadL l < 1 ∨ l.length ≤ aheadL l + 1 ∨ l.getD (l.length - 1) 0 ≠ 93 then (⟨0, 0, []⟩, false) else
  if l.getD 0 0 = 115 then (⟨115, 0, valuesL ((l.drop (aheadL l + 1)).take (l.length - 1 - (aheadL l + 1)))⟩, decide (aheadL l = 1)) else
  (⟨l.getD 0 0, smallL ((l.take (aheadL l)).drop 1), valuesL ((l.drop (aheadL l + 1)).take (l.length - 1 - (aheadL l + 1)))⟩, decide (l.getD 0 0 = 113 ∨ l.getD 0 0 = 119 ∨ l.getD 0 0 = 104) && decide (0 ≤ smallL ((l.take (aheadL l)).drop 1)))
/-- what a block shows -/
def cellOf (s : St) (i : Nat) : Cell :=
  if (s.ob i).here then
    (if (s.ob i).queued then ⟨113, s.count i, (s.ob i).fs.map absV⟩ else if (s.ob i).stuck then ⟨115, 0, (s.ob i).fs.map absV⟩ else if s.waits i then ⟨119, s.count i, (s.ob i).fs.map absV⟩ else ⟨104, s.count i, (s.ob i).fs.map absV⟩)
  else ⟨46, 0, []⟩
theorem ahead_eq {a b : List UInt8} (h : ∀ x ∈ a, x ≠ 91) : aheadL (a ++ 91 :: b) = a.length := by
  unfold aheadL
  rw [List.findIdx_append]
  have : a.findIdx (· == 91) = a.length := List.findIdx_eq_length.2 fun x hx => by simpa using h x hx
  rw [this, if_neg (Nat.lt_irrefl _), List.findIdx_cons]
  simp

theorem block_form {y : UInt8} {t f : List UInt8} (hy : y ≠ 91) (ht : ∀ x ∈ t, x ≠ 91) :
    aheadL ((y :: t) ++ 91 :: (f ++ [93])) = t.length + 1 ∧ ((y :: t) ++ 91 :: (f ++ [93])).length = t.length + f.length + 3 ∧ ((y :: t) ++ 91 :: (f ++ [93])).getD 0 0 = y ∧
    ((y :: t) ++ 91 :: (f ++ [93])).getD (((y :: t) ++ 91 :: (f ++ [93])).length - 1) 0 = 93 ∧ (((y :: t) ++ 91 :: (f ++ [93])).take (t.length + 1)).drop 1 = t ∧ (((y :: t) ++ 91 :: (f ++ [93])).drop (t.length + 1 + 1)).take (t.length + f.length + 3 - 1 - (t.length + 1 + 1)) = f := by
  have h1 : ∀ x ∈ y :: t, x ≠ 91 := fun x hx => by
    rcases List.mem_cons.1 hx with e | e
    · rw [e]; exact hy
    · exact ht x e
  have hlen : ((y :: t) ++ 91 :: (f ++ [93])).length = t.length + f.length + 3 := by simp; omega
  refine ⟨by rw [ahead_eq h1]; simp, hlen, rfl, ?_, ?_, ?_⟩
  · have e : (y :: t) ++ 91 :: (f ++ [93]) = ((y :: t) ++ 91 :: f) ++ [93] := by simp
    rw [e, List.getD_eq_getElem?_getD, List.length_append, List.length_singleton, Nat.add_sub_cancel, List.getElem?_append_right (Nat.le_refl _), Nat.sub_self]
    rfl
  · have e : (y :: t) ++ 91 :: (f ++ [93]) = (y :: t) ++ (91 :: (f ++ [93])) := rfl
    rw [e, show t.length + 1 = (y :: t).length by simp, List.take_left]
    rfl
  · have e : (y :: t) ++ 91 :: (f ++ [93]) = ((y :: t) ++ [91]) ++ (f ++ [93]) := by simp
    rw [e, show t.length + 1 + 1 = ((y :: t) ++ [91]).length by simp, List.drop_left]
    have : t.length + f.length + 3 - 1 - ((y :: t) ++ [91]).length = f.length := by rw [List.length_append, List.length_cons, List.length_singleton]; omega
    rw [this, List.take_left]
theorem block_body {s : St} {N : Nat} (g : s.Good N) (hN : N ≤ 99) (i : Nat) : blockL (bodyL s i) = (cellOf s i, true) := by
  have hf := values_fields g hN i
  have hc := g.count_le (i : Int)
  have hsm := small_digits (s.count i) (by omega)
  have hd := digits_no (s.count i) 91 (by simp)
  unfold bodyL cellOf
  by_cases hh : (s.ob i).here = true
  · rw [if_pos hh, if_pos hh]
    -- a letter with its count
    have key : ∀ y : UInt8, y = 113 ∨ y = 119 ∨ y = 104 → blockL ((y :: digits (s.count i)) ++ 91 :: (listL (s.ob i).fs ++ [93])) = (⟨y, s.count i, (s.ob i).fs.map absV⟩, true) := fun y hy => by
      obtain ⟨a1, a2, a3, a4, a5, a6⟩ := block_form (y := y) (t := digits (s.count i)) (f := listL (s.ob i).fs) (by rcases hy with e | e | e <;> rw [e] <;> decide) hd
      unfold blockL
      rw [if_neg (fun e => by have := congrArg List.length e; rw [a2] at this; simp at this), a1, a4, a2, a3, a5, a6, hf, hsm]
      rw [if_neg (by simp; omega), if_neg (by rcases hy with e | e | e <;> rw [e] <;> decide)]
      congr 1
      simp [hy]
    unfold letterL
    by_cases hq : (s.ob i).queued = true
    · rw [if_pos hq, if_pos hq]; exact key 113 (.inl rfl)
    rw [if_neg hq, if_neg hq]
    by_cases hs : (s.ob i).stuck = true
    · rw [if_pos hs, if_pos hs]
      obtain ⟨a1, a2, a3, a4, a5, a6⟩ := block_form (y := 115) (t := []) (f := listL (s.ob i).fs) (by decide) (by simp)
      unfold blockL
      rw [if_neg (fun e => by have := congrArg List.length e; rw [a2] at this; simp at this), a1, a4, a2, a3, a6, hf]
      rw [if_neg (by simp), if_pos rfl]
      simp
    rw [if_neg hs, if_neg hs]
    by_cases hw : s.waits i = true
    · rw [if_pos hw, if_pos hw]; exact key 119 (.inr (.inl rfl))
    · rw [if_neg hw, if_neg hw]; exact key 104 (.inr (.inr rfl))
  · rw [if_neg hh, if_neg hh]; rfl

end Go.Proofs.YtpmkjeihbddfpabDoor

/- OUR OWN. What a Dump shows of a heap that is as it should be (Counted). -/
namespace Go.Proofs.YtpmkjeihbddfpabDoor
set_option linter.unusedVariables false
set_option linter.unusedSimpArgs false

def refsP (l : List (UInt8 × Int)) (b : Int) : Nat := l.countP fun v => v.1 == 35 && v.2 == b
theorem refsP_abs {s : St} {N : Nat} (g : s.Good N) (hN : N ≤ 99) {l : List (Int × Int)} (h : ∀ v ∈ l, s.leads v) (b : Int) : refsP (l.map absV) b = refsN l b := by
  unfold refsP refsN
  rw [List.countP_map]
  refine List.countP_congr fun v hv => ?_
  have e : ((fun v : UInt8 × Int => v.1 == 35 && v.2 == b) ∘ absV) v = (v.1 == 2 && v.2 == b) := by
    show ((absV v).1 == 35 && (absV v).2 == b) = _
    rcases g.readable hN (h v hv) with e | e | ⟨e, _⟩
    · have : absV v = (110, 0) := by unfold absV; rw [if_pos e]
      rw [this, e]; rfl
    · have : absV v = (48, 0) := by unfold absV; rw [if_neg (by omega), if_pos e]
      rw [this, e]; rfl
    · have : absV v = (35, v.2) := by unfold absV; rw [if_neg (by omega), if_neg (by omega)]
      rw [this, e]; rfl
  rw [e]
theorem count_one {l : List Int} {x : Int} (h : l.Nodup) (hx : x ∈ l) : l.count x = 1 := by
  induction l with
  | nil => cases hx
  | cons a l ih =>
    obtain ⟨n1, n2⟩ := List.nodup_cons.1 h
    rw [List.count_cons]
    by_cases e : a = x
    · subst e
      rw [List.count_eq_zero.2 n1]; simp
    · have hx' : x ∈ l := by
        rcases List.mem_cons.1 hx with e2 | e2
        · exact absurd e2.symm e
        · exact e2
      rw [ih n2 hx']
      simp [e]
theorem refsP_queue {s : St} {N : Nat} (g : s.Good N) (i : Nat) : refsP (s.queue.map fun b => ((35 : UInt8), b)) i = if (s.ob i).queued then 1 else 0 := by
  have e : refsP (s.queue.map fun b => ((35 : UInt8), b)) i = s.queue.count (i : Int) := by
    unfold refsP
    rw [List.countP_map, List.count]
    refine List.countP_congr fun v _ => ?_
    show (((35 : UInt8) == 35 && v == (i : Int)) = true) ↔ _
    simp
  rw [e]
  cases hq : (s.ob i).queued with
  | true => rw [if_pos rfl]; exact count_one g.once ((g.inq i).2 hq)
  | false =>
    rw [if_neg (by simp)]
    exact List.count_eq_zero.2 fun hm => by have := (g.inq i).1 hm; rw [hq] at this; cases this
/-- all fields that are shown -/
theorem fields_sum {s : St} {N : Nat} (g : s.Good N) (hN : N ≤ 99) (b : Int) : ((List.range N).map fun i => refsP (cellOf s (i + 1)).fields b).sum = s.count b := by
  unfold St.count
  congr 1
  refine List.ext_getElem? fun i => ?_
  rw [List.getElem?_map, List.getElem?_map, List.getElem?_tail]
  by_cases hi : i < N
  · have hl : i + 1 < s.objs.length := by rw [g.len]; omega
    rw [List.getElem?_range hi, List.getElem?_eq_getElem hl]
    simp only [Option.map_some]
    congr 1
    have eo : s.ob (i + 1) = s.objs[i + 1] := ob_of (List.getElem?_eq_getElem hl)
    rw [← eo]
    unfold cellOf obCount
    have hf := refsP_abs g hN (g.fields (i + 1)) b
    by_cases hh : (s.ob (i + 1)).here = true
    · rw [if_pos hh, if_pos hh]
      split
      · exact hf
      · split
        · exact hf
        · split <;> exact hf
    · rw [if_neg hh, if_neg hh]; rfl
  · rw [List.getElem?_eq_none (by simp; omega), List.getElem?_eq_none (by rw [g.len]; omega)]; rfl
/-- what is in the queue no value has -/
theorem St.Good.queued_bare {s : St} {N : Nat} (g : s.Good N) {i : Nat} (h : (s.ob i).queued = true) : s.count i = 0 ∧ refsN s.stack i = 0 ∧ refsN s.globals i = 0 := by
  have na : ¬ s.alive i := fun ha => by have := ha.2; rw [h] at this; cases this
  have nr : ∀ l : List (Int × Int), (∀ v ∈ l, s.leads v) → refsN l i = 0 := fun l hl => by
    rcases Nat.eq_zero_or_pos (refsN l i) with e | e
    · exact e
    · obtain ⟨v, hv, h1, h2⟩ := refs_some e
      obtain ⟨j, hj, ha⟩ := leads_ref (hl v hv) h1
      have : j = i := by omega
      rw [this] at ha; exact absurd ha na
  exact ⟨g.count_gone na, nr _ g.stack, nr _ g.globals⟩
/-- the letter fits the count, the queue and the roots -/
def Exact (letter : UInt8) (count : Int) (q st gl n : Nat) : Prop :=
  (letter ≠ 115 → count = n) ∧ (letter = 46 ∨ letter = 115 → q = 0) ∧ (letter = 113 → q = 1 ∧ n = 0 ∧ st + gl = 0) ∧ (letter = 119 → q = 0 ∧ n = 0) ∧ (letter = 104 → q = 0 ∧ 0 < n) ∧ (letter = 46 ∨ letter = 115 ∨ letter = 113 ∨ letter = 119 ∨ letter = 104)
theorem exact_of {s : St} {N : Nat} (g : s.Good N) (hN : N ≤ 99) (i : Nat) :
    Exact (cellOf s i).letter (cellOf s i).count (refsP (s.queue.map fun b => ((35 : UInt8), b)) i) (refsP (s.stack.map absV) i) (refsP (s.globals.map absV) i) (s.count i) := by
  rw [refsP_queue g, refsP_abs g hN g.stack, refsP_abs g hN g.globals]
  unfold cellOf
  by_cases hh : (s.ob i).here = true
  · rw [if_pos hh]
    by_cases hq : (s.ob i).queued = true
    · obtain ⟨b1, b2, b3⟩ := g.queued_bare hq
      rw [if_pos hq, if_pos hq]
      exact ⟨fun _ => rfl, (fun h => by rcases h with h | h <;> simp at h), fun _ => ⟨rfl, b1, by rw [b2, b3]⟩, (fun h => by simp at h), (fun h => by simp at h), .inr (.inr (.inl rfl))⟩
    rw [if_neg hq, if_neg hq]
    by_cases hs : (s.ob i).stuck = true
    · rw [if_pos hs]
      exact ⟨fun h => absurd rfl h, fun _ => rfl, (fun h => by simp at h), (fun h => by simp at h), (fun h => by simp at h), .inr (.inl rfl)⟩
    rw [if_neg hs]
    by_cases hw : s.waits i = true
    · obtain ⟨_, _, hc⟩ := waits_iff.1 hw
      rw [if_pos hw]
      exact ⟨fun _ => rfl, (fun h => by rcases h with h | h <;> simp at h), (fun h => by simp at h), fun _ => ⟨rfl, hc⟩, (fun h => by simp at h), .inr (.inr (.inr (.inl rfl)))⟩
    · rw [if_neg hw]
      refine ⟨fun _ => rfl, (fun h => by rcases h with h | h <;> simp at h), (fun h => by simp at h), (fun h => by simp at h), fun _ => ⟨rfl, ?_⟩, .inr (.inr (.inr (.inr rfl)))⟩
      rcases Nat.eq_zero_or_pos (s.count i) with e | e
      · exact absurd (waits_iff.2 ⟨⟨hh, by simpa using hq⟩, by simpa using hs, e⟩) hw
      · exact e
  · rw [if_neg hh]
    have hf : (s.ob i).here = false := by simpa using hh
    have hq : (s.ob i).queued = false := by rw [g.gone i hf]; rfl
    have hc : s.count i = 0 := g.count_gone fun ha => hh ha.1
    rw [hq]
    exact ⟨fun _ => by rw [hc]; rfl, fun _ => rfl, (fun h => by simp at h), (fun h => by simp at h), (fun h => by simp at h), .inl rfl⟩

/-! ### How many blocks have a letter -/
def lettersP (s : St) (N : Nat) (c : UInt8) : Nat := countTo (fun b => (cellOf s b).letter == c) N
theorem letter_free {s : St} {N : Nat} (g : s.Good N) : lettersP s N 46 = countTo s.frees N := by
  refine countTo_congr fun b _ _ => ?_
  unfold cellOf St.frees
  cases hh : (s.ob b).here with
  | false => rfl
  | true =>
    rw [if_pos rfl]
    cases (s.ob b).queued with
    | true => rfl
    | false =>
      cases (s.ob b).stuck with
      | true => rfl
      | false => cases s.waits b <;> rfl
theorem letter_wait {s : St} {N : Nat} (g : s.Good N) : lettersP s N 119 = countTo s.waits N := by
  refine countTo_congr fun b _ _ => ?_
  unfold cellOf
  cases hw : s.waits b with
  | true =>
    obtain ⟨a, hs, _⟩ := waits_iff.1 hw
    rw [a.1, a.2, hs]; rfl
  | false =>
    cases (s.ob b).here with
    | false => rfl
    | true => cases (s.ob b).queued <;> cases (s.ob b).stuck <;> rfl
theorem letter_stuck {s : St} {N : Nat} (g : s.Good N) : lettersP s N 115 = countTo s.stucks N := by
  refine countTo_congr fun b _ _ => ?_
  unfold cellOf St.stucks
  cases hh : (s.ob b).here with
  | false => rfl
  | true =>
    cases hq : (s.ob b).queued with
    | true => rw [g.unstuck b hq]; rfl
    | false =>
      cases hs : (s.ob b).stuck with
      | true => rfl
      | false => cases s.waits b <;> rfl
theorem letter_queued {s : St} {N : Nat} (g : s.Good N) : lettersP s N 113 = s.queue.length := by
  have e : lettersP s N 113 = countTo (fun b => (s.ob b).queued) N := countTo_congr fun b _ _ => by
    unfold cellOf
    cases hq : (s.ob b).queued with
    | true => rw [g.queued_here hq]; rfl
    | false =>
      cases (s.ob b).here with
      | false => rfl
      | true => cases (s.ob b).stuck <;> cases s.waits b <;> rfl
  rw [e, countTo_filter]
  have n1 : (s.queue.map Int.toNat).Nodup := by
    rw [List.nodup_iff_pairwise_ne, List.pairwise_map]
    refine List.Pairwise.imp_of_mem (fun {a b} ha hb hne e => hne ?_) g.once
    have := g.nat a ha; have := g.nat b hb
    omega
  have n2 : (((List.range N).map (· + 1)).filter fun b => (s.ob b).queued).Nodup := by
    have nd : ((List.range N).map (· + 1)).Nodup := by
      rw [List.nodup_iff_pairwise_ne, List.pairwise_map]
      exact List.nodup_range.imp fun hne e => hne (by omega)
    exact nd.filter _
  have h1 := nodup_le n1 (l' := ((List.range N).map (· + 1)).filter fun b => (s.ob b).queued) fun x hx => by
    obtain ⟨b, hb, rfl⟩ := List.mem_map.1 hx
    have h0 := g.nat b hb
    have hq := (g.inq b.toNat).1 (by rw [Int.toNat_of_nonneg h0]; exact hb)
    have hz := g.ne_zero (g.queued_here hq)
    exact List.mem_filter.2 ⟨List.mem_map.2 ⟨b.toNat - 1, by simp; omega, by omega⟩, hq⟩
  have h2 := nodup_le n2 (l' := s.queue.map Int.toNat) fun x hx => by
    obtain ⟨_, hq⟩ := List.mem_filter.1 hx
    exact List.mem_map.2 ⟨(x : Int), (g.inq x).2 hq, by simp⟩
  rw [List.length_map] at h1 h2
  omega
theorem letter_extra {s : St} {N : Nat} (g : s.Good N) : countTo (fun b => (cellOf s b).letter == 104 && decide (7 < (cellOf s b).count)) N = countTo s.extra N := by
  refine countTo_congr fun b _ _ => ?_
  unfold cellOf St.extra
  cases hh : (s.ob b).here with
  | false => rfl
  | true =>
    rw [if_pos rfl]
    cases hq : (s.ob b).queued with
    | true =>
      have := (g.queued_bare hq).1
      rw [this]; simp
    | false =>
      rw [if_neg (by simp)]
      cases hs : (s.ob b).stuck with
      | true => rfl
      | false =>
        rw [if_neg (by simp)]
        cases hw : s.waits b with
        | true =>
          have := (waits_iff.1 hw).2.2
          rw [this]; simp
        | false =>
          rw [if_neg (by simp)]
          show (true && decide ((7 : Int) < (s.count b : Int))) = (true && true && decide (7 < s.count b))
          rw [show decide ((7 : Int) < (s.count b : Int)) = decide (7 < s.count b) from decide_eq_decide.2 (by omega)]
          simp
/-- Gauge is what the Dump shows -/
theorem gauge_shown {s : St} {N : Nat} (g : s.Good N) : gaugeS s = (lettersP s N 46, lettersP s N 119, lettersP s N 113, countTo (fun b => (cellOf s b).letter == 104 && decide (7 < (cellOf s b).count)) N, lettersP s N 115) := by
  unfold gaugeS St.extras
  rw [g.sN, letter_free g, letter_wait g, letter_queued g, letter_extra g, letter_stuck g]

end Go.Proofs.YtpmkjeihbddfpabDoor

/- OUR OWN. Without memory: heaps that no root holds (Swept), rings made and let go (Endless), what a safepoint and a collection free (Freed). -/
namespace Go.Proofs.YtpmkjeihbddfpabDoor
set_option linter.unusedVariables false
set_option linter.unusedSimpArgs false

/-! ### No root -/
theorem count_none {p : Nat → Bool} (h : ∀ b, p b = false) (n : Nat) : countTo p n = 0 := by
  unfold countTo
  exact List.countP_eq_zero.2 fun j _ => by rw [h]; simp
/-- nothing on the stack, nil in all globals -/
structure Empty (s : St) : Prop where
  stack : s.stack = []
  globals : ∀ v ∈ s.globals, v = (0, 0)
theorem Empty.rooted {s : St} (h : Empty s) (b : Int) : s.rooted b = false := by
  cases e : s.rooted b
  · rfl
  · exfalso
    rcases rooted_true.1 e with ⟨v, hv, h1, _⟩ | ⟨v, hv, h1, _⟩
    · rw [h.stack] at hv; cases hv
    · rw [h.globals v hv] at h1; simp at h1
theorem Empty.reach {s : St} (h : Empty s) (b : Nat) : s.reachB b = false := by
  cases e : s.reachB b
  · rfl
  · exact (reach_least (P := fun _ => False) (fun b _ _ hr => by rw [h.rooted] at hr; cases hr) (fun a b f => f.elim) e).elim
theorem Empty.reachN {s : St} (h : Empty s) : reachN s = 0 := count_none h.reach _
theorem collect_roots (s : St) (o : Int) : (s.collect o).stack = s.stack ∧ (s.collect o).globals = s.globals ∧ (s.collect o).queue = [] := ⟨rfl, rfl, rfl⟩
theorem Empty.collect {s : St} (h : Empty s) (o : Int) : Empty (s.collect o) := ⟨h.stack, h.globals⟩
theorem freeN_le (s : St) : freeN s ≤ s.N := countTo_le _ _
/-- what a collection leaves of it -/
theorem Empty.swept {s : St} {N : Nat} (h : Empty s) (g : s.Good N) (o : Int) : (∀ b, ((s.collect o).ob b).here = false) ∧ (s.gone : Int) = N - freeN s ∧ gaugeS (s.collect o) = (N, 0, 0, 0, 0) := by
  have hh : ∀ b, ((s.collect o).ob b).here = false := fun b => by rw [collect_here g]; exact h.reach b
  obtain ⟨f1, f2⟩ := freeN_collect g o
  rw [h.reachN] at f1
  refine ⟨hh, by omega, ?_⟩
  have e1 : countTo (s.collect o).frees (s.collect o).N = N := by
    have : countTo (s.collect o).frees (s.collect o).N = freeN (s.collect o) := rfl
    rw [this]; omega
  have e2 : countTo (s.collect o).waits (s.collect o).N = 0 := count_none (fun b => by unfold St.waits; rw [hh]; simp) _
  have e3 : (s.collect o).extras = 0 := count_none (fun b => by unfold St.extra; rw [hh]; simp) _
  have e4 : countTo (s.collect o).stucks (s.collect o).N = 0 := count_none (fun b => by unfold St.stucks; rw [hh]; simp) _
  unfold gaugeS
  rw [e1, e2, e3, e4]
  rfl
/-- of a heap all of whose blocks are free nothing more is freed -/
theorem free_gone {s : St} (h : ∀ b, (s.ob b).here = false) : s.gone = 0 := count_none (fun b => by rw [h]; simp) _
theorem free_all {s : St} {N : Nat} (g : s.Good N) (h : ∀ b, (s.ob b).here = false) (o : Int) : ∀ b, ((s.collect o).ob b).here = false := fun b => by
  rw [collect_here g]
  exact reach_le_here g (h b)
theorem free_safe {s : St} {N : Nat} (g : s.Good N) (h : ∀ b, (s.ob b).here = false) (c : Cf) (g' : (s.safe c).1.Good N) : (s.safe c).2 = 0 := by
  have h1 := (freeN_safe g c).1
  have h2 := freeN_le (s.safe c).1
  have h3 : freeN s = s.N := by
    unfold freeN
    rw [countTo_congr (q := fun _ => true) (fun b _ _ => by rw [h]; rfl)]
    unfold countTo
    simp
  rw [g'.sN] at h2
  rw [g.sN] at h3
  omega

/-! ### Emptying -/
theorem drop_len (c : Cf) (s : St) : (doS c s 4 0).1.stack.length = s.stack.length - 1 ∧ (doS c s 4 0).1.globals = s.globals := by
  have e : doS c s 4 0 = dropS s := by simp [doS]
  rw [e]
  unfold dropS
  split
  · exact ⟨by show s.stack.length = _; omega, rfl⟩
  · exact ⟨by simp [St.pop], rfl⟩
theorem drop_none {c : Cf} {s : St} (h : s.stack = []) : doS c s 4 0 = (s, 0, 3) := by
  have e : doS c s 4 0 = dropS s := by simp [doS]
  rw [e]
  unfold dropS
  rw [if_pos (by rw [h]; simp)]
theorem nil_push {c : Cf} {s : St} (h : s.stack = []) (hd : 1 ≤ c.deep) : doS c s 0 0 = ({ s with stack := [(0, 0)] }, 0, 0) := by
  have e : doS c s 0 0 = pushA c.deep s (0, 0) := by simp [doS]
  rw [e]
  unfold pushA pushS
  rw [if_neg (by rw [h]; simp; omega), h]
  rfl
theorem nil_set {c : Cf} {s : St} {i : Nat} (h : s.stack = [(0, 0)]) (hi : i < s.globals.length) : doS c s 6 i = ({ s with stack := [], globals := s.globals.set i (0, 0) }, 0, 0) := by
  have e : doS c s 6 i = setS s i := by simp [doS]
  rw [e]
  unfold setS
  rw [if_neg (by omega), if_neg (by rw [h]; simp)]
  simp [St.pop, St.down, h]

/-! ### Rings -/
theorem roomS_globals (c : Cf) (s : St) : (roomS c s).globals = s.globals := by
  unfold roomS
  split
  · rfl
  · split
    · unfold St.free St.leave
      exact (letTo_same _ _ _ _).2.1
    · rfl
theorem newS_globals (c : Cf) (s : St) (n : Int) : (newS c s n).1.globals = s.globals := by
  unfold newS
  split
  · rfl
  split
  · rfl
  split
  · exact roomS_globals c s
  · unfold layS
    exact (enter_same _ _ _).2.1.trans (roomS_globals c s)
/-- one object with n fields, k times on the stack, and nothing else -/
structure Ring (n b k : Nat) (s : St) : Prop where
  stack : s.stack = List.replicate k (2, (b : Int))
  fields : (s.ob b).fs.length = n
  globals : ∀ v ∈ s.globals, v = (0, 0)
theorem Empty.make {s : St} {N n : Nat} {c : Cf} (h : Empty s) (g : s.Good N) (hN : 1 ≤ N) (hd : 1 ≤ c.deep) (hn : n ≤ 4) : (doS c s 2 n).2 = (0, 0) ∧ ∃ b, Ring n b 1 (doS c s 2 n).1 := by
  have e : doS c s 2 n = newS c s n := by simp [doS]
  rw [e]
  have ha := new_answer g c n
  rw [if_neg (by omega), if_neg (by rw [h.stack]; simp; omega), if_neg (by rw [h.reachN]; omega)] at ha
  obtain ⟨b, h1, h2, h3, h4, h5⟩ := new_object g c n ha
  refine ⟨?_, b, ⟨by rw [h3, h.stack]; rfl, by rw [h4]; simp, by rw [newS_globals]; exact h.globals⟩⟩
  have h0 : (newS c s n).2.1 = 0 := by
    unfold newS
    split
    · rfl
    split
    · rfl
    split <;> rfl
  exact Prod.ext h0 ha
theorem rep_down {k : Nat} {v d : Int × Int} {i : Nat} (h : i < k) : (List.replicate k v).getD i d = v := by
  rw [List.getD_eq_getElem?_getD, List.getElem?_replicate, if_pos h]
  rfl
theorem Ring.dup {s : St} {n b k : Nat} {c : Cf} (h : Ring n b k s) (h1 : 1 ≤ k) (hd : (k : Int) < c.deep) : (doS c s 3 0).2 = (0, 0) ∧ Ring n b (k + 1) (doS c s 3 0).1 := by
  have e : doS c s 3 0 = dupS c.deep s 0 := by simp [doS]
  have hl : s.stack.length = k := by rw [h.stack]; simp
  have e2 : s.down 0 = (2, (b : Int)) := by unfold St.down; rw [h.stack]; exact rep_down (by simp; omega)
  rw [e]
  unfold dupS
  rw [if_neg (by rw [hl]; omega)]
  unfold pushA pushS
  rw [if_neg (by rw [hl]; omega)]
  refine ⟨rfl, ⟨?_, h.fields, h.globals⟩⟩
  show s.stack ++ [s.down (0 : Int).toNat] = _
  rw [show s.down (0 : Int).toNat = (2, (b : Int)) from e2, h.stack, ← List.replicate_succ']
theorem field_len (s : St) (i k : Nat) (v : Int × Int) (b : Nat) : ((s.field i k v).ob b).fs.length = (s.ob b).fs.length := by
  unfold St.field
  by_cases hi : i < s.objs.length
  · rw [ob_put _ _ hi]
    split
    · rename_i e; subst e; simp
    · rfl
  · unfold St.put St.ob
    rw [List.set_eq_of_length_le (by omega)]
theorem put_keeps (c : Cf) (s : St) (i k : Nat) (x y : Int × Int) (b : Nat) : (putS c s i k x y).stack = s.stack ∧ (putS c s i k x y).globals = s.globals ∧ ((putS c s i k x y).ob b).fs.length = (s.ob b).fs.length := by
  have h1 : ∀ t : St, (stickS c.over t x).stack = t.stack ∧ (stickS c.over t x).globals = t.globals := fun t => by
    unfold stickS
    split
    · exact ⟨rfl, rfl⟩
    · exact ⟨rfl, rfl⟩
  have h2 : ∀ t : St, (dropS' c.zero t y).stack = t.stack ∧ (dropS' c.zero t y).globals = t.globals ∧ ((dropS' c.zero t y).ob b).fs = (t.ob b).fs := fun t => by
    unfold dropS'
    split
    · exact ⟨(enter_same _ _ _).1, (enter_same _ _ _).2.1, enter_fs _ _ _ _⟩
    · exact ⟨rfl, rfl, rfl⟩
  unfold putS
  split
  · exact ⟨rfl, rfl, rfl⟩
  · obtain ⟨a1, a2, a3⟩ := h2 ((stickS c.over s x).field i k x)
    refine ⟨a1.trans (h1 s).1, a2.trans (h1 s).2, ?_⟩
    rw [a3, field_len, (stick_ob b).2.1]
theorem Ring.store {s : St} {n b : Nat} {c : Cf} (h : Ring n b 3 s) (h1 : 1 ≤ n) : (doS c s 8 ((n : Int) - 1)).2 = (0, 0) ∧ Ring n b 1 (doS c s 8 ((n : Int) - 1)).1 := by
  have e : doS c s 8 ((n : Int) - 1) = storeS c s ((n : Int) - 1) := by simp [doS]
  have hl : s.stack.length = 3 := by rw [h.stack]; simp
  have e2 : s.down 1 = (2, (b : Int)) := by unfold St.down; rw [h.stack]; exact rep_down (by simp)
  have e3 : s.fields (2, (b : Int)).2 = (s.ob b).fs := by unfold St.fields; simp
  rw [e]
  unfold storeS
  rw [if_neg (by rw [hl]; omega), e2, if_neg (by simp [objErr]), e3, if_neg (by rw [h.fields]; omega)]
  obtain ⟨p1, p2, p3⟩ := put_keeps c (s.pop 2) (2, (b : Int)).2.toNat ((n : Int) - 1).toNat (s.down 0) ((s.ob b).fs.getD ((n : Int) - 1).toNat (0, 0)) b
  refine ⟨rfl, ⟨p1.trans ?_, p3.trans h.fields, by rw [p2]; exact h.globals⟩⟩
  unfold St.pop
  rw [hl, h.stack]
  rfl
theorem Ring.size {s : St} {n b : Nat} {c : Cf} (h : Ring n b 1 s) : doS c s 11 0 = (s, (n : Int), 0) := by
  have e : doS c s 11 0 = sizeS s := by simp [doS]
  have hl : s.stack.length = 1 := by rw [h.stack]; simp
  have e2 : s.down 0 = (2, (b : Int)) := by unfold St.down; rw [h.stack]; exact rep_down (by simp)
  have e3 : s.fields (2, (b : Int)).2 = (s.ob b).fs := by unfold St.fields; simp
  rw [e]
  unfold sizeS
  rw [if_neg (by rw [hl]; omega), e2, if_neg (by simp [objErr]), e3, h.fields]
theorem Ring.drop {s : St} {n b : Nat} {c : Cf} (h : Ring n b 1 s) : (doS c s 4 0).2 = (0, 0) ∧ Empty (doS c s 4 0).1 := by
  have e : doS c s 4 0 = dropS s := by simp [doS]
  have hl : s.stack.length = 1 := by rw [h.stack]; simp
  rw [e]
  unfold dropS
  rw [if_neg (by omega)]
  refine ⟨rfl, ⟨?_, h.globals⟩⟩
  unfold St.pop
  rw [hl]
  rfl

/-! ### What is freed -/
theorem safe_reachN {s : St} {N : Nat} (g : s.Good N) (c : Cf) : reachN (s.safe c).1 = reachN s := (same_safe g c).reachN
theorem collect_reachN {s : St} {N : Nat} (g : s.Good N) (o : Int) : reachN (s.collect o) = reachN s := (same_collect g o).reachN

end Go.Proofs.YtpmkjeihbddfpabDoor

/- OUR OWN. reached, without memory: what a search by breadth finds. -/
namespace Go.Proofs.YtpmkjeihbddfpabDoor
set_option linter.unusedVariables false
set_option linter.unusedSimpArgs false

/-- one value is looked at -/
def stepR (t : List Nat) (v : UInt8 × Int) : List Nat := if v.1 = 35 ∧ v.2.toNat ∉ t then t ++ [v.2.toNat] else t
def scanR (l : List (UInt8 × Int)) (t : List Nat) : List Nat := l.foldl stepR t
theorem scanR_nil (t : List Nat) : scanR [] t = t := rfl
theorem scanR_snoc (l : List (UInt8 × Int)) (v : UInt8 × Int) (t : List Nat) : scanR (l ++ [v]) t = stepR (scanR l t) v := by
  unfold scanR; rw [List.foldl_append]; rfl
theorem stepR_pre (t : List Nat) (v : UInt8 × Int) : ∃ x, stepR t v = t ++ x := by
  unfold stepR
  split
  · exact ⟨_, rfl⟩
  · exact ⟨[], by simp⟩
theorem scanR_pre (l : List (UInt8 × Int)) : ∀ t : List Nat, ∃ x, scanR l t = t ++ x := by
  induction l with
  | nil => intro t; exact ⟨[], by simp [scanR]⟩
  | cons v l ih =>
    intro t
    obtain ⟨x, hx⟩ := stepR_pre t v
    obtain ⟨y, hy⟩ := ih (stepR t v)
    refine ⟨x ++ y, ?_⟩
    show scanR l (stepR t v) = _
    rw [hy, hx, List.append_assoc]
theorem stepR_nodup {t : List Nat} (h : t.Nodup) (v : UInt8 × Int) : (stepR t v).Nodup := by
  unfold stepR
  split
  · rename_i hc
    rw [List.nodup_append]
    exact ⟨h, by simp, fun a ha b hb => by simp at hb; intro e; exact hc.2 (by rw [← hb, ← e]; exact ha)⟩
  · exact h
theorem scanR_nodup (l : List (UInt8 × Int)) : ∀ {t : List Nat}, t.Nodup → (scanR l t).Nodup := by
  induction l with
  | nil => intro t h; exact h
  | cons v l ih => intro t h; exact ih (stepR_nodup h v)
theorem stepR_mem {t : List Nat} {v : UInt8 × Int} {b : Nat} (h : b ∈ stepR t v) : b ∈ t ∨ (v.1 = 35 ∧ v.2.toNat = b) := by
  unfold stepR at h
  split at h
  · rename_i hc
    rcases List.mem_append.1 h with e | e
    · exact .inl e
    · simp at e; exact .inr ⟨hc.1, e.symm⟩
  · exact .inl h
theorem scanR_mem (l : List (UInt8 × Int)) : ∀ {t : List Nat} {b : Nat}, b ∈ scanR l t → b ∈ t ∨ ∃ v ∈ l, v.1 = 35 ∧ v.2.toNat = b := by
  induction l with
  | nil => intro t b h; exact .inl h
  | cons v l ih =>
    intro t b h
    rcases ih (t := stepR t v) h with e | ⟨u, hu, e⟩
    · rcases stepR_mem e with e | e
      · exact .inl e
      · exact .inr ⟨v, List.mem_cons_self, e⟩
    · exact .inr ⟨u, List.mem_cons_of_mem _ hu, e⟩
theorem stepR_has (t : List Nat) (v : UInt8 × Int) (h : v.1 = 35) : v.2.toNat ∈ stepR t v := by
  unfold stepR
  by_cases e : v.2.toNat ∈ t
  · rw [if_neg (fun x => x.2 e)]; exact e
  · rw [if_pos ⟨h, e⟩]; simp
theorem scanR_has (l : List (UInt8 × Int)) : ∀ (t : List Nat), ∀ v ∈ l, v.1 = 35 → v.2.toNat ∈ scanR l t := by
  induction l with
  | nil => intro t v hv; cases hv
  | cons a l ih =>
    intro t v hv h
    rcases List.mem_cons.1 hv with e | e
    · obtain ⟨x, hx⟩ := scanR_pre l (stepR t a)
      show v.2.toNat ∈ scanR l (stepR t a)
      rw [hx, e]
      exact List.mem_append_left _ (stepR_has t a (by rw [← e]; exact h))
    · exact ih (stepR t a) v e h

/-- what is found when n of what was found have been looked at -/
structure Found (s : St) (n : Nat) (t : List Nat) : Prop where
  once : t.Nodup
  reach : ∀ b ∈ t, s.reachB b = true
  roots : ∀ b : Nat, s.rooted b = true → 1 ≤ b → b ≤ s.N → b ∈ t
  done : ∀ i, i < n → ∀ a, t[i]? = some a → ∀ b : Nat, 1 ≤ b → b ≤ s.N → 0 < refsN (s.ob a).fs b → b ∈ t
  le : n ≤ t.length

theorem mem_refsP {l : List (UInt8 × Int)} {v : UInt8 × Int} (hv : v ∈ l) (h : v.1 = 35) : 0 < refsP l v.2 := by
  unfold refsP
  exact List.countP_pos_iff.2 ⟨v, hv, by simp [h]⟩
theorem refs_mem {l : List (UInt8 × Int)} {b : Int} (h : 0 < refsP l b) : ∃ v ∈ l, v.1 = 35 ∧ v.2 = b := by
  unfold refsP at h
  obtain ⟨v, hv, e⟩ := List.countP_pos_iff.1 h
  exact ⟨v, hv, by simpa using e⟩

section
variable {s : St} {N : Nat}
/-- a reference leads to a block -/
theorem lead_range (g : s.Good N) {l : List (Int × Int)} (h : ∀ v ∈ l, s.leads v) {v : UInt8 × Int} (hv : v ∈ l.map absV) (h1 : v.1 = 35) : ∃ b : Nat, v.2 = (b : Int) ∧ 1 ≤ b ∧ b ≤ N := by
  obtain ⟨u, hu, rfl⟩ := List.mem_map.1 hv
  rcases h u hu with e | e | ⟨e, i, hi, ha⟩
  · rw [e] at h1; simp [absV] at h1
  · unfold absV at h1; rw [if_neg (by omega), if_pos e.1] at h1; simp at h1
  · refine ⟨i, ?_, g.ne_zero ha.1⟩
    unfold absV; rw [if_neg (by omega), if_neg (by omega)]; exact hi
theorem found_start (g : s.Good N) (hN : N ≤ 99) : Found s 0 (scanR (s.globals.map absV) (scanR (s.stack.map absV) [])) := by
  have hsN := g.sN
  refine ⟨scanR_nodup _ (scanR_nodup _ List.nodup_nil), fun b hb => ?_, fun b hr h1 h2 => ?_, fun i hi => absurd hi (Nat.not_lt_zero _), Nat.zero_le _⟩
  · have key : ∀ l : List (Int × Int), (∀ v ∈ l, s.leads v) → (∀ x : Int, 0 < refsN l x → s.rooted x = true) → ∀ v ∈ l.map absV, v.1 = 35 ∧ v.2.toNat = b → s.reachB b = true := fun l hl hro v hv ⟨e1, e2⟩ => by
      obtain ⟨i, hi, i1, i2⟩ := lead_range g hl hv e1
      have hib : i = b := by rw [hi, Int.toNat_natCast] at e2; exact e2
      subst hib
      refine reach_rooted i1 (by omega) (hro i ?_)
      rw [← refsP_abs g hN hl, ← hi]
      exact mem_refsP hv e1
    have hs : ∀ x : Int, 0 < refsN s.stack x → s.rooted x = true := fun x hx => by unfold St.rooted; simp; omega
    have hg : ∀ x : Int, 0 < refsN s.globals x → s.rooted x = true := fun x hx => by unfold St.rooted; simp; omega
    rcases scanR_mem _ hb with e | ⟨v, hv, e⟩
    · rcases scanR_mem _ e with e | ⟨v, hv, e⟩
      · cases e
      · exact key _ g.stack hs v hv e
    · exact key _ g.globals hg v hv e
  · unfold St.rooted at hr
    simp only [decide_eq_true_eq] at hr
    by_cases h0 : 0 < refsN s.stack b
    · rw [← refsP_abs g hN g.stack] at h0
      obtain ⟨v, hv, e1, e2⟩ := refs_mem h0
      obtain ⟨x, hx⟩ := scanR_pre (s.globals.map absV) (scanR (s.stack.map absV) [])
      rw [hx]
      have := scanR_has (s.stack.map absV) [] v hv e1
      rw [e2, Int.toNat_natCast] at this
      exact List.mem_append_left _ this
    · have h3 : 0 < refsN s.globals b := by omega
      rw [← refsP_abs g hN g.globals] at h3
      obtain ⟨v, hv, e1, e2⟩ := refs_mem h3
      have := scanR_has (s.globals.map absV) (scanR (s.stack.map absV) []) v hv e1
      rw [e2, Int.toNat_natCast] at this
      exact this
theorem cell_here {i : Nat} (h : (s.ob i).here = true) : (cellOf s i).fields = (s.ob i).fs.map absV := by
  unfold cellOf
  rw [if_pos h]
  split
  · rfl
  · split
    · rfl
    · split <;> rfl
theorem found_next (g : s.Good N) (hN : N ≤ 99) {n : Nat} {t : List Nat} (f : Found s n t) {a : Nat} (ha : t[n]? = some a) : Found s (n + 1) (scanR (cellOf s a).fields t) := by
  have hsN := g.sN
  have har : s.reachB a = true := f.reach a (List.mem_of_getElem? ha)
  have hal := g.reach_alive har
  have hf := cell_here (s := s) hal.1
  obtain ⟨x, hx⟩ := scanR_pre (cellOf s a).fields t
  have hnl : n < t.length := (List.getElem?_eq_some_iff.1 ha).1
  refine ⟨scanR_nodup _ f.once, fun b hb => ?_, fun b hr h1 h2 => by rw [hx]; exact List.mem_append_left _ (f.roots b hr h1 h2), fun i hi a' ha' b h1 h2 hr => ?_, by rw [hx, List.length_append]; omega⟩
  · rcases scanR_mem _ hb with e | ⟨v, hv, e1, e2⟩
    · exact f.reach b e
    · rw [hf] at hv
      obtain ⟨i, hi, i1, i2⟩ := lead_range g (g.fields a) hv e1
      have hib : i = b := by rw [hi, Int.toNat_natCast] at e2; exact e2
      subst hib
      refine reach_closed har i1 (by omega) ?_
      rw [← refsP_abs g hN (g.fields a), ← hi]
      exact mem_refsP hv e1
  · have hil : i < t.length := by omega
    have ha2 : t[i]? = some a' := by rw [hx, List.getElem?_append_left hil] at ha'; exact ha'
    by_cases e : i = n
    · subst e
      rw [ha] at ha2
      cases ha2
      rw [← refsP_abs g hN (g.fields a), ← hf] at hr
      obtain ⟨v, hv, e1, e2⟩ := refs_mem hr
      have := scanR_has (cellOf s a).fields t v hv e1
      rw [e2, Int.toNat_natCast] at this
      exact this
    · rw [hx]; exact List.mem_append_left _ (f.done i (by omega) a' ha2 b h1 h2 hr)

theorem count_list (p : Nat → Bool) (n : Nat) {t : List Nat} (hn : t.Nodup) (h : ∀ b, b ∈ t ↔ (1 ≤ b ∧ b ≤ n ∧ p b = true)) : t.length = countTo p n := by
  have e : countTo p n = ((List.range n).filter fun j => p (j + 1)).length := by unfold countTo; rw [List.countP_eq_length_filter]
  have hnd : (((List.range n).filter fun j => p (j + 1)).map (· + 1)).Nodup := by
    refine List.nodup_iff_pairwise_ne.2 ?_
    rw [List.pairwise_map]
    exact ((List.nodup_iff_pairwise_ne.1 (List.nodup_range (n := n))).filter _).imp fun hab e => hab (by omega)
  have h2 : ∀ b, b ∈ ((List.range n).filter fun j => p (j + 1)).map (· + 1) ↔ (1 ≤ b ∧ b ≤ n ∧ p b = true) := fun b => by
    simp only [List.mem_map, List.mem_filter, List.mem_range]
    constructor
    · rintro ⟨j, ⟨hj, hp⟩, rfl⟩; exact ⟨by omega, by omega, hp⟩
    · rintro ⟨h1, h2, h3⟩; exact ⟨b - 1, ⟨by omega, by rw [show b - 1 + 1 = b by omega]; exact h3⟩, by omega⟩
  have l1 := nodup_le hn fun x hx => (h2 x).2 ((h x).1 hx)
  have l2 := nodup_le hnd fun x hx => (h x).2 ((h2 x).1 hx)
  rw [List.length_map] at l1 l2
  omega
theorem found_end (g : s.Good N) {t : List Nat} (f : Found s t.length t) : t.length = reachN s := by
  unfold reachN
  refine count_list s.reachB s.N f.once fun b => ⟨fun hb => ?_, fun ⟨h1, h2, h3⟩ => ?_⟩
  · have := reach_range s s.N b (f.reach b hb)
    exact ⟨this.1, this.2, f.reach b hb⟩
  · refine reach_least (P := fun b => b ∈ t) (fun b h1 h2 hr => f.roots b hr h1 h2) (fun a b ha _ _ h1 h2 hr => ?_) h3
    obtain ⟨i, hi⟩ := List.getElem?_of_mem ha
    exact f.done i ((List.getElem?_eq_some_iff.1 hi).1) a hi b h1 h2 hr
theorem Found.small (g : s.Good N) {n : Nat} {t : List Nat} (f : Found s n t) : t.length ≤ N := by
  have := nodup_le (l' := (List.range N).map (· + 1)) f.once fun b hb => by
    have := reach_range s s.N b (f.reach b hb)
    rw [g.sN] at this
    exact List.mem_map.2 ⟨b - 1, List.mem_range.2 (by omega), by omega⟩
  simpa using this
end

end Go.Proofs.YtpmkjeihbddfpabDoor

/- OUR OWN. A Dump read again: split. -/
namespace Go.Proofs.YtpmkjeihbddfpabDoor
open Go.RowKit
set_option linter.unusedVariables false
set_option linter.unusedSimpArgs false

theorem infoStr : (Tryd.prog.info? 9).map (fun i => (i.zero, i.size, i.bytes)) = some (some (.string ⟨#[]⟩), 1, 16) := by kernel_rfl

theorem ba_get {l : List UInt8} {S : ByteArray} (h : ⟨l.toArray⟩ = S) (k : Nat) (hk : k < l.length) (hk' : k < S.size) : S[k] = l[k] := by
  subst h; rfl
theorem ba_extract {l : List UInt8} {S : ByteArray} (h : ⟨l.toArray⟩ = S) (a b : Nat) : S.extract a b = ⟨((l.take b).drop a).toArray⟩ := by
  subst h
  apply ByteArray.ext
  rw [ByteArray.data_extract]
  apply Array.toList_inj.1
  simp [Array.toList_extract, List.extract_eq_take_drop, List.drop_take]
theorem ba_size {l : List UInt8} {S : ByteArray} (h : ⟨l.toArray⟩ = S) : S.size = l.length := by subst h; simp [ByteArray.size]

/-- where a split stands behind i bytes -/
structure SplitAt (c : UInt8) (l : List UInt8) (i a : Nat) (ps : List (List UInt8)) : Prop where
  le : a ≤ i ∧ i ≤ l.length
  num : ps.length ≤ i
  go : splitL c l = ps ++ splitGo c ((l.take i).drop a) (l.drop i)
theorem SplitAt.cut {c : UInt8} {l : List UInt8} {i a : Nat} {ps : List (List UInt8)} (h : SplitAt c l i a ps) (hi : i < l.length) (hc : l[i] = c) : SplitAt c l (i + 1) (i + 1) (ps ++ [(l.take i).drop a]) := by
  refine ⟨⟨Nat.le_refl _, hi⟩, by simp; exact h.num, ?_⟩
  rw [h.go, List.drop_eq_getElem_cons hi]
  show ps ++ (if l[i] = c then _ else _) = _
  have e : (l.take (i + 1)).drop (i + 1) = [] := List.drop_eq_nil_of_le (by simp; omega)
  rw [if_pos hc, e]
  simp
theorem SplitAt.on {c : UInt8} {l : List UInt8} {i a : Nat} {ps : List (List UInt8)} (h : SplitAt c l i a ps) (hi : i < l.length) (hc : ¬ l[i] = c) : SplitAt c l (i + 1) a ps := by
  refine ⟨⟨by have := h.le; omega, hi⟩, by have := h.num; omega, ?_⟩
  rw [h.go, List.drop_eq_getElem_cons hi]
  show ps ++ (if l[i] = c then _ else _) = _
  rw [if_neg hc, List.take_succ_eq_append_getElem hi, List.drop_append_of_le_length (by rw [List.length_take]; have := h.le; omega)]
theorem SplitAt.last {c : UInt8} {l : List UInt8} {a : Nat} {ps : List (List UInt8)} (h : SplitAt c l l.length a ps) : splitL c l = ps ++ [l.drop a] := by
  rw [h.go, List.drop_length, List.take_length]; rfl

theorem own_str_step {w wr w1 : World} {v : Value} {n : Nat} {xs : List Value} {ob : Obj} (hb : Below w.heap.size w wr) (hrow : wr.ownsRow w.heap.size 9 1 v n xs) (hgr : (wr.alloc ob).grownBy w1 v.ownBlock) : Below w.heap.size w w1 :=
  (hb.alloc hb.size ob).grown hgr (by have := hb.size; simp; omega) fun k hk => (own_lt hrow hk).1

set_option maxRecDepth 100000 in
set_option maxHeartbeats 1600000 in
theorem split_any (l : List UInt8) (c : UInt8) (hl : l.length ≤ 100000) (w : World) :
    Calls Tryd.prog 38 #[str l, .int .u8 c.toNat] w fun e w' => ∃ v, e = .returned v ∧ w'.ownsRow w.heap.size 9 1 v (splitL c l).length ((splitL c l).map str) ∧ Below w.heap.size w w' := by
  obtain ⟨S, hS⟩ : ∃ S : ByteArray, ⟨l.toArray⟩ = S := ⟨_, rfl⟩
  have hsz := ba_size hS
  have hstr : str l = .string S := by unfold str; rw [hS]
  rw [hstr]
  have HS : Hid (⟨l.toArray⟩ = S) := hS
  clear hS hstr
  obtain ⟨len, hlen⟩ : ∃ len, l.length = len := ⟨_, rfl⟩
  rw [hlen] at hl hsz
  have HL : Hid (l.length = len) := hlen
  clear hlen
  obtain ⟨i1, hi1, hy0, hy1, hy2⟩ := info_parts infoStr
  have IN : Hid _ := And.intro hi1 (And.intro hy0 (And.intro hy1 hy2))
  clear hi1 hy0 hy1 hy2
  go_enter Tryd.func38, Tryd.ntmps38
  go_wp2
  go_loopw [5, 6, 7] (fun o f i wr => ∃ (k a : Nat) (ps : List (List UInt8)) (v : Value), SplitAt c l k a ps ∧ i = .int .i64 k ∧ f = .int .i64 a ∧ v = o ∧ wr.ownsRow w.heap.size 9 1 v ps.length (ps.map str) ∧ Below w.heap.size w wr) (fun _ _ i _ => len - (intOf i).toNat)
  case atStart => exact ⟨0, 0, [], _, ⟨⟨Nat.le_refl _, Nat.zero_le _⟩, Nat.zero_le _, rfl⟩, rfl, rfl, rfl, World.ownsRow_nil _ _ _ _, Below.refl _ _⟩
  case round =>
    obtain ⟨k, a, ps, v, hat, rfl, rfl, rfl, hrow, hb⟩ := hrel
    have hle : a ≤ k ∧ k ≤ len := by have := hat.le; rw [HL.out] at this; exact this
    have hnum := hat.num
    have hzz := hb.size
    have K : Hid (SplitAt c l k a ps ∧ wr.ownsRow w.heap.size 9 1 v ps.length (ps.map str) ∧ Below w.heap.size w wr) := ⟨hat, hrow, hb⟩
    clear hat hrow hb
    by_cases hlt : k < len
    · have hk : k < S.size := by omega
      have hkl : k < l.length := by rw [HL.out]; exact hlt
      have hget : S[k] = l[k] := ba_get HS.out k hkl hk
      obtain ⟨y, hy⟩ : ∃ y, l[k] = y := ⟨_, rfl⟩
      rw [hy] at hget
      by_cases hc : y = c
      · have HC : Hid (SplitAt c l (k + 1) (k + 1) (ps ++ [(l.take k).drop a])) := K.out.1.cut hkl (by rw [hy, hc])
        subst hc
        clear hy
        have hx : Hid (S.extract a k = ⟨((l.take k).drop a).toArray⟩) := ba_extract HS.out a k
        have hle2 : (a : Int) ≤ k := by omega
        have hkI : (k : Int) < len := by omega
        go_wp2_with (at_builtin; refine wpList_append_lies _ rfl (.tmp 19) (.tmp 24) 68 rfl w.heap.size 9 i1 _ 1 16 Tryd.underlying68 IN.out.1 IN.out.2.1 IN.out.2.2.1 IN.out.2.2.2 rfl (by decide) _ _ _ rfl (K.out.2.1.alloc _) ⟨wr.heap.size, 0, none⟩ 1 1 [.string (S.extract a k)] rfl rfl ?c1 ?c2 (by decide) ?c3 ?c4 ?c5 (wr.heap.size + 1) (by simp) ?_)
        case c1 => exact news_new _ [.string (S.extract a k)] _
        case c2 => intro u hu; simp at hu; subst hu; rfl
        case c3 => unfold maxLen; omega
        case c4 => omega
        case c5 => simp; omega
        intro g' cap' w2 hown hgr _ _
        have M : Hid (∃ (k' a' : Nat) (ps' : List (List UInt8)) (v' : Value), SplitAt y l k' a' ps' ∧ (.int .i64 ((k : Int) + 1) : Value) = .int .i64 k' ∧ (.int .i64 ((k : Int) + 1) : Value) = .int .i64 a' ∧ v' = (.slice (some ⟨g', 0, none⟩) (ps.length + 1) cap' : Value) ∧ w2.ownsRow w.heap.size 9 1 v' ps'.length (ps'.map str) ∧ Below w.heap.size w w2) := by
          refine ⟨k + 1, k + 1, _, _, HC.out, rfl, rfl, rfl, ?_, own_str_step K.out.2.2 K.out.2.1 hgr⟩
          have : ((ps ++ [(l.take k).drop a]).map str) = ps.map str ++ [.string (S.extract a k)] := by rw [List.map_append, hx.out]; rfl
          rw [this, List.length_append]
          exact hown
        clear hown hgr K HC
        go_wp2
        go_roundw
        case rel => exact M.out
        case measure => simp [intOf]; omega
      · have HC : Hid (SplitAt c l (k + 1) a ps) := K.out.1.on hkl (by rw [hy]; exact hc)
        have hne : ((y.toNat : Int) == (c.toNat : Int)) = false := by
          have : ¬ y.toNat = c.toNat := fun e => hc (UInt8.toNat_inj.1 e)
          simp; omega
        go_wp2
        go_roundw
        case rel => exact ⟨k + 1, a, ps, _, HC.out, by go_num, rfl, rfl, K.out.2.1, K.out.2.2⟩
        case measure => simp [intOf]; omega
    · obtain rfl : k = len := by omega
      have HE : Hid (splitL c l = ps ++ [l.drop a]) := by
        have := K.out.1
        rw [← HL.out] at this
        exact this.last
      have hx : Hid (S.extract a k = ⟨(l.drop a).toArray⟩) := by show S.extract a k = _; rw [ba_extract HS.out a k, List.take_of_length_le (by rw [HL.out]; exact Nat.le_refl _)]
      have hle2 : (a : Int) ≤ k := by omega
      go_wp2_with (at_builtin; refine wpList_append_lies _ rfl (.tmp 28) (.tmp 32) 68 rfl w.heap.size 9 i1 _ 1 16 Tryd.underlying68 IN.out.1 IN.out.2.1 IN.out.2.2.1 IN.out.2.2.2 rfl (by decide) _ _ _ rfl (K.out.2.1.alloc _) ⟨wr.heap.size, 0, none⟩ 1 1 [.string (S.extract a k)] rfl rfl ?c1 ?c2 (by decide) ?c3 ?c4 ?c5 (wr.heap.size + 1) (by simp) ?_)
      case c1 => exact news_new _ [.string (S.extract a k)] _
      case c2 => intro u hu; simp at hu; subst hu; rfl
      case c3 => unfold maxLen; omega
      case c4 => omega
      case c5 => simp; omega
      intro g' cap' w2 hown hgr _ _
      have M : Hid (w2.ownsRow w.heap.size 9 1 (.slice (some ⟨g', 0, none⟩) (ps.length + 1) cap') (splitL c l).length ((splitL c l).map str) ∧ Below w.heap.size w w2) := by
        refine ⟨?_, own_str_step K.out.2.2 K.out.2.1 hgr⟩
        have : ((ps ++ [l.drop a]).map str) = ps.map str ++ [.string (S.extract a k)] := by rw [List.map_append, hx.out]; rfl
        rw [HE.out, this, List.length_append]
        exact hown
      clear hown hgr K HE
      go_wp2
      go_ret
      exact ⟨_, rfl, M.out⟩

end Go.Proofs.YtpmkjeihbddfpabDoor

/- OUR OWN. A Dump read again: small, read. -/
namespace Go.Proofs.YtpmkjeihbddfpabDoor
open Go.RowKit
set_option linter.unusedVariables false
set_option linter.unusedSimpArgs false

/-- the number of the first k bytes -/
theorem num_snoc (l : List UInt8) (x : UInt8) : numL (l ++ [x]) = 10 * numL l + (x.toNat - 48) := by
  unfold numL; rw [List.foldl_append]; rfl
theorem num_le (l : List UInt8) (h : l.length ≤ 12) (hd : ∀ x ∈ l, isDig x = true) : numL l < 10 ^ l.length := by
  have key : ∀ k, k ≤ l.length → numL (l.take k) < 10 ^ k := by
    intro k
    induction k with
    | zero => intro _; simp [numL]
    | succ k ih =>
      intro hk
      have h1 := ih (by omega)
      have hx := hd l[k] (List.getElem_mem _)
      have hx2 : 48 ≤ (l[k]).toNat ∧ (l[k]).toNat ≤ 57 := by simpa [isDig] using hx
      rw [List.take_succ_eq_append_getElem (by omega), num_snoc, Nat.pow_succ]
      omega
  have := key l.length (Nat.le_refl _)
  rwa [List.take_length] at this

set_option maxRecDepth 100000 in
set_option maxHeartbeats 1600000 in
theorem small_any (l : List UInt8) (hl : l.length ≤ 12) (w : World) :
    Calls Tryd.prog 66 #[str l] w fun e w' => e = .returned (.int .i64 (smallL l)) ∧ w' = w := by
  obtain ⟨S, hS⟩ : ∃ S : ByteArray, ⟨l.toArray⟩ = S := ⟨_, rfl⟩
  have hsz := ba_size hS
  have hstr : str l = .string S := by unfold str; rw [hS]
  rw [hstr]
  have HS : Hid (⟨l.toArray⟩ = S) := hS
  clear hS hstr
  obtain ⟨len, hlen⟩ : ∃ len, l.length = len := ⟨_, rfl⟩
  rw [hlen] at hl hsz
  have HL : Hid (l.length = len) := hlen
  clear hlen
  obtain ⟨R, hR⟩ : ∃ R, smallL l = R := ⟨_, rfl⟩
  have HR : Hid (smallL l = R) := hR
  rw [hR]
  clear hR
  go_enter Tryd.func66, Tryd.ntmps66
  go_wp2
  go_loop [3, 4] (fun n i => ∃ k : Nat, k ≤ len ∧ i = .int .i64 k ∧ n = .int .i64 (numL (l.take k)) ∧ ∀ x ∈ l.take k, isDig x = true) (fun _ i => len - (intOf i).toNat)
  case atStart => exact ⟨0, Nat.zero_le _, rfl, rfl, fun x hx => by simp at hx⟩
  case round =>
    obtain ⟨k, hk, rfl, rfl, hd⟩ := hrel
    have hnl : numL (l.take k) < 10 ^ 12 := by
      have h1 := num_le (l.take k) (by rw [List.length_take]; omega) hd
      have h2 : (l.take k).length ≤ 12 := by rw [List.length_take]; omega
      exact Nat.lt_of_lt_of_le h1 (Nat.pow_le_pow_right (by decide) h2)
    have h12 : (10 : Nat) ^ 12 = 1000000000000 := by decide
    rw [h12] at hnl
    have HD : Hid (∀ x ∈ l.take k, isDig x = true) := hd
    clear hd h12
    by_cases hlt : k < len
    · have hks : k < S.size := by omega
      have hkl : k < l.length := by rw [HL.out]; exact hlt
      have hget : S[k] = l[k] := ba_get HS.out k hkl hks
      have HT : Hid (l.take (k + 1) = l.take k ++ [l[k]]) := List.take_succ_eq_append_getElem hkl
      have HM : Hid (l[k] ∈ l) := List.getElem_mem hkl
      obtain ⟨y, hy⟩ : ∃ y, l[k] = y := ⟨_, rfl⟩
      rw [hy] at hget HT HM
      obtain ⟨m, hm⟩ : ∃ m, numL (l.take k) = m := ⟨_, rfl⟩
      have HN : Hid (numL (l.take (k + 1)) = 10 * m + (y.toNat - 48)) := by
        show numL _ = _
        rw [HT.out, num_snoc, hm]
      rw [hm] at hnl ⊢
      clear hy hm
      have hy256 := y.toNat_lt
      obtain ⟨z, hz⟩ : ∃ z, y.toNat = z := ⟨_, rfl⟩
      have HZ : Hid (y.toNat = z) := hz
      by_cases hdg : 48 ≤ z ∧ z ≤ 57
      · have DG : Hid (∀ x ∈ l.take (k + 1), isDig x = true) := fun x hx => by
          rw [HT.out] at hx
          rcases List.mem_append.1 hx with e | e
          · exact HD.out x e
          · rw [List.mem_singleton.1 e]; simp [isDig, HZ.out]; omega
        have h1 : ¬ (z : Int) < 48 := by omega
        have h2 : ¬ (57 : Int) < z := by omega
        obtain ⟨q1, q2⟩ := hdg
        go_wp2
        go_round
        case rel => exact ⟨k + 1, by omega, by go_num, by rw [HN.out, HZ.out]; go_num, DG.out⟩
        case measure => simp [intOf]; omega
      · have BAD : Hid (R = -1) := by
          show R = -1
          rw [← HR.out]
          unfold smallL
          rw [if_neg]
          intro h
          have h3 : l.all isDig = true := by
            simp only [Bool.and_eq_true] at h; exact h.1
          have h4 := List.all_eq_true.1 h3 y HM.out
          simp [isDig, HZ.out] at h4
          exact hdg h4
        have h3 : (z : Int) < 48 ∨ (57 : Int) < z := by omega
        clear hdg
        rcases h3 with h3 | h3
        · go_wp2
          go_ret
          exact ⟨ret_int BAD.out.symm, rfl⟩
        · have h1 : ¬ (z : Int) < 48 := by omega
          go_wp2
          go_ret
          exact ⟨ret_int BAD.out.symm, rfl⟩
    · obtain rfl : k = len := by omega
      have ALL : Hid (l.all isDig = true) := by
        show l.all isDig = true
        refine List.all_eq_true.2 fun x hx => HD.out x ?_
        rw [List.take_of_length_le (by rw [HL.out]; exact Nat.le_refl _)]; exact hx
      have NL : Hid (numL (l.take k) = numL l) := by show _ = _; rw [List.take_of_length_le (by rw [HL.out]; exact Nat.le_refl _)]
      rw [NL.out] at hnl ⊢
      obtain ⟨m, hm⟩ : ∃ m, numL l = m := ⟨_, rfl⟩
      have FIN : Hid (R = if 1 ≤ k ∧ k ≤ 3 then (m : Int) else -1) := by
        show R = _
        rw [← HR.out]
        unfold smallL
        rw [ALL.out, HL.out, hm]
        by_cases h : 1 ≤ k ∧ k ≤ 3
        · rw [if_pos h, if_pos (by simp [h])]
        · rw [if_neg h, if_neg (by simp; omega)]
      rw [hm] at hnl ⊢
      clear hm NL
      by_cases h1 : (k : Int) < 1
      · have F : Hid (R = -1) := by show R = -1; rw [FIN.out, if_neg (by omega)]
        go_wp2
        go_ret
        exact ⟨ret_int F.out.symm, rfl⟩
      · by_cases h3 : (3 : Int) < k
        · have F : Hid (R = -1) := by show R = -1; rw [FIN.out, if_neg (by omega)]
          go_wp2
          go_ret
          exact ⟨ret_int F.out.symm, rfl⟩
        · have F : Hid (R = m) := by show R = m; rw [FIN.out, if_pos (by omega)]
          go_wp2
          go_ret
          exact ⟨ret_int F.out.symm, rfl⟩

def valP (v : UInt8 × Int) : Value := .agg #[.int .u8 v.1.toNat, .int .i64 v.2]

end Go.Proofs.YtpmkjeihbddfpabDoor

/- OUR OWN. A Dump read again: read, values, numbers. -/
namespace Go.Proofs.YtpmkjeihbddfpabDoor
open Go.RowKit
set_option linter.unusedVariables false
set_option linter.unusedSimpArgs false

theorem ba_toList {l : List UInt8} {S : ByteArray} (h : ⟨l.toArray⟩ = S) : S.toList = l := by
  subst h; rw [ByteArray.toList_eq]
theorem ba_inj {a b : List UInt8} (h : (⟨a.toArray⟩ : ByteArray) = ⟨b.toArray⟩) : a = b := by
  have := congrArg (fun x => x.data.toList) h
  simpa using this

set_option maxRecDepth 100000 in
set_option maxHeartbeats 1600000 in
theorem read_any (l : List UInt8) (hl : l.length ≤ 1000) (hs : l.getD 0 0 = 35 → l.length ≤ 12) (w : World) :
    Calls Tryd.prog 67 #[str l] w fun e w' => e = .returned (valP (readL l)) ∧ Below w.heap.size w w' := by
  obtain ⟨S, hS⟩ : ∃ S : ByteArray, ⟨l.toArray⟩ = S := ⟨_, rfl⟩
  have hsz := ba_size hS
  have hstr : str l = .string S := by unfold str; rw [hS]
  rw [hstr]
  obtain ⟨R, hR⟩ : ∃ R, readL l = R := ⟨_, rfl⟩
  have HR : Hid ((if l = [110] then ((110 : UInt8), (0 : Int)) else if 1 < l.length ∧ l.getD 0 0 = 35 then (35, smallL l.tail) else (48, 0)) = R) := hR
  rw [hR]
  obtain ⟨r1, r2⟩ := R
  unfold valP
  simp only
  by_cases hn : l = [110]
  · subst hn
    have hx := HR.out
    rw [if_pos rfl] at hx
    simp at hx
    obtain ⟨rfl, rfl⟩ := hx
    have hS' : S = ⟨#[110]⟩ := hS.symm
    subst hS'
    clear hsz hstr HR hS hs hR hl
    go_enter Tryd.func67, Tryd.ntmps67
    go_wp2
    refine bodyPost_ret (v := .agg #[.int .u8 110, .int .i64 0]) (by simp [results, Tryd.results67, go_sem]) rfl ⟨rfl, ?_⟩
    exact (Below.refl _ _).alloc (Nat.le_refl _) _
  have hne : (S.toList == [110]) = false := by
    rw [ba_toList hS]
    simpa using hn
  have hx := HR.out
  rw [if_neg hn] at hx
  by_cases h1 : 1 < l.length
  · have hk0 : 0 < S.size := by omega
    have hget : S[0] = l[0] := ba_get hS 0 (by omega) hk0
    have hgD : l.getD 0 0 = l[0] := by rw [List.getD_eq_getElem?_getD, List.getElem?_eq_getElem (by omega)]; rfl
    have hext : S.extract 1 l.length = ⟨l.tail.toArray⟩ := by rw [ba_extract hS, List.take_length, List.drop_one]
    have SM : Hid (l.getD 0 0 = 35 → ∀ W, Calls Tryd.prog 66 #[.string (S.extract 1 l.length)] W fun e w' => e = .returned (.int .i64 (smallL l.tail)) ∧ w' = W) := fun h W => by
      rw [hext]; exact small_any l.tail (by rw [List.length_tail]; have := hs h; omega) W
    rw [hgD] at hx SM
    obtain ⟨y, hy⟩ : ∃ y, l[0] = y := ⟨_, rfl⟩
    rw [hy] at hget hx SM
    obtain ⟨sm, hsm⟩ : ∃ sm, smallL l.tail = sm := ⟨_, rfl⟩
    rw [hsm] at hx SM
    clear hstr HR hS hs hR hn hgD hext hy hsm
    have h1I : (1 : Int) < l.length := by omega
    by_cases hc : y = 35
    · subst hc
      rw [if_pos ⟨h1, rfl⟩] at hx
      simp at hx
      obtain ⟨rfl, rfl⟩ := hx
      have C : Hid _ := SM.out rfl
      clear SM
      go_enter Tryd.func67, Tryd.ntmps67
      go_wp2_with fail
      refine Calls.mono (C.out _) ?_
      rintro e w1 ⟨rfl, hw⟩
      subst hw
      clear C
      go_wp2
      refine bodyPost_ret (v := .agg #[.int .u8 35, .int .i64 sm]) (by simp [results, Tryd.results67, go_sem]) rfl ⟨rfl, ?_⟩
      exact (Below.refl _ _).alloc (Nat.le_refl _) _
    · rw [if_neg (fun h => hc h.2)] at hx
      simp at hx
      obtain ⟨rfl, rfl⟩ := hx
      have hyne : ((y.toNat : Int) == 35) = false := by
        have : ¬ y.toNat = 35 := fun e => hc (UInt8.toNat_inj.1 (by rw [e]; rfl))
        simp; omega
      clear SM
      go_enter Tryd.func67, Tryd.ntmps67
      go_wp2
      refine bodyPost_ret (v := .agg #[.int .u8 48, .int .i64 0]) (by simp [results, Tryd.results67, go_sem]) rfl ⟨rfl, ?_⟩
      exact (Below.refl _ _).alloc (Nat.le_refl _) _
  · rw [if_neg (fun h => h1 h.1)] at hx
    simp at hx
    obtain ⟨rfl, rfl⟩ := hx
    have h1I : ¬ (1 : Int) < l.length := by omega
    clear hstr HR hS hs hR hn hl
    go_enter Tryd.func67, Tryd.ntmps67
    go_wp2
    refine bodyPost_ret (v := .agg #[.int .u8 48, .int .i64 0]) (by simp [results, Tryd.results67, go_sem]) rfl ⟨rfl, ?_⟩
    exact (Below.refl _ _).alloc (Nat.le_refl _) _

end Go.Proofs.YtpmkjeihbddfpabDoor

/- OUR OWN. A Dump read again: values, numbers. -/
namespace Go.Proofs.YtpmkjeihbddfpabDoor
open Go.RowKit
set_option linter.unusedVariables false
set_option linter.unusedSimpArgs false

def valC (v : UInt8 × Int) : List Value := [.int .u8 v.1.toNat, .int .i64 v.2]
theorem infoPV : (Tryd.prog.info? 95).map (fun i => (i.zero, i.size, i.bytes)) = some (some (.agg #[.int .u8 0, .int .i64 0]), 2, 16) := by kernel_rfl

theorem splitGo_len (c : UInt8) (l : List UInt8) : ∀ cur, (splitGo c cur l).length ≤ l.length + 1 := by
  induction l with
  | nil => intro cur; simp [splitGo]
  | cons x l ih =>
    intro cur
    unfold splitGo
    split
    · have := ih []; simp; omega
    · have := ih (cur ++ [x]); simp; omega
theorem splitL_len (c : UInt8) (l : List UInt8) : (splitL c l).length ≤ l.length + 1 := splitGo_len c l []
theorem own_pv_step {B : Nat} {w wr w1 : World} {v : Value} {n : Nat} {xs : List Value} {e : TypeId} {sz : Nat} {ob : Obj} (hb : Below B w wr) (hB : B ≤ wr.heap.size) (hrow : wr.ownsRow B e sz v n xs) (hgr : (wr.alloc ob).grownBy w1 v.ownBlock) : Below B w w1 :=
  (hb.alloc hB ob).grown hgr (by simp; omega) fun k hk => (own_lt hrow hk).1

set_option maxRecDepth 100000 in
set_option maxHeartbeats 1600000 in
theorem values_any (l : List UInt8) (hl : l.length ≤ 3000) (hp : ∀ t ∈ splitL 44 l, t.length ≤ 1000 ∧ (t.getD 0 0 = 35 → t.length ≤ 12)) (w : World) :
    Calls Tryd.prog 40 #[str l] w fun e w' => ∃ v, e = .returned v ∧ w'.ownsRow w.heap.size 95 2 v (valuesL l).length ((valuesL l).flatMap valC) ∧ Below w.heap.size w w' := by
  by_cases hn : l = []
  · subst hn
    have h0 : valuesL [] = [] := by simp [valuesL]
    rw [h0]
    unfold str
    go_enter Tryd.func40, Tryd.ntmps40
    go_wp2
    go_ret
    exact ⟨_, rfl, World.ownsRow_nil _ _ _ _, Below.refl _ _⟩
  have SP : Hid (∀ W, Calls Tryd.prog 38 #[str l, .int .u8 44] W fun e w' => ∃ v, e = .returned v ∧ w'.ownsRow W.heap.size 9 1 v (splitL 44 l).length ((splitL 44 l).map str) ∧ Below W.heap.size W w') := fun W => split_any l 44 (by omega) W
  have hne : ((⟨l.toArray⟩ : ByteArray).toList == []) = false := by
    rw [ba_toList rfl]
    simpa using hn
  have hv : valuesL l = (splitL 44 l).map readL := by unfold valuesL; rw [if_neg hn]
  have hlen := splitL_len 44 l
  rw [hv]
  have RD : Hid (∀ t ∈ splitL 44 l, ∀ W, Calls Tryd.prog 67 #[str t] W fun e w' => e = .returned (valP (readL t)) ∧ Below W.heap.size W w') := fun t ht W => read_any t (hp t ht).1 (hp t ht).2 W
  obtain ⟨ts, hts⟩ : ∃ ts, splitL 44 l = ts := ⟨_, rfl⟩
  rw [hts] at SP RD hlen ⊢
  have hlen2 : ts.length ≤ 3001 := by omega
  have hstr : str l = .string ⟨l.toArray⟩ := rfl
  rw [hstr] at SP ⊢
  obtain ⟨S, hS⟩ : ∃ S : ByteArray, ⟨l.toArray⟩ = S := ⟨_, rfl⟩
  rw [hS] at SP hne ⊢
  obtain ⟨i1, hi1, hy0, hy1, hy2⟩ := info_parts infoPV
  have IN : Hid _ := And.intro hi1 (And.intro hy0 (And.intro hy1 hy2))
  clear hi1 hy0 hy1 hy2 hp hn hv hts hS hstr hl hlen
  go_enter Tryd.func40, Tryd.ntmps40
  go_wp2_with fail
  refine Calls.mono (SP.out _) ?_
  rintro e w1 ⟨v1, rfl, hrow1, hb1⟩
  obtain ⟨ao, cp, hv1⟩ := own_slice (own_base hrow1 (Nat.zero_le _))
  subst hv1
  have B1 : Hid (Below w.heap.size w w1) := hb1
  have CE : Hid (∀ k (hk : k < ts.length) wr, Below w1.heap.size w1 wr → ∃ g, ao = some ⟨g, 0, none⟩ ∧ wr.cell? ⟨g, k, none⟩ = some (str ts[k])) := fun k hk wr hb => by
    obtain ⟨g, cap', hv', hg, _, _, hcell, _⟩ := own_view (own_base hrow1 (Nat.zero_le _)) (by omega)
    simp at hv'
    exact ⟨g, hv'.1, (hb.cell (p := ⟨g, k, none⟩) hg).trans (hcell k _ (by simp [hk]))⟩
  clear hrow1 hb1 SP
  go_wp2
  go_loopw [3, 5] (fun o i wr => ∃ (k : Nat) (v : Value), k ≤ ts.length ∧ i = .int .i64 k ∧ v = o ∧ wr.ownsRow w1.heap.size 95 2 v k (((ts.take k).map readL).flatMap valC) ∧ Below w1.heap.size w1 wr) (fun _ i _ => ts.length - (intOf i).toNat)
  case atStart => exact ⟨0, _, Nat.zero_le _, rfl, rfl, World.ownsRow_nil _ _ _ _, Below.refl _ _⟩
  case round =>
    obtain ⟨k, v, hk, rfl, rfl, hrow, hb⟩ := hrel
    have hzz := hb.size
    have K : Hid (wr.ownsRow w1.heap.size 95 2 v k (((ts.take k).map readL).flatMap valC) ∧ Below w1.heap.size w1 wr) := ⟨hrow, hb⟩
    by_cases hlt : k < ts.length
    · obtain ⟨g, rfl, c0⟩ := CE.out k hlt wr hb
      have R1 : Hid _ := RD.out ts[k] (List.getElem_mem hlt)
      have HT : Hid (ts.take (k + 1) = ts.take k ++ [ts[k]]) := List.take_succ_eq_append_getElem hlt
      obtain ⟨t, ht⟩ : ∃ t, ts[k] = t := ⟨_, rfl⟩
      rw [ht] at c0 R1 HT
      obtain ⟨y, hy⟩ : ∃ y, readL t = y := ⟨_, rfl⟩
      have HY : Hid (readL t = y) := hy
      rw [hy] at R1
      obtain ⟨y1, y2⟩ := y
      unfold valP at R1
      unfold str at c0 R1
      simp only at R1
      have hkI : (k : Int) < ts.length := by omega
      clear hrow hb ht hy
      go_wp2_with fail
      refine Calls.mono (R1.out _) ?_
      rintro e w2 ⟨rfl, hb2⟩
      have KK : Hid (w2.ownsRow w1.heap.size 95 2 v k (((ts.take k).map readL).flatMap valC) ∧ Below w1.heap.size w1 w2) := ⟨own_carry K.out.1 fun j hj => hb2.block j (own_lt K.out.1 hj).2, K.out.2.trans (hb2.mono hzz)⟩
      have hz2 := KK.out.2.size
      clear hb2 R1 K
      go_wp2_with (at_builtin; refine wpList_append_lies _ rfl (.tmp 23) (.tmp 25) 70 rfl w1.heap.size 95 i1 _ 2 16 Tryd.underlying70 IN.out.1 IN.out.2.1 IN.out.2.2.1 IN.out.2.2.2 rfl (by decide) _ _ _ rfl ((KK.out.1.alloc _).alloc _) ⟨w2.heap.size + 1, 0, none⟩ 1 1 [.int .u8 y1.toNat, .int .i64 y2] rfl rfl ?c1 ?c2 (by decide) ?c3 ?c4 ?c5 (w2.heap.size + 1 + 1) (by simp) ?_)
      case c1 =>
        have := news_new (w2.alloc (.cells #[.int .u8 y1.toNat, .int .i64 y2] 95)) [.int .u8 y1.toNat, .int .i64 y2] 95
        simpa using this
      case c2 => intro u hu; simp at hu; rcases hu with rfl | rfl <;> rfl
      case c3 => unfold maxLen; omega
      case c4 => omega
      case c5 => simp; omega
      intro g' cap' w3 hown hgr _ _
      have M : Hid (∃ (k' : Nat) (v' : Value), k' ≤ ts.length ∧ (.int .i64 ((k : Int) + 1) : Value) = .int .i64 k' ∧ v' = (.slice (some ⟨g', 0, none⟩) (k + 1) cap' : Value) ∧ w3.ownsRow w1.heap.size 95 2 v' k' (((ts.take k').map readL).flatMap valC) ∧ Below w1.heap.size w1 w3) := by
        refine ⟨k + 1, _, hlt, rfl, rfl, ?_, own_pv_step (KK.out.2.alloc hz2 _) (by simp; omega) (KK.out.1.alloc _) hgr⟩
        rw [HT.out, List.map_append, List.flatMap_append, List.map_singleton, List.flatMap_singleton, HY.out]
        first | exact hown | (rw [← List.map_take] at hown; exact hown)
      clear hown hgr KK
      go_wp2
      go_roundw
      case rel => exact M.out
      case measure => simp [intOf]; omega
    · obtain rfl : k = ts.length := by omega
      have M : Hid (wr.ownsRow w.heap.size 95 2 v (ts.map readL).length ((ts.map readL).flatMap valC) ∧ Below w.heap.size w wr) := by
        refine ⟨?_, B1.out.trans (K.out.2.mono B1.out.size)⟩
        have := own_base K.out.1 B1.out.size
        rw [List.take_length] at this
        rw [List.length_map]; exact this
      clear hrow hb K
      go_wp2
      go_ret
      exact ⟨_, rfl, M.out⟩

def numP (t : List UInt8) : UInt8 × Int := (35, smallL t)
set_option maxRecDepth 100000 in
set_option maxHeartbeats 1600000 in
theorem numbers_any (l : List UInt8) (hl : l.length ≤ 3000) (hp : ∀ t ∈ splitL 44 l, t.length ≤ 12) (w : World) :
    Calls Tryd.prog 39 #[str l] w fun e w' => ∃ v, e = .returned v ∧ w'.ownsRow w.heap.size 95 2 v (numbersL l).length ((numbersL l).flatMap valC) ∧ Below w.heap.size w w' := by
  by_cases hn : l = []
  · subst hn
    have h0 : numbersL [] = [] := by simp [numbersL]
    rw [h0]
    unfold str
    go_enter Tryd.func39, Tryd.ntmps39
    go_wp2
    go_ret
    exact ⟨_, rfl, World.ownsRow_nil _ _ _ _, Below.refl _ _⟩
  have SP : Hid (∀ W, Calls Tryd.prog 38 #[str l, .int .u8 44] W fun e w' => ∃ v, e = .returned v ∧ w'.ownsRow W.heap.size 9 1 v (splitL 44 l).length ((splitL 44 l).map str) ∧ Below W.heap.size W w') := fun W => split_any l 44 (by omega) W
  have hne : ((⟨l.toArray⟩ : ByteArray).toList == []) = false := by
    rw [ba_toList rfl]
    simpa using hn
  have hv : numbersL l = (splitL 44 l).map numP := by unfold numbersL; rw [if_neg hn]; rfl
  have hlen := splitL_len 44 l
  rw [hv]
  have RD : Hid (∀ t ∈ splitL 44 l, ∀ W, Calls Tryd.prog 66 #[str t] W fun e w' => e = .returned (.int .i64 (smallL t)) ∧ w' = W) := fun t ht W => small_any t (hp t ht) W
  obtain ⟨ts, hts⟩ : ∃ ts, splitL 44 l = ts := ⟨_, rfl⟩
  rw [hts] at SP RD hlen ⊢
  have hlen2 : ts.length ≤ 3001 := by omega
  have hstr : str l = .string ⟨l.toArray⟩ := rfl
  rw [hstr] at SP ⊢
  obtain ⟨S, hS⟩ : ∃ S : ByteArray, ⟨l.toArray⟩ = S := ⟨_, rfl⟩
  rw [hS] at SP hne ⊢
  obtain ⟨i1, hi1, hy0, hy1, hy2⟩ := info_parts infoPV
  have IN : Hid _ := And.intro hi1 (And.intro hy0 (And.intro hy1 hy2))
  clear hi1 hy0 hy1 hy2 hp hn hv hts hS hstr hl hlen
  go_enter Tryd.func39, Tryd.ntmps39
  go_wp2_with fail
  refine Calls.mono (SP.out _) ?_
  rintro e w1 ⟨v1, rfl, hrow1, hb1⟩
  obtain ⟨ao, cp, hv1⟩ := own_slice (own_base hrow1 (Nat.zero_le _))
  subst hv1
  have B1 : Hid (Below w.heap.size w w1) := hb1
  have CE : Hid (∀ k (hk : k < ts.length) wr, Below w1.heap.size w1 wr → ∃ g, ao = some ⟨g, 0, none⟩ ∧ wr.cell? ⟨g, k, none⟩ = some (str ts[k])) := fun k hk wr hb => by
    obtain ⟨g, cap', hv', hg, _, _, hcell, _⟩ := own_view (own_base hrow1 (Nat.zero_le _)) (by omega)
    simp at hv'
    exact ⟨g, hv'.1, (hb.cell (p := ⟨g, k, none⟩) hg).trans (hcell k _ (by simp [hk]))⟩
  clear hrow1 hb1 SP
  go_wp2
  go_loopw [3, 5] (fun o i wr => ∃ (k : Nat) (v : Value), k ≤ ts.length ∧ i = .int .i64 k ∧ v = o ∧ wr.ownsRow w1.heap.size 95 2 v k (((ts.take k).map numP).flatMap valC) ∧ Below w1.heap.size w1 wr) (fun _ i _ => ts.length - (intOf i).toNat)
  case atStart => exact ⟨0, _, Nat.zero_le _, rfl, rfl, World.ownsRow_nil _ _ _ _, Below.refl _ _⟩
  case round =>
    obtain ⟨k, v, hk, rfl, rfl, hrow, hb⟩ := hrel
    have hzz := hb.size
    have K : Hid (wr.ownsRow w1.heap.size 95 2 v k (((ts.take k).map numP).flatMap valC) ∧ Below w1.heap.size w1 wr) := ⟨hrow, hb⟩
    by_cases hlt : k < ts.length
    · obtain ⟨g, rfl, c0⟩ := CE.out k hlt wr hb
      have R1 : Hid _ := RD.out ts[k] (List.getElem_mem hlt)
      have HT : Hid (ts.take (k + 1) = ts.take k ++ [ts[k]]) := List.take_succ_eq_append_getElem hlt
      obtain ⟨t, ht⟩ : ∃ t, ts[k] = t := ⟨_, rfl⟩
      rw [ht] at c0 R1 HT
      obtain ⟨y, hy⟩ : ∃ y, smallL t = y := ⟨_, rfl⟩
      have HY : Hid (numP t = (35, y)) := by show numP t = _; unfold numP; rw [hy]
      rw [hy] at R1
      unfold str at c0 R1
      have hkI : (k : Int) < ts.length := by omega
      clear hrow hb ht hy
      go_wp2_with fail
      refine Calls.mono (R1.out _) ?_
      rintro e w2 ⟨rfl, hw⟩
      subst hw
      clear R1
      go_wp2_with (at_builtin; refine wpList_append_lies _ rfl (.tmp 23) (.tmp 26) 70 rfl w1.heap.size 95 i1 _ 2 16 Tryd.underlying70 IN.out.1 IN.out.2.1 IN.out.2.2.1 IN.out.2.2.2 rfl (by decide) _ _ _ rfl (K.out.1.alloc _) ⟨w2.heap.size, 0, none⟩ 1 1 [.int .u8 35, .int .i64 y] rfl rfl ?c1 ?c2 (by decide) ?c3 ?c4 ?c5 (w2.heap.size + 1) (by simp) ?_)
      case c1 => exact news_new w2 [.int .u8 35, .int .i64 y] _
      case c2 => intro u hu; simp at hu; rcases hu with rfl | rfl <;> rfl
      case c3 => unfold maxLen; omega
      case c4 => omega
      case c5 => simp; omega
      intro g' cap' w3 hown hgr _ _
      have M : Hid (∃ (k' : Nat) (v' : Value), k' ≤ ts.length ∧ (.int .i64 ((k : Int) + 1) : Value) = .int .i64 k' ∧ v' = (.slice (some ⟨g', 0, none⟩) (k + 1) cap' : Value) ∧ w3.ownsRow w1.heap.size 95 2 v' k' (((ts.take k').map numP).flatMap valC) ∧ Below w1.heap.size w1 w3) := by
        refine ⟨k + 1, _, hlt, rfl, rfl, ?_, own_pv_step K.out.2 hzz K.out.1 hgr⟩
        rw [HT.out, List.map_append, List.flatMap_append, List.map_singleton, List.flatMap_singleton, HY.out]
        first | exact hown | (rw [← List.map_take] at hown; exact hown)
      clear hown hgr K
      go_wp2
      go_roundw
      case rel => exact M.out
      case measure => simp [intOf]; omega
    · obtain rfl : k = ts.length := by omega
      have M : Hid (wr.ownsRow w.heap.size 95 2 v (ts.map numP).length ((ts.map numP).flatMap valC) ∧ Below w.heap.size w wr) := by
        refine ⟨?_, B1.out.trans (K.out.2.mono B1.out.size)⟩
        have := own_base K.out.1 B1.out.size
        rw [List.take_length] at this
        rw [List.length_map]; exact this
      clear hrow hb K
      go_wp2
      go_ret
      exact ⟨_, rfl, M.out⟩

end Go.Proofs.YtpmkjeihbddfpabDoor

