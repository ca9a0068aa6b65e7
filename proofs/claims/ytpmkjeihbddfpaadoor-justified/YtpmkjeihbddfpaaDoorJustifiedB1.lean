import Derived.Test.YtpmkjeihbddfpaaDoorCoCJB15
/- OUR OWN. reached, without memory: what a search by breadth finds. -/
namespace Go.Proofs.YtpmkjeihbddfpaaDoor
set_option linter.unusedVariables false
set_option linter.unusedSimpArgs false

/-- one value is looked at -/
def stepR (t : List Nat) (v : UInt8 × Int) : List Nat := if v.1 = 35 ∧ v.2.toNat ∉ t then t ++ [v.2.toNat] else t
def scanR (l : List (UInt8 × Int)) (t : List Nat) : List Nat := l.foldl stepR t
theorem scanR_nil (t : List Nat) : scanR [] t = t := rfl
theorem scanR_snoc (l : List (UInt8 × Int)) (v : UInt8 × Int) (t : List Nat) : scanR (l ++ [v]) t = stepR (scanR l t) v := by
  unfold scanR; rw [List.foldl_append]; rfl
theorem stepR_pre (t : List Nat) (v : UInt8 × Int) : ∃ x, stepR t v = t ++ x := by
  unfold stepR
  split
  · exact ⟨_, rfl⟩
  · exact ⟨[], by simp⟩
theorem scanR_pre (l : List (UInt8 × Int)) : ∀ t : List Nat, ∃ x, scanR l t = t ++ x := by
  induction l with
  | nil => intro t; exact ⟨[], by simp [scanR]⟩
  | cons v l ih =>
    intro t
    obtain ⟨x, hx⟩ := stepR_pre t v
    obtain ⟨y, hy⟩ := ih (stepR t v)
    refine ⟨x ++ y, ?_⟩
    show scanR l (stepR t v) = _
    rw [hy, hx, List.append_assoc]
theorem stepR_nodup {t : List Nat} (h : t.Nodup) (v : UInt8 × Int) : (stepR t v).Nodup := by
  unfold stepR
  split
  · rename_i hc
    rw [List.nodup_append]
    exact ⟨h, by simp, fun a ha b hb => by simp at hb; intro e; exact hc.2 (by rw [← hb, ← e]; exact ha)⟩
  · exact h
theorem scanR_nodup (l : List (UInt8 × Int)) : ∀ {t : List Nat}, t.Nodup → (scanR l t).Nodup := by
  induction l with
  | nil => intro t h; exact h
  | cons v l ih => intro t h; exact ih (stepR_nodup h v)
theorem stepR_mem {t : List Nat} {v : UInt8 × Int} {b : Nat} (h : b ∈ stepR t v) : b ∈ t ∨ (v.1 = 35 ∧ v.2.toNat = b) := by
  unfold stepR at h
  split at h
  · rename_i hc
    rcases List.mem_append.1 h with e | e
    · exact .inl e
    · simp at e; exact .inr ⟨hc.1, e.symm⟩
  · exact .inl h
theorem scanR_mem (l : List (UInt8 × Int)) : ∀ {t : List Nat} {b : Nat}, b ∈ scanR l t → b ∈ t ∨ ∃ v ∈ l, v.1 = 35 ∧ v.2.toNat = b := by
  induction l with
  | nil => intro t b h; exact .inl h
  | cons v l ih =>
    intro t b h
    rcases ih (t := stepR t v) h with e | ⟨u, hu, e⟩
    · rcases stepR_mem e with e | e
      · exact .inl e
      · exact .inr ⟨v, List.mem_cons_self, e⟩
    · exact .inr ⟨u, List.mem_cons_of_mem _ hu, e⟩
theorem stepR_has (t : List Nat) (v : UInt8 × Int) (h : v.1 = 35) : v.2.toNat ∈ stepR t v := by
  unfold stepR
  by_cases e : v.2.toNat ∈ t
  · rw [if_neg (fun x => x.2 e)]; exact e
  · rw [if_pos ⟨h, e⟩]; simp
theorem scanR_has (l : List (UInt8 × Int)) : ∀ (t : List Nat), ∀ v ∈ l, v.1 = 35 → v.2.toNat ∈ scanR l t := by
  induction l with
  | nil => intro t v hv; cases hv
  | cons a l ih =>
    intro t v hv h
    rcases List.mem_cons.1 hv with e | e
    · obtain ⟨x, hx⟩ := scanR_pre l (stepR t a)
      show v.2.toNat ∈ scanR l (stepR t a)
      rw [hx, e]
      exact List.mem_append_left _ (stepR_has t a (by rw [← e]; exact h))
    · exact ih (stepR t a) v e h

/-- what is found when n of what was found have been looked at -/
structure Found (s : St) (n : Nat) (t : List Nat) : Prop where
  once : t.Nodup
  reach : ∀ b ∈ t, s.reachB b = true
  roots : ∀ b : Nat, s.rooted b = true → 1 ≤ b → b ≤ s.N → b ∈ t
  done : ∀ i, i < n → ∀ a, t[i]? = some a → ∀ b : Nat, 1 ≤ b → b ≤ s.N → 0 < refsN (s.ob a).fs b → b ∈ t
  le : n ≤ t.length

theorem mem_refsP {l : List (UInt8 × Int)} {v : UInt8 × Int} (hv : v ∈ l) (h : v.1 = 35) : 0 < refsP l v.2 := by
  unfold refsP
  exact List.countP_pos_iff.2 ⟨v, hv, by simp [h]⟩
theorem refs_mem {l : List (UInt8 × Int)} {b : Int} (h : 0 < refsP l b) : ∃ v ∈ l, v.1 = 35 ∧ v.2 = b := by
  unfold refsP at h
  obtain ⟨v, hv, e⟩ := List.countP_pos_iff.1 h
  exact ⟨v, hv, by simpa using e⟩

section
variable {s : St} {N : Nat}
/-- a reference leads to a block -/
theorem lead_range (g : s.Good N) {l : List (Int × Int)} (h : ∀ v ∈ l, s.leads v) {v : UInt8 × Int} (hv : v ∈ l.map absV) (h1 : v.1 = 35) : ∃ b : Nat, v.2 = (b : Int) ∧ 1 ≤ b ∧ b ≤ N := by
  obtain ⟨u, hu, rfl⟩ := List.mem_map.1 hv
  rcases h u hu with e | e | ⟨e, i, hi, ha⟩
  · rw [e] at h1; simp [absV] at h1
  · unfold absV at h1; rw [if_neg (by omega), if_pos e.1] at h1; simp at h1
  · refine ⟨i, ?_, g.ne_zero ha.1⟩
    unfold absV; rw [if_neg (by omega), if_neg (by omega)]; exact hi
theorem found_start (g : s.Good N) (hN : N ≤ 99) : Found s 0 (scanR (s.globals.map absV) (scanR (s.stack.map absV) [])) := by
  have hsN := g.sN
  refine ⟨scanR_nodup _ (scanR_nodup _ List.nodup_nil), fun b hb => ?_, fun b hr h1 h2 => ?_, fun i hi => absurd hi (Nat.not_lt_zero _), Nat.zero_le _⟩
  · have key : ∀ l : List (Int × Int), (∀ v ∈ l, s.leads v) → (∀ x : Int, 0 < refsN l x → s.rooted x = true) → ∀ v ∈ l.map absV, v.1 = 35 ∧ v.2.toNat = b → s.reachB b = true := fun l hl hro v hv ⟨e1, e2⟩ => by
      obtain ⟨i, hi, i1, i2⟩ := lead_range g hl hv e1
      have hib : i = b := by rw [hi, Int.toNat_natCast] at e2; exact e2
      subst hib
      refine reach_rooted i1 (by omega) (hro i ?_)
      rw [← refsP_abs g hN hl, ← hi]
      exact mem_refsP hv e1
    have hs : ∀ x : Int, 0 < refsN s.stack x → s.rooted x = true := fun x hx => by unfold St.rooted; simp; omega
    have hg : ∀ x : Int, 0 < refsN s.globals x → s.rooted x = true := fun x hx => by unfold St.rooted; simp; omega
    rcases scanR_mem _ hb with e | ⟨v, hv, e⟩
    · rcases scanR_mem _ e with e | ⟨v, hv, e⟩
      · cases e
      · exact key _ g.stack hs v hv e
    · exact key _ g.globals hg v hv e
  · unfold St.rooted at hr
    simp only [decide_eq_true_eq] at hr
    by_cases h0 : 0 < refsN s.stack b
    · rw [← refsP_abs g hN g.stack] at h0
      obtain ⟨v, hv, e1, e2⟩ := refs_mem h0
      obtain ⟨x, hx⟩ := scanR_pre (s.globals.map absV) (scanR (s.stack.map absV) [])
      rw [hx]
      have := scanR_has (s.stack.map absV) [] v hv e1
      rw [e2, Int.toNat_natCast] at this
      exact List.mem_append_left _ this
    · have h3 : 0 < refsN s.globals b := by omega
      rw [← refsP_abs g hN g.globals] at h3
      obtain ⟨v, hv, e1, e2⟩ := refs_mem h3
      have := scanR_has (s.globals.map absV) (scanR (s.stack.map absV) []) v hv e1
      rw [e2, Int.toNat_natCast] at this
      exact this
theorem cell_here {i : Nat} (h : (s.ob i).here = true) : (cellOf s i).fields = (s.ob i).fs.map absV := by
  unfold cellOf
  rw [if_pos h]
  split
  · rfl
  · split
    · rfl
    · split <;> rfl
theorem found_next (g : s.Good N) (hN : N ≤ 99) {n : Nat} {t : List Nat} (f : Found s n t) {a : Nat} (ha : t[n]? = some a) : Found s (n + 1) (scanR (cellOf s a).fields t) := by
  have hsN := g.sN
  have har : s.reachB a = true := f.reach a (List.mem_of_getElem? ha)
  have hal := g.reach_alive har
  have hf := cell_here (s := s) hal.1
  obtain ⟨x, hx⟩ := scanR_pre (cellOf s a).fields t
  have hnl : n < t.length := (List.getElem?_eq_some_iff.1 ha).1
  refine ⟨scanR_nodup _ f.once, fun b hb => ?_, fun b hr h1 h2 => by rw [hx]; exact List.mem_append_left _ (f.roots b hr h1 h2), fun i hi a' ha' b h1 h2 hr => ?_, by rw [hx, List.length_append]; omega⟩
  · rcases scanR_mem _ hb with e | ⟨v, hv, e1, e2⟩
    · exact f.reach b e
    · rw [hf] at hv
      obtain ⟨i, hi, i1, i2⟩ := lead_range g (g.fields a) hv e1
      have hib : i = b := by rw [hi, Int.toNat_natCast] at e2; exact e2
      subst hib
      refine reach_closed har i1 (by omega) ?_
      rw [← refsP_abs g hN (g.fields a), ← hi]
      exact mem_refsP hv e1
  · have hil : i < t.length := by omega
    have ha2 : t[i]? = some a' := by rw [hx, List.getElem?_append_left hil] at ha'; exact ha'
    by_cases e : i = n
    · subst e
      rw [ha] at ha2
      cases ha2
      rw [← refsP_abs g hN (g.fields a), ← hf] at hr
      obtain ⟨v, hv, e1, e2⟩ := refs_mem hr
      have := scanR_has (cellOf s a).fields t v hv e1
      rw [e2, Int.toNat_natCast] at this
      exact this
    · rw [hx]; exact List.mem_append_left _ (f.done i (by omega) a' ha2 b h1 h2 hr)

theorem count_list (p : Nat → Bool) (n : Nat) {t : List Nat} (hn : t.Nodup) (h : ∀ b, b ∈ t ↔ (1 ≤ b ∧ b ≤ n ∧ p b = true)) : t.length = countTo p n := by
  have e : countTo p n = ((List.range n).filter fun j => p (j + 1)).length := by unfold countTo; rw [List.countP_eq_length_filter]
  have hnd : (((List.range n).filter fun j => p (j + 1)).map (· + 1)).Nodup := by
    refine List.nodup_iff_pairwise_ne.2 ?_
    rw [List.pairwise_map]
    exact ((List.nodup_iff_pairwise_ne.1 (List.nodup_range (n := n))).filter _).imp fun hab e => hab (by omega)
  have h2 : ∀ b, b ∈ ((List.range n).filter fun j => p (j + 1)).map (· + 1) ↔ (1 ≤ b ∧ b ≤ n ∧ p b = true) := fun b => by
    simp only [List.mem_map, List.mem_filter, List.mem_range]
    constructor
    · rintro ⟨j, ⟨hj, hp⟩, rfl⟩; exact ⟨by omega, by omega, hp⟩
    · rintro ⟨h1, h2, h3⟩; exact ⟨b - 1, ⟨by omega, by rw [show b - 1 + 1 = b by omega]; exact h3⟩, by omega⟩
  have l1 := nodup_le hn fun x hx => (h2 x).2 ((h x).1 hx)
  have l2 := nodup_le hnd fun x hx => (h x).2 ((h2 x).1 hx)
  rw [List.length_map] at l1 l2
  omega
theorem found_end (g : s.Good N) {t : List Nat} (f : Found s t.length t) : t.length = reachN s := by
  unfold reachN
  refine count_list s.reachB s.N f.once fun b => ⟨fun hb => ?_, fun ⟨h1, h2, h3⟩ => ?_⟩
  · have := reach_range s s.N b (f.reach b hb)
    exact ⟨this.1, this.2, f.reach b hb⟩
  · refine reach_least (P := fun b => b ∈ t) (fun b h1 h2 hr => f.roots b hr h1 h2) (fun a b ha _ _ h1 h2 hr => ?_) h3
    obtain ⟨i, hi⟩ := List.getElem?_of_mem ha
    exact f.done i ((List.getElem?_eq_some_iff.1 hi).1) a hi b h1 h2 hr
theorem Found.small (g : s.Good N) {n : Nat} {t : List Nat} (f : Found s n t) : t.length ≤ N := by
  have := nodup_le (l' := (List.range N).map (· + 1)) f.once fun b hb => by
    have := reach_range s s.N b (f.reach b hb)
    rw [g.sN] at this
    exact List.mem_map.2 ⟨b - 1, List.mem_range.2 (by omega), by omega⟩
  simpa using this
end

end Go.Proofs.YtpmkjeihbddfpaaDoor

/- OUR OWN. What is asked of a picture: reached, the rows. -/
namespace Go.Proofs.YtpmkjeihbddfpaaDoor
open Go.RowKit
set_option linter.unusedVariables false
set_option linter.unusedSimpArgs false

theorem infoBool : (Tryd.prog.info? 4).map (fun i => (i.zero, i.size, i.bytes)) = some (some (.bool false), 1, 1) := by kernel_rfl
theorem infoVal : (Tryd.prog.info? 66).map (fun i => (i.zero, i.size, i.bytes)) = some (some (.agg #[.int .u8 0, .int .i64 0]), 2, 16) := by kernel_rfl

def natRow (t : List Nat) : List Value := t.map fun (n : Nat) => Value.int .i64 (n : Int)
/-- which blocks are among those that were found -/
def inL (N : Nat) (t : List Nat) : List Value := (List.range (N + 1)).map fun b => Value.bool (decide (b ∈ t))
theorem inL_get {N b : Nat} (t : List Nat) (hb : b ≤ N) : (inL N t)[b]? = some (.bool (decide (b ∈ t))) := by
  unfold inL
  rw [List.getElem?_map, List.getElem?_range (by omega)]; rfl
theorem inL_nil (N : Nat) : inL N [] = List.replicate (N + 1) (.bool false) := by
  unfold inL
  apply List.ext_getElem?
  intro i
  rw [List.getElem?_map, List.getElem?_replicate]
  by_cases h : i < N + 1
  · rw [List.getElem?_range h, if_pos h]; simp
  · rw [List.getElem?_eq_none (by simpa using h), if_neg h]; rfl
theorem inL_add {N b : Nat} (t : List Nat) (hb : b ≤ N) : (inL N t).set b (.bool true) = inL N (t ++ [b]) := by
  apply List.ext_getElem?
  intro i
  unfold inL
  rw [List.getElem?_set, List.getElem?_map, List.getElem?_map, List.length_map, List.length_range]
  by_cases h : i < N + 1
  · rw [List.getElem?_range h]
    by_cases e : b = i
    · subst e; rw [if_pos rfl, if_pos h]; simp
    · rw [if_neg e]
      have : (i ∈ t ++ [b]) ↔ i ∈ t := by simp; intro x; exact absurd x.symm e
      simp only [Option.map_some, this]
  · rw [List.getElem?_eq_none (by simpa using h)]
    by_cases e : b = i
    · omega
    · rw [if_neg e]; rfl

/-- a row of another type stays -/
theorem own_other {w w' : World} {B B' : Nat} {e e' : TypeId} {sz sz' : Nat} {v v' : Value} {n n' : Nat} {xs xs' : List Value} (h : w.ownsRow B e sz v n xs) (h' : w.ownsRow B' e' sz' v' n' xs') (he : e ≠ e')
    (hc : ∀ k, k < w.heap.size → v'.ownBlock ≠ some k → w'.heap[k]? = w.heap[k]?) : w'.ownsRow B e sz v n xs := own_carry h fun g hg => hc g (own_lt h hg).2 (rows_apart h h' he hg)

/-- the rows of the search: 'in' in block I, todo -/
structure RS (w wr : World) (N I : Nat) (t1 t : List Nat) (vt : Value) : Prop where
  inn : wr.ownsRow w.heap.size 4 1 (.slice (some ⟨I, 0, none⟩) (N + 1) (N + 1)) (N + 1) (inL N t1)
  todo : wr.ownsRow w.heap.size 3 1 vt t.length (natRow t)
  below : Below w.heap.size w wr
def SR (wr : World) (l : List (UInt8 × Int)) (v : Value) : Prop := wr.ownsRow 0 66 2 v l.length (l.flatMap valC)
variable {w wr W : World} {N I : Nat} {t t1 : List Nat} {vt vl : Value} {l : List (UInt8 × Int)}
theorem RS.on (h : RS w wr N I t1 t vt) (hb : Below wr.heap.size wr W) : RS w W N I t1 t vt :=
  ⟨own_carry h.inn fun g hg => hb.block g (own_lt h.inn hg).2, own_carry h.todo fun g hg => hb.block g (own_lt h.todo hg).2, h.below.trans (hb.mono h.below.size)⟩
theorem SR.on (h : SR wr l vl) (hb : Below wr.heap.size wr W) : SR W l vl := own_carry h fun g hg => hb.block g (own_lt h hg).2
/-- block b is marked -/
theorem RS.mark (h : RS w wr N I t t vt) (b : Nat) (hb : b ≤ N) : RS w (wr.setCell ⟨I, b, none⟩ (.bool true)) N I (t ++ [b]) t vt := by
  have hI := own_lt h.inn (g := I) rfl
  refine ⟨?_, own_other h.todo h.inn (by decide) fun k _ hne => hso fun e => hne (by rw [e]; rfl), h.below.setCell hI.1 _⟩
  rw [← inL_add t hb]
  exact (h.inn.stored b _).1
theorem SR.mark (s : SR wr l vl) (h : RS w wr N I t1 t vt) (b : Nat) (u : Value) : SR (wr.setCell ⟨I, b, none⟩ u) l vl :=
  own_other s h.inn (by decide) fun k _ hne => hso fun e => hne (by rw [e]; rfl)
/-- and is to be looked at -/
theorem RS.grown (h : RS w wr N I t1 t vt) {w' : World} {g cap b : Nat} (hown : w'.ownsRow w.heap.size 3 1 (.slice (some ⟨g, 0, none⟩) (t.length + 1) cap) (t.length + 1) (natRow t ++ [.int .i64 b]))
    (hgr : wr.grownBy w' vt.ownBlock) : RS w w' N I t1 (t ++ [b]) (.slice (some ⟨g, 0, none⟩) (t.length + 1) cap) := by
  refine ⟨own_other h.inn h.todo (by decide) fun k hk hne => hgr.block k hk fun e => hne e.symm, ?_, h.below.grown hgr h.below.size fun k hk => (own_lt h.todo hk).1⟩
  have e : natRow (t ++ [b]) = natRow t ++ [.int .i64 b] := by unfold natRow; rw [List.map_append]; rfl
  rw [e, List.length_append, List.length_singleton]; exact hown
theorem SR.grown (s : SR wr l vl) (h : RS w wr N I t1 t vt) {w' : World} (hgr : wr.grownBy w' vt.ownBlock) : SR w' l vl :=
  own_other s h.todo (by decide) fun k hk hne => hgr.block k hk fun e => hne e.symm
theorem RS.cell (h : RS w wr N I t1 t vt) {b : Nat} (hb : b ≤ N) : wr.cell? ⟨I, b, none⟩ = some (.bool (decide (b ∈ t1))) ∧ wr.frozen? ⟨I, b, none⟩ = false ∧ I < wr.heap.size := by
  obtain ⟨g, cap, hv, hg, _, _, hcell, hfz⟩ := own_view (own_base h.inn (Nat.zero_le _)) (by omega)
  simp at hv
  obtain ⟨rfl, _⟩ := hv
  exact ⟨hcell b _ (inL_get t1 hb), hfz _, hg⟩
theorem RS.form (h : RS w wr N I t1 t vt) : ∃ ao cap, vt = .slice ao t.length cap := own_slice (own_base h.todo (Nat.zero_le _))
theorem RS.at_ (h : RS w wr N I t1 t vt) {n : Nat} (hn : n < t.length) : ∃ g cap, vt = .slice (some ⟨g, 0, none⟩) t.length cap ∧ wr.cell? ⟨g, n, none⟩ = some (.int .i64 (t[n] : Nat)) := by
  obtain ⟨g, cap, hv, hg, _, _, hcell, _⟩ := own_view (own_base h.todo (Nat.zero_le _)) (by omega)
  refine ⟨g, cap, hv, hcell n _ ?_⟩
  unfold natRow
  rw [List.getElem?_map, List.getElem?_eq_getElem hn]; rfl

theorem valC_one (l : List (UInt8 × Int)) : ∀ u ∈ l.flatMap valC, u.oneCell' = true := by
  intro u hu
  obtain ⟨v, _, hv⟩ := List.mem_flatMap.1 hu
  simp [valC] at hv
  rcases hv with rfl | rfl <;> rfl
theorem own_none (w : World) (e : TypeId) (B : Nat) (hB : B ≤ w.heap.size) : (w.alloc (.cells #[] e)).ownsRow B e 2 (.slice (some ⟨w.heap.size, 0, none⟩) 0 0) 0 [] :=
  ⟨rfl, .inr ⟨w.heap.size, 0, #[], rfl, hB, heap_alloc_new w _, Nat.le_refl _, by unfold maxLen; omega, by simp, by simp⟩⟩

end Go.Proofs.YtpmkjeihbddfpaaDoor

/- OUR OWN. What is asked of a picture: reached. -/
namespace Go.Proofs.YtpmkjeihbddfpaaDoor
open Go.RowKit
set_option linter.unusedVariables false
set_option linter.unusedSimpArgs false

set_option maxHeartbeats 3200000 in
set_option maxRecDepth 100000 in
theorem reached_seen {w : World} {L B : Nat} {s : St} {N : Nat} {cs : List (Cell × Value)} {vc vq vs vg : Value} (h : PicOf w L B s N cs vc vq vs vg) (g : s.Good N) (h1 : 1 ≤ N) (hN : N ≤ 99) (hst : s.stack.length ≤ 16) (hgl : s.globals.length ≤ 8) :
    Calls Tryd.prog 28 #[.pointer (some ⟨L, 0, none⟩)] w fun e w' => e = .returned (.int .i64 (reachN s)) ∧ Below w.heap.size w w' := by
  have hlen := cs_len h.map
  obtain ⟨gc, capc, rfl, hgc, hc⟩ := h.pic.view (by omega)
  have p0 := cell_of_heap (i := 0) h.pic.box rfl
  have p2 := cell_of_heap (i := 2) h.pic.box rfl
  have p3 := cell_of_heap (i := 3) h.pic.box rfl
  simp at p0 p2 p3
  rw [hlen] at p0
  have hL := lt_of_heap h.pic.box
  obtain ⟨so, sc, hvs⟩ := own_slice (own_base h.pic.stack (Nat.zero_le _))
  obtain ⟨go, gcap, hvg⟩ := own_slice (own_base h.pic.globals (Nat.zero_le _))
  rw [List.length_map] at hvs hvg
  rw [hvs] at p2
  rw [hvg] at p3
  have SRC1 : Hid (∀ V, Below w.heap.size w V → V.ownsRow 0 66 2 (.slice so s.stack.length sc) s.stack.length ((s.stack.map absV).flatMap valC)) := fun V hV => by
    have := own_base h.pic.stack (Nat.zero_le _)
    rw [List.length_map, hvs] at this
    exact own_carry this fun k hk => hV.block k (own_lt this hk).2
  have SRC2 : Hid (∀ V, Below w.heap.size w V → V.ownsRow 0 66 2 (.slice go s.globals.length gcap) s.globals.length ((s.globals.map absV).flatMap valC)) := fun V hV => by
    have := own_base h.pic.globals (Nat.zero_le _)
    rw [List.length_map, hvg] at this
    exact own_carry this fun k hk => hV.block k (own_lt this hk).2
  have CELLS : Hid (∀ V, Below w.heap.size w V → ∀ b, 1 ≤ b → b ≤ N → V.cell? ⟨L, 0, none⟩ = some (.slice (some ⟨gc, 0, none⟩) N capc) ∧ ∃ vf, V.cell? ⟨gc, (b - 1) * 3 + 2, none⟩ = some vf ∧ SR V (cellOf s b).fields vf) := fun V hV b hb1 hb2 => by
    obtain ⟨v, hv⟩ := cs_get h.map (i := b - 1) (by omega)
    have hi : b - 1 < cs.length := by omega
    have he : cs[b - 1] = (cellOf s b, v) := by
      have := (List.getElem?_eq_some_iff.1 hv).2
      rw [this, show b - 1 + 1 = b by omega]
    refine ⟨(hV.cell (p := ⟨L, 0, none⟩) hL).trans p0, v, ?_, ?_⟩
    · have := (hc (b - 1) hi).2.2
      rw [he] at this
      exact (hV.cell (p := ⟨gc, (b - 1) * 3 + 2, none⟩) hgc).trans this
    · have hf := h.pic.fields (cellOf s b, v) (by rw [← he]; exact List.getElem_mem hi)
      have hf2 := own_base hf (Nat.zero_le _)
      exact own_carry hf2 fun k hk => hV.block k (own_lt hf2 hk).2
  have F0 : Hid (Found s 0 (scanR (s.globals.map absV) (scanR (s.stack.map absV) []))) := found_start g hN
  have FN : Hid (∀ n t a, Found s n t → t[n]? = some a → Found s (n + 1) (scanR (cellOf s a).fields t) ∧ 1 ≤ a ∧ a ≤ N) := fun n t a f ha => ⟨found_next g hN f ha, by
    have := reach_range s s.N a (f.reach a (List.mem_of_getElem? ha))
    rw [g.sN] at this
    exact this⟩
  have FE : Hid (∀ t, Found s t.length t → t.length = reachN s) := fun t f => found_end g f
  have FOUR : Hid (∀ b, (cellOf s b).fields.length ≤ 4) := fun b => by
    rcases cell_fields (s := s) b with e | e
    · rw [e, List.length_map]; exact g.four b
    · rw [e]; simp
  have LF : Hid (∀ b, ∀ v ∈ (cellOf s b).fields, v.1 = 35 → ∃ b : Nat, v.2 = (b : Int) ∧ 1 ≤ b ∧ b ≤ N) := fun b v hv h35 => by
    rcases cell_fields (s := s) b with e | e
    · rw [e] at hv; exact lead_range g (g.fields b) hv h35
    · rw [e] at hv; cases hv
  have FS : Hid (∀ n t, Found s n t → t.length ≤ N) := fun n t f => f.small g
  have LEAD : Hid (∀ v, v ∈ s.stack.map absV ∨ v ∈ s.globals.map absV ∨ (∃ b, v ∈ (cellOf s b).fields) → v.1 = 35 → ∃ b : Nat, v.2 = (b : Int) ∧ 1 ≤ b ∧ b ≤ N) := fun v hv h35 => by
    rcases hv with hv | hv | ⟨b, hv⟩
    · exact lead_range g g.stack hv h35
    · exact lead_range g g.globals hv h35
    · rcases cell_fields (s := s) b with e | e
      · rw [e] at hv; exact lead_range g (g.fields b) hv h35
      · rw [e] at hv; cases hv
  have mk1 := run_make_one (P := Tryd.prog) 72 4 (.bool false) 1 Tryd.underlying72 infoBool rfl .i64 .i64 (N + 1) (by omega) (by omega)
  simp only [Int.natCast_add, Int.natCast_one, Nat.mul_one] at mk1
  have OM := own_made_one w 4 (.bool false) (N + 1) (by omega)
  simp only [Nat.mul_one] at OM
  have OMH : Hid _ := OM
  have al2 : ∀ (ob ob' : Obj), ((w.alloc ob).alloc ob').cell? ⟨L, 2, none⟩ = w.cell? ⟨L, 2, none⟩ := fun ob ob' => (World.cell?_of_block (hao (by simp; omega))).trans (World.cell?_of_block (hao hL))
  obtain ⟨i1, hi1, hy0, hy1, hy2⟩ := info_parts infoVal
  have IV : Hid _ := And.intro hi1 (And.intro hy0 (And.intro hy1 hy2))
  clear hi1 hy0 hy1 hy2 OM h g hc hvs hvg
  obtain ⟨nst, hnst⟩ : ∃ n, s.stack.length = n := ⟨_, rfl⟩
  obtain ⟨ngl, hngl⟩ : ∃ n, s.globals.length = n := ⟨_, rfl⟩
  rw [hnst] at p2 SRC1 hst
  rw [hngl] at p3 SRC2 hgl
  go_enter Tryd.func28, Tryd.ntmps28
  go_wp2_with (at_builtin; refine wpList_append_more _ rfl (.tmp 17) (.tmp 21) 50 rfl w.heap.size 66 i1 _ 2 16 Tryd.underlying50 IV.out.1 IV.out.2.1 IV.out.2.2.1 IV.out.2.2.2 rfl (by decide) (.slice (some ⟨w.heap.size + 1, 0, none⟩) 0 0) 0 [] rfl ?o1 (.slice so nst sc) nst _ rfl (SRC1.out _ (((Below.refl _ _).alloc (Nat.le_refl _) _).alloc (by simp) _)) ?o2 ?o3 ?o4 ?o5 ?_)
  case o1 =>
    have := own_none (w.alloc (.cells (madeCells #[.bool false] (N + 1)) 4)) 66 w.heap.size (by simp)
    simpa using this
  case o2 => exact valC_one _
  case o3 => unfold maxLen; omega
  case o4 => omega
  case o5 => simp; omega
  intro ao1 cap1 w2 hown hgr hlie
  try simp only [Nat.zero_add, List.nil_append] at hown
  have hsW : ((w.alloc (.cells (madeCells #[.bool false] (N + 1)) 4)).alloc (.cells #[] 66)).heap.size = w.heap.size + 2 := by simp
  have hnb : ∀ k, k < w.heap.size + 1 → w2.heap[k]? = ((w.alloc (.cells (madeCells #[.bool false] (N + 1)) 4)).alloc (.cells #[] 66)).heap[k]? := fun k hk => hgr.block k (by rw [hsW]; omega) (by
    intro e
    have : k = w.heap.size + 1 := by simpa [Value.ownBlock] using e
    omega)
  have R2 : Hid (RS w w2 N w.heap.size [] [] (.slice none 0 0)) := by
    refine ⟨?_, World.ownsRow_nil _ _ _ _, ?_⟩
    · rw [inL_nil]
      exact own_carry OMH.out fun k hk => by
        have : k = w.heap.size := by simpa [Value.ownBlock, eq_comm] using hk
        rw [hnb k (by omega), hao (by simp; omega)]
    · refine ⟨?_, ?_, ?_, by have := hgr.size; rw [hsW] at this; omega, fun k hk => ?_⟩
      · rw [hgr.os]; rfl
      · rw [hgr.tape]; rfl
      · rw [hgr.output]; rfl
      · rw [hnb k (by omega), hao (by simp; omega), hao hk]
  have O2 : Hid (w2.ownsRow w.heap.size 66 2 (.slice ao1 nst cap1) nst ((s.stack.map absV).flatMap valC)) := hown
  have q3 : w2.cell? ⟨L, 3, none⟩ = some (.slice go ngl gcap) := (R2.out.below.cell (p := ⟨L, 3, none⟩) hL).trans p3
  have hs2 : w.heap.size ≤ w2.heap.size := R2.out.below.size
  clear hown hgr hlie hnb hsW OMH SRC1 p2 p3 al2 mk1
  try simp only [Nat.zero_add]
  go_wp2_with (at_builtin; refine wpList_append_more _ rfl (.tmp 23) (.tmp 27) 50 rfl w.heap.size 66 i1 _ 2 16 Tryd.underlying50 IV.out.1 IV.out.2.1 IV.out.2.2.1 IV.out.2.2.2 rfl (by decide) (.slice ao1 nst cap1) nst _ rfl O2.out (.slice go ngl gcap) ngl _ rfl (SRC2.out _ R2.out.below) ?o2 ?o3 ?o4 ?o5 ?_)
  case o2 => exact valC_one _
  case o3 => unfold maxLen; omega
  case o4 => omega
  case o5 => exact hs2
  intro ao2 cap2 w3 hown hgr hlie
  obtain ⟨R, hR⟩ : ∃ R, s.stack.map absV ++ s.globals.map absV = R := ⟨_, rfl⟩
  have hRl : R.length = nst + ngl := by rw [← hR]; simp; omega
  have SR3 : Hid (SR w3 R (.slice ao2 (nst + ngl) cap2)) := by
    show w3.ownsRow 0 _ 2 _ R.length _
    rw [hRl, ← hR, List.flatMap_append]
    exact own_base hown (Nat.zero_le _)
  have R3 : Hid (RS w w3 N w.heap.size [] [] (.slice none 0 0)) := by
    refine ⟨own_other R2.out.inn O2.out (by decide) fun k hk hne => hgr.block k hk fun e => hne e.symm, World.ownsRow_nil _ _ _ _, R2.out.below.grown hgr hs2 fun k hk => (own_lt O2.out hk).1⟩
  have SCN : Hid (scanR R [] = scanR (s.globals.map absV) (scanR (s.stack.map absV) [])) := by show scanR R [] = _; rw [← hR]; unfold scanR; rw [List.foldl_append]
  have LR : Hid (∀ v ∈ R, v.1 = 35 → ∃ b : Nat, v.2 = (b : Int) ∧ 1 ≤ b ∧ b ≤ N) := fun v hv h35 => by
    rw [← hR] at hv
    rcases List.mem_append.1 hv with e | e
    · exact LEAD.out v (.inl e) h35
    · exact LEAD.out v (.inr (.inl e)) h35
  clear hown hgr hlie q3 O2 R2 SRC2 hs2 hR
  obtain ⟨rl, hrl⟩ : ∃ rl, nst + ngl = rl := ⟨_, rfl⟩
  rw [hrl] at SR3 hRl
  have hrl9 : rl ≤ 24 := by omega
  simp only [hrl]
  have STEP : Hid (∀ (l : List (UInt8 × Int)) (wr : World) (t : List Nat) (vt vl : Value), (∀ v ∈ l, v.1 = 35 → ∃ b : Nat, v.2 = (b : Int) ∧ 1 ≤ b ∧ b ≤ N) → RS w wr N w.heap.size t t vt → SR wr l vl → ∀ j (hj : j < l.length),
      ∃ lg lc, vl = .slice (some ⟨lg, 0, none⟩) l.length lc ∧ wr.cell? ⟨lg, j * 2, none⟩ = some (.int .u8 (l[j]).1.toNat) ∧ wr.cell? ⟨lg, j * 2 + 1, none⟩ = some (.int .i64 (l[j]).2) ∧
        ((l[j]).1 = 35 → ∃ b : Nat, (l[j]).2 = (b : Int) ∧ b ≤ N ∧ wr.cell? ⟨w.heap.size, b, none⟩ = some (.bool (decide (b ∈ t))) ∧ wr.frozen? ⟨w.heap.size, b, none⟩ = false ∧ (b ∈ t → stepR t l[j] = t) ∧
          (b ∉ t → stepR t l[j] = t ++ [b] ∧ ∀ W, Below (wr.setCell ⟨w.heap.size, b, none⟩ (.bool true)).heap.size (wr.setCell ⟨w.heap.size, b, none⟩ (.bool true)) W → RS w W N w.heap.size (t ++ [b]) t vt ∧ SR W l vl)) ∧
        (¬ (l[j]).1 = 35 → stepR t l[j] = t)) := fun l wr t vt vl hld rs sr j hj => by
    obtain ⟨lg, lc, hvl, _, hcl⟩ := val_cells (own_base sr (Nat.zero_le 0)) (by omega)
    obtain ⟨c0, c1⟩ := hcl j hj
    refine ⟨lg, lc, hvl, c0, c1, fun h35 => ?_, fun h35 => by unfold stepR; rw [if_neg (fun x => h35 x.1)]⟩
    obtain ⟨b, hb, hb1, hb2⟩ := hld _ (List.getElem_mem hj) h35
    obtain ⟨d0, d1, _⟩ := rs.cell hb2
    have hbn : (l[j]).2.toNat = b := by rw [hb, Int.toNat_natCast]
    refine ⟨b, hb, hb2, d0, d1, fun hin => by unfold stepR; rw [if_neg (fun x => x.2 (by rw [hbn]; exact hin))], fun hin => ⟨by unfold stepR; rw [if_pos ⟨h35, by rw [hbn]; exact hin⟩, hbn], fun W hW => ⟨(rs.mark b hb2).on hW, (sr.mark rs b _).on hW⟩⟩⟩
  obtain ⟨i3, hi3, hz0, hz1, hz2⟩ := info_parts infoInt
  have IN : Hid _ := And.intro hi3 (And.intro hz0 (And.intro hz1 hz2))
  have SMALL : Hid (∀ j t, t = scanR (R.take j) [] → t.length ≤ 24) := fun j t ht => by
    have key : ∀ (l : List (UInt8 × Int)) (t : List Nat), (scanR l t).length ≤ t.length + l.length := fun l => by
      induction l with
      | nil => intro t; simp [scanR]
      | cons a l ih =>
        intro t
        have h1 := ih (stepR t a)
        have h2 : (stepR t a).length ≤ t.length + 1 := by unfold stepR; split <;> simp
        show (scanR l (stepR t a)).length ≤ _
        simp only [List.length_cons]; omega
    have := key (R.take j) []
    rw [← ht] at this
    have h3 : (R.take j).length ≤ R.length := List.length_take_le' _ _
    simp at this
    omega
  clear hi3 hz0 hz1 hz2 LEAD IV
  go_wp2
  go_loopw [4, 7] (fun vt i wq => ∃ (j : Nat) (t : List Nat) (v : Value), j ≤ rl ∧ i = .int .i64 j ∧ v = vt ∧ t = scanR (R.take j) [] ∧ RS w wq N w.heap.size t t v ∧ SR wq R (.slice ao2 rl cap2)) (fun _ i _ => rl - (intOf i).toNat)
  case atStart => exact ⟨0, [], _, Nat.zero_le _, rfl, rfl, by simp [scanR], R3.out, SR3.out⟩
  case round =>
    obtain ⟨j, t, v, hj, rfl, rfl, ht, hrs, hsr⟩ := hrel
    have M : Hid (RS w wr N w.heap.size t t v ∧ SR wr R (.slice ao2 rl cap2)) := ⟨hrs, hsr⟩
    have htl := SMALL.out j t ht
    obtain ⟨tao, tc, hv⟩ := hrs.form
    subst hv
    by_cases hlt : j < rl
    · have hjR : j < R.length := by omega
      have HT : Hid (scanR (R.take (j + 1)) [] = stepR t R[j]) := by show _ = _; rw [take_snoc R j hjR, scanR_snoc, ← ht]
      obtain ⟨lg, lc, hvl, c0, c1, h35, hno⟩ := STEP.out R wr t _ _ LR.out hrs hsr j hjR
      simp at hvl
      obtain ⟨rfl, hdup, rfl⟩ := hvl
      clear hdup
      obtain ⟨x, hx⟩ : ∃ x, R[j] = x := ⟨_, rfl⟩
      rw [hx] at c0 c1 h35 hno HT
      obtain ⟨x1, x2⟩ := x
      simp only at c0 c1 h35 hno
      have hjI : (j : Int) < rl := by omega
      have TT : Hid (t = scanR (R.take j) []) := ht
      clear hrs hsr ht
      by_cases q1 : x1 = 35
      · subst q1
        obtain ⟨b, rfl, hbN, d0, d1, hin, hout⟩ := h35 rfl
        have hbI : (b : Int) < (N : Int) + 1 := by omega
        by_cases hb : b ∈ t
        · have hsame := hin hb
          have hd : decide (b ∈ t) = true := by simpa using hb
          rw [hd] at d0
          have HS' : Hid (scanR (R.take (j + 1)) [] = t) := by show _ = _; rw [HT.out, hsame]
          clear hin hout hno h35 hsame hd hb hx
          go_wp2
          go_roundw
          case rel => exact ⟨j + 1, t, _, by omega, by go_num, rfl, HS'.out.symm, M.out.1, M.out.2⟩
          case measure => simp [intOf]; omega
        · have hd : decide (b ∈ t) = false := by simpa using hb
          rw [hd] at d0
          obtain ⟨hnew, hmark⟩ := hout hb
          have MK : Hid _ := hmark
          have HS' : Hid (scanR (R.take (j + 1)) [] = t ++ [b]) := by show _ = _; rw [HT.out, hnew]
          have cm : (wr.setCell ⟨w.heap.size, b, none⟩ (.bool true)).cell? ⟨lg, j * 2 + 1, none⟩ = some (.int .i64 b) := by
            have sr1 := (MK.out _ (Below.refl _ _)).2
            obtain ⟨lg', lc', hvl', _, hcl'⟩ := val_cells (own_base sr1 (Nat.zero_le 0)) (by omega)
            simp at hvl'
            obtain ⟨rfl, _⟩ := hvl'
            have := (hcl' j hjR).2
            rw [hx] at this
            exact this
          have hszm : (wr.setCell ⟨w.heap.size, b, none⟩ (.bool true)).heap.size = wr.heap.size := by simp [World.setCell]
          have hwr : w.heap.size ≤ wr.heap.size := M.out.1.below.size
          clear hin hout hno h35 hnew hd hb hmark hx
          go_wp2_with (at_builtin; refine wpList_append_lies _ rfl (.tmp 59) (.tmp 65) 69 rfl w.heap.size 3 i3 _ 1 8 Tryd.underlying69 IN.out.1 IN.out.2.1 IN.out.2.2.1 IN.out.2.2.2 rfl (by decide) _ _ _ rfl (MK.out _ ((Below.refl _ _).alloc (Nat.le_refl _) _)).1.todo ⟨wr.heap.size, 0, none⟩ 1 1 [.int .i64 b] rfl rfl ?c1 ?c2 (by decide) ?c3 ?c4 ?c5 (wr.heap.size + 1) (by simp [hszm]) ?_)
          case c1 => have := news_new (wr.setCell ⟨w.heap.size, b, none⟩ (.bool true)) [.int .i64 b] 3; rw [hszm] at this; exact this
          case c2 => intro u hu; simp at hu; subst hu; rfl
          case c3 => unfold maxLen; omega
          case c4 => omega
          case c5 => simp [hszm]; omega
          intro g' cap' w5 hown hgr _ _
          have R5 : Hid (RS w w5 N w.heap.size (t ++ [b]) (t ++ [b]) (.slice (some ⟨g', 0, none⟩) (t.length + 1) cap') ∧ SR w5 R (.slice (some ⟨lg, 0, none⟩) rl cap2)) := by
            obtain ⟨r0, s0⟩ := MK.out _ ((Below.refl _ (wr.setCell ⟨w.heap.size, b, none⟩ (.bool true))).alloc (Nat.le_refl _) (.cells #[.int .i64 b] 3))
            exact ⟨r0.grown hown hgr, s0.grown r0 hgr⟩
          clear hown hgr MK cm d0 d1 c0 c1 M
          go_wp2
          go_roundw
          case rel => exact ⟨j + 1, t ++ [b], _, by omega, by go_num, rfl, HS'.out.symm, R5.out.1, R5.out.2⟩
          case measure => simp [intOf]; omega
      · have hq : ((x1.toNat : Int) == 35) = false := byte_ne (n := 35) (by omega) q1
        have HS' : Hid (scanR (R.take (j + 1)) [] = t) := by show _ = _; rw [HT.out, hno q1]
        clear h35 hno hx
        go_wp2
        go_roundw
        case rel => exact ⟨j + 1, t, _, by omega, by go_num, rfl, HS'.out.symm, M.out.1, M.out.2⟩
        case measure => simp [intOf]; omega
    · have hjR : R.take j = R := List.take_of_length_le (by omega)
      rw [hjR] at ht
      have F1 : Hid (Found s 0 t) := by
        show Found s 0 t
        rw [ht, SCN.out]
        exact F0.out
      have hjI : ¬ (j : Int) < rl := by omega
      have hpL : w.cell? ⟨L, 0, none⟩ = some (.slice (some ⟨gc, 0, none⟩) N capc) := p0
      clear hrs hsr ht hjR hlt hj htl SMALL SCN LR F0 R3 SR3
      go_wp2
      clear hjI
      go_loopw [4, 6] (fun vt i wq => ∃ (n : Nat) (t : List Nat) (v : Value), i = .int .i64 n ∧ v = vt ∧ Found s n t ∧ RS w wq N w.heap.size t t v) (fun _ i _ => N + 1 - (intOf i).toNat)
      case atStart => exact ⟨0, t, _, rfl, rfl, F1.out, M.out.1⟩
      case round =>
        obtain ⟨n, t, v, rfl, rfl, hf, hrs⟩ := hrel
        have htN := FS.out n t hf
        have hnl := hf.le
        obtain ⟨tao, tc, hv⟩ := hrs.form
        subst hv
        by_cases hlt : n < t.length
        · obtain ⟨tg, tcap, hv, cn⟩ := hrs.at_ hlt
          simp at hv
          obtain ⟨rfl, rfl⟩ := hv
          obtain ⟨hf1, hb1, hb2⟩ := FN.out n t t[n] hf (List.getElem?_eq_getElem hlt)
          obtain ⟨b, hb⟩ : ∃ b, t[n] = b := ⟨_, rfl⟩
          rw [hb] at cn hf1 hb1 hb2
          obtain ⟨cp, vf, cf, sf⟩ := CELLS.out wr hrs.below b hb1 hb2
          obtain ⟨fo, fc, hvf⟩ := own_slice sf
          have h4 := FOUR.out b
          obtain ⟨F, hF⟩ : ∃ F, (cellOf s b).fields = F := ⟨_, rfl⟩
          have LFb := LF.out b
          rw [hF] at hf1 sf hvf h4 LFb
          subst hvf
          obtain ⟨fl, hfl⟩ : ∃ fl, F.length = fl := ⟨_, rfl⟩
          rw [hfl] at h4 cf sf
          have M2 : Hid (RS w wr N w.heap.size t t (.slice (some ⟨tg, 0, none⟩) t.length tc) ∧ SR wr F (.slice fo fl fc) ∧ Found s (n + 1) (scanR F t) ∧ ∀ v ∈ F, v.1 = 35 → ∃ b : Nat, v.2 = (b : Int) ∧ 1 ≤ b ∧ b ≤ N) := ⟨hrs, sf, hf1, LFb⟩
          have hnI : (n : Int) < t.length := by omega
          obtain ⟨c, rfl⟩ : ∃ c, b = c + 1 := ⟨b - 1, by omega⟩
          rw [Nat.add_sub_cancel] at cf
          have hcI : (c : Int) < N := by omega
          have ec : ((c + 1 : Nat) : Int) = (c : Int) + 1 := by omega
          rw [ec] at cn
          have hwr : IntKind.i64.wrap ((c : Int) + 1 - 1) = c := by
            rw [show (c : Int) + 1 - 1 = c by omega]
            exact wrapS (by omega) (by omega)
          clear hrs sf hf1 LFb hf M F1 hb hF hb1 hb2 ec
          go_wp2_with fail
          go_region
          all_goals go_wp2
          have hfin := FS.out _ _ M2.out.2.2.1
          have PRE : Hid (∀ q, (scanR (F.take q) t).length ≤ 99) := fun q => by
            have e : scanR F t = scanR (F.drop q) (scanR (F.take q) t) := by
              unfold scanR
              rw [← List.foldl_append, List.take_append_drop]
            obtain ⟨x, hx⟩ := scanR_pre (F.drop q) (scanR (F.take q) t)
            rw [e, hx, List.length_append] at hfin
            omega
          clear cp cf cn hwr hfin CELLS
          go_loopw [4, 9] (fun vt i wq => ∃ (q : Nat) (t' : List Nat) (v : Value), q ≤ fl ∧ i = .int .i64 q ∧ v = vt ∧ t' = scanR (F.take q) t ∧ RS w wq N w.heap.size t' t' v ∧ SR wq F (.slice fo fl fc)) (fun _ i _ => fl - (intOf i).toNat)
          case atStart => exact ⟨0, t, _, Nat.zero_le _, rfl, rfl, by simp [scanR], M2.out.1.on (Below.refl _ _).drew, M2.out.2.1.on (Below.refl _ _).drew⟩
          case round =>
            obtain ⟨q, t', v, hq, rfl, rfl, ht', hrs, hsr⟩ := hrel
            have M3 : Hid (RS w wr N w.heap.size t' t' v ∧ SR wr F (.slice fo fl fc)) := ⟨hrs, hsr⟩
            have htl' : t'.length ≤ 99 := by rw [ht']; exact PRE.out q
            obtain ⟨tao2, tc2, hv⟩ := hrs.form
            subst hv
            by_cases hltq : q < fl
            · have hqF : q < F.length := by omega
              have HT : Hid (scanR (F.take (q + 1)) t = stepR t' F[q]) := by show _ = _; rw [take_snoc F q hqF, scanR_snoc, ← ht']
              obtain ⟨lg, lc, hvl, c0, c1, h35, hno⟩ := STEP.out F wr t' _ _ M2.out.2.2.2 hrs hsr q hqF
              simp at hvl
              obtain ⟨rfl, hdup, rfl⟩ := hvl
              clear hdup
              obtain ⟨x, hx⟩ : ∃ x, F[q] = x := ⟨_, rfl⟩
              rw [hx] at c0 c1 h35 hno HT
              obtain ⟨x1, x2⟩ := x
              simp only at c0 c1 h35 hno
              have hqI : (q : Int) < fl := by omega
              clear hrs hsr ht'
              by_cases q1 : x1 = 35
              · subst q1
                obtain ⟨b, rfl, hbN, d0, d1, hin, hout⟩ := h35 rfl
                have hbI : (b : Int) < (N : Int) + 1 := by omega
                by_cases hb : b ∈ t'
                · have hsame := hin hb
                  have hd : decide (b ∈ t') = true := by simpa using hb
                  rw [hd] at d0
                  have HS' : Hid (scanR (F.take (q + 1)) t = t') := by show _ = _; rw [HT.out, hsame]
                  clear hin hout hno h35 hsame hd hb hx
                  go_wp2
                  go_roundw
                  case rel => exact ⟨q + 1, t', _, by omega, by go_num, rfl, HS'.out.symm, M3.out.1, M3.out.2⟩
                  case measure => simp [intOf]; omega
                · have hd : decide (b ∈ t') = false := by simpa using hb
                  rw [hd] at d0
                  obtain ⟨hnew, hmark⟩ := hout hb
                  have MK : Hid _ := hmark
                  have HS' : Hid (scanR (F.take (q + 1)) t = t' ++ [b]) := by show _ = _; rw [HT.out, hnew]
                  have cm : (wr.setCell ⟨w.heap.size, b, none⟩ (.bool true)).cell? ⟨lg, q * 2 + 1, none⟩ = some (.int .i64 b) := by
                    have sr1 := (MK.out _ (Below.refl _ _)).2
                    obtain ⟨lg', lc', hvl', _, hcl'⟩ := val_cells (own_base sr1 (Nat.zero_le 0)) (by omega)
                    simp at hvl'
                    obtain ⟨rfl, _⟩ := hvl'
                    have := (hcl' q hqF).2
                    rw [hx] at this
                    exact this
                  have hszm : (wr.setCell ⟨w.heap.size, b, none⟩ (.bool true)).heap.size = wr.heap.size := by simp [World.setCell]
                  have hwr : w.heap.size ≤ wr.heap.size := M3.out.1.below.size
                  clear hin hout hno h35 hnew hd hb hmark hx
                  go_wp2_with (at_builtin; refine wpList_append_lies _ rfl (.tmp 113) (.tmp 119) 69 rfl w.heap.size 3 i3 _ 1 8 Tryd.underlying69 IN.out.1 IN.out.2.1 IN.out.2.2.1 IN.out.2.2.2 rfl (by decide) _ _ _ rfl (MK.out _ ((Below.refl _ _).alloc (Nat.le_refl _) _)).1.todo ⟨wr.heap.size, 0, none⟩ 1 1 [.int .i64 b] rfl rfl ?c1 ?c2 (by decide) ?c3 ?c4 ?c5 (wr.heap.size + 1) (by simp [hszm]) ?_)
                  case c1 => have := news_new (wr.setCell ⟨w.heap.size, b, none⟩ (.bool true)) [.int .i64 b] 3; rw [hszm] at this; exact this
                  case c2 => intro u hu; simp at hu; subst hu; rfl
                  case c3 => unfold maxLen; omega
                  case c4 => omega
                  case c5 => simp [hszm]; omega
                  intro g' cap' w5 hown hgr _ _
                  have R5 : Hid (RS w w5 N w.heap.size (t' ++ [b]) (t' ++ [b]) (.slice (some ⟨g', 0, none⟩) (t'.length + 1) cap') ∧ SR w5 F (.slice (some ⟨lg, 0, none⟩) fl fc)) := by
                    obtain ⟨r0, s0⟩ := MK.out _ ((Below.refl _ (wr.setCell ⟨w.heap.size, b, none⟩ (.bool true))).alloc (Nat.le_refl _) (.cells #[.int .i64 b] 3))
                    exact ⟨r0.grown hown hgr, s0.grown r0 hgr⟩
                  clear hown hgr MK cm d0 d1 c0 c1 M3
                  go_wp2
                  go_roundw
                  case rel => exact ⟨q + 1, t' ++ [b], _, by omega, by go_num, rfl, HS'.out.symm, R5.out.1, R5.out.2⟩
                  case measure => simp [intOf]; omega
              · have hqd : ((x1.toNat : Int) == 35) = false := byte_ne (n := 35) (by omega) q1
                have HS' : Hid (scanR (F.take (q + 1)) t = t') := by show _ = _; rw [HT.out, hno q1]
                clear h35 hno hx
                go_wp2
                go_roundw
                case rel => exact ⟨q + 1, t', _, by omega, by go_num, rfl, HS'.out.symm, M3.out.1, M3.out.2⟩
                case measure => simp [intOf]; omega
            · have hqF : F.take q = F := List.take_of_length_le (by omega)
              rw [hqF] at ht'
              have hqI : ¬ (q : Int) < fl := by omega
              have M4 : Hid (Found s (n + 1) t' ∧ RS w wr N w.heap.size t' t' (.slice tao2 t'.length tc2)) := ⟨by rw [ht']; exact M2.out.2.2.1, M3.out.1⟩
              clear hrs hsr ht' hqF
              go_wp2
              go_roundw
              case rel => exact ⟨n + 1, t', _, by go_num, rfl, M4.out.1, M4.out.2⟩
              case measure => simp [intOf]; omega
        · have hne : n = t.length := by omega
          have FIN : Hid ((n : Int) = (reachN s : Int) ∧ Below w.heap.size w wr) := ⟨by
            rw [hne] at hf
            rw [hne, FE.out t hf], hrs.below⟩
          have hnI : ¬ (n : Int) < t.length := by omega
          clear hrs hf hne hlt hnl
          go_wp2
          go_ret
          exact ⟨by rw [FIN.out.1]; rfl, FIN.out.2⟩

end Go.Proofs.YtpmkjeihbddfpaaDoor

/- OUR OWN. Justified: news. -/
namespace Go.Proofs.YtpmkjeihbddfpaaDoor
open Go.RowKit
set_option linter.unusedVariables false
set_option linter.unusedSimpArgs false

/-- what a picture has of the top of the stack and of its object -/
structure TopAt (w : World) (L N b n len : Nat) : Prop where
  low : L < w.heap.size
  top : ∃ g cap, g < w.heap.size ∧ w.cell? ⟨L, 2, none⟩ = some (.slice (some ⟨g, 0, none⟩) (len + 1) cap) ∧ w.cell? ⟨g, len * 2, none⟩ = some (.int .u8 35) ∧ w.cell? ⟨g, len * 2 + 1, none⟩ = some (.int .i64 ((b : Int) + 1))
  obj : ∃ g cap fo fc, g < w.heap.size ∧ w.cell? ⟨L, 0, none⟩ = some (.slice (some ⟨g, 0, none⟩) N cap) ∧ w.cell? ⟨g, b * 3, none⟩ = some (.int .u8 119) ∧ w.cell? ⟨g, b * 3 + 1, none⟩ = some (.int .i64 0) ∧ w.cell? ⟨g, b * 3 + 2, none⟩ = some (.slice fo n fc) ∧
    ∀ i, i < n → ∃ fg, fo = some ⟨fg, 0, none⟩ ∧ fg < w.heap.size ∧ w.cell? ⟨fg, i * 2, none⟩ = some (.int .u8 110) ∧ w.cell? ⟨fg, i * 2 + 1, none⟩ = some (.int .i64 0)

theorem top_of {w : World} {L B : Nat} {s : St} {N : Nat} {cs : List (Cell × Value)} {vc vq vs vg : Value} (h : PicOf w L B s N cs vc vq vs vg) {b n len : Nat} {st : List (Int × Int)} (hl : st.length = len) (hst : s.stack = st ++ [(2, ((b + 1 : Nat) : Int))]) (hb : b < N)
    (hob : s.ob (b + 1) = ⟨true, List.replicate n (0, 0), false, false⟩) (hc : s.count ((b + 1 : Nat) : Int) = 0) : TopAt w L N b n len := by
  have hlen := cs_len h.map
  have hw : s.waits (b + 1) = true := by
    unfold St.waits
    rw [hob, hc]; simp
  have hcell : cellOf s (b + 1) = ⟨119, 0, List.replicate n (110, 0)⟩ := by
    unfold cellOf
    rw [hob]
    simp only [if_pos rfl, hw, hc]
    simp [absV]
  refine ⟨lt_of_heap h.pic.box, ?_, ?_⟩
  · obtain ⟨g, cap, hv, hg, hcl⟩ := val_cells h.pic.stack (by rw [List.length_map, hst]; simp)
    have hl2 : (s.stack.map absV).length = len + 1 := by rw [List.length_map, hst]; simp [hl]
    have p2 := cell_of_heap (i := 2) h.pic.box rfl
    simp at p2
    obtain ⟨c0, c1⟩ := hcl len (by omega)
    have hx : (s.stack.map absV)[len]'(by omega) = (35, ((b + 1 : Nat) : Int)) := by
      simp only [hst, List.map_append, List.map_cons, List.map_nil]
      rw [List.getElem_append_right (by simp [hl])]
      simp [absV]
    rw [hx] at c0 c1
    refine ⟨g, cap, hg, by rw [p2, hv, hl2], c0, ?_⟩
    rw [c1]
    simp
  · obtain ⟨g, cap, hv, hg, hcl⟩ := h.pic.view (by omega)
    have p0 := cell_of_heap (i := 0) h.pic.box rfl
    simp at p0
    obtain ⟨v, hcv⟩ := cs_get h.map hb
    have hi : b < cs.length := by omega
    have he : cs[b] = (cellOf s (b + 1), v) := (List.getElem?_eq_some_iff.1 hcv).2
    obtain ⟨c0, c1, c2⟩ := hcl b hi
    rw [he, hcell] at c0 c1
    rw [he] at c2
    have hf := h.pic.fields _ (by rw [← he]; exact List.getElem_mem hi : (cellOf s (b + 1), v) ∈ cs)
    rw [hcell] at hf
    simp only at hf c2
    obtain ⟨fo, fc, hvf⟩ := own_slice (own_base hf (Nat.zero_le _))
    rw [List.length_replicate] at hvf
    rw [hvf] at c2
    refine ⟨g, cap, fo, fc, hg, by rw [p0, hv, hlen], c0, c1, c2, fun i hi => ?_⟩
    obtain ⟨fg, fcap, hv2, hfg, hfc⟩ := val_cells hf (by rw [List.length_replicate]; omega)
    rw [hvf] at hv2
    simp at hv2
    obtain ⟨d0, d1⟩ := hfc i (by rw [List.length_replicate]; exact hi)
    simp at d0 d1
    exact ⟨fg, hv2.1, hfg, d0, d1⟩

set_option maxHeartbeats 3200000 in
set_option maxRecDepth 100000 in
theorem news_any {w : World} {N L1 L2 : Nat} {c : Cf} {s : St} {n : Int} (hN : N ≤ 99) (h1 : 1 ≤ N) (g : s.Good N) (hbd : (s.stack.length : Int) ≤ c.deep) (hd : c.deep ≤ 16)
    {B1 B2 : Nat} {cs1 cs2 : List (Cell × Value)} {va vb vc vd ve vf vg vh : Value} (p1 : PicOf w L1 B1 s N cs1 va vb vc vd) (p2 : PicOf w L2 B2 (newS c s n).1 N cs2 ve vf vg vh) (hgl : s.globals.length ≤ 8) (gs bu ze ov : Int) :
    Calls Tryd.prog 12 #[.pointer (some ⟨L1, 0, none⟩), .pointer (some ⟨L2, 0, none⟩), .agg #[.int .i64 N, .int .i64 c.deep, .int .i64 gs, .int .i64 bu, .int .i64 ze, .int .i64 ov], .int .i64 n, .int .i64 (newS c s n).2.2] w
      fun e w' => e = .returned (.bool true) ∧ Below w.heap.size w w' := by
  have hans := new_answer g c n
  obtain ⟨so, sc, hvs⟩ := own_slice (own_base p1.pic.stack (Nat.zero_le _))
  rw [List.length_map] at hvs
  have q2 := cell_of_heap (i := 2) p1.pic.box rfl
  simp at q2
  rw [hvs] at q2
  have hL1 := lt_of_heap p1.pic.box
  have hst16 : s.stack.length ≤ 16 := by omega
  have RE : Hid (∀ V, Below w.heap.size w V → Calls Tryd.prog 28 #[.pointer (some ⟨L1, 0, none⟩)] V fun e w' => e = .returned (.int .i64 (reachN s)) ∧ Below V.heap.size V w') := fun V hV => reached_seen (p1.below hV) g h1 hN hst16 hgl
  have A1 : ∀ ob, (w.alloc ob).cell? ⟨L1, 2, none⟩ = w.cell? ⟨L1, 2, none⟩ := fun ob => World.cell?_of_block (hao hL1)
  have hsame : (c.deep ≤ (s.stack.length : Int)) ↔ ((s.stack.length : Int) = c.deep) := by omega
  obtain ⟨len, hlen⟩ : ∃ len, s.stack.length = len := ⟨_, rfl⟩
  obtain ⟨dp, hdp⟩ : ∃ dp, c.deep = dp := ⟨_, rfl⟩
  by_cases hA : n < 0 ∨ 4 < n
  · rw [if_pos hA] at hans
    rw [hans]
    clear hans p1 p2 g RE hbd hsame hvs
    rcases hA with hA | hA
    · go_enter Tryd.func12, Tryd.ntmps12
      go_wp2
      go_ret
      exact ⟨rfl, (Below.refl _ _).alloc (Nat.le_refl _) _⟩
    · have h0 : ¬ n < 0 := by omega
      go_enter Tryd.func12, Tryd.ntmps12
      go_wp2
      go_ret
      exact ⟨rfl, (Below.refl _ _).alloc (Nat.le_refl _) _⟩
  have hn0 : ¬ n < 0 := by omega
  have hn4 : ¬ 4 < n := by omega
  rw [if_neg hA] at hans
  by_cases hD : c.deep ≤ (s.stack.length : Int)
  · rw [if_pos hD] at hans
    rw [hans]
    have heq := hsame.1 hD
    rw [hlen] at q2 heq hst16
    rw [hdp] at heq ⊢
    subst heq
    clear hans p1 p2 g RE hbd hsame hvs hD hdp hA
    go_enter Tryd.func12, Tryd.ntmps12
    go_wp2_with fail
    go_region
    all_goals go_wp2
    all_goals go_ret
    all_goals exact ⟨rfl, ((Below.refl _ _).alloc (Nat.le_refl _) _).drew⟩
  rw [if_neg hD] at hans
  have hne : ((s.stack.length : Int) == c.deep) = false := by simp; omega
  rw [hlen] at q2 hne hst16
  rw [hdp] at hne hd ⊢
  by_cases hF : reachN s = N
  · rw [if_pos hF] at hans
    rw [hans]
    rw [hF] at RE
    clear hans p1 p2 g hbd hsame hvs hD hA
    go_enter Tryd.func12, Tryd.ntmps12
    go_wp2_with fail
    go_region
    all_goals go_wp2_with fail
    refine Calls.mono (RE.out _ ((Below.refl _ _).alloc (Nat.le_refl _) _).drew) ?_
    rintro e w1 ⟨rfl, hb1⟩
    have hL : w1.heap[w.heap.size]? = some (.cells #[.int .i64 N, .int .i64 dp, .int .i64 gs, .int .i64 bu, .int .i64 ze, .int .i64 ov] 23) := (hb1.block _ (by simp [World.drew])).trans (heap_alloc_new w _)
    have x0 : w1.cell? ⟨w.heap.size, 0, none⟩ = some (.int .i64 N) := cell_of_heap hL rfl
    have B1 : Hid (Below w.heap.size w w1) := (((Below.refl _ _).alloc (Nat.le_refl _) _).drew).trans (hb1.mono (by simp [World.drew]))
    clear hb1 hL RE
    go_wp2
    go_ret
    exact ⟨rfl, B1.out⟩
  rw [if_neg hF] at hans
  rw [hans]
  obtain ⟨b1, hb1, hbN, hst2, hob, hcn⟩ := new_object g c n hans
  obtain ⟨b, rfl⟩ : ∃ b, b1 = b + 1 := ⟨b1 - 1, by omega⟩
  obtain ⟨k, rfl⟩ : ∃ k : Nat, n = k := ⟨n.toNat, by omega⟩
  rw [Int.toNat_natCast] at hob
  have TOP : Hid (∀ V, Below w.heap.size w V → TopAt V L2 N b k len) := fun V hV => top_of (p2.below hV) hlen hst2 (by omega) hob hcn
  obtain ⟨rn, hrn⟩ : ∃ rn, reachN s = rn := ⟨_, rfl⟩
  rw [hrn] at RE hF
  have hrne : ((rn : Int) == (N : Int)) = false := by simp; omega
  have hrs : rn ≤ 99 := by
    rw [← hrn]; unfold reachN
    have := countTo_le s.reachB s.N
    rw [g.sN] at this ⊢
    omega
  have hk4 : k ≤ 4 := by omega
  have hbI : (b : Int) < N := by omega
  clear hans p1 p2 g hbd hsame hvs hD hA hst2 hob hcn hrn hn0 hn4
  have hn0 : ¬ (k : Int) < 0 := by omega
  have hn4 : ¬ (4 : Int) < k := by omega
  go_enter Tryd.func12, Tryd.ntmps12
  go_wp2_with fail
  go_region
  all_goals go_wp2_with fail
  refine Calls.mono (RE.out _ ((Below.refl _ _).alloc (Nat.le_refl _) _).drew) ?_
  rintro e w1 ⟨rfl, hb1⟩
  have hL : w1.heap[w.heap.size]? = some (.cells #[.int .i64 N, .int .i64 dp, .int .i64 gs, .int .i64 bu, .int .i64 ze, .int .i64 ov] 23) := (hb1.block _ (by simp [World.drew])).trans (heap_alloc_new w _)
  have x0 : w1.cell? ⟨w.heap.size, 0, none⟩ = some (.int .i64 N) := cell_of_heap hL rfl
  have B1 : Hid (Below w.heap.size w w1) := (((Below.refl _ _).alloc (Nat.le_refl _) _).drew).trans (hb1.mono (by simp [World.drew]))
  have q2' : w1.cell? ⟨L1, 2, none⟩ = some (.slice so len sc) := (B1.out.cell (p := ⟨L1, 2, none⟩) hL1).trans q2
  obtain ⟨l0, ⟨tg, tc, tl, t0, t1, t2⟩, _⟩ := TOP.out w1 B1.out
  clear hb1 hL RE
  go_wp2_with fail
  go_region
  all_goals go_wp2_with fail
  clear x0 q2' q2 A1
  obtain ⟨V, hV⟩ : ∃ V, w1.drew = V := ⟨_, rfl⟩
  rw [hV]
  have BV : Hid (Below w.heap.size w V) := by show Below w.heap.size w V; rw [← hV]; exact B1.out.drew
  clear hV t0 t1 t2 tl l0 B1
  obtain ⟨l0, ⟨tg', tc', tl, t0, t1, t2⟩, _⟩ := TOP.out V BV.out
  go_region
  all_goals go_wp2_with fail
  clear t0 t1 t2 tl l0
  obtain ⟨V2, hV2⟩ : ∃ V2, (V.alloc (.cells #[.int .u8 35, .int .i64 ((b : Int) + 1)] 66)).drew = V2 := ⟨_, rfl⟩
  rw [hV2]
  have bx : V2.heap[V.heap.size]? = some (.cells #[.int .u8 35, .int .i64 ((b : Int) + 1)] 66) := by rw [← hV2]; exact heap_alloc_new V _
  have x1 : V2.cell? ⟨V.heap.size, 1, none⟩ = some (.int .i64 ((b : Int) + 1)) := cell_of_heap bx rfl
  have hVs : V.heap.size < V2.heap.size := lt_of_heap bx
  have B2 : Hid (Below w.heap.size w V2) := by show Below w.heap.size w V2; rw [← hV2]; exact (BV.out.alloc BV.out.size _).drew
  have hwrap : IntKind.i64.wrap ((b : Int) + 1 - 1) = b := by
    rw [show (b : Int) + 1 - 1 = b by omega]
    exact wrapS (by omega) (by omega)
  clear hV2 bx
  obtain ⟨l0, _, ⟨cg, cc, fo, fc, cl, o0, o1, o2, o3, ofs⟩⟩ := TOP.out V2 B2.out
  have OF : Hid (∀ i, i < k → ∃ fg, fo = some ⟨fg, 0, none⟩ ∧ fg < V2.heap.size ∧ V2.cell? ⟨fg, i * 2, none⟩ = some (.int .u8 110) ∧ V2.cell? ⟨fg, i * 2 + 1, none⟩ = some (.int .i64 0)) := ofs
  clear ofs
  go_region
  all_goals go_wp2_with fail
  clear o0 o1 o2 o3 cl l0 x1 hwrap
  obtain ⟨V3, hV3⟩ : ∃ V3, (V2.alloc (.cells #[.int .u8 119, .int .i64 0, .slice fo k fc] 56)).drew = V3 := ⟨_, rfl⟩
  rw [hV3]
  have bx : V3.heap[V2.heap.size]? = some (.cells #[.int .u8 119, .int .i64 0, .slice fo k fc] 56) := by rw [← hV3]; exact heap_alloc_new V2 _
  have x0 : V3.cell? ⟨V2.heap.size, 0, none⟩ = some (.int .u8 119) := cell_of_heap bx rfl
  have x2 : V3.cell? ⟨V2.heap.size, 2, none⟩ = some (.slice fo k fc) := cell_of_heap bx rfl
  have B3 : Hid (Below w.heap.size w V3) := by show Below w.heap.size w V3; rw [← hV3]; exact (B2.out.alloc B2.out.size _).drew
  have O3 : Hid (∀ i, i < k → ∃ fg, fo = some ⟨fg, 0, none⟩ ∧ V3.cell? ⟨fg, i * 2, none⟩ = some (.int .u8 110)) := fun i hi => by
    obtain ⟨fg, h1, h2, h3, _⟩ := OF.out i hi
    refine ⟨fg, h1, ?_⟩
    rw [← hV3]
    exact (World.cell?_of_block (hao h2)).trans h3
  clear hV3 bx
  go_loop [14] (fun i => ∃ j : Nat, j ≤ k ∧ i = .int .i64 j) (fun i => k - (intOf i).toNat)
  case atStart => exact ⟨0, Nat.zero_le _, rfl⟩
  case round =>
    obtain ⟨j, hj, rfl⟩ := hrel
    by_cases hlt : j < k
    · obtain ⟨fg, rfl, c0⟩ := O3.out j hlt
      have hjI : (j : Int) < k := by omega
      go_wp2
      go_round
      case rel => exact ⟨j + 1, by omega, by go_num⟩
      case measure => simp [intOf]; omega
    · have hjI : ¬ (j : Int) < k := by omega
      go_wp2
      go_ret
      exact ⟨rfl, B3.out⟩

end Go.Proofs.YtpmkjeihbddfpaaDoor

/- OUR OWN. Justified, the steps. -/
namespace Go.Proofs.YtpmkjeihbddfpaaDoor
open Go.RowKit
set_option linter.unusedVariables false
set_option linter.unusedSimpArgs false
section
variable {HS : HeapM → St → Cf → Nat → Prop}

/-- the heap at x is the state s, and its picture is at L -/
def J1 (HS : HeapM → St → Cf → Nat → Prop) (Bx x kg N : Nat) (c : Cf) (L : Nat) (s : St) (w : World) : Prop := ∃ B hm cs va vb vd ve, KAt HS Bx w x hm s c N ∧ s.globals.length = kg ∧ (∀ y ∈ x :: hm.foot, y < B) ∧ B ≤ w.heap.size ∧ PicOf w L B s N cs va vb vd ve
/-- and at L0 there is the picture of the state s0 -/
def J3 (HS : HeapM → St → Cf → Nat → Prop) (Bx x kg N : Nat) (c : Cf) (L0 : Nat) (s0 : St) (L : Nat) (s : St) (w : World) : Prop := (∃ B cs va vb vd ve, PicOf w L0 B s0 N cs va vb vd ve ∧ s0.Good N ∧ (s0.stack.length : Int) ≤ c.deep ∧ s0.globals.length ≤ 8 ∧ c.deep ≤ 16) ∧ J1 HS Bx x kg N c L s w
variable {Bx x kg N L L0 : Nat} {c : Cf} {s s0 : St} {w W : World}
theorem J1.below (h : J1 HS Bx x kg N c L s w) (hb : Below w.heap.size w W) : J1 HS Bx x kg N c L s W := by
  obtain ⟨B, hm, cs, va, vb, vd, ve, k, hg, ha, hB, hp⟩ := h
  exact ⟨B, hm, cs, va, vb, vd, ve, k.below hb, hg, ha, Nat.le_trans hB hb.size, hp.below hb⟩
theorem J3.below (h : J3 HS Bx x kg N c L0 s0 L s w) (hb : Below w.heap.size w W) : J3 HS Bx x kg N c L0 s0 L s W := by
  obtain ⟨⟨B, cs, va, vb, vd, ve, hp, h1⟩, h2⟩ := h
  exact ⟨⟨B, cs, va, vb, vd, ve, hp.below hb, h1⟩, h2.below hb⟩
theorem J1.size (h : J1 HS Bx x kg N c L s w) : Bx ≤ w.heap.size := by
  obtain ⟨B, hm, cs, va, vb, vd, ve, k, _⟩ := h
  exact k.size

theorem j_seen (P : PactsD HS) {Bt : Nat} (tab : Tab Bt w) {hm : HeapM} (k : KAt HS Bx w x hm s c N) (hg : s.globals.length = kg) (bu : Int) :
    Calls Tryd.prog 8 #[.pointer (some ⟨x, 0, none⟩), .agg #[.int .i64 N, .int .i64 c.deep, .int .i64 kg, .int .i64 bu, .int .i64 c.zero, .int .i64 c.over]] w fun e w' => ∃ L, e = .returned (.tuple #[.pointer (some ⟨L, 0, none⟩), .bool true]) ∧ J1 HS Bx x kg N c L s w' ∧ Below Bx w w' ∧ Off (x :: hm.foot) w w' := by
  subst hg
  refine Calls.mono (seen_of P.dump tab k.here k.hs k.good k.cf k.small k.stack k.gl c.deep bu c.zero c.over k.bound.roots) ?_
  rintro e w' ⟨L, B, cs, vc, vq, vs, vg, hm', rfl, sh⟩
  have hb := sh.turn.off.below k.size k.low
  have hz := sh.turn.off.size
  refine ⟨L, rfl, ⟨B, hm', cs, vc, vq, vs, vg, ⟨sh.turn.here, sh.hs, k.good, k.bound, k.cf, k.small, k.gl, fun y hy => ?_, by have := k.size; omega⟩, rfl, sh.apart, sh.high, sh.map, sh.pic⟩, hb, sh.turn.off⟩
  rcases List.mem_cons.1 hy with e | e
  · exact k.low y (by rw [e]; exact List.mem_cons_self)
  · rcases sh.turn.foot y e with e | e
    · exact k.low y (List.mem_cons_of_mem _ e)
    · have := k.size; omega

/-- an act, and the picture behind it -/
theorem j_act (P : PactsD HS) (h : J1 HS Bx x kg N c L s w) (op n : Int) (hop : fits op) (hn : fits n) :
    Calls Tryd.prog 7 #[.pointer (some ⟨x, 0, none⟩), .agg #[.int .i64 op, .int .i64 n]] w fun e w1 => e = .returned (.tuple #[.int .i64 (actS c s op n).2.1, .int .i64 (actS c s op n).2.2]) ∧ Below Bx w w1 ∧
      ∀ W, Below w1.heap.size w1 W → ∀ Bt, Tab Bt W → ∀ bu, Calls Tryd.prog 8 #[.pointer (some ⟨x, 0, none⟩), .agg #[.int .i64 N, .int .i64 c.deep, .int .i64 kg, .int .i64 bu, .int .i64 c.zero, .int .i64 c.over]] W fun e w' => ∃ L', e = .returned (.tuple #[.pointer (some ⟨L', 0, none⟩), .bool true]) ∧ J3 HS Bx x kg N c L s L' (actS c s op n).1 w' ∧ Below Bx W w' := by
  obtain ⟨B, hm, cs, va, vb, vd, ve, k, hg, ha, hB, hp⟩ := h
  refine Calls.mono (act_any P.all k op n hop hn) ?_
  rintro e w1 ⟨he, hm1, t1, k1⟩
  refine ⟨he, t1.off.below k.size k.low, fun W hW Bt tab bu => ?_⟩
  refine Calls.mono (j_seen P tab (k1.below hW) (by rw [act_globals k.good]; exact hg) bu) ?_
  rintro e w' ⟨L', rfl, hj, hb, ho⟩
  refine ⟨L', rfl, ⟨⟨B, cs, va, vb, vd, ve, hp.kept fun y hy1 hy2 => ?_, k.good, k.bound.roots, k.gl, k.cf.deep.2⟩, hj⟩, hb⟩
  have hz1 := t1.off.size
  have hz2 := hW.size
  rw [ho.block y (by omega) (fun e => ?_), hW.block y (by omega), t1.off.block y hy2 (fun e => by have := ha y e; omega)]
  rcases List.mem_cons.1 e with e | e
  · have := ha y (by rw [e]; exact List.mem_cons_self); omega
  · rcases t1.foot y e with e | e
    · have := ha y (List.mem_cons_of_mem _ e); omega
    · omega
theorem j_wide (h : J1 HS Bx x kg N c L s w) (h1 : 1 ≤ N) :
    Calls Tryd.prog 9 #[.pointer (some ⟨L, 0, none⟩)] w fun e w' => e = .returned (.bool true) ∧ Below w.heap.size w w' := by
  obtain ⟨B, hm, cs, va, vb, vd, ve, k, hg, ha, hB, hp⟩ := h
  exact pic_wide hp k.good h1 k.small k.stack k.gl
theorem j_news {n : Int} (h : J3 HS Bx x kg N c L0 s0 L (newS c s0 n).1 w) (hN : N ≤ 99) (h1 : 1 ≤ N) (gs bu ze ov : Int) :
    Calls Tryd.prog 12 #[.pointer (some ⟨L0, 0, none⟩), .pointer (some ⟨L, 0, none⟩), .agg #[.int .i64 N, .int .i64 c.deep, .int .i64 gs, .int .i64 bu, .int .i64 ze, .int .i64 ov], .int .i64 n, .int .i64 (newS c s0 n).2.2] w
      fun e w' => e = .returned (.bool true) ∧ Below w.heap.size w w' := by
  obtain ⟨⟨B, cs, va, vb, vd, ve, hp, g, h2, h3, h4⟩, ⟨B', hm, cs', va', vb', vd', ve', k, _, _, _, hp'⟩⟩ := h
  exact news_any hN h1 g h2 h4 hp hp' h3 gs bu ze ov
end

end Go.Proofs.YtpmkjeihbddfpaaDoor

/- OUR OWN. Justified, the walk. -/
namespace Go.Proofs.YtpmkjeihbddfpaaDoor
open Go.RowKit
set_option linter.unusedVariables false
set_option linter.unusedSimpArgs false
section
variable {HS : HeapM → St → Cf → Nat → Prop}

set_option maxHeartbeats 4000000 in
set_option maxRecDepth 100000 in
theorem justified_walk (P : PactsD HS) (b s g u z o : Int) (fb : fits b) (fs : fits s) (fg : fits g) (fu : fits u) (fz : fits z) (fo : fits o) (a0 : Option Addr) (alen acap : Nat) (hal : alen ≤ 20000000000000) (w : World) (acts : Nat → Int × Int) (HA : ActsIn w a0 alen acts) (Bt : Nat) (tab : Tab Bt w) (hBt : Bt ≤ w.heap.size) :
    Calls Tryd.prog 4 #[.agg #[.int .i64 b, .int .i64 s, .int .i64 g, .int .i64 u, .int .i64 z, .int .i64 o], .slice a0 alen acap] w
      fun e w' => e = .returned (.bool true) ∧ Below w.heap.size w w' := by
  have CF : Hid (∀ W, Calls Tryd.prog 5 #[.agg #[.int .i64 b, .int .i64 s, .int .i64 g, .int .i64 u, .int .i64 z, .int .i64 o]] W fun e w' => (∃ k : CfgM, e = .returned k.val ∧ k.ok) ∧ Below W.heap.size W w') := fun W => config_any b s g u z o W fb fs fg fu fz fo
  have FR : Hid (∀ (k : CfgM) (W : World), k.ok → Calls Tryd.prog 6 #[.agg #[.int .i64 k.b, .int .i64 k.s, .int .i64 k.g, .int .i64 k.u, .int .i64 k.z, .int .i64 k.o]] W fun e w' => ∃ x hm, e = .returned (.pointer (some ⟨x, 0, none⟩)) ∧ Below W.heap.size W w' ∧ KAt HS W.heap.size w' x hm (st0 k) k.cf k.b) := fun k W hk => fresh_keep P.all.base k hk W
  have H : Hid (ActsIn w a0 alen acts ∧ PactsD HS) := ⟨HA, P⟩
  have TB : Hid (∀ wr, Below w.heap.size w wr → Tab Bt wr) := fun wr hb => tab.keep hb.size fun k hk _ => hb.block k (by omega)
  clear HA P fb fs fg fu fz fo tab hBt
  go_enter Tryd.func4, Tryd.ntmps4
  go_wp2_with fail
  refine Calls.mono (CF.out _) ?_
  rintro e w1 ⟨⟨k, rfl, hk⟩, hb⟩
  have hL : w1.heap[w.heap.size]? = some (.cells #[.int .i64 b, .int .i64 s, .int .i64 g, .int .i64 u, .int .i64 z, .int .i64 o] 23) := by rw [hb.block _ (by simp)]; exact heap_alloc_new w _
  obtain ⟨kb, ks, kg, ku, kz, ko⟩ := k
  have hB := CfgM.bounds hk
  simp only at hB
  have hs1 : w.heap.size + 1 ≤ w1.heap.size := by have := hb.size; simpa using this
  have B1 : Hid (Below w.heap.size w w1) := ((Below.refl _ _).alloc (Nat.le_refl _) _).trans (hb.mono (by simp))
  obtain ⟨x0, x1, x2, x3, x4, x5, xf⟩ := box6 hL
  have f0 := xf 0
  have f1 := xf 1
  have f2 := xf 2
  have f3 := xf 3
  have f4 := xf 4
  have f5 := xf 5
  have HL : Hid (w1.heap[w.heap.size]? = some (.cells #[.int .i64 b, .int .i64 s, .int .i64 g, .int .i64 u, .int .i64 z, .int .i64 o] 23)) := hL
  have HK : Hid (CfgM.ok ⟨kb, ks, kg, ku, kz, ko⟩) := hk
  clear hb hL hk xf CF
  unfold CfgM.val
  simp only
  go_wp2_with fail
  obtain ⟨w2, hw2⟩ : ∃ w2, w2 = ((((((w1.setCell ⟨w.heap.size, 0, none⟩ (.int .i64 kb)).setCell ⟨w.heap.size, 1, none⟩ (.int .i64 ks)).setCell ⟨w.heap.size, 2, none⟩ (.int .i64 kg)).setCell ⟨w.heap.size, 3, none⟩ (.int .i64 ku)).setCell ⟨w.heap.size, 4, none⟩ (.int .i64 kz)).setCell ⟨w.heap.size, 5, none⟩ (.int .i64 ko)) := ⟨_, rfl⟩
  rw [← hw2]
  have hL2 : w2.heap[w.heap.size]? = some (.cells #[.int .i64 kb, .int .i64 ks, .int .i64 kg, .int .i64 ku, .int .i64 kz, .int .i64 ko] 23) := by rw [hw2]; exact set6_heap HL.out _ _ _ _ _ _
  have B2 : Hid (Below w.heap.size w w2) := by rw [hw2]; exact set6_below B1.out (Nat.le_refl _) _ _ _ _ _ _
  have hs2 : w.heap.size + 1 ≤ w2.heap.size := by rw [hw2, set6_size]; exact hs1
  clear x0 x1 x2 x3 x4 x5 f0 f1 f2 f3 f4 f5 HL B1 hw2 hs1
  refine Calls.mono (FR.out ⟨kb, ks, kg, ku, kz, ko⟩ w2 HK.out) ?_
  rintro e w3 ⟨x, hm, rfl, hb3, ka⟩
  have BX : Hid (∀ wr, Below w2.heap.size w3 wr → Box6 wr w.heap.size (.int .i64 kb) (.int .i64 ks) (.int .i64 kg) (.int .i64 ku) (.int .i64 kz) (.int .i64 ko) ∧ Below w.heap.size w wr) := fun wr hb => by
    have h23 := (hb3.trans hb)
    exact ⟨box6 ((h23.block _ (by omega)).trans hL2), B2.out.trans (h23.mono (by omega))⟩
  have IV : Hid (∃ hm s, KAt HS w2.heap.size w3 x hm s ⟨ks, ku, kz, ko⟩ kb ∧ s.globals.length = kg) := ⟨hm, _, ka, by simp [st0]⟩
  have hw23 := hb3.size
  clear hb3 ka hL2 FR HK B2
  obtain ⟨⟨x0, x1, x2, x3, x4, x5, _⟩, hbw3⟩ := BX.out w3 (Below.refl _ _)
  have h1 : 1 ≤ kb := hB.1
  have h99 : kb ≤ 99 := hB.2.1
  have SE : Hid (Calls Tryd.prog 8 #[.pointer (some ⟨x, 0, none⟩), .agg #[.int .i64 kb, .int .i64 ks, .int .i64 kg, .int .i64 ku, .int .i64 kz, .int .i64 ko]] w3 fun e w' => ∃ L s, e = .returned (.tuple #[.pointer (some ⟨L, 0, none⟩), .bool true]) ∧ J1 HS w2.heap.size x kg kb ⟨ks, ku, kz, ko⟩ L s w' ∧ Below w2.heap.size w3 w') := by
    obtain ⟨hm, s, ka, hg⟩ := IV.out
    refine (j_seen H.out.2 (TB.out w3 hbw3) ka hg (ku : Int)).mono ?_
    rintro e w' ⟨L, he, hj, hb, _⟩
    exact ⟨L, s, he, hj, hb⟩
  clear IV hbw3
  go_wp2_with fail
  refine Calls.mono SE.out ?_
  rintro e w4 ⟨L, s4, rfl, hj4, hb4⟩
  have J4 : Hid (J1 HS w2.heap.size x kg kb ⟨ks, ku, kz, ko⟩ L s4 w4 ∧ Below w2.heap.size w3 w4) := ⟨hj4, hb4⟩
  clear hj4 hb4 SE x0 x1 x2 x3 x4 x5
  go_wp2_with fail
  refine Calls.mono (j_wide J4.out.1 h1) ?_
  rintro e w5 ⟨rfl, hb5⟩
  have J5 : Hid (J1 HS w2.heap.size x kg kb ⟨ks, ku, kz, ko⟩ L s4 w5 ∧ Below w2.heap.size w3 w5) := ⟨J4.out.1.below hb5, J4.out.2.trans (hb5.mono J4.out.1.size)⟩
  clear hb5 J4
  go_wp2
  go_loopw [6, 8] (fun pv i wr => ∃ (j L : Nat) (st : St), j ≤ alen ∧ i = .int .i64 j ∧ pv = .pointer (some ⟨L, 0, none⟩) ∧ J1 HS w2.heap.size x kg kb ⟨ks, ku, kz, ko⟩ L st wr ∧ Below w2.heap.size w3 wr) (fun _ i _ => alen - (intOf i).toNat)
  case atStart => exact ⟨0, L, s4, Nat.zero_le _, rfl, rfl, J5.out.1, J5.out.2⟩
  case round =>
    obtain ⟨j, L1, st, hj, rfl, rfl, hi, hbr⟩ := hrel
    obtain ⟨hx6, hbw⟩ := BX.out wr hbr
    have IB : Hid (Below w2.heap.size w3 wr) := hbr
    have BW : Hid (Below w.heap.size w wr) := hbw
    by_cases hlt : j < alen
    · obtain ⟨sb, off, ha0, hsb, ff1, ff2, d0, d1⟩ := H.out.1 j hlt
      obtain ⟨op, hop⟩ : ∃ op, (acts j).1 = op := ⟨_, rfl⟩
      obtain ⟨nn, hnn⟩ : ∃ nn, (acts j).2 = nn := ⟨_, rfl⟩
      rw [hop] at ff1 d0
      rw [hnn] at ff2 d1
      subst ha0
      have CE : Hid (∀ V, Below w2.heap.size w3 V → V.cell? ⟨sb, off + j * 2, none⟩ = some (.int .i64 op) ∧ V.cell? ⟨sb, off + j * 2 + 1, none⟩ = some (.int .i64 nn)) := fun V hV => ⟨((BX.out V hV).2.cell (p := ⟨sb, off + j * 2, none⟩) hsb).trans d0, ((BX.out V hV).2.cell (p := ⟨sb, off + j * 2 + 1, none⟩) hsb).trans d1⟩
      have hz := hi.size
      have RN : Hid (op = 2 → actS ⟨ks, ku, kz, ko⟩ st op nn = newS ⟨ks, ku, kz, ko⟩ st nn) := fun e => by subst e; simp [actS, doS]
      have AC := j_act H.out.2 hi op nn ff1 ff2
      obtain ⟨r, hr⟩ : ∃ r, actS ⟨ks, ku, kz, ko⟩ st op nn = r := ⟨_, rfl⟩
      rw [hr] at AC RN
      obtain ⟨s2, r1, r2⟩ := r
      have AD : Hid _ := AC
      simp only at AD
      obtain ⟨q0, q1⟩ := CE.out wr hbr
      have hjI : (j : Int) < alen := by omega
      clear AC hi hbr hx6 hbw d0 d1 ff1 ff2 hop hnn hr J5
      go_wp2_with fail
      refine Calls.mono AD.out ?_
      rintro e w6 ⟨rfl, hb6, hs6⟩
      have I6 : Hid (Below w2.heap.size w3 w6) := IB.out.trans hb6
      obtain ⟨⟨y0, y1, y2, y3, y4, y5, _⟩, hbw6⟩ := BX.out w6 I6.out
      have SN : Hid _ := hs6 w6 (Below.refl _ _) Bt (TB.out w6 hbw6) (ku : Int)
      clear hb6 hs6 hbw6 AD q0 q1
      go_wp2_with fail
      refine Calls.mono SN.out ?_
      rintro e w7 ⟨L2, rfl, hj7, hb7⟩
      have J7 : Hid (J3 HS w2.heap.size x kg kb ⟨ks, ku, kz, ko⟩ L1 st L2 s2 w7 ∧ Below w2.heap.size w3 w7) := ⟨hj7, I6.out.trans hb7⟩
      clear hj7 hb7 SN y0 y1 y2 y3 y4 y5
      go_wp2_with fail
      refine Calls.mono (j_wide J7.out.1.2 h1) ?_
      rintro e w8 ⟨rfl, hb8⟩
      have J8 : Hid (J3 HS w2.heap.size x kg kb ⟨ks, ku, kz, ko⟩ L1 st L2 s2 w8 ∧ Below w2.heap.size w3 w8) := ⟨J7.out.1.below hb8, J7.out.2.trans (hb8.mono J7.out.1.2.size)⟩
      clear hb8 J7
      obtain ⟨q0, q1⟩ := CE.out w8 J8.out.2
      obtain ⟨⟨y0, y1, y2, y3, y4, y5, _⟩, _⟩ := BX.out w8 J8.out.2
      by_cases h2 : op = 2
      · have hr := RN.out h2
        subst h2
        have NW : Hid (∀ V, Below w8.heap.size w8 V → Calls Tryd.prog 12 #[.pointer (some ⟨L1, 0, none⟩), .pointer (some ⟨L2, 0, none⟩), .agg #[.int .i64 kb, .int .i64 ks, .int .i64 kg, .int .i64 ku, .int .i64 kz, .int .i64 ko], .int .i64 nn, .int .i64 r2] V fun e w' => e = .returned (.bool true) ∧ J1 HS w2.heap.size x kg kb ⟨ks, ku, kz, ko⟩ L2 s2 w' ∧ Below w2.heap.size w3 w') := fun V hV => by
          have e1 : s2 = (newS ⟨ks, ku, kz, ko⟩ st nn).1 := by rw [← hr]
          have e2 : r2 = (newS ⟨ks, ku, kz, ko⟩ st nn).2.2 := by rw [← hr]
          have J := J8.out.1.below hV
          have hz := J.2.size
          have hbV := J8.out.2.trans (hV.mono J8.out.1.2.size)
          have J' := J
          rw [e1] at J'
          rw [e2]
          refine (j_news J' h99 h1 kg ku kz ko).mono ?_
          rintro e w' ⟨he, hb⟩
          exact ⟨he, J.2.below hb, hbV.trans (hb.mono hz)⟩
        clear RN hr
        go_wp2_with fail
        go_region_held3 (fun w' => w'.cell? ⟨sb, off + j * 2 + 1, none⟩ = some (.int .i64 nn) ∧ w'.cell? ⟨w.heap.size, 0, none⟩ = some (.int .i64 kb) ∧ w'.cell? ⟨w.heap.size, 1, none⟩ = some (.int .i64 ks) ∧ w'.cell? ⟨w.heap.size, 2, none⟩ = some (.int .i64 kg) ∧ w'.cell? ⟨w.heap.size, 3, none⟩ = some (.int .i64 ku) ∧ w'.cell? ⟨w.heap.size, 4, none⟩ = some (.int .i64 kz) ∧ w'.cell? ⟨w.heap.size, 5, none⟩ = some (.int .i64 ko)) (go_keep)
          ((go_at_call 12; refine Calls.mono (NW.out _ ((Below.refl _ _).drew)) ?_; rintro e w9 ⟨rfl, hj9, hb9⟩; obtain ⟨⟨z0, z1, z2, z3, z4, z5, _⟩, _⟩ := BX.out w9 hb9; obtain ⟨r0, r1⟩ := CE.out w9 hb9; have J9 : Hid (J1 HS w2.heap.size x kg kb ⟨ks, ku, kz, ko⟩ L2 s2 w9 ∧ Below w2.heap.size w3 w9) := ⟨hj9, hb9⟩; clear hj9 hb9))
        clear J8 NW y0 y1 y2 y3 y4 y5 q0 q1
        go_wp2
        go_roundw
        case rel => exact ⟨j + 1, L2, s2, by omega, by go_num, rfl, J9.out.1, J9.out.2⟩
        case measure => simp [intOf]; omega
      · have h2d : (op == 2) = false := by simpa using h2
        clear RN y0 y1 y2 y3 y4 y5
        go_wp2
        go_roundw
        case rel => exact ⟨j + 1, L2, s2, by omega, by go_num, rfl, J8.out.1.2, J8.out.2⟩
        case measure => simp [intOf]; omega
    · have hjI : ¬ (j : Int) < alen := by omega
      clear hi hbr hbw hx6 J5
      go_wp2
      go_ret
      exact ⟨rfl, BW.out⟩
end

end Go.Proofs.YtpmkjeihbddfpaaDoor

