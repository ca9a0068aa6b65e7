import Derived.Test.YtpmkjeihbddfpaaCoDESB9
/- OUR OWN. The document's heap without memory: behind a safepoint only what a root has waits (Freed). -/
namespace Go.Proofs.Ytpmkjeihbddfpaa
set_option linter.unusedVariables false
set_option linter.unusedSimpArgs false

/-- a root has all that wait -/
def Held (s : St) : Prop := ∀ b, s.waits b = true → s.rooted b = true
theorem enter_waits (z but : Int) (s : St) (b : Nat) (h : (s.enter z but).waits b = true) : s.waits b = true := by
  unfold St.enter at h
  split at h
  · unfold St.sort at h
    rw [sortTo_waits] at h
    simp only [Bool.and_eq_true] at h
    exact h.1
  · exact h
theorem held_sort (s : St) {N : Nat} (g : s.Good N) : Held (s.sort 0) := fun b hb => by
  have gs := g.sort 0
  obtain ⟨a1, _, _⟩ := waits_iff.1 hb
  have hz := gs.ne_zero a1.1
  rw [sort_waits hz.1 (by rw [g.sN]; exact hz.2)] at hb
  have e0 : decide ((b : Int) = 0) = false := by simp; omega
  rw [e0] at hb
  simp only [Bool.and_eq_true, Bool.or_false] at hb
  show (sortTo 0 s s.N).rooted b = true
  rw [sortTo_root]; exact hb.2
theorem held_letGo {s : St} {N : Nat} (hd : Held s) (g : s.Good N) (z : Int) {b k : Nat} (hk : k < (s.ob b).fs.length) : Held (letGo z b k s) := by
  have W : ∀ x : Nat, (s.field b k (0, 0)).waits x = true → s.rooted x = true ∨ (((s.ob b).fs.getD k (0, 0)).1 = 2 ∧ ((s.ob b).fs.getD k (0, 0)).2 = x) := fun x hx => by
    rcases field_waits g hk (0, 0) hx with e | e
    · exact .inl (hd x e)
    · exact .inr e
  intro x hx
  rw [letGo_rooted]
  unfold letGo at hx
  split at hx
  · rename_i hr
    rcases W x hx with e | e
    · exact e
    · exact absurd e.1 hr
  · rename_i hr
    have hr2 : ((s.ob b).fs.getD k (0, 0)).1 = 2 := by omega
    obtain ⟨j, hj, ha⟩ := leads_ref (leads_put (s := s) (i := b) (o := { s.ob b with fs := (s.ob b).fs.set k (0, 0) }) rfl rfl (leads_getD (g.fields b) k)) hr2
    split at hx
    · rename_i hc
      rcases W x hx with e | e
      · exact e
      · exfalso
        obtain ⟨_, w2, w3⟩ := waits_iff.1 hx
        rw [e.2, Int.toNat_natCast] at hc
        rcases hc with hc | hc
        · omega
        · rw [w2] at hc; cases hc
    · split at hx
      · rename_i hroot
        rcases W x (enter_waits _ _ _ _ hx) with e | e
        · exact e
        · have hroot' : s.rooted ((s.ob b).fs.getD k (0, 0)).2 = true := hroot
          rw [e.2] at hroot'; exact hroot'
      · rw [hj, Int.toNat_natCast] at hx
        have hl : j < (s.field b k (0, 0)).objs.length := here_lt ha.1
        rw [waits_enq hl] at hx
        by_cases e : x = j
        · rw [if_pos e] at hx; cases hx
        · rw [if_neg e] at hx
          rcases W x hx with e2 | e2
          · exact e2
          · exact absurd (by rw [hj] at e2; omega : x = j) e
theorem held_letTo {s : St} {N : Nat} (hd : Held s) (g : s.Good N) (z : Int) {b : Nat} (hq : (s.ob b).queued = true) (k : Nat) (hk : k ≤ (s.ob b).fs.length) : Held (letTo z b s k) := by
  induction k with
  | zero => exact hd
  | succ k ih =>
    obtain ⟨q1, l1, _, _⟩ := letTo_ob (z := z) g hq k
    exact held_letGo (ih (by omega)) (g.letTo z b k) z (by rw [l1]; omega)
theorem held_free {s : St} {N : Nat} (hd : Held s) (g : s.Good N) (z : Int) (hq : s.queue.length ≠ 0) : Held (s.free z) := by
  have hqd := g.first_queued hq
  have hz := g.ne_zero (g.queued_here hqd)
  have g1 := g.letTo z s.first (s.ob s.first).fs.length
  have h1 := held_letTo hd g z hqd (s.ob s.first).fs.length (Nat.le_refl _)
  have hl : s.first < (letTo z s.first s (s.ob s.first).fs.length).objs.length := by rw [g1.len]; omega
  have eo : ∀ x, (s.free z).ob x = if x = s.first then Ob.free else (letTo z s.first s (s.ob s.first).fs.length).ob x := fun x => getD_set _ _ _ _ hl
  intro x hx
  obtain ⟨a1, a2, a3⟩ := waits_iff.1 hx
  unfold St.alive at a1
  rw [eo] at a1 a2
  by_cases e : x = s.first
  · rw [if_pos e] at a1; cases a1.1
  · rw [if_neg e] at a1 a2
    rw [count_free g hq] at a3
    exact h1 x (waits_iff.2 ⟨a1, a2, a3⟩)
theorem held_safeN {N : Nat} (z : Int) (k : Nat) : ∀ {s : St}, Held s → s.Good N → Held (safeN z k s).1 := by
  induction k with
  | zero => intro s h g; exact h
  | succ k ih =>
    intro s h g
    unfold safeN
    split
    · exact h
    · rename_i hq; exact ih (held_free h g z hq) (g.freed z hq)
/-- behind a safepoint a root has all that wait -/
theorem held_safe {s : St} {N : Nat} (g : s.Good N) (c : Cf) : Held (s.safe c).1 := held_safeN _ _ (held_sort s g) (g.sort 0)

end Go.Proofs.Ytpmkjeihbddfpaa

/- OUR OWN. act. -/
namespace Go.Proofs.Ytpmkjeihbddfpaa
open Go.RowKit
set_option linter.unusedVariables false
set_option linter.unusedSimpArgs false
variable {HS : HeapM → St → Cf → Nat → Prop}

/-- an act: the state behind it, its number, its error -/
def actS (c : Cf) (s : St) (op n : Int) : St × Int × Int := if op = -1 then ((s.safe c).1, (s.safe c).2, 0) else if op = -2 then (s.collect c.over, s.gone, 0) else doS c s op n

theorem KStep.pre {B : Nat} {w w1 w' : World} {x : Nat} {hm : HeapM} {s' : St} {c : Cf} {N : Nat} (r : HeapAt w x hm) (hb : Below w.heap.size w w1) (k : KStep HS B w1 x hm w' s' c N) (h : ∀ t, HTurn x w hm w' t → True) : ∃ hm', HTurn x w hm w' hm' ∧ KAt HS B w' x hm' s' c N := by
  obtain ⟨hm', ht, hk⟩ := k.at_
  exact ⟨hm', (HTurn.of_below r hb).trans ht, hk⟩

set_option maxRecDepth 100000 in
theorem act_any (P : Pacts HS) {B : Nat} {w : World} {x : Nat} {hm : HeapM} {s : St} {c : Cf} {N : Nat} (k : KAt HS B w x hm s c N) (op n : Int) (hop : fits op) (hn : fits n) :
    Calls Try.prog 16 #[.pointer (some ⟨x, 0, none⟩), .agg #[.int .i64 op, .int .i64 n]] w fun e w' => e = .returned (.tuple #[.int .i64 (actS c s op n).2.1, .int .i64 (actS c s op n).2.2]) ∧ ∃ hm', HTurn x w hm w' hm' ∧ KAt HS B w' x hm' (actS c s op n).1 c N := by
  have DO : Hid (∀ W, Below w.heap.size w W → Calls Try.prog 10 #[.pointer (some ⟨x, 0, none⟩), .int .i64 op, .int .i64 n] W fun e w' => e = .returned (.tuple #[.int .i64 (doS c s op n).2.1, .int .i64 (doS c s op n).2.2]) ∧ ∃ hm', HTurn x w hm w' hm' ∧ KAt HS B w' x hm' (doS c s op n).1 c N) := fun W hb =>
    (k_do P (k.below hb) op n hop hn).mono fun e w' ⟨h1, h2⟩ => ⟨h1, h2.pre k.here hb fun _ _ => trivial⟩
  have SA : Hid (∀ W, Below w.heap.size w W → Calls Try.prog 14 #[.pointer (some ⟨x, 0, none⟩)] W fun e w' => e = .returned (.int .i64 (s.safe c).2) ∧ ∃ hm', HTurn x w hm w' hm' ∧ KAt HS B w' x hm' (s.safe c).1 c N) := fun W hb =>
    (k_safe P (k.below hb)).mono fun e w' ⟨h1, h2⟩ => ⟨h1, h2.pre k.here hb fun _ _ => trivial⟩
  have CO : Hid (∀ W, Below w.heap.size w W → Calls Try.prog 15 #[.pointer (some ⟨x, 0, none⟩)] W fun e w' => e = .returned (.int .i64 s.gone) ∧ ∃ hm', HTurn x w hm w' hm' ∧ KAt HS B w' x hm' (s.collect c.over) c N) := fun W hb =>
    (k_coll P (k.below hb)).mono fun e w' ⟨h1, h2⟩ => ⟨h1, h2.pre k.here hb fun _ _ => trivial⟩
  by_cases h1 : op = -1
  · have e : actS c s op n = ((s.safe c).1, ((s.safe c).2 : Int), 0) := by unfold actS; rw [if_pos h1]
    rw [e]
    subst h1
    clear e k DO CO
    go_enter Try.func16, Try.ntmps16
    go_wp2_with fail
    refine Calls.mono (SA.out _ ((Below.refl _ w).alloc (Nat.le_refl _) _)) ?_
    rintro e w' ⟨rfl, hk⟩
    have K : Hid _ := hk
    clear hk SA
    go_wp2
    exact bodyPost_ret (v := .tuple #[.int .i64 (s.safe c).2, .int .i64 0]) (by simp [results, Try.results16, go_sem]) rfl ⟨rfl, K.out⟩
  · by_cases h2 : op = -2
    · have e : actS c s op n = (s.collect c.over, (s.gone : Int), 0) := by unfold actS; rw [if_neg h1, if_pos h2]
      rw [e]
      subst h2
      clear e k DO SA
      go_enter Try.func16, Try.ntmps16
      go_wp2_with fail
      refine Calls.mono (CO.out _ ((Below.refl _ w).alloc (Nat.le_refl _) _)) ?_
      rintro e w' ⟨rfl, hk⟩
      have K : Hid _ := hk
      clear hk CO
      go_wp2
      exact bodyPost_ret (v := .tuple #[.int .i64 s.gone, .int .i64 0]) (by simp [results, Try.results16, go_sem]) rfl ⟨rfl, K.out⟩
    · have e : actS c s op n = doS c s op n := by unfold actS; rw [if_neg h1, if_neg h2]
      rw [e]
      have h1' : (op == -1) = false := by simpa using h1
      have h2' : (op == -2) = false := by simpa using h2
      clear e k SA CO h1 h2
      go_enter Try.func16, Try.ntmps16
      go_wp2_with fail
      refine Calls.mono (DO.out _ ((Below.refl _ w).alloc (Nat.le_refl _) _)) ?_
      rintro e w' ⟨rfl, hk⟩
      have K : Hid _ := hk
      clear hk DO
      go_wp2
      exact bodyPost_ret (v := .tuple #[.int .i64 (doS c s op n).2.1, .int .i64 (doS c s op n).2.2]) (by simp [results, Try.results16, go_sem]) rfl ⟨rfl, K.out⟩

end Go.Proofs.Ytpmkjeihbddfpaa

/- OUR OWN. Without memory: heaps that no root holds (Swept), rings made and let go (Endless), what a safepoint and a collection free (Freed). -/
namespace Go.Proofs.Ytpmkjeihbddfpaa
set_option linter.unusedVariables false
set_option linter.unusedSimpArgs false

/-! ### No root -/
theorem count_none {p : Nat → Bool} (h : ∀ b, p b = false) (n : Nat) : countTo p n = 0 := by
  unfold countTo
  exact List.countP_eq_zero.2 fun j _ => by rw [h]; simp
/-- nothing on the stack, nil in all globals -/
structure Empty (s : St) : Prop where
  stack : s.stack = []
  globals : ∀ v ∈ s.globals, v = (0, 0)
theorem Empty.rooted {s : St} (h : Empty s) (b : Int) : s.rooted b = false := by
  cases e : s.rooted b
  · rfl
  · exfalso
    rcases rooted_true.1 e with ⟨v, hv, h1, _⟩ | ⟨v, hv, h1, _⟩
    · rw [h.stack] at hv; cases hv
    · rw [h.globals v hv] at h1; simp at h1
theorem Empty.reach {s : St} (h : Empty s) (b : Nat) : s.reachB b = false := by
  cases e : s.reachB b
  · rfl
  · exact (reach_least (P := fun _ => False) (fun b _ _ hr => by rw [h.rooted] at hr; cases hr) (fun a b f => f.elim) e).elim
theorem Empty.reachN {s : St} (h : Empty s) : reachN s = 0 := count_none h.reach _
theorem collect_roots (s : St) (o : Int) : (s.collect o).stack = s.stack ∧ (s.collect o).globals = s.globals ∧ (s.collect o).queue = [] := ⟨rfl, rfl, rfl⟩
theorem Empty.collect {s : St} (h : Empty s) (o : Int) : Empty (s.collect o) := ⟨h.stack, h.globals⟩
theorem freeN_le (s : St) : freeN s ≤ s.N := countTo_le _ _
/-- what a collection leaves of it -/
theorem Empty.swept {s : St} {N : Nat} (h : Empty s) (g : s.Good N) (o : Int) : (∀ b, ((s.collect o).ob b).here = false) ∧ (s.gone : Int) = N - freeN s ∧ gaugeS (s.collect o) = (N, 0, 0, 0, 0) := by
  have hh : ∀ b, ((s.collect o).ob b).here = false := fun b => by rw [collect_here g]; exact h.reach b
  obtain ⟨f1, f2⟩ := freeN_collect g o
  rw [h.reachN] at f1
  refine ⟨hh, by omega, ?_⟩
  have e1 : countTo (s.collect o).frees (s.collect o).N = N := by
    have : countTo (s.collect o).frees (s.collect o).N = freeN (s.collect o) := rfl
    rw [this]; omega
  have e2 : countTo (s.collect o).waits (s.collect o).N = 0 := count_none (fun b => by unfold St.waits; rw [hh]; simp) _
  have e3 : (s.collect o).extras = 0 := count_none (fun b => by unfold St.extra; rw [hh]; simp) _
  have e4 : countTo (s.collect o).stucks (s.collect o).N = 0 := count_none (fun b => by unfold St.stucks; rw [hh]; simp) _
  unfold gaugeS
  rw [e1, e2, e3, e4]
  rfl
/-- of a heap all of whose blocks are free nothing more is freed -/
theorem free_gone {s : St} (h : ∀ b, (s.ob b).here = false) : s.gone = 0 := count_none (fun b => by rw [h]; simp) _
theorem free_all {s : St} {N : Nat} (g : s.Good N) (h : ∀ b, (s.ob b).here = false) (o : Int) : ∀ b, ((s.collect o).ob b).here = false := fun b => by
  rw [collect_here g]
  exact reach_le_here g (h b)
theorem free_safe {s : St} {N : Nat} (g : s.Good N) (h : ∀ b, (s.ob b).here = false) (c : Cf) (g' : (s.safe c).1.Good N) : (s.safe c).2 = 0 := by
  have h1 := (freeN_safe g c).1
  have h2 := freeN_le (s.safe c).1
  have h3 : freeN s = s.N := by
    unfold freeN
    rw [countTo_congr (q := fun _ => true) (fun b _ _ => by rw [h]; rfl)]
    unfold countTo
    simp
  rw [g'.sN] at h2
  rw [g.sN] at h3
  omega

/-! ### Emptying -/
theorem drop_len (c : Cf) (s : St) : (doS c s 4 0).1.stack.length = s.stack.length - 1 ∧ (doS c s 4 0).1.globals = s.globals := by
  have e : doS c s 4 0 = dropS s := by simp [doS]
  rw [e]
  unfold dropS
  split
  · exact ⟨by show s.stack.length = _; omega, rfl⟩
  · exact ⟨by simp [St.pop], rfl⟩
theorem drop_none {c : Cf} {s : St} (h : s.stack = []) : doS c s 4 0 = (s, 0, 3) := by
  have e : doS c s 4 0 = dropS s := by simp [doS]
  rw [e]
  unfold dropS
  rw [if_pos (by rw [h]; simp)]
theorem nil_push {c : Cf} {s : St} (h : s.stack = []) (hd : 1 ≤ c.deep) : doS c s 0 0 = ({ s with stack := [(0, 0)] }, 0, 0) := by
  have e : doS c s 0 0 = pushA c.deep s (0, 0) := by simp [doS]
  rw [e]
  unfold pushA pushS
  rw [if_neg (by rw [h]; simp; omega), h]
  rfl
theorem nil_set {c : Cf} {s : St} {i : Nat} (h : s.stack = [(0, 0)]) (hi : i < s.globals.length) : doS c s 6 i = ({ s with stack := [], globals := s.globals.set i (0, 0) }, 0, 0) := by
  have e : doS c s 6 i = setS s i := by simp [doS]
  rw [e]
  unfold setS
  rw [if_neg (by omega), if_neg (by rw [h]; simp)]
  simp [St.pop, St.down, h]

/-! ### Rings -/
theorem roomS_globals (c : Cf) (s : St) : (roomS c s).globals = s.globals := by
  unfold roomS
  split
  · rfl
  · split
    · unfold St.free St.leave
      exact (letTo_same _ _ _ _).2.1
    · rfl
theorem newS_globals (c : Cf) (s : St) (n : Int) : (newS c s n).1.globals = s.globals := by
  unfold newS
  split
  · rfl
  split
  · rfl
  split
  · exact roomS_globals c s
  · unfold layS
    exact (enter_same _ _ _).2.1.trans (roomS_globals c s)
/-- one object with n fields, k times on the stack, and nothing else -/
structure Ring (n b k : Nat) (s : St) : Prop where
  stack : s.stack = List.replicate k (2, (b : Int))
  fields : (s.ob b).fs.length = n
  globals : ∀ v ∈ s.globals, v = (0, 0)
theorem Empty.make {s : St} {N n : Nat} {c : Cf} (h : Empty s) (g : s.Good N) (hN : 1 ≤ N) (hd : 1 ≤ c.deep) (hn : n ≤ 4) : (doS c s 2 n).2 = (0, 0) ∧ ∃ b, Ring n b 1 (doS c s 2 n).1 := by
  have e : doS c s 2 n = newS c s n := by simp [doS]
  rw [e]
  have ha := new_answer g c n
  rw [if_neg (by omega), if_neg (by rw [h.stack]; simp; omega), if_neg (by rw [h.reachN]; omega)] at ha
  obtain ⟨b, h1, h2, h3, h4, h5⟩ := new_object g c n ha
  refine ⟨?_, b, ⟨by rw [h3, h.stack]; rfl, by rw [h4]; simp, by rw [newS_globals]; exact h.globals⟩⟩
  have h0 : (newS c s n).2.1 = 0 := by
    unfold newS
    split
    · rfl
    split
    · rfl
    split <;> rfl
  exact Prod.ext h0 ha
theorem rep_down {k : Nat} {v d : Int × Int} {i : Nat} (h : i < k) : (List.replicate k v).getD i d = v := by
  rw [List.getD_eq_getElem?_getD, List.getElem?_replicate, if_pos h]
  rfl
theorem Ring.dup {s : St} {n b k : Nat} {c : Cf} (h : Ring n b k s) (h1 : 1 ≤ k) (hd : (k : Int) < c.deep) : (doS c s 3 0).2 = (0, 0) ∧ Ring n b (k + 1) (doS c s 3 0).1 := by
  have e : doS c s 3 0 = dupS c.deep s 0 := by simp [doS]
  have hl : s.stack.length = k := by rw [h.stack]; simp
  have e2 : s.down 0 = (2, (b : Int)) := by unfold St.down; rw [h.stack]; exact rep_down (by simp; omega)
  rw [e]
  unfold dupS
  rw [if_neg (by rw [hl]; omega)]
  unfold pushA pushS
  rw [if_neg (by rw [hl]; omega)]
  refine ⟨rfl, ⟨?_, h.fields, h.globals⟩⟩
  show s.stack ++ [s.down (0 : Int).toNat] = _
  rw [show s.down (0 : Int).toNat = (2, (b : Int)) from e2, h.stack, ← List.replicate_succ']
theorem field_len (s : St) (i k : Nat) (v : Int × Int) (b : Nat) : ((s.field i k v).ob b).fs.length = (s.ob b).fs.length := by
  unfold St.field
  by_cases hi : i < s.objs.length
  · rw [ob_put _ _ hi]
    split
    · rename_i e; subst e; simp
    · rfl
  · unfold St.put St.ob
    rw [List.set_eq_of_length_le (by omega)]
theorem put_keeps (c : Cf) (s : St) (i k : Nat) (x y : Int × Int) (b : Nat) : (putS c s i k x y).stack = s.stack ∧ (putS c s i k x y).globals = s.globals ∧ ((putS c s i k x y).ob b).fs.length = (s.ob b).fs.length := by
  have h1 : ∀ t : St, (stickS c.over t x).stack = t.stack ∧ (stickS c.over t x).globals = t.globals := fun t => by
    unfold stickS
    split
    · exact ⟨rfl, rfl⟩
    · exact ⟨rfl, rfl⟩
  have h2 : ∀ t : St, (dropS' c.zero t y).stack = t.stack ∧ (dropS' c.zero t y).globals = t.globals ∧ ((dropS' c.zero t y).ob b).fs = (t.ob b).fs := fun t => by
    unfold dropS'
    split
    · exact ⟨(enter_same _ _ _).1, (enter_same _ _ _).2.1, enter_fs _ _ _ _⟩
    · exact ⟨rfl, rfl, rfl⟩
  unfold putS
  split
  · exact ⟨rfl, rfl, rfl⟩
  · obtain ⟨a1, a2, a3⟩ := h2 ((stickS c.over s x).field i k x)
    refine ⟨a1.trans (h1 s).1, a2.trans (h1 s).2, ?_⟩
    rw [a3, field_len, (stick_ob b).2.1]
theorem Ring.store {s : St} {n b : Nat} {c : Cf} (h : Ring n b 3 s) (h1 : 1 ≤ n) : (doS c s 8 ((n : Int) - 1)).2 = (0, 0) ∧ Ring n b 1 (doS c s 8 ((n : Int) - 1)).1 := by
  have e : doS c s 8 ((n : Int) - 1) = storeS c s ((n : Int) - 1) := by simp [doS]
  have hl : s.stack.length = 3 := by rw [h.stack]; simp
  have e2 : s.down 1 = (2, (b : Int)) := by unfold St.down; rw [h.stack]; exact rep_down (by simp)
  have e3 : s.fields (2, (b : Int)).2 = (s.ob b).fs := by unfold St.fields; simp
  rw [e]
  unfold storeS
  rw [if_neg (by rw [hl]; omega), e2, if_neg (by simp [objErr]), e3, if_neg (by rw [h.fields]; omega)]
  obtain ⟨p1, p2, p3⟩ := put_keeps c (s.pop 2) (2, (b : Int)).2.toNat ((n : Int) - 1).toNat (s.down 0) ((s.ob b).fs.getD ((n : Int) - 1).toNat (0, 0)) b
  refine ⟨rfl, ⟨p1.trans ?_, p3.trans h.fields, by rw [p2]; exact h.globals⟩⟩
  unfold St.pop
  rw [hl, h.stack]
  rfl
theorem Ring.size {s : St} {n b : Nat} {c : Cf} (h : Ring n b 1 s) : doS c s 11 0 = (s, (n : Int), 0) := by
  have e : doS c s 11 0 = sizeS s := by simp [doS]
  have hl : s.stack.length = 1 := by rw [h.stack]; simp
  have e2 : s.down 0 = (2, (b : Int)) := by unfold St.down; rw [h.stack]; exact rep_down (by simp)
  have e3 : s.fields (2, (b : Int)).2 = (s.ob b).fs := by unfold St.fields; simp
  rw [e]
  unfold sizeS
  rw [if_neg (by rw [hl]; omega), e2, if_neg (by simp [objErr]), e3, h.fields]
theorem Ring.drop {s : St} {n b : Nat} {c : Cf} (h : Ring n b 1 s) : (doS c s 4 0).2 = (0, 0) ∧ Empty (doS c s 4 0).1 := by
  have e : doS c s 4 0 = dropS s := by simp [doS]
  have hl : s.stack.length = 1 := by rw [h.stack]; simp
  rw [e]
  unfold dropS
  rw [if_neg (by omega)]
  refine ⟨rfl, ⟨?_, h.globals⟩⟩
  unfold St.pop
  rw [hl]
  rfl

/-! ### What is freed -/
theorem safe_reachN {s : St} {N : Nat} (g : s.Good N) (c : Cf) : reachN (s.safe c).1 = reachN s := (same_safe g c).reachN
theorem collect_reachN {s : St} {N : Nat} (g : s.Good N) (o : Int) : reachN (s.collect o) = reachN s := (same_collect g o).reachN

end Go.Proofs.Ytpmkjeihbddfpaa

/- OUR OWN. The heap at x is the state s, and boxes beside it keep what they have. -/
namespace Go.Proofs.Ytpmkjeihbddfpaa
open Go.RowKit
set_option linter.unusedVariables false
set_option linter.unusedSimpArgs false
theorem act_glob {s : St} {N : Nat} (g : s.Good N) (c : Cf) (op n : Int) : (actS c s op n).1.globals.length = s.globals.length := by
  unfold actS
  split
  · show (s.safe c).1.globals.length = _
    rw [(same_safe g c).globals]
  · split
    · show (s.collect c.over).globals.length = _
      rw [(same_collect g c.over).globals]
    · exact do_globals g c op n
section
variable {HS : HeapM → St → Cf → Nat → Prop}
def KK (HS : HeapM → St → Cf → Nat → Prop) (Bx x N : Nat) (c : Cf) (K : List (Nat × Obj)) (s : St) (w : World) : Prop := ∃ hm, KAt HS Bx w x hm s c N ∧ Kept K x hm w
variable {Bx x N : Nat} {c : Cf} {K : List (Nat × Obj)} {s : St} {w W : World}
theorem KK.below (h : KK HS Bx x N c K s w) (hb : Below w.heap.size w W) : KK HS Bx x N c K s W := by
  obtain ⟨hm, k, hk⟩ := h
  exact ⟨hm, k.below hb, hk.below hb⟩
theorem KK.box (h : KK HS Bx x N c K s w) (ob : Obj) : KK HS Bx x N c ((w.heap.size, ob) :: K) s (w.alloc ob) := by
  obtain ⟨hm, k, hk⟩ := h
  exact ⟨hm, k.below ((Below.refl _ _).alloc (Nat.le_refl _) _), hk.box k.here ob⟩
theorem KK.less {K' : List (Nat × Obj)} (h : KK HS Bx x N c K s w) (hs : ∀ q ∈ K', q ∈ K) : KK HS Bx x N c K' s w := by
  obtain ⟨hm, k, hk⟩ := h
  exact ⟨hm, k, fun q hq => hk q (hs q hq)⟩
theorem KK.size (h : KK HS Bx x N c K s w) : Bx ≤ w.heap.size := by
  obtain ⟨hm, k, hk⟩ := h
  exact k.size
theorem KK.kept (h : KK HS Bx x N c K s w) {L : Nat} {ob : Obj} (hL : (L, ob) ∈ K) : w.heap[L]? = some ob := by
  obtain ⟨hm, k, hk⟩ := h
  exact (hk _ hL).2
theorem KK.good (h : KK HS Bx x N c K s w) : s.Good N := by
  obtain ⟨hm, k, hk⟩ := h
  exact k.good
theorem KK.roots (h : KK HS Bx x N c K s w) : (s.stack.length : Int) ≤ c.deep := by
  obtain ⟨hm, k, hk⟩ := h
  exact k.bound.roots
theorem kk_act (P : Pacts HS) (h : KK HS Bx x N c K s w) (op n : Int) (hop : fits op) (hn : fits n) :
    Calls Try.prog 16 #[.pointer (some ⟨x, 0, none⟩), .agg #[.int .i64 op, .int .i64 n]] w fun e w' => e = .returned (.tuple #[.int .i64 (actS c s op n).2.1, .int .i64 (actS c s op n).2.2]) ∧ KK HS Bx x N c K (actS c s op n).1 w' ∧ Below Bx w w' := by
  obtain ⟨hm, k, hk⟩ := h
  refine Calls.mono (act_any P k op n hop hn) ?_
  rintro e w' ⟨he, hm', ht, k'⟩
  exact ⟨he, ⟨hm', k', hk.step ht⟩, ht.off.below k.size k.low⟩
theorem kk_do (P : Pacts HS) (h : KK HS Bx x N c K s w) (op n : Int) (hop : fits op) (hn : fits n) :
    Calls Try.prog 10 #[.pointer (some ⟨x, 0, none⟩), .int .i64 op, .int .i64 n] w fun e w' => e = .returned (.tuple #[.int .i64 (doS c s op n).2.1, .int .i64 (doS c s op n).2.2]) ∧ KK HS Bx x N c K (doS c s op n).1 w' ∧ Below Bx w w' := by
  obtain ⟨hm, k, hk⟩ := h
  refine Calls.mono (k_do P k op n hop hn) ?_
  rintro e w' ⟨he, st⟩
  obtain ⟨hm', t, k'⟩ := st.at_
  exact ⟨he, ⟨hm', k', hk.step t⟩, st.keep⟩
theorem kk_coll (P : Pacts HS) (h : KK HS Bx x N c K s w) :
    Calls Try.prog 15 #[.pointer (some ⟨x, 0, none⟩)] w fun e w' => e = .returned (.int .i64 s.gone) ∧ KK HS Bx x N c K (s.collect c.over) w' ∧ Below Bx w w' := by
  obtain ⟨hm, k, hk⟩ := h
  refine Calls.mono (k_coll P k) ?_
  rintro e w' ⟨he, st⟩
  obtain ⟨hm', t, k'⟩ := st.at_
  exact ⟨he, ⟨hm', k', hk.step t⟩, st.keep⟩
theorem kk_safe (P : Pacts HS) (h : KK HS Bx x N c K s w) :
    Calls Try.prog 14 #[.pointer (some ⟨x, 0, none⟩)] w fun e w' => e = .returned (.int .i64 (s.safe c).2) ∧ KK HS Bx x N c K (s.safe c).1 w' ∧ Below Bx w w' := by
  obtain ⟨hm, k, hk⟩ := h
  refine Calls.mono (k_safe P k) ?_
  rintro e w' ⟨he, st⟩
  obtain ⟨hm', t, k'⟩ := st.at_
  exact ⟨he, ⟨hm', k', hk.step t⟩, st.keep⟩
theorem kk_gauge (P : Pacts HS) (h : KK HS Bx x N c K s w) :
    Calls Try.prog 13 #[.pointer (some ⟨x, 0, none⟩)] w fun e w' => e = .returned (.agg #[.int .i64 (gaugeS s).1, .int .i64 (gaugeS s).2.1, .int .i64 (gaugeS s).2.2.1, .int .i64 (gaugeS s).2.2.2.1, .int .i64 (gaugeS s).2.2.2.2]) ∧ KK HS Bx x N c K s w' ∧ Below Bx w w' := by
  obtain ⟨hm, k, hk⟩ := h
  refine Calls.mono (k_gauge3 P.base k) ?_
  rintro e w' ⟨he, st⟩
  obtain ⟨hm', t, k'⟩ := st.at_
  exact ⟨he, ⟨hm', k', hk.step t⟩, st.keep⟩
end

end Go.Proofs.Ytpmkjeihbddfpaa

