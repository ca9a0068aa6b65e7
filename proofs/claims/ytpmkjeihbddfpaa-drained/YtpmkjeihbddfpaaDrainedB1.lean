import Derived.Test.YtpmkjeihbddfpaaCoDESB9
/- OUR OWN. Drained: what a plan builds, without memory. -/
namespace Go.Proofs.Ytpmkjeihbddfpaa
set_option linter.unusedVariables false
set_option linter.unusedSimpArgs false

def refsOf (H : List Nat) : List (Int × Int) := H.map fun (b : Nat) => ((2 : Int), (b : Int))
theorem refsOf_append (H G : List Nat) : refsOf (H ++ G) = refsOf H ++ refsOf G := List.map_append
theorem refsOf_length (H : List Nat) : (refsOf H).length = H.length := List.length_map _

/-- the blocks 1 to k have objects; the stack has references to H; fields lead downwards; none is stuck -/
structure Built (s : St) (k : Nat) (H : List Nat) : Prop where
  good : s.Good 99
  stack : s.stack = refsOf H
  globals : s.globals.length = 1
  loose : ∀ b, (s.ob b).stuck = false
  down : ∀ (a b : Nat) (v : Int × Int), v ∈ (s.ob a).fs → v.1 = 2 → v.2 = (b : Int) → b < a
  here : ∀ b, (s.ob b).here = decide (1 ≤ b ∧ b ≤ k)
  small : k ≤ 99

/-- nothing but stack and globals is turned -/
theorem Built.roots {s t : St} {k : Nat} {H G : List Nat} (h : Built s k H) (g : t.Good 99) (ho : t.objs = s.objs) (hs : t.stack = refsOf G) (hg : t.globals.length = 1) : Built t k G := by
  have e : ∀ b, t.ob b = s.ob b := fun b => by unfold St.ob; rw [ho]
  exact ⟨g, hs, hg, fun b => by rw [e]; exact h.loose b, fun a b v hv => by rw [e] at hv; exact h.down a b v hv, fun b => by rw [e]; exact h.here b, h.small⟩
theorem count_objs {s t : St} (ho : t.objs = s.objs) (x : Int) : t.count x = s.count x := by unfold St.count; rw [ho]

theorem Built.free {s : St} {k : Nat} {H : List Nat} (h : Built s k H) (hk : k < 99) : free? s = some k := by
  obtain ⟨j, hj⟩ := free_exists (s := s) (b := k + 1) (by omega) (by rw [h.good.len]; omega) (by rw [h.here]; simp)
  obtain ⟨_, hf, ht⟩ := free_iff hj
  rw [h.here] at hf
  simp at hf
  have : j = k := by
    rcases Nat.lt_or_ge k j with e | e
    · have := ht k e
      rw [h.here] at this; simp at this; omega
    · omega
  rw [hj, this]

theorem enter_stuck (z but : Int) (t : St) (a : Nat) : ((t.enter z but).ob a).stuck = (t.ob a).stuck := by
  unfold St.enter
  split
  · exact (sortTo_alike but t _ a).2
  · rfl

theorem Built.new {c : Cf} {s : St} {k : Nat} {H : List Nat} (h : Built s k H) (hk : k < 99) (hd : (H.length : Int) < c.deep) (f : Nat) (hf : f ≤ 4) :
    ∃ s', doS c s 2 f = (s', 0, 0) ∧ Built s' (k + 1) (H ++ [k + 1]) ∧ (∀ x, s'.count x = s.count x) ∧ (s'.ob (k + 1)).fs = List.replicate f (0, 0) ∧ s'.count ((k + 1 : Nat) : Int) = 0 := by
  have hfr := h.free hk
  have hb : (s.ob (k + 1)).here = false := by rw [h.here]; simp
  have hl : k + 1 < s.objs.length := by rw [h.good.len]; omega
  have e : doS c s 2 f = (layS c.zero s (k + 1) f, 0, 0) := by
    have e1 : doS c s 2 f = newS c s f := by simp [doS]
    rw [e1]
    unfold newS
    refine (if_neg (by omega)).trans ((if_neg ?_).trans ?_)
    · rw [h.stack, refsOf_length]; omega
    · rw [room_of_free hfr, hfr, Int.toNat_natCast]
  have eo : ∀ x, (layS c.zero s (k + 1) f).ob x = ((s.put (k + 1) ⟨true, List.replicate f (0, 0), false, false⟩).enter c.zero (k + 1 : Nat)).ob x := fun x => rfl
  have ep : ∀ x, (s.put (k + 1) ⟨true, List.replicate f (0, 0), false, false⟩).ob x = if x = k + 1 then ⟨true, List.replicate f (0, 0), false, false⟩ else s.ob x := fun x => ob_put _ x hl
  have ec : ∀ x, (layS c.zero s (k + 1) f).count x = s.count x := fun x => by
    have : (layS c.zero s (k + 1) f).count x = ((s.put (k + 1) ⟨true, List.replicate f (0, 0), false, false⟩).enter c.zero (k + 1 : Nat)).count x := rfl
    rw [this, count_enter]
    exact count_lay h.good hb hl (by omega) x
  refine ⟨_, e, ⟨h.good.lay c.zero hb hl (by omega) hf, ?_, ?_, fun b => ?_, fun a b v hv h1 h2 => ?_, fun b => ?_, by omega⟩, ec, ?_, ?_⟩
  · show s.stack ++ [(2, ((k + 1 : Nat) : Int))] = _
    rw [h.stack, refsOf_append]; rfl
  · show ((s.put (k + 1) ⟨true, List.replicate f (0, 0), false, false⟩).enter c.zero (k + 1 : Nat)).globals.length = 1
    rw [(enter_same _ _ _).2.1]; exact h.globals
  · rw [eo, enter_stuck, ep]
    split
    · rfl
    · exact h.loose b
  · rw [eo, enter_fs, ep] at hv
    split at hv
    · have := List.eq_of_mem_replicate hv
      rw [this] at h1; cases h1
    · exact h.down a b v hv h1 h2
  · rw [eo, (sh_enter _ _ _).2, ep]
    split
    · rename_i e; rw [e]; simp
    · rename_i e; rw [h.here]
      have : (1 ≤ b ∧ b ≤ k) ↔ (1 ≤ b ∧ b ≤ k + 1) := by omega
      simp only [this]
  · rw [eo, enter_fs, ep, if_pos rfl]
  · rw [ec]; exact h.good.count_gone fun ha => by have := ha.1; rw [hb] at this; cases this

theorem fits_nat {n : Nat} (h : n ≤ 1000) : -9223372036854775808 ≤ (n : Int) ∧ (n : Int) ≤ 9223372036854775807 := by omega

theorem Built.down_at {s : St} {k : Nat} {H : List Nat} (h : Built s k H) (n : Nat) (hn : n < H.length) : s.down n = (2, ((H[H.length - 1 - n]'(by omega) : Nat) : Int)) := by
  unfold St.down
  rw [h.stack, refsOf_length, List.getD_eq_getElem?_getD]
  unfold refsOf
  rw [List.getElem?_map, List.getElem?_eq_getElem (by omega)]
  rfl

theorem Built.dup {c : Cf} {s : St} {k : Nat} {H : List Nat} (h : Built s k H) (hd : (H.length : Int) < c.deep) (hH : H.length ≤ 16) (n : Nat) (hn : n < H.length) :
    ∃ s', doS c s 3 n = (s', 0, 0) ∧ Built s' k (H ++ [H[H.length - 1 - n]'(by omega)]) ∧ s'.objs = s.objs ∧ s'.globals = s.globals := by
  have e : doS c s 3 n = ({ s with stack := s.stack ++ [s.down n] }, 0, 0) := by
    have e1 : doS c s 3 n = dupS c.deep s n := by simp [doS]
    rw [e1]
    unfold dupS
    refine (if_neg ?_).trans ?_
    · rw [h.stack, refsOf_length]; omega
    · unfold pushA pushS
      rw [Int.toNat_natCast, if_neg (by rw [h.stack, refsOf_length]; omega)]
  have g := h.good.did c 3 n (fits_nat (by omega))
  rw [e] at g
  refine ⟨_, e, h.roots g rfl ?_ h.globals, rfl, rfl⟩
  show s.stack ++ [s.down n] = _
  rw [h.stack, refsOf_append, h.down_at n hn]; rfl

theorem Built.drop {c : Cf} {s : St} {k : Nat} {H : List Nat} {a : Nat} (h : Built s k (H ++ [a])) (n : Int) :
    ∃ s', doS c s 4 n = (s', 0, 0) ∧ Built s' k H ∧ s'.objs = s.objs ∧ s'.globals = s.globals := by
  have e : doS c s 4 n = (s.pop 1, 0, 0) := by
    have e1 : doS c s 4 n = dropS s := by simp [doS]
    rw [e1]
    unfold dropS
    exact if_neg (by rw [h.stack, refsOf_length]; simp)
  refine ⟨_, e, h.roots (h.good.pop 1) rfl ?_ h.globals, rfl, rfl⟩
  show s.stack.take (s.stack.length - 1) = _
  rw [h.stack, refsOf_length, refsOf_append, List.length_append, List.length_singleton, Nat.add_sub_cancel, ← refsOf_length H, List.take_left]

theorem Built.set {c : Cf} {s : St} {k : Nat} {H : List Nat} {a : Nat} (h : Built s k (H ++ [a])) :
    ∃ s', doS c s 6 0 = (s', 0, 0) ∧ Built s' k H ∧ s'.objs = s.objs ∧ s'.globals = [(2, (a : Int))] := by
  have e : doS c s 6 0 = ({ s.pop 1 with globals := s.globals.set 0 (s.down 0) }, 0, 0) := by
    have e1 : doS c s 6 0 = setS s 0 := by simp [doS]
    rw [e1]
    unfold setS
    refine (if_neg ?_).trans ((if_neg ?_).trans rfl)
    · rw [h.globals]; simp
    · rw [h.stack, refsOf_length]; simp
  have g := h.good.did c 6 0 (by omega)
  rw [e] at g
  have hdn : s.down 0 = (2, (a : Int)) := by
    rw [h.down_at 0 (by simp)]
    simp
  have hgl : s.globals.set 0 (s.down 0) = [(2, (a : Int))] := by
    obtain ⟨v, hv⟩ := List.length_eq_one_iff.1 h.globals
    rw [hv, hdn]; rfl
  refine ⟨_, e, h.roots g rfl ?_ ?_, rfl, hgl⟩
  · show s.stack.take (s.stack.length - 1) = _
    rw [h.stack, refsOf_length, refsOf_append, List.length_append, List.length_singleton, Nat.add_sub_cancel, ← refsOf_length H, List.take_left]
  · show (s.globals.set 0 (s.down 0)).length = 1
    rw [hgl]; rfl

theorem Built.get {c : Cf} {s : St} {k : Nat} {H : List Nat} {a : Nat} (h : Built s k H) (hd : (H.length : Int) < c.deep) (hg : s.globals = [(2, (a : Int))]) :
    ∃ s', doS c s 5 0 = (s', 0, 0) ∧ Built s' k (H ++ [a]) ∧ s'.objs = s.objs ∧ s'.globals = s.globals := by
  have e : doS c s 5 0 = ({ s with stack := s.stack ++ [(2, (a : Int))] }, 0, 0) := by
    have e1 : doS c s 5 0 = getS c.deep s 0 := by simp [doS]
    rw [e1]
    unfold getS
    refine (if_neg ?_).trans ?_
    · rw [hg]; simp
    · unfold pushA pushS
      rw [hg, if_neg (by rw [h.stack, refsOf_length]; omega)]
      rfl
  have g := h.good.did c 5 0 (by omega)
  rw [e] at g
  refine ⟨_, e, h.roots g rfl ?_ h.globals, rfl, rfl⟩
  show s.stack ++ [(2, (a : Int))] = _
  rw [h.stack, refsOf_append]; rfl

theorem Built.store {c : Cf} {s : St} {k : Nat} {H : List Nat} {a b : Nat} (h : Built s k (H ++ [a, b])) (i : Nat) (hi : i < (s.ob a).fs.length) (hn : (s.ob a).fs.getD i (0, 0) = (0, 0)) (hc : s.count b < 7) (hab : b < a) :
    ∃ s', doS c s 8 i = (s', 0, 0) ∧ Built s' k H ∧ s'.globals = s.globals ∧ (∀ x, s'.count x = s.count x + if x = (b : Int) then 1 else 0) ∧ (s'.ob a).fs = (s.ob a).fs.set i (2, (b : Int)) ∧ ∀ x, x ≠ a → s'.ob x = s.ob x := by
  have hlen : s.stack.length = H.length + 2 := by rw [h.stack, refsOf_length]; simp
  have d0 : s.down 0 = (2, (b : Int)) := by rw [h.down_at 0 (by simp)]; simp
  have d1 : s.down 1 = (2, (a : Int)) := by
    rw [h.down_at 1 (by simp)]
    have : (H ++ [a, b])[(H ++ [a, b]).length - 1 - 1]'(by simp) = a := by
      have e : (H ++ [a, b]).length - 1 - 1 = H.length := by simp
      simp only [e]
      rw [List.getElem_append_right (Nat.le_refl _)]
      simp
    rw [this]
  have h4 := h.good.four a
  have ha : (s.ob a).here = true := by
    cases e : (s.ob a).here with
    | true => rfl
    | false => rw [h.good.gone a e] at hi; simp [Ob.free] at hi
  have e : doS c s 8 i = ((s.pop 2).field a i (2, (b : Int)), 0, 0) := by
    have e1 : doS c s 8 i = storeS c s i := by simp [doS]
    have ef : s.fields (s.down 1).2 = (s.ob a).fs := by unfold St.fields; rw [d1, Int.toNat_natCast]
    rw [e1]
    unfold storeS
    refine (if_neg (by omega)).trans ((if_neg ?_).trans ((if_neg ?_).trans ?_))
    · rw [d1]; simp [objErr]
    · rw [ef]; omega
    · rw [ef, d0, d1, Int.toNat_natCast, Int.toNat_natCast, hn]
      unfold putS
      rw [if_neg (by simp)]
      have es : stickS c.over (s.pop 2) (2, (b : Int)) = s.pop 2 := by
        unfold stickS
        rw [if_neg]
        rintro ⟨_, h2, _⟩
        have h2 : s.count b = 7 := h2
        omega
      rw [es]
      unfold dropS'
      rw [if_neg (by simp)]
  have hld : s.leads (2, (b : Int)) := by have := h.good.down 0; rw [d0] at this; exact this
  have hpl : (s.pop 2).leads (2, (b : Int)) := hld
  have g := (h.good.pop 2).setField a i hpl
  have hal : a < s.objs.length := here_lt ha
  have eo : ∀ x, ((s.pop 2).field a i (2, (b : Int))).ob x = if x = a then { s.ob a with fs := (s.ob a).fs.set i (2, (b : Int)) } else s.ob x := fun x => ob_put _ x hal
  refine ⟨_, e, ⟨g, ?_, h.globals, fun x => ?_, fun x y v hv h1 h2 => ?_, fun x => ?_, h.small⟩, rfl, fun x => ?_, ?_, fun x hx => by rw [eo, if_neg hx]⟩
  · show s.stack.take (s.stack.length - 2) = _
    rw [hlen, h.stack, refsOf_append, Nat.add_sub_cancel, ← refsOf_length H, List.take_left]
  · rw [eo]
    split
    · exact h.loose a
    · exact h.loose x
  · rw [eo] at hv
    split at hv
    · rename_i e
      rcases List.mem_or_eq_of_mem_set hv with hv | hv
      · rw [e]; exact h.down a y v hv h1 h2
      · rw [hv] at h2
        have h2 : (b : Int) = y := h2
        omega
    · exact h.down x y v hv h1 h2
  · rw [eo]
    split
    · rename_i e; rw [← h.here, e]
    · exact h.here x
  · have hcf := count_field (h.good.pop 2) (i := a) (k := i) hi (2, (b : Int)) x
    have hn2 : (((s.pop 2).ob a).fs.getD i (0, 0)) = (0, 0) := hn
    rw [hn2] at hcf
    have e1 : isRef (0, 0) x = 0 := by unfold isRef; rw [if_neg (by simp)]
    have e2 : isRef (2, (b : Int)) x = if x = (b : Int) then 1 else 0 := by
      unfold isRef
      by_cases e : x = (b : Int)
      · rw [if_pos e, if_pos ⟨rfl, e.symm⟩]
      · rw [if_neg e, if_neg (fun h => e h.2.symm)]
    have e3 : (s.pop 2).count x = s.count x := rfl
    rw [e1, e2, e3] at hcf
    omega
  · rw [eo, if_pos rfl]

/-! ### Once no root has any -/
theorem Built.nil {c : Cf} {s : St} {k : Nat} (h : Built s k []) (hd : 1 ≤ c.deep) : ∃ s1 s2, doS c s 0 0 = (s1, 0, 0) ∧ doS c s1 6 0 = (s2, 0, 0) ∧ s1.stack.length = 1 ∧ s1.globals = s.globals ∧ s1.objs = s.objs ∧ s1.Good 99 ∧ s2.stack = [] ∧ s2.globals = [(0, 0)] ∧ s2.objs = s.objs ∧ s2.Good 99 := by
  have hst : s.stack = [] := h.stack
  have e : doS c s 0 0 = ({ s with stack := [(0, 0)] }, 0, 0) := by
    have e1 : doS c s 0 0 = pushA c.deep s (0, 0) := by simp [doS]
    rw [e1]
    unfold pushA pushS
    rw [hst, if_neg (by simp; omega)]
    rfl
  have g1 := h.good.did c 0 0 (by omega)
  rw [e] at g1
  obtain ⟨v, hv⟩ := List.length_eq_one_iff.1 h.globals
  have e2 : doS c { s with stack := [(0, 0)] } 6 0 = ({ s with stack := [], globals := [(0, 0)] }, 0, 0) := by
    have e1 : doS c { s with stack := [(0, 0)] } 6 0 = setS { s with stack := [(0, 0)] } 0 := by simp [doS]
    rw [e1]
    unfold setS
    refine (if_neg ?_).trans ((if_neg ?_).trans ?_)
    · show ¬ ((0 : Int) < 0 ∨ (s.globals.length : Int) ≤ 0)
      rw [h.globals]; simp
    · simp
    · simp [St.pop, St.down, hv]
  have g2 := g1.did c 6 0 (by omega)
  rw [e2] at g2
  exact ⟨_, _, e, e2, rfl, rfl, rfl, g1, rfl, rfl, rfl, g2⟩

theorem Built.calm {s t : St} {k : Nat} {H : List Nat} (h : Built s k H) (ho : t.objs = s.objs) (hs : t.stack = []) (hg : t.globals = [(0, 0)]) : Calm t := by
  have e : ∀ b, t.ob b = s.ob b := fun b => by unfold St.ob; rw [ho]
  refine ⟨fun b => ?_, fun b => by rw [e]; exact h.loose b, fun b => b, fun a b v hv h1 h2 => by rw [e] at hv; exact h.down a b v hv h1 h2⟩
  unfold St.rooted
  rw [hs, hg]
  simp [refsN]
theorem countTo_upto (k : Nat) (n : Nat) (hk : k ≤ n) : countTo (fun b => decide (1 ≤ b ∧ b ≤ k)) n = k := by
  induction n with
  | zero => simp [countTo]; omega
  | succ n ih =>
    rw [countTo_succ]
    rcases Nat.lt_or_ge n k with h | h
    · have hk' : k = n + 1 := by omega
      have e : countTo (fun b => decide (1 ≤ b ∧ b ≤ k)) n = n := by
        have h2 : countTo (fun b => decide (1 ≤ b ∧ b ≤ k)) n = countTo (fun b => decide (1 ≤ b ∧ b ≤ n)) n := countTo_congr fun b h1 h2 => by
          have : (1 ≤ b ∧ b ≤ k) ↔ (1 ≤ b ∧ b ≤ n) := by omega
          simp only [this]
        rw [h2]
        clear ih h2 hk hk' h
        have : ∀ m, m ≤ n → countTo (fun b => decide (1 ≤ b ∧ b ≤ n)) m = m := fun m => by
          induction m with
          | zero => intro _; simp [countTo]
          | succ m ih => intro hm; rw [countTo_succ, ih (by omega), if_pos (by simp; omega)]
        exact this n (Nat.le_refl _)
      rw [e, if_pos (by simp; omega)]; omega
    · rw [ih h, if_neg (by simp; omega)]; rfl
theorem Built.used {s t : St} {k : Nat} {H : List Nat} (h : Built s k H) (ho : t.objs = s.objs) : usedC t = k := by
  have e : ∀ b, t.ob b = s.ob b := fun b => by unfold St.ob; rw [ho]
  have hN : t.N = 99 := by unfold St.N; rw [ho, h.good.len]
  unfold usedC
  rw [hN]
  have : countTo (fun b => (t.ob b).here) 99 = countTo (fun b => decide (1 ≤ b ∧ b ≤ k)) 99 := countTo_congr fun b _ _ => by rw [e, h.here]
  rw [this]; exact countTo_upto k 99 h.small

end Go.Proofs.Ytpmkjeihbddfpaa

/- OUR OWN. Drained: the heap, and beside it the row of how often each object is held. -/
namespace Go.Proofs.Ytpmkjeihbddfpaa
open Go.RowKit
set_option linter.unusedVariables false
set_option linter.unusedSimpArgs false

variable {HS : HeapM → St → Cf → Nat → Prop} {Room : St → Prop}

def rowOf (R : List Nat) : List Value := R.map fun (n : Nat) => Value.int .i64 (n : Int)

structure RowAt (HS : HeapM → St → Cf → Nat → Prop) (B x : Nat) (c : Cf) (s : St) (v : Value) (R : List Nat) (W : World) : Prop where
  at_ : ∃ hm, KAt HS B W x hm s c 99 ∧ ∀ g, v.ownBlock = some g → g ∉ x :: hm.foot
  row : W.ownsRow B 3 1 v R.length (rowOf R)

variable {B x : Nat} {c : Cf} {s s' : St} {v : Value} {R : List Nat} {W W' w' : World}

theorem RowAt.below (r : RowAt HS B x c s v R W) (hb : Below W.heap.size W W') : RowAt HS B x c s v R W' := by
  obtain ⟨hm, k, a⟩ := r.at_
  exact ⟨⟨hm, k.below hb, a⟩, own_carry r.row fun g hg => hb.block g (own_lt r.row hg).2⟩
theorem RowAt.size (r : RowAt HS B x c s v R W) : B ≤ W.heap.size := by
  obtain ⟨hm, k, a⟩ := r.at_
  exact k.size
theorem RowAt.cf (r : RowAt HS B x c s v R W) : CfOk c := by
  obtain ⟨hm, k, a⟩ := r.at_
  exact k.cf
theorem RowAt.step (r : RowAt HS B x c s v R W) {hm hm' : HeapM} (a : ∀ g, v.ownBlock = some g → g ∉ x :: hm.foot) (t : HTurn x W hm w' hm') (k' : KAt HS B w' x hm' s' c 99) : RowAt HS B x c s' v R w' := by
  refine ⟨⟨hm', k', fun g hg hmem => ?_⟩, own_carry r.row fun g hg => t.off.block g (own_lt r.row hg).2 (a g hg)⟩
  rcases List.mem_cons.1 hmem with e | e
  · exact a g hg (by rw [e]; exact List.mem_cons_self)
  · rcases t.foot g e with e | e
    · exact a g hg (List.mem_cons_of_mem _ e)
    · have := (own_lt r.row hg).2; omega

theorem row_do (P : Pact3 HS Room) (r : RowAt HS B x c s v R W) (op n : Int) (hop : fits op) (hn : fits n) (hf : op = 2 → ∃ k, free? s = some k) {a e : Int} (h : doS c s op n = (s', a, e)) :
    Calls Try.prog 10 #[.pointer (some ⟨x, 0, none⟩), .int .i64 op, .int .i64 n] W fun r' w' => r' = .returned (.tuple #[.int .i64 a, .int .i64 e]) ∧ RowAt HS B x c s' v R w' ∧ Below B W w' := by
  obtain ⟨hm, k, ap⟩ := r.at_
  refine (k_do3 P k op n hop hn hf).mono ?_
  rintro r' w' ⟨hr, st⟩
  obtain ⟨hm', t, k'⟩ := st.at_
  rw [h] at hr k'
  exact ⟨hr, r.step ap t k', st.keep⟩
theorem row_safe (P : Pact3 HS Room) (r : RowAt HS B x c s v R W) :
    Calls Try.prog 14 #[.pointer (some ⟨x, 0, none⟩)] W fun e w' => e = .returned (.int .i64 (s.safe c).2) ∧ RowAt HS B x c (s.safe c).1 v R w' ∧ Below B W w' := by
  obtain ⟨hm, k, ap⟩ := r.at_
  refine (k_safe3 P k).mono ?_
  rintro r' w' ⟨hr, st⟩
  obtain ⟨hm', t, k'⟩ := st.at_
  exact ⟨hr, r.step ap t k', st.keep⟩
theorem row_gauge (P : Pact3 HS Room) (r : RowAt HS B x c s v R W) :
    Calls Try.prog 13 #[.pointer (some ⟨x, 0, none⟩)] W fun e w' => e = .returned (.agg #[.int .i64 (gaugeS s).1, .int .i64 (gaugeS s).2.1, .int .i64 (gaugeS s).2.2.1, .int .i64 (gaugeS s).2.2.2.1, .int .i64 (gaugeS s).2.2.2.2]) ∧ RowAt HS B x c s v R w' ∧ Below B W w' := by
  obtain ⟨hm, k, ap⟩ := r.at_
  refine (k_gauge3 P k).mono ?_
  rintro r' w' ⟨hr, st⟩
  obtain ⟨hm', t, k'⟩ := st.at_
  exact ⟨hr, r.step ap t k', st.keep⟩

/-- the row's form -/
theorem RowAt.slice (r : RowAt HS B x c s v R W) : ∃ ao cap, v = .slice ao R.length cap := own_slice (own_base r.row (Nat.zero_le _))
theorem RowAt.room (r : RowAt HS B x c s v R W) {ao : Option Addr} {cap : Nat} (hv : v = .slice ao R.length cap) : R.length ≤ cap := by
  rcases r.row.2 with ⟨e, h0⟩ | ⟨g, cap', cur, e, h1, h2, h3, h4, h5, h6⟩
  · omega
  · rw [hv] at e
    simp at e
    omega
theorem RowAt.view (r : RowAt HS B x c s v R W) (h : 0 < R.length) : ∃ g cap, v = .slice (some ⟨g, 0, none⟩) R.length cap ∧ g < W.heap.size ∧ (∀ j (hj : j < R.length), W.cell? ⟨g, j, none⟩ = some (.int .i64 (R[j] : Nat))) ∧ ∀ j, W.frozen? ⟨g, j, none⟩ = false := by
  obtain ⟨g, cap, hv, hg, hb, hc, hcell, hfz⟩ := own_view (own_base r.row (Nat.zero_le _)) h
  refine ⟨g, cap, hv, hg, fun j hj => hcell j _ ?_, hfz⟩
  unfold rowOf
  rw [List.getElem?_map, List.getElem?_eq_getElem hj]; rfl

theorem RowAt.set (r : RowAt HS B x c s v R W) {g cap : Nat} (hv : v = .slice (some ⟨g, 0, none⟩) R.length cap) (j n : Nat) :
    RowAt HS B x c s v (R.set j n) (W.setCell ⟨g, j, none⟩ (.int .i64 n)) ∧ Below B W (W.setCell ⟨g, j, none⟩ (.int .i64 n)) := by
  obtain ⟨hm, k, ap⟩ := r.at_
  have hob : v.ownBlock = some g := by rw [hv]; rfl
  have hg := own_lt r.row hob
  have hsz : (W.setCell ⟨g, j, none⟩ (.int .i64 n)).heap.size = W.heap.size := by simp [World.setCell]
  refine ⟨⟨⟨hm, ⟨k.here.carry fun y hy => hso fun e => ap g hob (by rw [← e]; exact hy), k.hs, k.good, k.bound, k.cf, k.small, k.gl, k.low, by rw [hsz]; exact k.size⟩, ap⟩, ?_⟩, ⟨rfl, rfl, rfl, by rw [hsz]; exact Nat.le_refl _, fun y hy => hso (by omega)⟩⟩
  have hr := r.row
  unfold rowOf
  rw [List.length_set, List.map_set]
  rw [hv] at hr ⊢
  exact (hr.stored j _).1
theorem RowAt.cut (r : RowAt HS B x c s v R W) {ao : Option Addr} {cap : Nat} (hv : v = .slice ao R.length cap) (k : Nat) (hk : k ≤ R.length) : RowAt HS B x c s (.slice ao k cap) (R.take k) W := by
  obtain ⟨hm, ka, ap⟩ := r.at_
  have ho : (Value.slice ao k cap).ownBlock = v.ownBlock := by rw [hv]; cases ao <;> rfl
  refine ⟨⟨hm, ka, fun g hg => ap g (by rw [← ho]; exact hg)⟩, ?_⟩
  have hr := r.row
  rw [hv] at hr
  have hl : (R.take k).length = k := by rw [List.length_take]; omega
  refine ⟨by simp [rowOf], ?_⟩
  rcases hr.2 with ⟨e, h0⟩ | ⟨g, cap', cur, e, h1, h2, h3, h4, h5, h6⟩
  · left
    simp at e
    obtain ⟨rfl, _, rfl⟩ := e
    have : k = 0 := by omega
    exact ⟨by rw [this], by rw [hl]; exact this⟩
  · right
    simp at e
    obtain ⟨rfl, rfl⟩ := e
    refine ⟨g, cap, cur, by rw [hl], h1, h2, by omega, h4, h5, ?_⟩
    have e1 : rowOf (R.take k) = (rowOf R).take k := by unfold rowOf; rw [List.map_take]
    rw [e1, ← h6, List.take_take, hl]
    congr 1
    omega
theorem RowAt.grown (r : RowAt HS B x c s v R W) {g cap : Nat} (n : Nat) (hown : w'.ownsRow B 3 1 (.slice (some ⟨g, 0, none⟩) (R.length + 1) cap) (R.length + 1) (rowOf R ++ [.int .i64 n]))
    (hgr : W.grownBy w' v.ownBlock) (hlie : v.ownBlock = some g ∨ g = W.heap.size) : RowAt HS B x c s (.slice (some ⟨g, 0, none⟩) (R.length + 1) cap) (R ++ [n]) w' ∧ Below B W w' := by
  obtain ⟨hm, k, ap⟩ := r.at_
  have hbl : ∀ y ∈ x :: hm.foot, w'.heap[y]? = W.heap[y]? := fun y hy => hgr.block y (k.here.lt y hy) fun e => ap y e.symm hy
  have hb : Below B W w' := (Below.refl B W).grown hgr k.size fun y hy => (own_lt r.row hy).1
  refine ⟨⟨⟨hm, ⟨k.here.carry hbl, k.hs, k.good, k.bound, k.cf, k.small, k.gl, k.low, Nat.le_trans k.size hb.size⟩, fun y hy hmem => ?_⟩, ?_⟩, hb⟩
  · have : y = g := by simpa [Value.ownBlock, eq_comm] using hy
    subst this
    rcases hlie with e | e
    · exact ap y e hmem
    · have := k.here.lt y hmem; omega
  · have e : rowOf (R ++ [n]) = rowOf R ++ [.int .i64 n] := by unfold rowOf; rw [List.map_append]; rfl
    rw [e, List.length_append, List.length_singleton]; exact hown
theorem RowAt.start {hm : HeapM} (k : KAt HS B W x hm s c 99) : RowAt HS B x c s (.slice none 0 0) [] W := ⟨⟨hm, k, fun g hg => by cases hg⟩, World.ownsRow_nil _ _ _ _⟩

end Go.Proofs.Ytpmkjeihbddfpaa

/- OUR OWN. Drained: the plan's steps. -/
namespace Go.Proofs.Ytpmkjeihbddfpaa
open Go.RowKit
set_option linter.unusedVariables false
set_option linter.unusedSimpArgs false

variable {HS : HeapM → St → Cf → Nat → Prop} {Room : St → Prop} {B x : Nat} {c : Cf}

/-- an operation that is not refused -/
def DoTo (x : Nat) (op n : Int) (W : World) (Q : World → Prop) : Prop := Calls Try.prog 10 #[.pointer (some ⟨x, 0, none⟩), .int .i64 op, .int .i64 n] W fun e w' => e = .returned (.tuple #[.int .i64 0, .int .i64 0]) ∧ Q w'

def cnts (s : St) (H : List Nat) : List Nat := H.map fun (b : Nat) => s.count (b : Int)
theorem cnts_len (s : St) (H : List Nat) : (cnts s H).length = H.length := List.length_map _
theorem cnts_same {s s' : St} {H : List Nat} (h : ∀ b ∈ H, s'.count (b : Int) = s.count (b : Int)) : cnts s' H = cnts s H := List.map_congr_left h

/-- the blocks 1 to k have objects; H are on the stack, each once; v is the row of how often fields have them -/
structure Plan (HS : HeapM → St → Cf → Nat → Prop) (B x : Nat) (c : Cf) (k : Nat) (H : List Nat) (v : Value) (W : World) : Prop where
  all : ∃ s, RowAt HS B x c s v (cnts s H) W ∧ Built s k H ∧ H.Nodup ∧ ∀ b ∈ H, b ≤ k ∧ s.count (b : Int) ≤ 7
/-- the object in block k + 1 is on the top, with f fields, from i on nil -/
structure Mid (HS : HeapM → St → Cf → Nat → Prop) (B x : Nat) (c : Cf) (k f i : Nat) (H : List Nat) (v : Value) (W : World) : Prop where
  all : ∃ s, RowAt HS B x c s v (cnts s H) W ∧ Built s (k + 1) (H ++ [k + 1]) ∧ H.Nodup ∧ (∀ b ∈ H, b ≤ k ∧ s.count (b : Int) ≤ 7) ∧ s.count ((k + 1 : Nat) : Int) = 0 ∧ (s.ob (k + 1)).fs.length = f ∧ ∀ j, i ≤ j → j < f → (s.ob (k + 1)).fs.getD j (0, 0) = (0, 0)

variable {k f i : Nat} {H : List Nat} {v : Value} {W W' : World}
theorem Plan.below (p : Plan HS B x c k H v W) (hb : Below W.heap.size W W') : Plan HS B x c k H v W' := by
  obtain ⟨s, r, h1, h2, h3⟩ := p.all
  exact ⟨s, r.below hb, h1, h2, h3⟩
theorem Mid.below (p : Mid HS B x c k f i H v W) (hb : Below W.heap.size W W') : Mid HS B x c k f i H v W' := by
  obtain ⟨s, r, h⟩ := p.all
  exact ⟨s, r.below hb, h⟩
theorem Mid.skip (p : Mid HS B x c k f i H v W) : Mid HS B x c k f (i + 1) H v W := by
  obtain ⟨s, r, h1, h2, h3, h4, h5, h6⟩ := p.all
  exact ⟨s, r, h1, h2, h3, h4, h5, fun j hj => h6 j (by omega)⟩
theorem Plan.size (p : Plan HS B x c k H v W) : B ≤ W.heap.size := by
  obtain ⟨s, r, _⟩ := p.all
  exact r.size
theorem Mid.size (p : Mid HS B x c k f i H v W) : B ≤ W.heap.size := by
  obtain ⟨s, r, _⟩ := p.all
  exact r.size
theorem Plan.slice (p : Plan HS B x c k H v W) : ∃ ao cap, v = .slice ao H.length cap := by
  obtain ⟨s, r, _⟩ := p.all
  have := r.slice
  rw [cnts_len] at this
  exact this
theorem Plan.room (p : Plan HS B x c k H v W) {ao : Option Addr} {cap : Nat} (hv : v = .slice ao H.length cap) : H.length ≤ cap := by
  obtain ⟨s, r, _⟩ := p.all
  have := r.room (ao := ao) (cap := cap) (by rw [cnts_len]; exact hv)
  rw [cnts_len] at this
  exact this
theorem Mid.slice (p : Mid HS B x c k f i H v W) : ∃ ao cap, v = .slice ao H.length cap := by
  obtain ⟨s, r, _⟩ := p.all
  have := r.slice
  rw [cnts_len] at this
  exact this

theorem fits_n {n : Nat} (h : n ≤ 1000) : fits (n : Int) := ⟨by omega, by omega⟩
theorem no2 {op : Int} {P : Prop} (h : ¬ op = 2) : op = 2 → P := fun e => absurd e h

theorem Plan.new (P : Pact3 HS Room) (p : Plan HS B x c k H v W) (hk : k < 99) (hl : H.length ≤ 13) (hd : c.deep = 16) (hf : f ≤ 4) :
    DoTo x 2 f W fun w' => Mid HS B x c k f 0 H v w' ∧ Below B W w' := by
  obtain ⟨s, r, h1, h2, h3⟩ := p.all
  obtain ⟨s', e, b', ec, ef, e0⟩ := h1.new (c := c) hk (by omega) f hf
  refine (row_do P r 2 f (fits_n (n := 2) (by omega)) (fits_n (by omega)) (fun _ => ⟨k, h1.free hk⟩) e).mono ?_
  rintro r' w' ⟨hr, rw', hb⟩
  refine ⟨hr, ⟨s', ?_, b', h2, fun b hb => ?_, e0, by rw [ef]; simp, fun j _ hj => ?_⟩, hb⟩
  · rw [cnts_same fun b _ => ec _]; exact rw'
  · rw [ec]; exact h3 b hb
  · rw [ef, List.getD_eq_getElem?_getD, List.getElem?_replicate, if_pos hj]; rfl

theorem cnts_set {s s' : St} {H : List Nat} {j : Nat} (hn : H.Nodup) (hj : j < H.length) (h : ∀ b ∈ H, s'.count (b : Int) = s.count (b : Int) + if (b : Int) = ((H[j] : Nat) : Int) then 1 else 0) : cnts s' H = (cnts s H).set j (s.count ((H[j] : Nat) : Int) + 1) := by
  apply List.ext_getElem?
  intro i
  unfold cnts
  rw [List.getElem?_set, List.getElem?_map, List.getElem?_map, List.length_map]
  by_cases hi : i < H.length
  · rw [List.getElem?_eq_getElem hi]
    simp only [Option.map_some]
    rw [h _ (List.getElem_mem hi)]
    by_cases e : j = i
    · subst e
      rw [if_pos rfl, if_pos rfl, if_pos hj]
    · rw [if_neg e, if_neg]
      · rfl
      · intro e2
        have e3 : H[i] = H[j] := by omega
        have hp := List.pairwise_iff_getElem.1 (List.nodup_iff_pairwise_ne.1 hn)
        rcases Nat.lt_or_gt_of_ne e with h1 | h1
        · exact hp j i hj hi h1 e3.symm
        · exact hp i j hi hj h1 e3
  · rw [List.getElem?_eq_none (by omega), if_neg (by omega)]; rfl

/-- a field of the new object comes to be a reference to one that is held -/
theorem Mid.store (P : Pact3 HS Room) (p : Mid HS B x c k f i H v W) (hk : k < 99) (hl : H.length ≤ 13) (hd : c.deep = 16) (j : Nat) (hj : j < H.length) :
    ∃ g cap n, v = .slice (some ⟨g, 0, none⟩) H.length cap ∧ g < W.heap.size ∧ W.cell? ⟨g, j, none⟩ = some (.int .i64 (n : Nat)) ∧ W.frozen? ⟨g, j, none⟩ = false ∧ n ≤ 7 ∧
      (n < 7 → i < f → f ≤ 4 → ∀ W1, Below (W.setCell ⟨g, j, none⟩ (.int .i64 ((n : Int) + 1))).heap.size (W.setCell ⟨g, j, none⟩ (.int .i64 ((n : Int) + 1))) W1 →
        DoTo x 3 0 W1 fun w2 => ∀ W2, Below w2.heap.size w2 W2 → DoTo x 3 ((H.length : Int) - j + 1) W2 fun w3 => ∀ W3, Below w3.heap.size w3 W3 → DoTo x 8 i W3 fun w4 => Mid HS B x c k f (i + 1) H v w4 ∧ Below B W w4) := by
  obtain ⟨s, r, h1, h2, h3, h4, h5, h6⟩ := p.all
  obtain ⟨g, cap, hv, hg, hcell, hfz⟩ := r.view (by rw [cnts_len]; omega)
  have hcl := hcell j (by rw [cnts_len]; exact hj)
  have hn : (cnts s H)[j]'(by rw [cnts_len]; exact hj) = s.count ((H[j] : Nat) : Int) := by simp [cnts]
  rw [hn] at hcl
  rw [cnts_len] at hv
  refine ⟨g, cap, _, hv, hg, hcl, hfz _, (h3 _ (List.getElem_mem hj)).2, fun h7 hi hf W1 hb1 => ?_⟩
  obtain ⟨r1, bl1⟩ := r.set (g := g) (cap := cap) (by rw [cnts_len]; exact hv) j (s.count ((H[j] : Nat) : Int) + 1)
  have eW : ((s.count ((H[j] : Nat) : Int) + 1 : Nat) : Int) = (s.count ((H[j] : Nat) : Int) : Int) + 1 := by omega
  rw [eW] at r1 bl1
  have r1' := r1.below hb1
  have B1 : Below B W W1 := bl1.trans (hb1.mono r1.size)
  have hlen : (H ++ [k + 1]).length = H.length + 1 := by simp
  obtain ⟨s2, e2, b2, o2, _⟩ := h1.dup (c := c) (by rw [hlen, hd]; omega) (by omega) 0 (by omega)
  have t2 : (H ++ [k + 1])[(H ++ [k + 1]).length - 1 - 0]'(by omega) = k + 1 := by simp
  rw [t2] at b2
  refine (row_do P r1' 3 0 (fits_n (n := 3) (by omega)) (fits_n (n := 0) (by omega)) (no2 (by decide)) e2).mono ?_
  rintro r' w2 ⟨hr, rr2, bl2⟩
  refine ⟨hr, fun W2 hb2 => ?_⟩
  have rr2' := rr2.below hb2
  have B2 : Below B W W2 := (B1.trans bl2).trans (hb2.mono rr2.size)
  have hlen2 : (H ++ [k + 1] ++ [k + 1]).length = H.length + 2 := by simp
  obtain ⟨s3, e3, b3, o3, _⟩ := b2.dup (c := c) (by rw [hlen2, hd]; omega) (by omega) (H.length - j + 1) (by omega)
  have t3 : (H ++ [k + 1] ++ [k + 1])[(H ++ [k + 1] ++ [k + 1]).length - 1 - (H.length - j + 1)]'(by omega) = H[j] := by
    have e : (H ++ [k + 1] ++ [k + 1]).length - 1 - (H.length - j + 1) = j := by omega
    simp only [e]
    rw [List.getElem_append_left (by simp; omega), List.getElem_append_left hj]
  rw [t3] at b3
  rw [show ((H.length - j + 1 : Nat) : Int) = (H.length : Int) - j + 1 by omega] at e3
  refine (row_do P rr2' 3 ((H.length : Int) - j + 1) (fits_n (n := 3) (by omega)) ⟨by omega, by omega⟩ (no2 (by decide)) e3).mono ?_
  rintro r' w3 ⟨hr, rr3, bl3⟩
  refine ⟨hr, fun W3 hb3 => ?_⟩
  have rr3' := rr3.below hb3
  have B3 : Below B W W3 := (B2.trans bl3).trans (hb3.mono rr3.size)
  have o3' : s3.objs = s.objs := o3.trans o2
  have eob : ∀ b, s3.ob b = s.ob b := fun b => by unfold St.ob; rw [o3']
  have ecn : ∀ y, s3.count y = s.count y := fun y => count_objs o3' y
  have b3' : Built s3 (k + 1) ((H ++ [k + 1]) ++ [k + 1, H[j]]) → True := fun _ => trivial
  have hsplit : H ++ [k + 1] ++ [k + 1] ++ [H[j]] = (H ++ [k + 1]) ++ [k + 1, H[j]] := by simp
  rw [hsplit] at b3
  obtain ⟨s4, e4, b4, _, ec4, ef4, eo4⟩ := b3.store (c := c) i (by rw [eob, h5]; exact hi) (by rw [eob]; exact h6 i (Nat.le_refl _) hi) (by rw [ecn]; exact h7) (by have := (h3 _ (List.getElem_mem hj)).1; omega)
  refine (row_do P rr3' 8 i (fits_n (n := 8) (by omega)) (fits_n (by omega)) (no2 (by decide)) e4).mono ?_
  rintro r' w4 ⟨hr, rr4, bl4⟩
  have hcs : ∀ b ∈ H, s4.count (b : Int) = s.count (b : Int) + if (b : Int) = ((H[j] : Nat) : Int) then 1 else 0 := fun b _ => by rw [ec4, ecn]
  refine ⟨hr, ⟨s4, ?_, b4, h2, fun b hb => ⟨(h3 b hb).1, ?_⟩, ?_, ?_, fun y hy hyf => ?_⟩, B3.trans bl4⟩
  · rw [cnts_set h2 hj hcs]; exact rr4
  · rw [hcs b hb]
    split
    · rename_i e
      have : b = H[j] := by omega
      rw [this]; omega
    · have := (h3 b hb).2; omega
  · rw [ec4, ecn, h4, if_neg]
    have := (h3 _ (List.getElem_mem hj)).1
    omega
  · rw [ef4, List.length_set, eob]; exact h5
  · rw [ef4, List.getD_eq_getElem?_getD, List.getElem?_set_ne (by omega), ← List.getD_eq_getElem?_getD, eob]
    exact h6 y (by omega) hyf

/-- the new one is held too -/
theorem Mid.grown (p : Mid HS B x c k f i H v W) : ∃ R : List Nat, R.length = H.length ∧ W.ownsRow B 3 1 v H.length (rowOf R) ∧ ∀ W0, Below W.heap.size W W0 → ∀ w1 g cap, w1.ownsRow B 3 1 (.slice (some ⟨g, 0, none⟩) (H.length + 1) cap) (H.length + 1) (rowOf R ++ [.int .i64 (0 : Nat)]) →
    W0.grownBy w1 v.ownBlock → (v.ownBlock = some g ∨ g = W0.heap.size) → Plan HS B x c (k + 1) (H ++ [k + 1]) (.slice (some ⟨g, 0, none⟩) (H.length + 1) cap) w1 ∧ Below B W w1 := by
  obtain ⟨s, r, h1, h2, h3, h4, h5, h6⟩ := p.all
  refine ⟨cnts s H, cnts_len s H, by have := r.row; rw [cnts_len] at this; exact this, fun W0 hb0 w1 g cap hown hgr hlie => ?_⟩
  rw [← cnts_len s H] at hown
  obtain ⟨r1, b1⟩ := (r.below hb0).grown 0 hown hgr hlie
  rw [cnts_len] at r1
  refine ⟨⟨s, ?_, h1, ?_, fun b hb => ?_⟩, (hb0.mono r.size).trans b1⟩
  · have e : cnts s (H ++ [k + 1]) = cnts s H ++ [0] := by
      unfold cnts
      rw [List.map_append, List.map_singleton, h4]
    rw [e]; exact r1
  · rw [List.nodup_append]
    refine ⟨h2, by simp, fun a ha b hb => ?_⟩
    simp at hb
    have := (h3 a ha).1
    omega
  · rcases List.mem_append.1 hb with h | h
    · have := h3 b h; omega
    · simp at h; rw [h, h4]; omega

/-- the top goes -/
theorem Plan.drop (P : Pact3 HS Room) {a : Nat} {ao : Option Addr} {cap : Nat} (p : Plan HS B x c k (H ++ [a]) (.slice ao (H.length + 1) cap) W) :
    DoTo x 4 0 W fun w' => Plan HS B x c k H (.slice ao H.length cap) w' ∧ Below B W w' := by
  obtain ⟨s, r, h1, h2, h3⟩ := p.all
  obtain ⟨s', e, b', o', _⟩ := h1.drop (c := c) 0
  refine (row_do P r 4 0 (fits_n (n := 4) (by omega)) (fits_n (n := 0) (by omega)) (no2 (by decide)) e).mono ?_
  rintro r' w' ⟨hr, rr, hb⟩
  refine ⟨hr, ⟨s', ?_, b', (List.nodup_append.1 h2).1, fun b hb => ?_⟩, hb⟩
  · have r2 := rr.cut (ao := ao) (cap := cap) (by rw [cnts_len]; simp) H.length (by rw [cnts_len]; simp)
    have e2 : (cnts s (H ++ [a])).take H.length = cnts s' H := by
      rw [cnts_same (s := s) (s' := s') fun b _ => count_objs o' _]
      unfold cnts
      rw [List.map_append, List.take_left' (by simp)]
    rw [e2] at r2; exact r2
  · rw [count_objs o']; exact h3 b (List.mem_append_left _ hb)

/-- the one below the top goes -/
theorem Plan.under (P : Pact3 HS Room) {a b : Nat} {ao : Option Addr} {cap : Nat} (p : Plan HS B x c k (H ++ [b, a]) (.slice ao (H.length + 2) cap) W) (hl : H.length ≤ 13) (hd : c.deep = 16) :
    DoTo x 6 0 W fun w1 => ∀ W1, Below w1.heap.size w1 W1 → DoTo x 4 0 W1 fun w2 => ∀ W2, Below w2.heap.size w2 W2 → DoTo x 5 0 W2 fun w3 => ∀ W3, Below w3.heap.size w3 W3 →
      ∃ g n, ao = some ⟨g, 0, none⟩ ∧ W3.cell? ⟨g, H.length + 1, none⟩ = some (.int .i64 n) ∧ (∃ m, W3.cell? ⟨g, H.length, none⟩ = some (.int .i64 m)) ∧ W3.frozen? ⟨g, H.length, none⟩ = false ∧
        Plan HS B x c k (H ++ [a]) (.slice ao (H.length + 1) cap) (W3.setCell ⟨g, H.length, none⟩ (.int .i64 n)) ∧ Below B W (W3.setCell ⟨g, H.length, none⟩ (.int .i64 n)) := by
  obtain ⟨s, r, h1, h2, h3⟩ := p.all
  rw [show H ++ [b, a] = (H ++ [b]) ++ [a] by simp] at h1
  obtain ⟨s1, e1, b1, o1, g1⟩ := h1.set (c := c)
  refine (row_do P r 6 0 (fits_n (n := 6) (by omega)) (fits_n (n := 0) (by omega)) (no2 (by decide)) e1).mono ?_
  rintro r' w1 ⟨hr, r1, bl1⟩
  refine ⟨hr, fun W1 hb1 => ?_⟩
  have B1 : Below B W W1 := bl1.trans (hb1.mono r1.size)
  obtain ⟨s2, e2, b2, o2, g2⟩ := b1.drop (c := c) 0
  refine (row_do P (r1.below hb1) 4 0 (fits_n (n := 4) (by omega)) (fits_n (n := 0) (by omega)) (no2 (by decide)) e2).mono ?_
  rintro r' w2 ⟨hr, r2, bl2⟩
  refine ⟨hr, fun W2 hb2 => ?_⟩
  have B2 : Below B W W2 := (B1.trans bl2).trans (hb2.mono r2.size)
  obtain ⟨s3, e3, b3, o3, _⟩ := b2.get (c := c) (by rw [hd]; omega) (g2.trans g1)
  refine (row_do P (r2.below hb2) 5 0 (fits_n (n := 5) (by omega)) (fits_n (n := 0) (by omega)) (no2 (by decide)) e3).mono ?_
  rintro r' w3 ⟨hr, r3, bl3⟩
  refine ⟨hr, fun W3 hb3 => ?_⟩
  have r3' := r3.below hb3
  have B3 : Below B W W3 := (B2.trans bl3).trans (hb3.mono r3.size)
  have o3' : s3.objs = s.objs := (o3.trans o2).trans o1
  have hlen : (cnts s (H ++ [b, a])).length = H.length + 2 := by rw [cnts_len]; simp
  obtain ⟨g, cap', hv, hg, hcell, hfz⟩ := r3'.view (by omega)
  rw [hlen] at hv
  simp at hv
  obtain ⟨rfl, rfl⟩ := hv
  have c1 := hcell (H.length + 1) (by omega)
  have c0 := hcell H.length (by omega)
  obtain ⟨n, hn⟩ : ∃ n, (cnts s (H ++ [b, a]))[H.length + 1]'(by omega) = n := ⟨_, rfl⟩
  rw [hn] at c1
  obtain ⟨r4, bl4⟩ := r3'.set (g := g) (cap := cap) (by rw [hlen]) H.length n
  refine ⟨g, n, rfl, c1, ⟨_, c0⟩, hfz _, ?_, B3.trans bl4⟩
  have r5 := r4.cut (ao := some ⟨g, 0, none⟩) (cap := cap) (by rw [List.length_set, hlen]) (H.length + 1) (by rw [List.length_set, hlen]; omega)
  have hna : n = s.count (a : Int) := by
    rw [← hn]; simp [cnts, List.getElem_append_right]
  have e5 : ((cnts s (H ++ [b, a])).set H.length n).take (H.length + 1) = cnts s3 (H ++ [a]) := by
    rw [cnts_same (s := s) (s' := s3) fun y _ => count_objs o3' _]
    apply List.ext_getElem?
    intro i
    unfold cnts
    rw [List.getElem?_take, List.getElem?_set, List.getElem?_map, List.getElem?_map, List.length_map]
    rcases Nat.lt_trichotomy i H.length with hi | hi | hi
    · rw [if_pos (by omega), if_neg (by omega), List.getElem?_append_left hi, List.getElem?_append_left hi]
    · subst hi
      rw [if_pos (by omega), if_pos rfl, if_pos (by simp), List.getElem?_append_right (Nat.le_refl _), hna]
      simp
    · rw [if_neg (by omega), List.getElem?_eq_none (by simp; omega)]; rfl
  rw [e5] at r5
  have hnd : (H ++ [a]).Nodup := by
    have h2' := List.nodup_append.1 h2
    rw [List.nodup_append]
    exact ⟨h2'.1, by simp, fun y hy z hz => h2'.2.2 y hy z (by simp at hz; simp [hz])⟩
  refine ⟨s3, r5, b3, hnd, fun y hy => ?_⟩
  rw [count_objs o3']
  refine h3 y ?_
  rcases List.mem_append.1 hy with h | h
  · exact List.mem_append_left _ h
  · simp at h; simp [h]

end Go.Proofs.Ytpmkjeihbddfpaa

/- OUR OWN. Drained: built. -/
namespace Go.Proofs.Ytpmkjeihbddfpaa
open Go.RowKit
set_option linter.unusedVariables false
set_option linter.unusedSimpArgs false

variable {HS : HeapM → St → Cf → Nat → Prop} {Room : St → Prop} {B x : Nat} {c : Cf} {k f i : Nat} {H : List Nat} {v : Value} {W W' : World}

set_option maxRecDepth 100000 in
set_option maxHeartbeats 3200000 in
theorem built_any (P : Pact3 HS Room) (p : Plan HS B x c k H v W) (hk : k < 99) (hl : H.length ≤ 13) (hd : c.deep = 16) (z : Nat) (hz : z ≤ 2000000000000000) :
    Calls Try.prog 11 #[.pointer (some ⟨x, 0, none⟩), v, .int .i64 z] W fun e w' => ∃ H' v', e = .returned (.tuple #[v', .bool true]) ∧ Plan HS B x c (k + 1) H' v' w' ∧ H'.length ≤ H.length + 1 ∧ Below B W w' := by
  obtain ⟨ao, cap, rfl⟩ := p.slice
  have NEW : Hid (∀ f : Nat, f ≤ 4 → DoTo x 2 f W fun w' => Mid HS B x c k f 0 H (.slice ao H.length cap) w' ∧ Below B W w') := fun f hf => p.new P hk hl hd hf
  obtain ⟨f, hf⟩ : ∃ f, z % 5 = f := ⟨_, rfl⟩
  have hf4 : f ≤ 4 := by omega
  obtain ⟨z1, hz1⟩ : ∃ z1, z / 5 = z1 := ⟨_, rfl⟩
  have e1 : (z : Int) % 5 = f := by omega
  have e2 : (z : Int) / 5 = z1 := by omega
  have N0 : Hid _ := NEW.out f hf4
  unfold DoTo at N0
  clear p NEW
  go_enter Try.func11, Try.ntmps11
  go_wp2_with fail
  refine Calls.mono N0.out ?_
  rintro e w1 ⟨rfl, hm1, hb1⟩
  have M1 : Hid (Mid HS B x c k f 0 H (.slice ao H.length cap) w1 ∧ Below B W w1) := ⟨hm1, hb1⟩
  clear hm1 hb1 N0
  have ST : Hid (∀ j wr, Mid HS B x c k f j H (.slice ao H.length cap) wr → ∀ kk (hj : kk < H.length), ∃ g n, ao = some ⟨g, 0, none⟩ ∧ wr.cell? ⟨g, kk, none⟩ = some (.int .i64 (n : Nat)) ∧ wr.frozen? ⟨g, kk, none⟩ = false ∧ n ≤ 7 ∧
      (n < 7 → j < f → ∀ W1, Below (wr.setCell ⟨g, kk, none⟩ (.int .i64 ((n : Int) + 1))).heap.size (wr.setCell ⟨g, kk, none⟩ (.int .i64 ((n : Int) + 1))) W1 →
        DoTo x 3 0 W1 fun w2 => ∀ W2, Below w2.heap.size w2 W2 → DoTo x 3 ((H.length : Int) - kk + 1) W2 fun w3 => ∀ W3, Below w3.heap.size w3 W3 → DoTo x 8 j W3 fun w4 => Mid HS B x c k f (j + 1) H (.slice ao H.length cap) w4 ∧ Below B wr w4)) := by
    intro j wr hm kk hkk
    obtain ⟨g, cap', n, hv, hg, h1, h2, h3, h4⟩ := hm.store P hk hl hd kk hkk
    simp at hv
    exact ⟨g, n, hv.1, h1, h2, h3, fun a b => h4 a b hf4⟩
  unfold DoTo at ST
  have PP : Hid (Pact3 HS Room) := P
  have hk' : Hid (k < 99) := hk
  clear P hk
  go_wp2
  go_loopw [2, 11] (fun zz ii wr => ∃ j y : Nat, j ≤ f ∧ ii = .int .i64 j ∧ zz = .int .i64 y ∧ y ≤ 2000000000000000 ∧ Mid HS B x c k f j H (.slice ao H.length cap) wr ∧ Below B W wr) (fun _ ii _ => f - (intOf ii).toNat)
  case atStart => exact ⟨0, z1, Nat.zero_le _, rfl, rfl, by omega, M1.out.1, M1.out.2⟩
  case round =>
    obtain ⟨j, y, hj, rfl, rfl, hy, hmid, hbel⟩ := hrel
    have M : Hid (Mid HS B x c k f j H (.slice ao H.length cap) wr ∧ Below B W wr) := ⟨hmid, hbel⟩
    clear hmid hbel M1
    by_cases hlt : j < f
    · have hjI : (j : Int) < f := by omega
      obtain ⟨kk, hkk⟩ : ∃ kk, y % (H.length + 1) = kk := ⟨_, rfl⟩
      have hkl : kk ≤ H.length := by have := Nat.mod_lt y (show 0 < H.length + 1 by omega); omega
      have q1 : (y : Int) % ((H.length : Int) + 1) = kk := by rw [← hkk]; push_cast; rfl
      obtain ⟨y2, hy2⟩ : ∃ y2, y / 2 = y2 := ⟨_, rfl⟩
      have q2 : (y : Int) / 2 = y2 := by omega
      have hyy : y2 ≤ 2000000000000000 := by omega
      by_cases hin : kk < H.length
      · obtain ⟨g, n, rfl, cn, fn, hn7, S0⟩ := ST.out j wr M.out.1 kk hin
        have S1 : Hid _ := S0
        have hinI : (kk : Int) < H.length := by omega
        clear S0 hkk
        by_cases h7 : n < 7
        · have S2 : Hid _ := S1.out h7 hlt
          have h7I : (n : Int) < 7 := by omega
          clear S1
          go_wp2_with fail
          simp only [q1]
          refine Calls.mono (S2.out _ (Below.refl _ _)) ?_
          rintro e w2 ⟨rfl, hs2⟩
          have S3 : Hid _ := hs2
          clear hs2 S2 cn fn
          go_wp2_with fail
          refine Calls.mono (S3.out _ (Below.refl _ _)) ?_
          rintro e w3 ⟨rfl, hs3⟩
          have S4 : Hid _ := hs3
          clear hs3 S3
          go_wp2_with fail
          refine Calls.mono (S4.out _ (Below.refl _ _)) ?_
          rintro e w4 ⟨rfl, hm4, hb4⟩
          have M4 : Hid (Mid HS B x c k f (j + 1) H (.slice (some ⟨g, 0, none⟩) H.length cap) w4 ∧ Below B W w4) := ⟨hm4, M.out.2.trans hb4⟩
          clear hm4 hb4 S4
          go_wp2
          go_roundw
          case rel => exact ⟨j + 1, y2, by omega, by go_num, rfl, hyy, M4.out.1, M4.out.2⟩
          case measure => simp [intOf]; omega
        · have h7d : decide ((n : Int) < 7) = false := by simp; omega
          have M4 : Hid (Mid HS B x c k f (j + 1) H (.slice (some ⟨g, 0, none⟩) H.length cap) wr ∧ Below B W wr) := ⟨M.out.1.skip, M.out.2⟩
          clear S1
          go_wp2
          go_roundw
          case rel => exact ⟨j + 1, y2, by omega, by go_num, rfl, hyy, M4.out.1, M4.out.2⟩
          case measure => simp [intOf]; omega
      · have hind : decide ((kk : Int) < H.length) = false := by simp; omega
        have M4 : Hid (Mid HS B x c k f (j + 1) H (.slice ao H.length cap) wr ∧ Below B W wr) := ⟨M.out.1.skip, M.out.2⟩
        clear hkk
        go_wp2
        go_roundw
        case rel => exact ⟨j + 1, y2, by omega, by go_num, rfl, hyy, M4.out.1, M4.out.2⟩
        case measure => simp [intOf]; omega
    · obtain rfl : j = f := by omega
      obtain ⟨R, hR, hrow, hgrow⟩ := M.out.1.grown
      have GR : Hid _ := hgrow
      have OW : Hid (wr.ownsRow B 3 1 (.slice ao H.length cap) H.length (rowOf R)) := hrow
      have hBr : B ≤ wr.heap.size := M.out.1.size
      obtain ⟨i1, hi1, hy0, hy1, hy2⟩ := info_parts infoInt
      have IN : Hid _ := And.intro hi1 (And.intro hy0 (And.intro hy1 hy2))
      clear hi1 hy0 hy1 hy2 hgrow hrow ST
      go_wp2_with (at_builtin; refine wpList_append_lies _ rfl (.tmp 101) (.tmp 102) 24 rfl B 3 i1 _ 1 8 Try.underlying24 IN.out.1 IN.out.2.1 IN.out.2.2.1 IN.out.2.2.2 rfl (by decide) _ _ _ rfl (OW.out.alloc _) ⟨wr.heap.size, 0, none⟩ 1 1 [.int .i64 (0 : Nat)] rfl rfl ?c1 ?c2 (by decide) ?c3 ?c4 ?c5 (wr.heap.size + 1) (by simp) ?_)
      case c1 => exact news_new wr [.int .i64 (0 : Nat)] 3
      case c2 => intro u hu; simp at hu; subst hu; rfl
      case c3 => unfold maxLen; omega
      case c4 => omega
      case c5 => simp; omega
      intro g' cap' w2 hown hgr hlie _
      obtain ⟨hpl, hbl⟩ := GR.out _ ((Below.refl _ _).alloc (Nat.le_refl _) _) w2 g' cap' hown hgr (by simpa using hlie)
      have PL : Hid (Plan HS B x c (k + 1) (H ++ [k + 1]) (.slice (some ⟨g', 0, none⟩) (H.length + 1) cap') w2 ∧ Below B W w2) := ⟨hpl, M.out.2.trans hbl⟩
      have hcp : H.length + 1 ≤ cap' := by
        have := PL.out.1.room (ao := some ⟨g', 0, none⟩) (cap := cap') (by simp)
        simpa using this
      have hcI : (H.length : Int) ≤ cap' := by omega
      clear hown hgr hlie hpl hbl GR OW IN M hR
      by_cases h3 : y % 3 = 0
      · have q0 : (y : Int) % 3 = 0 := by omega
        by_cases h0 : H.length = 0
        · have h0I : decide ((1 : Int) < (H.length : Int) + 1) = false := by simp; omega
          go_wp2
          go_ret2
          exact ⟨H ++ [k + 1], _, rfl, PL.out.1, by simp, PL.out.2⟩
        · obtain ⟨H0, b0, rfl⟩ : ∃ H0 b0, H = H0 ++ [b0] := ⟨H.dropLast, H.getLast (by intro e; rw [e] at h0; exact h0 rfl), (List.dropLast_concat_getLast _).symm⟩
          have hlen : (H0 ++ [b0]).length = H0.length + 1 := by simp
          have UN : Hid _ := Plan.under (H := H0) (b := b0) (a := k + 1) (ao := some ⟨g', 0, none⟩) (cap := cap') PP.out (by
            have := PL.out.1
            rw [hlen] at this
            simpa using this) (by omega) hd
          have PL2 := PL.out.2
          have hlI : (1 : Int) < ((H0 ++ [b0]).length : Int) + 1 := by omega
          rw [hlen] at hlI hl ⊢
          have B2 : Hid (Below B W w2) := PL2
          clear PL PL2 h0
          unfold DoTo at UN
          have hL : ((H0 ++ [b0]).length : Int) = (H0.length : Int) + 1 := by omega
          go_wp2_with fail
          refine Calls.mono UN.out ?_
          rintro e w3 ⟨rfl, hs3⟩
          have S3 : Hid _ := hs3
          clear hs3 UN
          go_wp2_with fail
          refine Calls.mono (S3.out _ (Below.refl _ _)) ?_
          rintro e w4 ⟨rfl, hs4⟩
          have S4 : Hid _ := hs4
          clear hs4 S3
          go_wp2_with fail
          refine Calls.mono (S4.out _ (Below.refl _ _)) ?_
          rintro e w5 ⟨rfl, hs5⟩
          obtain ⟨g, n, hgg, c1, ⟨mm, c0⟩, f0, hp5, hb5⟩ := hs5 w5 (Below.refl _ _)
          simp at hgg
          subst hgg
          have P5 : Hid (Plan HS B x c (k + 1) (H0 ++ [k + 1]) (.slice (some ⟨g', 0, none⟩) (H0.length + 1) cap') (w5.setCell ⟨g', H0.length, none⟩ (.int .i64 n)) ∧ Below B W (w5.setCell ⟨g', H0.length, none⟩ (.int .i64 n))) := ⟨hp5, B2.out.trans hb5⟩
          clear hs5 hp5 hb5 S4 B2
          go_wp2
          go_ret2
          exact ⟨H0 ++ [k + 1], _, rfl, P5.out.1, by simp, P5.out.2⟩
      · have q0 : ((y : Int) % 3 == 0) = false := by simp; omega
        by_cases h4 : y % 3 = 1
        · have q1 : (y : Int) % 3 = 1 := by omega
          have DR : Hid _ := Plan.drop PP.out PL.out.1
          have B2 : Hid (Below B W w2) := PL.out.2
          clear PL
          unfold DoTo at DR
          go_wp2_with fail
          refine Calls.mono DR.out ?_
          rintro e w3 ⟨rfl, hp3, hb3⟩
          have P3 : Hid (Plan HS B x c (k + 1) H (.slice (some ⟨g', 0, none⟩) H.length cap') w3 ∧ Below B W w3) := ⟨hp3, B2.out.trans hb3⟩
          clear hp3 hb3 DR B2
          go_wp2
          go_ret2
          exact ⟨H, _, rfl, P3.out.1, by omega, P3.out.2⟩
        · have q1 : ((y : Int) % 3 == 1) = false := by simp; omega
          go_wp2
          go_ret2
          exact ⟨H ++ [k + 1], _, rfl, PL.out.1, by simp, PL.out.2⟩

end Go.Proofs.Ytpmkjeihbddfpaa

/- OUR OWN. Drained: emptied. -/
namespace Go.Proofs.Ytpmkjeihbddfpaa
open Go.RowKit
set_option linter.unusedVariables false
set_option linter.unusedSimpArgs false

variable {HS : HeapM → St → Cf → Nat → Prop} {Room : St → Prop} {B x : Nat} {c : Cf} {k : Nat} {H : List Nat} {v : Value} {W W' : World}

/-- at most n are on the stack -/
structure Low (HS : HeapM → St → Cf → Nat → Prop) (B x : Nat) (c : Cf) (k n : Nat) (K : List (Nat × Obj)) (W : World) : Prop where
  all : ∃ hm s H, KAt HS B W x hm s c 99 ∧ Kept K x hm W ∧ Built s k H ∧ H.length ≤ n
/-- no root has any -/
structure Bare (HS : HeapM → St → Cf → Nat → Prop) (B x : Nat) (c : Cf) (k : Nat) (K : List (Nat × Obj)) (W : World) : Prop where
  all : ∃ hm s, KAt HS B W x hm s c 99 ∧ Kept K x hm W ∧ Calm s ∧ usedC s = k ∧ s.stack = []

variable {K : List (Nat × Obj)}
theorem Plan.low (p : Plan HS B x c k H v W) : Low HS B x c k H.length [] W := by
  obtain ⟨s, r, h1, _⟩ := p.all
  obtain ⟨hm, ka, _⟩ := r.at_
  exact ⟨hm, s, H, ka, (fun p hp => by cases hp), h1, Nat.le_refl _⟩
theorem Low.mono {n m : Nat} (p : Low HS B x c k n K W) (h : n ≤ m) : Low HS B x c k m K W := by
  obtain ⟨hm, s, H, ka, hk, h1, h2⟩ := p.all
  exact ⟨hm, s, H, ka, hk, h1, by omega⟩
theorem Low.below {n : Nat} (p : Low HS B x c k n K W) (hb : Below W.heap.size W W') : Low HS B x c k n K W' := by
  obtain ⟨hm, s, H, ka, hk, h1, h2⟩ := p.all
  exact ⟨hm, s, H, ka.below hb, hk.below hb, h1, h2⟩
theorem Low.box {n : Nat} (p : Low HS B x c k n K W) (ob : Obj) : Low HS B x c k n ((W.heap.size, ob) :: K) (W.alloc ob) := by
  obtain ⟨hm, s, H, ka, hk, h1, h2⟩ := p.all
  exact ⟨hm, s, H, ka.below ((Below.refl _ _).alloc (Nat.le_refl _) _), hk.box ka.here ob, h1, h2⟩
theorem Low.size {n : Nat} (p : Low HS B x c k n K W) : B ≤ W.heap.size := by
  obtain ⟨hm, s, H, ka, _⟩ := p.all
  exact ka.size
theorem Low.kept {n : Nat} (p : Low HS B x c k n K W) {L : Nat} {ob : Obj} (h : (L, ob) ∈ K) : W.heap[L]? = some ob := by
  obtain ⟨hm, s, H, ka, hk, _⟩ := p.all
  exact (hk _ h).2

theorem Low.drop (P : Pact3 HS Room) {n : Nat} (p : Low HS B x c k n K W) :
    Calls Try.prog 10 #[.pointer (some ⟨x, 0, none⟩), .int .i64 4, .int .i64 0] W fun r w' => (∃ a e : Int, r = .returned (.tuple #[.int .i64 a, .int .i64 e])) ∧ Low HS B x c k (n - 1) K w' ∧ Below B W w' := by
  obtain ⟨hm, s, H, ka, hk, h1, h2⟩ := p.all
  refine (k_do3 P ka 4 0 (fits_n (n := 4) (by omega)) (fits_n (n := 0) (by omega)) (no2 (by decide))).mono ?_
  rintro r w' ⟨hr, st⟩
  obtain ⟨hm', t, k'⟩ := st.at_
  refine ⟨⟨_, _, hr⟩, ?_, st.keep⟩
  rcases Nat.eq_zero_or_pos H.length with h0 | h0
  · obtain rfl : H = [] := List.eq_nil_of_length_eq_zero h0
    have e : (doS c s 4 0).1 = s := by
      have e1 : doS c s 4 0 = dropS s := by simp [doS]
      rw [e1]
      unfold dropS
      rw [if_pos (by rw [h1.stack]; simp [refsOf])]
    rw [e] at k'
    exact ⟨hm', s, [], k', hk.step t, h1, by simp⟩
  · obtain ⟨H0, b0, rfl⟩ : ∃ H0 b0, H = H0 ++ [b0] := ⟨H.dropLast, H.getLast (by intro e; rw [e] at h0; simp at h0), (List.dropLast_concat_getLast _).symm⟩
    obtain ⟨s', e, b', _⟩ := h1.drop (c := c) 0
    rw [e] at k'
    exact ⟨hm', s', H0, k', hk.step t, b', by simp at h2; omega⟩

theorem Low.nil (P : Pact3 HS Room) (p : Low HS B x c k 0 K W) :
    DoTo x 0 0 W fun w1 => ∀ W1, Below w1.heap.size w1 W1 → DoTo x 6 0 W1 fun w2 => Bare HS B x c k K w2 ∧ Below B W w2 := by
  obtain ⟨hm, s, H, ka, hk, h1, h2⟩ := p.all
  obtain rfl : H = [] := List.eq_nil_of_length_eq_zero (by omega)
  obtain ⟨s1, s2, e1, e2, _, _, o1, _, hs2, hg2, o2, _⟩ := h1.nil (c := c) ka.cf.deep.1
  refine (k_do3 P ka 0 0 (fits_n (n := 0) (by omega)) (fits_n (n := 0) (by omega)) (no2 (by decide))).mono ?_
  rintro r w1 ⟨hr, st⟩
  obtain ⟨hm1, t1, k1⟩ := st.at_
  rw [e1] at hr k1
  refine ⟨hr, fun W1 hb1 => ?_⟩
  refine (k_do3 P (k1.below hb1) 6 0 (fits_n (n := 6) (by omega)) (fits_n (n := 0) (by omega)) (no2 (by decide))).mono ?_
  rintro r w2 ⟨hr, st2⟩
  obtain ⟨hm2, t2, k2⟩ := st2.at_
  rw [e2] at hr k2
  exact ⟨hr, ⟨hm2, s2, k2, ((hk.step t1).below hb1).step t2, h1.calm o2 hs2 hg2, h1.used o2, hs2⟩, (st.keep.trans (hb1.mono k1.size)).trans st2.keep⟩

theorem Bare.below (p : Bare HS B x c k K W) (hb : Below W.heap.size W W') : Bare HS B x c k K W' := by
  obtain ⟨hm, s, ka, hk, h⟩ := p.all
  exact ⟨hm, s, ka.below hb, hk.below hb, h⟩
theorem Bare.box (p : Bare HS B x c k K W) (ob : Obj) : Bare HS B x c k ((W.heap.size, ob) :: K) (W.alloc ob) := by
  obtain ⟨hm, s, ka, hk, h⟩ := p.all
  exact ⟨hm, s, ka.below ((Below.refl _ _).alloc (Nat.le_refl _) _), hk.box ka.here ob, h⟩
theorem Bare.less {K' : List (Nat × Obj)} (p : Bare HS B x c k K W) (h : ∀ q ∈ K', q ∈ K) : Bare HS B x c k K' W := by
  obtain ⟨hm, s, ka, hk, h1⟩ := p.all
  exact ⟨hm, s, ka, fun q hq => hk q (h q hq), h1⟩
theorem Bare.size (p : Bare HS B x c k K W) : B ≤ W.heap.size := by
  obtain ⟨hm, s, ka, _⟩ := p.all
  exact ka.size
theorem Bare.kept (p : Bare HS B x c k K W) {L : Nat} {ob : Obj} (h : (L, ob) ∈ K) : W.heap[L]? = some ob := by
  obtain ⟨hm, s, ka, hk, _⟩ := p.all
  exact (hk _ h).2
theorem Bare.drop (P : Pact3 HS Room) (p : Bare HS B x c k K W) :
    Calls Try.prog 10 #[.pointer (some ⟨x, 0, none⟩), .int .i64 4, .int .i64 0] W fun r w' => r = .returned (.tuple #[.int .i64 0, .int .i64 3]) ∧ Bare HS B x c k K w' ∧ Below B W w' := by
  obtain ⟨hm, s, ka, hk, h1, h2, h3⟩ := p.all
  refine (k_do3 P ka 4 0 (fits_n (n := 4) (by omega)) (fits_n (n := 0) (by omega)) (no2 (by decide))).mono ?_
  rintro r w' ⟨hr, st⟩
  obtain ⟨hm', t, k'⟩ := st.at_
  have e : doS c s 4 0 = (s, 0, 3) := by
    have e1 : doS c s 4 0 = dropS s := by simp [doS]
    rw [e1]
    unfold dropS
    rw [if_pos (by rw [h3]; simp)]
  rw [e] at hr k'
  exact ⟨hr, ⟨hm', s, k', hk.step t, h1, h2, h3⟩, st.keep⟩

theorem countTo_none {p : Nat → Bool} (h : ∀ b, p b = false) (n : Nat) : countTo p n = 0 := by
  unfold countTo
  exact List.countP_eq_zero.2 fun j _ => by rw [h]; simp
/-- what Gauge tells -/
theorem Bare.gauge (P : Pact3 HS Room) (p : Bare HS B x c k K W) :
    Calls Try.prog 13 #[.pointer (some ⟨x, 0, none⟩)] W fun e w' => (∃ a b d : Int, e = .returned (.agg #[.int .i64 (99 - (k : Int)), .int .i64 a, .int .i64 b, .int .i64 d, .int .i64 0])) ∧ Bare HS B x c k K w' ∧ Below B W w' ∧ k ≤ 99 := by
  obtain ⟨hm, s, ka, hk, h1, h2, h3⟩ := p.all
  refine (k_gauge3 P ka).mono ?_
  rintro e w' ⟨hr, st⟩
  obtain ⟨hm', t, k'⟩ := st.at_
  have hu := used_free s
  rw [ka.good.sN, h2] at hu
  have e1 : (gaugeS s).1 = freeN s := rfl
  have e5 : (gaugeS s).2.2.2.2 = 0 := countTo_none (fun b => by unfold St.stucks; rw [h1.loose]; simp) _
  refine ⟨⟨(gaugeS s).2.1, (gaugeS s).2.2.1, (gaugeS s).2.2.2.1, ?_⟩, ⟨hm', s, k', hk.step t, h1, h2, h3⟩, st.keep, by omega⟩
  rw [hr, e1, e5, show (freeN s : Int) = 99 - (k : Int) by omega]
  rfl
/-- what a safepoint frees -/
theorem Bare.safe (P : Pact3 HS Room) (p : Bare HS B x c k K W) {u : Nat} (hu : c.budget = u) :
    Calls Try.prog 14 #[.pointer (some ⟨x, 0, none⟩)] W fun e w' => e = .returned (.int .i64 (min u k : Nat)) ∧ Bare HS B x c (k - min u k) K w' ∧ Below B W w' := by
  obtain ⟨hm, s, ka, hk, h1, h2, h3⟩ := p.all
  obtain ⟨g1, g2⟩ := calm_safe h1 ka.good c
  have f1 := (freeN_safe ka.good c).1
  refine (k_safe3 P ka).mono ?_
  rintro e w' ⟨hr, st⟩
  obtain ⟨hm', t, k'⟩ := st.at_
  rw [h2, hu, Int.toNat_natCast] at g1
  have u1 := used_free s
  have u2 := used_free (s.safe c).1
  rw [ka.good.sN] at u1
  rw [k'.good.sN] at u2
  refine ⟨by rw [hr, g1], ⟨hm', _, k', hk.step t, g2, by omega, ?_⟩, st.keep⟩
  rw [(same_safe ka.good c).stack]; exact h3

set_option maxRecDepth 100000 in
set_option maxHeartbeats 1600000 in
theorem emptied_any (P : Pact3 HS Room) (p : Low HS B x c k 16 K W) (b u z o : Int) :
    Calls Try.prog 12 #[.pointer (some ⟨x, 0, none⟩), .agg #[.int .i64 b, .int .i64 16, .int .i64 1, .int .i64 u, .int .i64 z, .int .i64 o]] W fun e w' => e = .returned (.bool true) ∧ Bare HS B x c k K w' ∧ Below B W w' := by
  obtain ⟨K', hK'⟩ : ∃ K', (W.heap.size, Obj.cells #[.int .i64 b, .int .i64 16, .int .i64 1, .int .i64 u, .int .i64 z, .int .i64 o] 23) :: K = K' := ⟨_, rfl⟩
  have DR : Hid (∀ n V, Low HS B x c k n K' V → Calls Try.prog 10 #[.pointer (some ⟨x, 0, none⟩), .int .i64 4, .int .i64 0] V fun r w' => (∃ a e : Int, r = .returned (.tuple #[.int .i64 a, .int .i64 e])) ∧ Low HS B x c k (n - 1) K' w' ∧ Below B V w') := fun n V q => q.drop P
  have NI : Hid (∀ V, Low HS B x c k 0 K' V → DoTo x 0 0 V fun w1 => ∀ W1, Below w1.heap.size w1 W1 → DoTo x 6 0 W1 fun w2 => Bare HS B x c k K' w2 ∧ Below B V w2) := fun V q => q.nil P
  have BD : Hid (∀ V, Bare HS B x c k K' V → Calls Try.prog 10 #[.pointer (some ⟨x, 0, none⟩), .int .i64 4, .int .i64 0] V fun r w' => r = .returned (.tuple #[.int .i64 0, .int .i64 3]) ∧ Bare HS B x c k K' w' ∧ Below B V w') := fun V q => q.drop P
  have LESS : Hid (∀ V, Bare HS B x c k K' V → Bare HS B x c k K V) := fun V q => q.less fun r hr => by rw [← hK']; exact List.mem_cons_of_mem _ hr
  have LB : Hid (∀ n V, Low HS B x c k n K' V → V.heap[W.heap.size]? = some (.cells #[.int .i64 b, .int .i64 16, .int .i64 1, .int .i64 u, .int .i64 z, .int .i64 o] 23)) := fun n V q => q.kept (by rw [← hK']; exact List.mem_cons_self)
  have BB : Hid (∀ V, Bare HS B x c k K' V → V.heap[W.heap.size]? = some (.cells #[.int .i64 b, .int .i64 16, .int .i64 1, .int .i64 u, .int .i64 z, .int .i64 o] 23)) := fun V q => q.kept (by rw [← hK']; exact List.mem_cons_self)
  unfold DoTo at NI
  have L0 : Hid (Low HS B x c k 16 K' (W.alloc (.cells #[.int .i64 b, .int .i64 16, .int .i64 1, .int .i64 u, .int .i64 z, .int .i64 o] 23)) ∧ Below B W (W.alloc (.cells #[.int .i64 b, .int .i64 16, .int .i64 1, .int .i64 u, .int .i64 z, .int .i64 o] 23))) := ⟨by rw [← hK']; exact p.box _, (Below.refl _ _).alloc p.size _⟩
  clear P p hK'
  go_enter Try.func12, Try.ntmps12
  go_wp2
  go_loopw [5] (fun i wr => ∃ j : Nat, j ≤ 16 ∧ i = .int .i64 j ∧ Low HS B x c k (16 - j) K' wr ∧ Below B W wr) (fun i _ => 16 - (intOf i).toNat)
  case atStart => exact ⟨0, Nat.zero_le _, rfl, L0.out.1, L0.out.2⟩
  case round =>
    obtain ⟨j, hj, rfl, hlow, hbel⟩ := hrel
    have l1 : wr.cell? ⟨W.heap.size, 1, none⟩ = some (.int .i64 16) := cell_of_heap (LB.out _ _ hlow) rfl
    have l2 : wr.cell? ⟨W.heap.size, 2, none⟩ = some (.int .i64 1) := cell_of_heap (LB.out _ _ hlow) rfl
    have M : Hid (Low HS B x c k (16 - j) K' wr ∧ Below B W wr) := ⟨hlow, hbel⟩
    clear hlow hbel L0
    by_cases hlt : j < 16
    · have hjI : (j : Int) < 16 := by omega
      go_wp2_with fail
      refine Calls.mono (DR.out _ _ M.out.1) ?_
      rintro e w1 ⟨⟨a, e, rfl⟩, hl1, hb1⟩
      have M1 : Hid (Low HS B x c k (16 - (j + 1)) K' w1 ∧ Below B W w1) := ⟨hl1.mono (by omega), M.out.2.trans hb1⟩
      clear hl1 hb1 l1 l2
      go_wp2
      go_roundw
      case rel => exact ⟨j + 1, by omega, by go_num, M1.out.1, M1.out.2⟩
      case measure => simp [intOf]; omega
    · have hjd : ¬ (j : Int) < 16 := by omega
      have M0 : Hid (Low HS B x c k 0 K' wr ∧ Below B W wr) := ⟨M.out.1.mono (by omega), M.out.2⟩
      clear hlt hj M
      go_wp2
      clear l1 l2 hjd
      go_loopw [6] (fun i wq => ∃ j : Nat, j ≤ 1 ∧ i = .int .i64 j ∧ (j = 0 → Low HS B x c k 0 K' wq) ∧ (j = 1 → Bare HS B x c k K' wq) ∧ Below B W wq) (fun i _ => 1 - (intOf i).toNat)
      case atStart => exact ⟨0, by omega, rfl, fun _ => M0.out.1, (fun h => by cases h), M0.out.2⟩
      case round =>
        obtain ⟨q, hq, rfl, hlow, hbare, hbel⟩ := hrel
        rcases Nat.eq_zero_or_pos q with h0 | h0
        · subst h0
          have m2 : wr.cell? ⟨W.heap.size, 2, none⟩ = some (.int .i64 1) := cell_of_heap (LB.out _ _ (hlow rfl)) rfl
          have N1 : Hid _ := NI.out _ (hlow rfl)
          have BE : Hid (Below B W wr) := hbel
          clear hlow hbare hbel
          go_wp2_with fail
          refine Calls.mono N1.out ?_
          rintro e w1 ⟨rfl, hs1⟩
          have S1 : Hid _ := hs1
          clear hs1 N1 m2
          go_wp2_with fail
          refine Calls.mono (S1.out _ (Below.refl _ _)) ?_
          rintro e w2 ⟨rfl, hb2, hl2⟩
          have M2 : Hid (Bare HS B x c k K' w2 ∧ Below B W w2) := ⟨hb2, BE.out.trans hl2⟩
          clear hb2 hl2 S1
          go_wp2
          go_roundw
          case rel => exact ⟨1, by omega, by go_num, (fun h => by cases h), fun _ => M2.out.1, M2.out.2⟩
          case measure => simp [intOf]
        · obtain rfl : q = 1 := by omega
          have m2 : wr.cell? ⟨W.heap.size, 2, none⟩ = some (.int .i64 1) := cell_of_heap (BB.out _ (hbare rfl)) rfl
          have M2 : Hid (Bare HS B x c k K' wr ∧ Below B W wr) := ⟨hbare rfl, hbel⟩
          clear hlow hbare hbel
          go_wp2_with fail
          refine Calls.mono (BD.out _ M2.out.1) ?_
          rintro e w1 ⟨rfl, hb1, hl1⟩
          have M3 : Hid (Bare HS B x c k K w1 ∧ Below B W w1) := ⟨LESS.out _ hb1, M2.out.2.trans hl1⟩
          clear hb1 hl1
          go_wp2
          go_ret
          exact ⟨rfl, M3.out.1, M3.out.2⟩

end Go.Proofs.Ytpmkjeihbddfpaa

/- OUR OWN. Drained, the walk. -/
namespace Go.Proofs.Ytpmkjeihbddfpaa
open Go.RowKit
set_option linter.unusedVariables false
set_option linter.unusedSimpArgs false

variable {HS : HeapM → St → Cf → Nat → Prop} {Room : St → Prop}

theorem plan_start {B x u z o : Nat} {hm : HeapM} {W : World} (ka : KAt HS B W x hm (st0 ⟨99, 16, 1, u, z, o⟩) (CfgM.cf ⟨99, 16, 1, u, z, o⟩) 99) : Plan HS B x (CfgM.cf ⟨99, 16, 1, u, z, o⟩) 0 [] (.slice none 0 0) W := by
  have e : ∀ b, (st0 ⟨99, 16, 1, u, z, o⟩).ob b = Ob.free := fun b => by
    unfold St.ob st0
    rw [List.getD_eq_getElem?_getD, List.getElem?_replicate]
    split <;> rfl
  refine ⟨_, RowAt.start ka, ⟨ka.good, rfl, by simp [st0], fun b => by rw [e]; rfl, fun a b v hv => ?_, fun b => ?_, by omega⟩, List.nodup_nil, (fun b hb => by cases hb)⟩
  · rw [e] at hv; simp [Ob.free] at hv
  · rw [e]; simp [Ob.free]; omega

set_option maxHeartbeats 16000000 in
set_option maxRecDepth 100000 in
theorem drained_walk (P : Pact3 HS Room) (b s g u z o : Int) (fb : fits b) (fs : fits s) (fg : fits g) (fu : fits u) (fz : fits z) (fo : fits o)
    (p0 : Option Addr) (plen pcap : Nat) (hpl : plen ≤ 20000000000000) (w : World) (ints : Nat → Int) (HP : IntsIn w p0 plen ints) :
    Calls Try.prog 3 #[.agg #[.int .i64 b, .int .i64 s, .int .i64 g, .int .i64 u, .int .i64 z, .int .i64 o], .slice p0 plen pcap] w
      fun e w' => e = .returned (.bool true) ∧ Below w.heap.size w w' := by
  have CF : Hid (∀ W, Calls Try.prog 7 #[.agg #[.int .i64 b, .int .i64 s, .int .i64 g, .int .i64 u, .int .i64 z, .int .i64 o]] W fun e w' => (∃ k : CfgM, e = .returned k.val ∧ k.ok) ∧ Below W.heap.size W w') := fun W => config_any b s g u z o W fb fs fg fu fz fo
  have PK : Hid (∀ (c : Int) (n : Nat) (W : World), fits c → 0 < n → n ≤ 2000000000000000 → Calls Try.prog 8 #[.int .i64 c, .int .i64 n] W fun r w' => r = .returned (.int .i64 (pickN c n)) ∧ w' = W) := fun c n W hc hn hm => kpick_any c n W hc hn hm
  have FR : Hid (∀ (k : CfgM) (W : World), k.ok → Calls Try.prog 9 #[.agg #[.int .i64 k.b, .int .i64 k.s, .int .i64 k.g, .int .i64 k.u, .int .i64 k.z, .int .i64 k.o]] W fun e w' => ∃ x hm, e = .returned (.pointer (some ⟨x, 0, none⟩)) ∧ Below W.heap.size W w' ∧ KAt HS W.heap.size w' x hm (st0 k) k.cf k.b) := fun k W hk => fresh_keep P k hk W
  have H : Hid (IntsIn w p0 plen ints ∧ Pact3 HS Room) := ⟨HP, P⟩
  clear HP P fb fs fg fu fz fo
  go_enter Try.func3, Try.ntmps3
  go_wp2_with fail
  refine Calls.mono (CF.out _) ?_
  rintro e w1 ⟨⟨k, rfl, hk⟩, hb⟩
  have hL := boxed' hb
  obtain ⟨kb, ks, kg, ku, kz, ko⟩ := k
  have hB := CfgM.bounds hk
  simp only at hB
  have hs1 : w.heap.size + 1 ≤ w1.heap.size := by have := hb.size; simpa using this
  have B1 : Hid (Below w.heap.size w w1) := ((Below.refl _ _).alloc (Nat.le_refl _) _).trans (hb.mono (by simp))
  obtain ⟨x0, x1, x2, x3, x4, x5, xf⟩ := box6 hL
  have f0 := xf 0
  have f1 := xf 1
  have f2 := xf 2
  have f3 := xf 3
  have f4 := xf 4
  have f5 := xf 5
  have HL : Hid (w1.heap[w.heap.size]? = some (.cells #[.int .i64 b, .int .i64 s, .int .i64 g, .int .i64 u, .int .i64 z, .int .i64 o] 23)) := hL
  clear hb hL hk xf CF
  have hpz : pickN (kz : Int) 82 < 82 := pickN_lt _ _ (by decide)
  have P3 : Hid (∀ W, Calls Try.prog 8 #[.int .i64 kz, .int .i64 82] W fun r w' => r = .returned (.int .i64 (pickN (kz : Int) 82)) ∧ w' = W) := fun W => PK.out (kz : Int) 82 W ⟨by omega, by omega⟩ (by decide) (by decide)
  obtain ⟨ez, hez⟩ : ∃ ez, pickN (kz : Int) 82 = ez := ⟨_, rfl⟩
  rw [hez] at P3 hpz
  clear hez
  unfold CfgM.val
  simp only
  go_wp2_with fail
  obtain ⟨w2, hw2⟩ : ∃ w2, (((((((((w1.setCell ⟨w.heap.size, 0, none⟩ (.int .i64 kb)).setCell ⟨w.heap.size, 1, none⟩ (.int .i64 ks)).setCell ⟨w.heap.size, 2, none⟩ (.int .i64 kg)).setCell ⟨w.heap.size, 3, none⟩ (.int .i64 ku)).setCell ⟨w.heap.size, 4, none⟩ (.int .i64 kz)).setCell ⟨w.heap.size, 5, none⟩ (.int .i64 ko)).setCell ⟨w.heap.size, 0, none⟩ (.int .i64 99)).setCell ⟨w.heap.size, 1, none⟩ (.int .i64 16)).setCell ⟨w.heap.size, 2, none⟩ (.int .i64 1)) = w2 := ⟨_, rfl⟩
  rw [hw2]
  have hL2 : w2.heap[w.heap.size]? = some (.cells #[.int .i64 99, .int .i64 16, .int .i64 1, .int .i64 ku, .int .i64 kz, .int .i64 ko] 23) := by
    have h6 := set6_heap HL.out (.int .i64 kb) (.int .i64 ks) (.int .i64 kg) (.int .i64 ku) (.int .i64 kz) (.int .i64 ko)
    have h7 := heap_setCell_at (i := 0) h6 (.int .i64 99)
    have h8 := heap_setCell_at (i := 1) h7 (.int .i64 16)
    have h9 := heap_setCell_at (i := 2) h8 (.int .i64 1)
    rw [hw2] at h9
    simpa using h9
  have B2 : Hid (Below w.heap.size w w2) := by
    show Below w.heap.size w w2
    rw [← hw2]
    exact (((set6_below B1.out (Nat.le_refl _) _ _ _ _ _ _).setCell (Nat.le_refl _) _).setCell (Nat.le_refl _) _).setCell (Nat.le_refl _) _
  have hs2 : w.heap.size < w2.heap.size := lt_of_heap hL2
  clear x0 x1 x2 x3 x4 x5 f0 f1 f2 f3 f4 f5 HL B1 hw2 hs1
  obtain ⟨x0, x1, x2, x3, x4, x5, xf⟩ := box6 hL2
  have f4 := xf 4
  have HL : Hid (w2.heap[w.heap.size]? = some (.cells #[.int .i64 99, .int .i64 16, .int .i64 1, .int .i64 ku, .int .i64 kz, .int .i64 ko] 23)) := hL2
  clear hL2 xf
  refine Calls.mono (P3.out _) ?_
  rintro e w2' ⟨rfl, hw⟩
  subst hw
  clear P3
  have eok : CfgM.ok ⟨99, 16, 1, ku, 18 + ez, ko⟩ := by
    show cfgB _ _ _ _ _ _ = true
    simp [cfgB]; omega
  have F1 : Hid (∀ W, Calls Try.prog 9 #[.agg #[.int .i64 99, .int .i64 16, .int .i64 1, .int .i64 ku, .int .i64 (18 + (ez : Int)), .int .i64 ko]] W fun e w' => ∃ x hm, e = .returned (.pointer (some ⟨x, 0, none⟩)) ∧ Below W.heap.size W w' ∧ KAt HS W.heap.size w' x hm (st0 ⟨99, 16, 1, ku, 18 + ez, ko⟩) (CfgM.cf ⟨99, 16, 1, ku, 18 + ez, ko⟩) 99) := fun W => by
    have := FR.out ⟨99, 16, 1, ku, 18 + ez, ko⟩ W eok
    rw [show (((18 + ez : Nat)) : Int) = 18 + (ez : Int) by omega] at this
    exact this
  clear FR eok
  go_wp2_with fail
  refine Calls.mono (F1.out _) ?_
  rintro e w4 ⟨x, hmx, rfl, hb4, hK4⟩
  have hL3 : (w2'.setCell ⟨w.heap.size, 4, none⟩ (.int .i64 (18 + (ez : Int)))).heap[w.heap.size]? = some (.cells #[.int .i64 99, .int .i64 16, .int .i64 1, .int .i64 ku, .int .i64 (18 + (ez : Int)), .int .i64 ko] 23) := by
    have := heap_setCell_at (i := 4) HL.out (.int .i64 (18 + (ez : Int)))
    simpa using this
  have B3 : Below w.heap.size w (w2'.setCell ⟨w.heap.size, 4, none⟩ (.int .i64 (18 + (ez : Int)))) := B2.out.setCell (Nat.le_refl _) _
  obtain ⟨w3, hw3⟩ : ∃ w3, w2'.setCell ⟨w.heap.size, 4, none⟩ (.int .i64 (18 + (ez : Int))) = w3 := ⟨_, rfl⟩
  rw [hw3] at hb4 hK4 hL3 B3
  obtain ⟨cf, hcf⟩ : ∃ cf, CfgM.cf ⟨99, 16, 1, ku, 18 + ez, ko⟩ = cf := ⟨_, rfl⟩
  have hp0 := plan_start hK4
  rw [hcf] at hp0
  have hd16 : cf.deep = 16 := by rw [← hcf]; rfl
  have hbud : cf.budget = ku := by rw [← hcf]; rfl
  have B34 : Below w.heap.size w w4 := B3.trans (hb4.mono B3.size)
  have hL4 : w4.heap[w.heap.size]? = some (.cells #[.int .i64 99, .int .i64 16, .int .i64 1, .int .i64 ku, .int .i64 (18 + (ez : Int)), .int .i64 ko] 23) := by rw [hb4.block _ (lt_of_heap hL3)]; exact hL3
  have hsB : w.heap.size < w3.heap.size := lt_of_heap hL3
  obtain ⟨B, hBB⟩ : ∃ B, w3.heap.size = B := ⟨_, rfl⟩
  rw [hBB] at hp0 hsB
  have CB : Hid (∀ V, Below B w4 V → V.heap[w.heap.size]? = some (.cells #[.int .i64 99, .int .i64 16, .int .i64 1, .int .i64 ku, .int .i64 (18 + (ez : Int)), .int .i64 ko] 23)) := fun V hV => by rw [hV.block _ hsB]; exact hL4
  have BW : Hid (∀ V, Below B w4 V → Below w.heap.size w V) := fun V hV => B34.trans (hV.mono (by omega))
  have PL0 : Hid (Plan HS B x cf 0 [] (.slice none 0 0) w4) := hp0
  have INT : Hid (∀ j, j < plen → ∃ sb off, p0 = some ⟨sb, off, none⟩ ∧ fits (ints j) ∧ ∀ V, Below B w4 V → V.cell? ⟨sb, off + j, none⟩ = some (.int .i64 (ints j))) := fun j hj => by
    obtain ⟨sb, off, e1, h1, h2, h3⟩ := H.out.1 j hj
    exact ⟨sb, off, e1, h2, fun V hV => ((BW.out V hV).cell (p := ⟨sb, off + j, none⟩) h1).trans h3⟩
  have PP : Hid (Pact3 HS Room) := H.out.2
  clear hb4 hK4 hL3 B3 hw3 hcf hp0 B34 hL4 hsB hBB x0 x1 x2 x3 x4 x5 f4 HL B2 hs2 F1 H hpz
  have DR : Hid (∀ (j a : Nat) (H0 : List Nat) ao cap V, Plan HS B x cf j (H0 ++ [a]) (.slice ao (H0.length + 1) cap) V → Calls Try.prog 10 #[.pointer (some ⟨x, 0, none⟩), .int .i64 4, .int .i64 0] V fun e w' => e = .returned (.tuple #[.int .i64 0, .int .i64 0]) ∧ Plan HS B x cf j H0 (.slice ao H0.length cap) w' ∧ Below B V w') := fun j a H0 ao cap V q => q.drop PP.out
  have BU : Hid (∀ (j : Nat) (H0 : List Nat) (v : Value) V (y : Nat), Plan HS B x cf j H0 v V → j < 99 → H0.length ≤ 13 → y ≤ 2000000000000000 → Calls Try.prog 11 #[.pointer (some ⟨x, 0, none⟩), v, .int .i64 y] V fun e w' => ∃ H' v', e = .returned (.tuple #[v', .bool true]) ∧ Plan HS B x cf (j + 1) H' v' w' ∧ H'.length ≤ H0.length + 1 ∧ Below B V w') := fun j H0 v V y q h1 h2 h3 => built_any PP.out q h1 h2 hd16 y h3
  have PI : Hid (∀ (c : Int) W, fits c → Calls Try.prog 8 #[.int .i64 c, .int .i64 1125899906842624] W fun r w' => ∃ y : Nat, r = .returned (.int .i64 y) ∧ y ≤ 2000000000000000 ∧ w' = W) := fun c W hc => (PK.out c 1125899906842624 W hc (by decide) (by decide)).mono fun r w' ⟨h1, h2⟩ => ⟨_, h1, by have := pickN_lt c 1125899906842624 (by decide); omega, h2⟩
  clear PK
  go_wp2
  go_loopw [6, 7] (fun hd ii wr => ∃ (j : Nat) (Hl : List Nat) (v : Value), j ≤ 99 ∧ j ≤ plen ∧ ii = .int .i64 j ∧ v = hd ∧ Plan HS B x cf j Hl v wr ∧ Hl.length ≤ 14 ∧ Below B w4 wr) (fun _ ii _ => 99 - (intOf ii).toNat)
  case atStart => exact ⟨0, [], _, by omega, by omega, rfl, rfl, PL0.out, by simp, Below.refl _ _⟩
  case round =>
    obtain ⟨j, Hl, v, hj, hjp, rfl, rfl, hpl', hlen, hbw⟩ := hrel
    obtain ⟨ao, cap, rfl⟩ := hpl'.slice
    have hcap := hpl'.room rfl
    have M : Hid (Plan HS B x cf j Hl (.slice ao Hl.length cap) wr ∧ Below B w4 wr) := ⟨hpl', hbw⟩
    clear hpl' hbw PL0
    by_cases hgo : j < plen ∧ j < 99
    · obtain ⟨g1, g2⟩ := hgo
      have g1I : (j : Int) < plen := by omega
      have g2I : (j : Int) < 99 := by omega
      obtain ⟨sb, off, rfl, fj, hint⟩ := INT.out j g1
      have IC : Hid _ := hint
      obtain ⟨yi, hyi⟩ : ∃ yi, ints j = yi := ⟨_, rfl⟩
      rw [hyi] at IC fj
      have FJ : Hid (fits yi) := fj
      clear hint hyi fj
      by_cases h13 : 13 < Hl.length
      · obtain ⟨H0, b0, rfl⟩ : ∃ H0 b0, Hl = H0 ++ [b0] := ⟨Hl.dropLast, Hl.getLast (by intro e; rw [e] at h13; simp at h13), (List.dropLast_concat_getLast _).symm⟩
        have hle : (H0 ++ [b0]).length = H0.length + 1 := by simp
        rw [hle] at M h13 hlen hcap ⊢
        have D1 : Hid _ := DR.out j b0 H0 ao cap wr M.out.1
        have h13I : (13 : Int) < (H0.length : Int) + 1 := by omega
        have hcI : (H0.length : Int) ≤ cap := by omega
        go_wp2_with fail
        refine Calls.mono D1.out ?_
        rintro e w5 ⟨rfl, hp5, hb5⟩
        have M5 : Hid (Plan HS B x cf j H0 (.slice ao H0.length cap) w5 ∧ Below B w4 w5) := ⟨hp5, M.out.2.trans hb5⟩
        have ci := IC.out w5 M5.out.2
        clear hp5 hb5 D1
        go_wp2_with fail
        refine Calls.mono (PI.out _ _ FJ.out) ?_
        rintro e w6 ⟨y, rfl, hy, hw6⟩
        subst hw6
        have B6 : Hid _ := BU.out j H0 _ w6 y M5.out.1 g2 (by omega) hy
        clear hy
        go_wp2_with fail
        refine Calls.mono B6.out ?_
        rintro e w7 ⟨H', v', rfl, hp7, hl7, hb7⟩
        have M7 : Hid (Plan HS B x cf (j + 1) H' v' w7 ∧ H'.length ≤ 14 ∧ Below B w4 w7) := ⟨hp7, by omega, M5.out.2.trans hb7⟩
        clear hp7 hl7 hb7 B6 ci
        go_wp2
        go_roundw
        case rel => exact ⟨j + 1, H', v', by omega, by omega, by go_num, rfl, M7.out.1, M7.out.2.1, M7.out.2.2⟩
        case measure => simp [intOf]; omega
      · have h13I : ¬ (13 : Int) < (Hl.length : Int) := by omega
        have ci := IC.out wr M.out.2
        go_wp2_with fail
        refine Calls.mono (PI.out _ _ FJ.out) ?_
        rintro e w6 ⟨y, rfl, hy, hw6⟩
        subst hw6
        have B6 : Hid _ := BU.out j Hl _ w6 y M.out.1 g2 (by omega) hy
        clear hy
        go_wp2_with fail
        refine Calls.mono B6.out ?_
        rintro e w7 ⟨H', v', rfl, hp7, hl7, hb7⟩
        have M7 : Hid (Plan HS B x cf (j + 1) H' v' w7 ∧ H'.length ≤ 14 ∧ Below B w4 w7) := ⟨hp7, by omega, M.out.2.trans hb7⟩
        clear hp7 hl7 hb7 B6 ci
        go_wp2
        go_roundw
        case rel => exact ⟨j + 1, H', v', by omega, by omega, by go_num, rfl, M7.out.1, M7.out.2.1, M7.out.2.2⟩
        case measure => simp [intOf]; omega
    · have hA : (¬ (j : Int) < plen) ∨ ((j : Int) < plen ∧ ¬ (j : Int) < 99) := by omega
      have hLc := CB.out wr M.out.2
      obtain ⟨y0, y1, y2, y3, y4, y5, _⟩ := box6 hLc
      have EM : Hid _ := emptied_any PP.out (M.out.1.low.mono (show Hl.length ≤ 16 by omega)) 99 ku (18 + (ez : Int)) ko
      have GA : Hid (∀ (k : Nat) K V, Bare HS B x cf k K V → Calls Try.prog 13 #[.pointer (some ⟨x, 0, none⟩)] V fun e w' => (∃ a b d : Int, e = .returned (.agg #[.int .i64 (99 - (k : Int)), .int .i64 a, .int .i64 b, .int .i64 d, .int .i64 0])) ∧ Bare HS B x cf k K w' ∧ Below B V w' ∧ k ≤ 99) := fun k K V q => q.gauge PP.out
      have SA : Hid (∀ (k : Nat) K V, Bare HS B x cf k K V → Calls Try.prog 14 #[.pointer (some ⟨x, 0, none⟩)] V fun e w' => e = .returned (.int .i64 (min ku k : Nat)) ∧ Bare HS B x cf (k - min ku k) K w' ∧ Below B V w') := fun k K V q => q.safe PP.out hbud
      have M2 : Hid (Below B w4 wr) := M.out.2
      clear hLc hgo M DR BU PI INT PP hcap hlen hd16 hbud
      rcases hA with hA | ⟨hA, hA2⟩
      all_goals
        go_wp2_with fail
        refine Calls.mono EM.out ?_
        rintro e w5 ⟨rfl, hp5, hb5⟩
        have M5 : Hid (Bare HS B x cf j [] w5 ∧ Below B w4 w5) := ⟨hp5, M2.out.trans hb5⟩
        clear hp5 hb5 EM y0 y1 y2 y3 y4 y5
        go_wp2_with fail
        refine Calls.mono (GA.out _ _ _ M5.out.1) ?_
        rintro e w6 ⟨⟨ga, gb, gd, rfl⟩, hp6, hb6, h99⟩
        have M6 : Hid (Bare HS B x cf j [] w6 ∧ Below B w4 w6) := ⟨hp6, M5.out.2.trans hb6⟩
        have hLc := CB.out w6 M6.out.2
        have hlt6 := lt_of_heap hLc
        obtain ⟨y0, y1, y2, y3, y4, y5, _⟩ := box6 hLc
        clear hp6 hb6 hLc
        go_wp2_with fail
        obtain ⟨gbox, hgb⟩ : ∃ gbox : Obj, Obj.cells #[.int .i64 (99 - (j : Int)), .int .i64 ga, .int .i64 gb, .int .i64 gd, .int .i64 0] 36 = gbox := ⟨_, rfl⟩
        have HG : Hid (Obj.cells #[.int .i64 (99 - (j : Int)), .int .i64 ga, .int .i64 gb, .int .i64 gd, .int .i64 0] 36 = gbox) := hgb
        have L0 : Hid (Bare HS B x cf j [(w6.heap.size, gbox)] (w6.alloc gbox) ∧ Below B w4 (w6.alloc gbox)) := ⟨M6.out.1.box _, M6.out.2.alloc M6.out.1.size _⟩
        rw [hgb]
        clear y0 y1 y2 y3 y4 y5 M5 M6 M2 hgb
        go_loopw [15] (fun lf wq => ∃ q : Nat, q ≤ 99 ∧ lf = .int .i64 q ∧ Bare HS B x cf q [(w6.heap.size, gbox)] wq ∧ Below B w4 wq) (fun lf _ => (intOf lf).toNat)
        case atStart => exact ⟨j, h99, by congr 1; omega, L0.out.1, L0.out.2⟩
        case round =>
          obtain ⟨q, hq9, rfl, hbare, hbw⟩ := hrel
          have M : Hid (Bare HS B x cf q [(w6.heap.size, gbox)] wr ∧ Below B w4 wr) := ⟨hbare, hbw⟩
          have hLc := CB.out wr hbw
          obtain ⟨y0, y1, y2, y3, y4, y5, _⟩ := box6 hLc
          clear hbare hbw hLc L0
          rcases Nat.eq_zero_or_pos q with h0 | h0
          · subst h0
            clear y0 y1 y2 y3 y4 y5
            go_wp2_with fail
            refine Calls.mono (GA.out _ _ _ M.out.1) ?_
            rintro e w8 ⟨⟨ha, hb, hc, rfl⟩, hp8, hb8, _⟩
            have hg8 := hp8.kept (L := w6.heap.size) (ob := gbox) (by simp)
            rw [← HG.out] at hg8
            have B8 : Hid (Below B w4 w8 ∧ w8.heap[w6.heap.size]? = some (.cells #[.int .i64 (99 - (j : Int)), .int .i64 ga, .int .i64 gb, .int .i64 gd, .int .i64 0] 36)) := ⟨M.out.2.trans hb8, hg8⟩
            have z0 : w8.cell? ⟨w6.heap.size, 0, none⟩ = some (.int .i64 (99 - (j : Int))) := cell_of_heap hg8 rfl
            have z1 : w8.cell? ⟨w6.heap.size, 1, none⟩ = some (.int .i64 ga) := cell_of_heap hg8 rfl
            have z2 : w8.cell? ⟨w6.heap.size, 2, none⟩ = some (.int .i64 gb) := cell_of_heap hg8 rfl
            have z3 : w8.cell? ⟨w6.heap.size, 3, none⟩ = some (.int .i64 gd) := cell_of_heap hg8 rfl
            have z4 : w8.cell? ⟨w6.heap.size, 4, none⟩ = some (.int .i64 0) := cell_of_heap hg8 rfl
            have zf0 : w8.frozen? ⟨w6.heap.size, 0, none⟩ = false := frozen_of_heap hg8
            have zf1 : w8.frozen? ⟨w6.heap.size, 1, none⟩ = false := frozen_of_heap hg8
            have zf2 : w8.frozen? ⟨w6.heap.size, 2, none⟩ = false := frozen_of_heap hg8
            have zf3 : w8.frozen? ⟨w6.heap.size, 3, none⟩ = false := frozen_of_heap hg8
            have zf4 : w8.frozen? ⟨w6.heap.size, 4, none⟩ = false := frozen_of_heap hg8
            have hLc := CB.out w8 B8.out.1
            have y0 : w8.cell? ⟨w.heap.size, 0, none⟩ = some (.int .i64 99) := cell_of_heap hLc rfl
            have hne : w6.heap.size ≠ w.heap.size := Nat.ne_of_gt hlt6
            clear hg8 hp8 hb8 hLc
            go_wp2
            go_ret
            have hle : w.heap.size ≤ w6.heap.size := Nat.le_of_lt hlt6
            exact ⟨rfl, (((((BW.out w8 B8.out.1).setCell hle _).setCell hle _).setCell hle _).setCell hle _).setCell hle _⟩
          · have h0I : (0 : Int) < q := by omega
            by_cases hqu : q < ku
            · have hquI : (q : Int) < ku := by omega
              have S1 : Hid (Calls Try.prog 14 #[.pointer (some ⟨x, 0, none⟩)] wr fun e w' => e = .returned (.int .i64 q) ∧ Bare HS B x cf 0 [(w6.heap.size, gbox)] w' ∧ Below B w4 w') := (SA.out _ _ _ M.out.1).mono fun e w' ⟨h1, h2, h3⟩ => by
                rw [show min ku q = q by omega] at h1 h2
                rw [Nat.sub_self] at h2
                exact ⟨h1, h2, M.out.2.trans h3⟩
              go_wp2_with fail
              refine Calls.mono S1.out ?_
              rintro e w8 ⟨rfl, hp8, hb8⟩
              have M8 : Hid (Bare HS B x cf 0 [(w6.heap.size, gbox)] w8 ∧ Below B w4 w8) := ⟨hp8, hb8⟩
              clear hp8 hb8 S1 y0 y1 y2 y3 y4 y5
              go_wp2
              go_roundw
              case rel => exact ⟨0, by omega, by go_num, M8.out.1, M8.out.2⟩
              case measure => simp [intOf]; omega
            · have hquI : ¬ (q : Int) < ku := by omega
              have S1 : Hid (Calls Try.prog 14 #[.pointer (some ⟨x, 0, none⟩)] wr fun e w' => e = .returned (.int .i64 ku) ∧ Bare HS B x cf (q - ku) [(w6.heap.size, gbox)] w' ∧ Below B w4 w') := (SA.out _ _ _ M.out.1).mono fun e w' ⟨h1, h2, h3⟩ => by
                rw [show min ku q = ku by omega] at h1 h2
                exact ⟨h1, h2, M.out.2.trans h3⟩
              go_wp2_with fail
              refine Calls.mono S1.out ?_
              rintro e w8 ⟨rfl, hp8, hb8⟩
              have M8 : Hid (Bare HS B x cf (q - ku) [(w6.heap.size, gbox)] w8 ∧ Below B w4 w8) := ⟨hp8, hb8⟩
              clear hp8 hb8 S1 y0 y1 y2 y3 y4 y5
              go_wp2
              go_roundw
              case rel => exact ⟨q - ku, by omega, by congr 1; omega, M8.out.1, M8.out.2⟩
              case measure => simp [intOf]; omega

end Go.Proofs.Ytpmkjeihbddfpaa

/- OUR OWN. Drained: the statement, out of the program's contracts. -/
namespace Go.Proofs.Ytpmkjeihbddfpaa
open Go.ChangeShapes Go.WideShapes Go.ChangeAt Go.RowKit Go.Deep
set_option linter.unusedVariables false
set_option linter.unusedSimpArgs false

variable {HS : HeapM → St → Cf → Nat → Prop} {Room : St → Prop}

set_option maxRecDepth 100000 in
theorem drained_lifted (P : Pact3 HS Room) (os : Os) (started : os.Started) (H : Type) (enc : TypeId × Value → H) :
    ReturnsInHanded {} Try.checked os 3 .any (Rows.drainedSpec.pre6 enc Try.prog Try.f3 Rows.drainedRow.domain false) (Rows.drainedSpec.post enc Try.prog Try.f3 false true false false) := by
  refine returnsInHanded_of_change_sized (C := Try.checked) own started (by kernel_rfl) Try.func3
    (ChangeSpec.witness6 (enc := enc) (C := Try.checked) false ⟨#[], #[.agg #[.int .i64 0, .int .i64 0, .int .i64 0, .int .i64 0, .int .i64 0, .int .i64 0], .slice none 0 0], []⟩ 8 (by kernel_rfl) (by kernel_rfl) (by kernel_rfl) (by kernel_rfl)) ?_
  intro W base args ds gs before hval0 hW _ hsz0 _
  have hsz : (DataW.weightsEach Try.prog (Try.f3.params.toList ++ Rows.drainedSpec.plain.varTypes Try.prog) (ds ++ gs)).all (· ≤ reachBytes) = true := hsz0
  clear hsz0
  have hval : ∀ (j : Nat) t v, Try.f3.params[j]? = some t → args[j]? = some v → Value.okWide Try.prog W .any base t v := hval0
  have hW' := hW
  obtain ⟨p, q, hA0, hV, rfl, hfz, hnd⟩ := hW
  have hA : DataW.TrodAll enc Try.prog W 0 (fun _ => true) true Try.f3.params.toList args.toList ds p := hA0
  rw [Try.params3] at hA hval hsz
  obtain ⟨v0, vs0, d0, ds0, p0, q0, hargs, rfl, rfl, h0, r0⟩ := trodAll_cons hA
  obtain ⟨v1, vs1, d1, ds1, p1, q1, rfl, rfl, rfl, h1, r1⟩ := trodAll_cons r0
  obtain ⟨rfl, rfl, rfl⟩ := trodAll_nil r1
  obtain rfl : args = #[v0, v1] := by cases args; simp_all
  obtain ⟨rfl, rfl⟩ := trodVars_none hV
  obtain ⟨c0, rfl, hc0⟩ := okWide_struct Try.underlying23 (hval 0 23 v0 rfl rfl)
  obtain ⟨b0, len1, cap1, rfl⟩ := okWide_slice Try.underlying24 (hval 1 24 v1 rfl rfl)
  have k0 := h0
  have k1 := h1
  have lt0 : ∀ x ∈ p0, x.block < W.heap.size := by obtain ⟨m, hm⟩ := k0; exact DataW.trod_lt m _ _ _ hm
  have lt1 : ∀ x ∈ p1, x.block < W.heap.size := by obtain ⟨m, hm⟩ := k1; exact DataW.trod_lt m _ _ _ hm
  obtain ⟨u0, g0⟩ := h0
  obtain ⟨u1, g1⟩ := h1
  have g0' : DataW.trod enc Try.prog W 0 (fun _ => true) true u0 23 c0.toList = some (d0, p0) := by simpa [Value.cells] using g0
  have g1' : DataW.trod enc Try.prog W 0 (fun _ => true) true u1 24 [.slice b0 len1 cap1] = some (d1, p1) := by simpa [Value.cells] using g1
  obtain ⟨b, s, g, u, z, o, fb, fs, fg, fu, fz, fo, e0⟩ := cfg_of g0'
  have e0' : c0 = #[.int .i64 b, .int .i64 s, .int .i64 g, .int .i64 u, .int .i64 z, .int .i64 o] := by rw [← Array.toArray_toList (xs := c0), e0]
  subst e0'
  obtain ⟨ints, HP⟩ := ints_of g1'
  have hL1 : len1 ≤ 20000000000000 := by
    rcases open_slice Try.underlying24 g1' with ⟨hc, _⟩ | ⟨a, l, c, m, n, D, Pl, hc, _, _, _, _, hx, _⟩
    · simp at hc; rw [hc.2.1]; omega
    · simp at hc
      obtain ⟨rfl, rfl, rfl⟩ := hc
      simp only [Prod.mk.injEq] at hx
      have hd := hx.1
      subst hd
      have := sized_slice hsz (j := 1) (t := 24) (e := 3) rfl rfl Try.underlying24
      rw [bytesInt] at this
      simp only [List.length_map, List.length_range, reachBytes] at this
      omega
  clear hA0 hval0
  refine (drained_walk P b s g u z o fb fs fg fu fz fo b0 len1 cap1 hL1 W ints HP).mono fun e W' ⟨he, bel⟩ => ?_
  subst he
  exact ⟨_, rfl, _, _, _, [], _, [], hW', trodAll_mk1 (shut_bool Try.underlying4 _), (trodAll_cons_mk (Below.trod laidOut (by kernel_rfl) (of_decide_eq_true (by kernel_rfl)) k0 bel lt0) (trodAll_cons_mk (Below.trod laidOut (by kernel_rfl) (of_decide_eq_true (by kernel_rfl)) k1 bel lt1) trodAll_mk0)), rfl, bel.frame _, fun h => by cases h⟩

theorem drained_of (P : Pact3 HS Room) : Rows.DrainedSaid :=
  OpenClaim.holds_of_wide 3 Try.f3 rfl rfl rfl rfl rfl rfl rfl ⟨rfl, rfl, rfl, rfl, rfl⟩ rfl rfl rfl rfl rfl (by kernel_rfl) Try.func3 (by kernel_rfl)
    (of_decide_eq_true (by kernel_rfl)) (by unfold Func.isWrapper; rw [if_neg (of_decide_eq_false (by kernel_rfl))]; exact ⟨rfl, rfl⟩)
    (fun os started H enc _ => drained_lifted P os started H enc)

end Go.Proofs.Ytpmkjeihbddfpaa

/- OUR OWN. Drained: the statement. -/
namespace Go.Proofs.Ytpmkjeihbddfpaa
set_option linter.unusedVariables false
set_option linter.unusedSimpArgs false

/-- P9, P12: objects whose fields are references to older ones alone, none held by more than MaxCount fields: once no root has any, each safepoint frees as many as the budget says, or all the rest. -/
theorem drained_holds : Rows.DrainedSaid := drained_of (HS := HS) (Room := room3) ⟨fresh_hs, do_pact, gauge_pact, safe_pact, fun _ h => .inl h⟩

#print axioms drained_holds

end Go.Proofs.Ytpmkjeihbddfpaa

