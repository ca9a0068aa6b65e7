/- OUR OWN. Does: a step that is an operation. -/
import Derived.Test.YtblekkjamemloaaDB
import Derived.Test.YtblekkjamemloaaUpTo
namespace Go.Proofs.Ytblekkjamemloaa
open Go.RowKit
set_option linter.unusedVariables false
set_option linter.unusedSimpArgs false

theorem nodup_flat_set {n : Nat} (l : List PairM) (i : Nat) (q q' : PairM) (hi : l[i]? = some q) (hn : (l.flatMap PairM.foot).Nodup) (hlt : ∀ x ∈ l.flatMap PairM.foot, x < n) (hq : q'.foot.Nodup) (hv : ∀ g ∈ q'.foot, g ∈ q.foot ∨ n ≤ g) :
    ((l.set i q').flatMap PairM.foot).Nodup ∧ ∀ x ∈ (l.set i q').flatMap PairM.foot, x ∈ l.flatMap PairM.foot ∨ n ≤ x := by
  induction l generalizing i with
  | nil => simp at hi
  | cons c l ih =>
    rw [List.flatMap_cons, List.nodup_append] at hn
    obtain ⟨n1, n2, n3⟩ := hn
    cases i with
    | zero =>
      simp at hi
      subst hi
      rw [List.set_cons_zero, List.flatMap_cons, List.flatMap_cons]
      refine ⟨List.nodup_append.2 ⟨hq, n2, fun a ha b hb e => ?_⟩, fun x hx => ?_⟩
      · subst e
        rcases hv a ha with e | e
        · exact n3 a e a hb rfl
        · have := hlt a (by rw [List.flatMap_cons]; exact List.mem_append_right _ hb); omega
      · rcases List.mem_append.1 hx with e | e
        · rcases hv x e with e | e
          · exact .inl (List.mem_append_left _ e)
          · exact .inr e
        · exact .inl (List.mem_append_right _ e)
    | succ i =>
      simp at hi
      rw [List.set_cons_succ, List.flatMap_cons, List.flatMap_cons]
      obtain ⟨g1, g2⟩ := ih i hi n2 (fun x hx => hlt x (by rw [List.flatMap_cons]; exact List.mem_append_right _ hx))
      refine ⟨List.nodup_append.2 ⟨n1, g1, fun a ha b hb e => ?_⟩, fun x hx => ?_⟩
      · subst e
        rcases g2 a hb with e | e
        · exact n3 a ha a e rfl
        · have := hlt a (by rw [List.flatMap_cons]; exact List.mem_append_left _ ha); omega
      · rcases List.mem_append.1 hx with e | e
        · exact .inl (List.mem_append_left _ e)
        · rcases g2 x e with e | e
          · exact .inl (List.mem_append_right _ e)
          · exact .inr e

variable {Sim : HeapM → RefM → Int → Prop}

/-- One pair is turned: the others stay. -/
theorem LawAt.turn {B : Nat} {w w' : World} {wb : Nat} {v : Value} {ps : List PairM} (r : LawAt Sim B w wb v ps) (hB : B ≤ w.heap.size) (i : Nat) {q q' : PairM} (hi : ps[i]? = some q) (t : PairStep w q w' q') (hs : Sim q'.hm q'.rm q'.news) :
    LawAt Sim B w' wb v (ps.set i q') ∧ Off (allFoot wb v ps) w w' := by
  have hlt := r.lt
  have hnd := r.apart
  simp only [allFoot, List.cons_append, List.nodup_cons, List.nodup_append, List.mem_append, not_or] at hnd
  obtain ⟨⟨hwv, hwp⟩, hvn, hpn, hvp⟩ := hnd
  have hqm : q ∈ ps := List.mem_of_getElem? hi
  have hqf : ∀ g ∈ q.foot, g ∈ ps.flatMap PairM.foot := fun g hg => List.mem_flatMap.2 ⟨q, hqm, hg⟩
  have hpl : ∀ g ∈ ps.flatMap PairM.foot, g < w.heap.size := fun g hg => hlt g (by simp only [allFoot, List.cons_append]; exact List.mem_cons_of_mem _ (List.mem_append_right _ hg))
  have hvl : ∀ g, v.ownBlock = some g → g < w.heap.size := fun g hg => (own_lt r.row hg).2
  obtain ⟨g1, g2⟩ := nodup_flat_set ps i q q' hi hpn hpl t.here.apart t.foot
  have hw : wb < w.heap.size := lt_of_heap r.head
  have hwq : wb ∉ q.foot := fun e => hwp (hqf wb e)
  refine ⟨⟨?_, ?_, ?_, ?_, ?_, ?_⟩, t.off.mono fun g hg => by simp only [allFoot, List.cons_append]; exact List.mem_cons_of_mem _ (List.mem_append_right _ (hqf g hg))⟩
  · rw [t.off.block wb hw hwq]; exact r.head
  · have e : (ps.set i q').map (fun q => ptr q.p) = ps.map fun q => ptr q.p := map_set_same (fun q : PairM => ptr q.p) ps i q q' hi (by rw [t.same])
    rw [List.length_set, e]
    exact own_carry r.row fun g hg => t.off.block g (hvl g hg) (fun e => hvp g (by simp [hg]) g (hqf g e) rfl)
  · intro x hx
    obtain ⟨j, hj⟩ := List.getElem?_of_mem hx
    rw [List.getElem?_set] at hj
    split at hj
    · split at hj
      · cases hj; exact t.here
      · cases hj
    · rename_i hne
      have hxm := List.mem_of_getElem? hj
      refine (r.pairs x hxm).carry fun g hg => t.off.block g ((r.pairs x hxm).lt g hg) fun e => ?_
      -- two pairs at two places share no block
      have : ∀ (l : List PairM) (a b : Nat) (p1 p2 : PairM), (l.flatMap PairM.foot).Nodup → l[a]? = some p1 → l[b]? = some p2 → g ∈ p1.foot → g ∈ p2.foot → a = b := by
        intro l
        induction l with
        | nil => intro a b p1 p2 _ h1; simp at h1
        | cons c l ih =>
          intro a b p1 p2 hn h1 h2 h3 h4
          rw [List.flatMap_cons, List.nodup_append] at hn
          cases a with
          | zero =>
            cases b with
            | zero => rfl
            | succ b => simp at h1 h2; subst h1; exact absurd rfl (hn.2.2 g h3 g (List.mem_flatMap.2 ⟨p2, List.mem_of_getElem? h2, h4⟩))
          | succ a =>
            cases b with
            | zero => simp at h1 h2; subst h2; exact absurd rfl (hn.2.2 g h4 g (List.mem_flatMap.2 ⟨p1, List.mem_of_getElem? h1, h3⟩))
            | succ b => simp at h1 h2; rw [ih a b p1 p2 hn.2.1 h1 h2 h3 h4]
      exact hne (this ps i j q x hpn hi hj e hg)
  · intro x hx
    rcases List.mem_or_eq_of_mem_set hx with e | e
    · exact r.sim x e
    · subst e; exact hs
  · simp only [allFoot, List.cons_append, List.nodup_cons, List.nodup_append, List.mem_append, not_or]
    refine ⟨⟨hwv, fun e => ?_⟩, hvn, g1, fun a ha b hb e => ?_⟩
    · rcases g2 wb e with e | e
      · exact hwp e
      · omega
    · subst e
      have ha' : v.ownBlock = some a := by simpa using ha
      rcases g2 a hb with e | e
      · exact hvp a ha a e rfl
      · have := hvl a ha'; omega
  · intro g hg
    simp only [allFoot, List.cons_append] at hg
    rcases List.mem_cons.1 hg with e | hg
    · exact r.low g (by rw [e]; simp [allFoot])
    · rcases List.mem_append.1 hg with e | e
      · exact r.low g (by simp only [allFoot, List.cons_append]; exact List.mem_cons_of_mem _ (List.mem_append_left _ e))
      · rcases g2 g e with e | e
        · exact r.low g (by simp only [allFoot, List.cons_append]; exact List.mem_cons_of_mem _ (List.mem_append_right _ e))
        · omega

theorem PairStep.pre {w0 w w' : World} {q q' : PairM} (pa : PairAt w0 q) (hb : Below w0.heap.size w0 w) (t : PairStep w q w' q') : PairStep w0 q w' q' :=
  ⟨t.here, t.same, fun g hg => by
    rcases t.foot g hg with e | e
    · exact .inl e
    · exact .inr (by have := hb.size; omega), (Off.of_below hb).trans t.off⟩

set_option maxHeartbeats 800000 in
theorem stepdo_core (w : World) (wb gb cap len k qp : Nat) (a op n b s g u z o : Int) (hw : wb < w.heap.size) (hgb : gb < w.heap.size)
    (hc : w.cell? ⟨wb, 0, none⟩ = some (.slice (some ⟨gb, 0, none⟩) len cap)) (hc1 : w.cell? ⟨gb, k, none⟩ = some (.pointer (some ⟨qp, 0, none⟩)))
    (hp : 0 < len) (hk : k < len) (PK : ∀ w, Calls Try.prog 33 #[.int .i64 a, .int .i64 len] w fun r w' => r = .returned (.int .i64 k) ∧ w' = w) (Post : World → Prop)
    (DN : ∀ W, Below w.heap.size w W → Calls Try.prog 36 #[.pointer (some ⟨qp, 0, none⟩), .int .i64 op, .int .i64 n] W fun e w' => e = .returned (.bool true) ∧ Post w') :
    Calls Try.prog 18 #[.pointer (some ⟨wb, 0, none⟩), .agg #[.int .i64 2, .int .i64 a, .int .i64 op, .int .i64 n, .int .i64 b, .int .i64 s, .int .i64 g, .int .i64 u, .int .i64 z, .int .i64 o]] w fun e w' =>
      e = .returned (.bool true) ∧ Post w' := by
  have hkI : (k : Int) < len := by omega
  have hne : ((len : Int) == 0) = false := by simp; omega
  have hl0 : ¬ len = 0 := by omega
  have D : Hid _ := DN
  clear DN
  go_enter Try.func18, Try.ntmps18
  go_wp2_with fail
  go_quiet ((go_at_call 33; exact Calls.quiet_of_same (PK _)))
  go_wp2_with fail
  refine Calls.mono (D.out _ (below_drewN ((Below.refl _ _).alloc (Nat.le_refl _) _) _)) ?_
  rintro e w1 ⟨rfl, hm⟩
  have M : Hid _ := hm
  clear hm D
  go_wp2
  go_ret
  exact ⟨rfl, M.out⟩

theorem step_do {B : Nat} {w : World} {wb : Nat} {v : Value} {ps : List PairM} (r : LawAt DoSim B w wb v ps) (hB : B ≤ w.heap.size) (t : StepM) (hk : t.kind = 2) (ha : fits t.a) (hm : ps.length ≤ 2000000000000) (hp : 0 < ps.length)
    (hgood : t.op = 2 → (ps[pickN t.a ps.length]'(pickN_lt _ _ hp)).news < (ps[pickN t.a ps.length]'(pickN_lt _ _ hp)).rm.most) :
    Calls Try.prog 18 #[ptr wb, t.val] w fun e w' => e = .returned (.bool true) ∧ ∃ ps', ps'.length = ps.length ∧ LawAt DoSim B w' wb v ps' ∧ Off (allFoot wb v ps) w w' := by
  obtain ⟨kind, a, op, n, b, s, g, u, z, o⟩ := t
  simp only at hk ha hgood
  subst hk
  obtain ⟨gb, cap, hv, hgb, hrow⟩ := r.form hp
  have hkk := pickN_lt a ps.length hp
  have hq : ps[pickN a ps.length]? = some ps[pickN a ps.length] := List.getElem?_eq_getElem hkk
  have pa := r.pairs _ (List.getElem_mem hkk)
  have hsim := r.sim _ (List.getElem_mem hkk)
  refine stepdo_core w wb gb cap ps.length (pickN a ps.length) _ a op n b s g u z o (lt_of_heap r.head) hgb (by rw [← hv]; exact cell_of_heap r.head rfl) (hrow _ hkk) hp hkk (fun w => pick_any a ps.length w ha hp hm) _ fun W hb => ?_
  refine (done_any W _ op n (pa.carry fun x hx => hb.block x (pa.lt x hx)) hsim hgood).mono ?_
  rintro e w' ⟨he, q', hst, hs'⟩
  obtain ⟨l1, l2⟩ := r.turn hB _ hq (PairStep.pre pa hb hst) hs'
  exact ⟨he, _, by simp, l1, l2⟩

end Go.Proofs.Ytblekkjamemloaa
