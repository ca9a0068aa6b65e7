import Derived.Test.YtpmkjeihbddfpabGreatDoorAllB14
import Derived.ProofKit
import Derived.SizedLaws
import Derived.Deep.Slices
import Derived.OpenShut
import Derived.ChangeOld
/- OUR OWN. A script as it was handed in, read from memory. -/
namespace Go.Proofs.YtpmkjeihbddfpabGreatDoor
open Go.ChangeShapes Go.WideShapes Go.ChangeAt Go.RowKit Go.Deep
set_option linter.unusedVariables false
set_option linter.unusedSimpArgs false

variable {Sim : HeapM → RefM → Int → Prop}

theorem own : ownKnob Tryz.prog.godebug = none := by kernel_rfl
theorem laidOut : laidOutB Tryz.prog = true := by kernel_rfl
theorem cellsStep : Tryz.prog.cellsOf 31 = 10 := by kernel_rfl
theorem cellsConfig : Tryz.prog.cellsOf 29 = 6 := by kernel_rfl
theorem cellsInt : Tryz.prog.cellsOf 3 = 1 := by kernel_rfl
theorem bytesStep : Tryz.prog.bytesOf 31 = 80 := by kernel_rfl

theorem list10 {α : Type} (l : List α) (h : l.length = 10) : ∃ a b c d e f g i j k, l = [a, b, c, d, e, f, g, i, j, k] := by
  rcases l with _ | ⟨a, l⟩; · simp at h
  rcases l with _ | ⟨b, l⟩; · simp at h
  rcases l with _ | ⟨c, l⟩; · simp at h
  rcases l with _ | ⟨d, l⟩; · simp at h
  rcases l with _ | ⟨e, l⟩; · simp at h
  rcases l with _ | ⟨f, l⟩; · simp at h
  rcases l with _ | ⟨g, l⟩; · simp at h
  rcases l with _ | ⟨i, l⟩; · simp at h
  rcases l with _ | ⟨j, l⟩; · simp at h
  rcases l with _ | ⟨k, l⟩; · simp at h
  rcases l with _ | ⟨m, l⟩
  · exact ⟨a, b, c, d, e, f, g, i, j, k, rfl⟩
  · simp at h

theorem fits_of {n : Int} (h : (Lit.int .i64 n).wf = true) : fits n := by
  have h1 : IntKind.i64.min = -9223372036854775808 := rfl
  have h2 : IntKind.i64.max = 9223372036854775807 := rfl
  simp only [Lit.wf, Bool.and_eq_true, decide_eq_true_eq] at h
  unfold fits
  omega

section
variable {H : Type} {enc : TypeId × Value → H} {w : World} {base : Nat} {spare : Nat → Bool} {held : Bool}

/-- one step out of its ten cells -/
theorem step_of {n : Nat} {cs : List Value} {x : DataW H × List MemPlace} (h : DataW.trod enc Tryz.prog w base spare held n 31 cs = some x) : ∃ t : StepM, t.ok ∧ cs = t.cells := by
  obtain ⟨xs, k, _, _, hlen, hxl, hf⟩ := DataW.trod_struct Tryz.underlying31 h
  rw [cellsStep] at hlen
  have get : ∀ i, i < 5 → ∃ y, xs[i]? = some y := fun i hi => ⟨_, List.getElem?_eq_getElem (by rw [hxl]; exact hi)⟩
  obtain ⟨v0, v1, v2, v3, v4, v5, v6, v7, v8, v9, rfl⟩ := list10 cs hlen
  obtain ⟨y0, e0⟩ := get 0 (by decide)
  obtain ⟨y1, e1⟩ := get 1 (by decide)
  obtain ⟨y2, e2⟩ := get 2 (by decide)
  obtain ⟨y3, e3⟩ := get 3 (by decide)
  obtain ⟨y4, e4⟩ := get 4 (by decide)
  have g0 : DataW.trod enc Tryz.prog w base spare held k 3 (([v0, v1, v2, v3, v4, v5, v6, v7, v8, v9].drop 0).take (Tryz.prog.cellsOf 3)) = some y0 := (hf 0 _ rfl).trans e0
  rw [cellsInt] at g0
  have g1 : DataW.trod enc Tryz.prog w base spare held k 3 (([v0, v1, v2, v3, v4, v5, v6, v7, v8, v9].drop 1).take (Tryz.prog.cellsOf 3)) = some y1 := (hf 1 _ rfl).trans e1
  rw [cellsInt] at g1
  have g2 : DataW.trod enc Tryz.prog w base spare held k 3 (([v0, v1, v2, v3, v4, v5, v6, v7, v8, v9].drop 2).take (Tryz.prog.cellsOf 3)) = some y2 := (hf 2 _ rfl).trans e2
  rw [cellsInt] at g2
  have g3 : DataW.trod enc Tryz.prog w base spare held k 3 (([v0, v1, v2, v3, v4, v5, v6, v7, v8, v9].drop 3).take (Tryz.prog.cellsOf 3)) = some y3 := (hf 3 _ rfl).trans e3
  rw [cellsInt] at g3
  have g4 : DataW.trod enc Tryz.prog w base spare held k 29 (([v0, v1, v2, v3, v4, v5, v6, v7, v8, v9].drop 4).take (Tryz.prog.cellsOf 29)) = some y4 := (hf 4 _ rfl).trans e4
  rw [cellsConfig] at g4
  obtain ⟨n0, q0, _, w0⟩ := DataW.trod_int Tryz.underlying3 g0
  obtain ⟨n1, q1, _, w1⟩ := DataW.trod_int Tryz.underlying3 g1
  obtain ⟨n2, q2, _, w2⟩ := DataW.trod_int Tryz.underlying3 g2
  obtain ⟨n3, q3, _, w3⟩ := DataW.trod_int Tryz.underlying3 g3
  obtain ⟨zs, j, _, _, _, hzl, hz⟩ := DataW.trod_struct Tryz.underlying29 g4
  have getz : ∀ i, i < 6 → ∃ y, zs[i]? = some y := fun i hi => ⟨_, List.getElem?_eq_getElem (by rw [hzl]; exact hi)⟩
  obtain ⟨z0, f0⟩ := getz 0 (by decide)
  obtain ⟨z1, f1⟩ := getz 1 (by decide)
  obtain ⟨z2, f2⟩ := getz 2 (by decide)
  obtain ⟨z3, f3⟩ := getz 3 (by decide)
  obtain ⟨z4, f4⟩ := getz 4 (by decide)
  obtain ⟨z5, f5⟩ := getz 5 (by decide)
  have k0 : DataW.trod enc Tryz.prog w base spare held j 3 (((([v0, v1, v2, v3, v4, v5, v6, v7, v8, v9].drop 4).take 6).drop 0).take (Tryz.prog.cellsOf 3)) = some z0 := (hz 0 _ rfl).trans f0
  rw [cellsInt] at k0
  have k1 : DataW.trod enc Tryz.prog w base spare held j 3 (((([v0, v1, v2, v3, v4, v5, v6, v7, v8, v9].drop 4).take 6).drop 1).take (Tryz.prog.cellsOf 3)) = some z1 := (hz 1 _ rfl).trans f1
  rw [cellsInt] at k1
  have k2 : DataW.trod enc Tryz.prog w base spare held j 3 (((([v0, v1, v2, v3, v4, v5, v6, v7, v8, v9].drop 4).take 6).drop 2).take (Tryz.prog.cellsOf 3)) = some z2 := (hz 2 _ rfl).trans f2
  rw [cellsInt] at k2
  have k3 : DataW.trod enc Tryz.prog w base spare held j 3 (((([v0, v1, v2, v3, v4, v5, v6, v7, v8, v9].drop 4).take 6).drop 3).take (Tryz.prog.cellsOf 3)) = some z3 := (hz 3 _ rfl).trans f3
  rw [cellsInt] at k3
  have k4 : DataW.trod enc Tryz.prog w base spare held j 3 (((([v0, v1, v2, v3, v4, v5, v6, v7, v8, v9].drop 4).take 6).drop 4).take (Tryz.prog.cellsOf 3)) = some z4 := (hz 4 _ rfl).trans f4
  rw [cellsInt] at k4
  have k5 : DataW.trod enc Tryz.prog w base spare held j 3 (((([v0, v1, v2, v3, v4, v5, v6, v7, v8, v9].drop 4).take 6).drop 5).take (Tryz.prog.cellsOf 3)) = some z5 := (hz 5 _ rfl).trans f5
  rw [cellsInt] at k5
  obtain ⟨n4, q4, _, w4⟩ := DataW.trod_int Tryz.underlying3 k0
  obtain ⟨n5, q5, _, w5⟩ := DataW.trod_int Tryz.underlying3 k1
  obtain ⟨n6, q6, _, w6⟩ := DataW.trod_int Tryz.underlying3 k2
  obtain ⟨n7, q7, _, w7⟩ := DataW.trod_int Tryz.underlying3 k3
  obtain ⟨n8, q8, _, w8⟩ := DataW.trod_int Tryz.underlying3 k4
  obtain ⟨n9, q9, _, w9⟩ := DataW.trod_int Tryz.underlying3 k5
  simp at q0 q1 q2 q3 q4 q5 q6 q7 q8 q9
  refine ⟨⟨n0, n1, n2, n3, n4, n5, n6, n7, n8, n9⟩, ⟨fits_of w0, fits_of w1, fits_of w2, fits_of w3, fits_of w4, fits_of w5, fits_of w6, fits_of w7, fits_of w8, fits_of w9⟩, ?_⟩
  simp [StepM.cells, *]

/-- the script, out of the argument's reading -/
theorem script_of {fuel : Nat} {a0 : Option Addr} {len cap : Nat} {x : DataW H × List MemPlace} (h : DataW.trod enc Tryz.prog w base spare held fuel 22 [.slice a0 len cap] = some x) :
    len = 0 ∨ ∃ sb off st, a0 = some ⟨sb, off, none⟩ ∧ sb < w.heap.size ∧ ScriptAt w sb off len st := by
  rcases open_slice Tryz.underlying22 h with ⟨hc, _⟩ | ⟨a, l, c, m, n, D, Pl, hc, _, hl, _, hm, _, hx⟩
  · simp at hc; exact .inl hc.2.1
  · simp at hc
    obtain ⟨rfl, rfl, rfl⟩ := hc
    rcases Nat.eq_zero_or_pos len with h0 | h0
    · exact .inl h0
    right
    have hlm : len ≤ m := by rw [hm]; split <;> omega
    rw [cellsStep] at hx
    have each : ∀ i, i < len → ∃ t : StepM, t.ok ∧ ∀ j u, t.cells[j]? = some u → w.cell? ((a.add (i * 10)).add j) = some u := by
      intro i hi
      obtain ⟨cs', h1, h2⟩ := hx i (by omega)
      obtain ⟨t, hok, rfl⟩ := step_of h2
      obtain ⟨_, _, h3⟩ := World.cells?_some h1
      refine ⟨t, hok, fun j u hj => ?_⟩
      have hj' : j < 10 := by
        rcases Nat.lt_or_ge j 10 with h | h
        · exact h
        · rw [List.getElem?_eq_none (by simpa [StepM.cells] using h)] at hj; cases hj
      rw [h3 j hj', hj]
    have inh : Inhabited StepM := ⟨⟨0, 0, 0, 0, 0, 0, 0, 0, 0, 0⟩⟩
    obtain ⟨st, hst⟩ := choose_lt each
    obtain ⟨sb, off, spot⟩ := a
    have hspot : spot = none := by
      have := World.cell?_spot ((hst 0 h0).2 0 _ rfl)
      simpa [Addr.add] using this
    subst hspot
    have hadd : ∀ i j, (((⟨sb, off, none⟩ : Addr).add (i * 10)).add j) = ⟨sb, off + i * 10 + j, none⟩ := fun i j => by
      rw [add_add, Addr.add_lit]; simp
    refine ⟨sb, off, st, rfl, ?_, fun k hk => ⟨(hst k hk).1, fun j u hj => ?_⟩⟩
    · exact World.block_lt_of_cell? w _ ((hst 0 h0).2 0 _ rfl)
    · rw [← hadd]; exact (hst k hk).2 j u hj
end

end Go.Proofs.YtpmkjeihbddfpabGreatDoor

/- OUR OWN. What the law's texts ask of the program: one contract a call. -/
namespace Go.Proofs.YtpmkjeihbddfpabGreatDoor
open Go.RowKit
set_option linter.unusedVariables false
set_option linter.unusedSimpArgs false

/-- a heap and the document's are alike; K: what is held of the count of objects that were asked for -/
structure LSim' (HS : HeapM → St → Cf → Nat → Prop) (K : St → Int → Nat → Prop) (hm : HeapM) (rm : RefM) (news : Int) (N : Nat) : Prop where
  hs : HS hm rm.st rm.cf N
  ok : rm.Ok N
  clean : FreeClean rm
  good : rm.st.Good N
  cf : CfOk rm.cf
  fits : fits news
  k : K rm.st news N
def LSim (HS : HeapM → St → Cf → Nat → Prop) (K : St → Int → Nat → Prop) (hm : HeapM) (rm : RefM) (news : Int) : Prop := ∃ N, LSim' HS K hm rm news N
theorem LSim'.pre {HS : HeapM → St → Cf → Nat → Prop} {K : St → Int → Nat → Prop} {hm : HeapM} {rm : RefM} {news : Int} {N : Nat} (s : LSim' HS K hm rm news N) {w : World} {h : Nat} (r : RefAt w h rm) : RPre h N w rm := ⟨r, s.ok, s.clean, s.good.inv, s.cf.deep.2⟩
/-- a pair is turned: its own memory alone -/
structure PairStep (w : World) (q : PairM) (w' : World) (q' : PairM) : Prop where
  here : PairAt w' q'
  same : q'.p = q.p
  foot : ∀ g ∈ q'.foot, g ∈ q.foot ∨ w.heap.size ≤ g
  off : Off q.foot w w'

theorem foot_parts (q : PairM) : q.foot.Nodup → (q.p ∉ q.x :: q.hm.foot ∧ q.p ∉ q.h :: q.rm.foot) ∧ ∀ g, g ∈ q.x :: q.hm.foot → g ∉ q.h :: q.rm.foot := by
  intro h
  have h' : (q.p :: ((q.x :: q.hm.foot) ++ (q.h :: q.rm.foot))).Nodup := h
  rw [List.nodup_cons, List.nodup_append, List.mem_append, not_or] at h'
  exact ⟨h'.1, fun g h1 h2 => h'.2.2.2 g h1 g h2 rfl⟩

/-- The count of what was asked for, then the heap, then the document's. -/
theorem pair_step {w w1 w2 w3 : World} {q : PairM} {hm' : HeapM} {rm' : RefM} {news' : Int} (pa : PairAt w q) (h1 : w1.heap[q.p]? = some (PairM.head { q with news := news' })) (o1 : Off [q.p] w w1) (s1 : w1.heap.size = w.heap.size)
    (t1 : HTurn q.x w1 q.hm w2 hm') (t2 : Turn q.h w2 q.rm w3 rm') : PairStep w q w3 { q with hm := hm', rm := rm', news := news' } := by
  obtain ⟨⟨hp1, hp2⟩, hdis⟩ := foot_parts q pa.apart
  have hxl := pa.heap.lt
  have hrl := pa.ref.lt
  have hpl := lt_of_heap pa.head
  have z1 := t1.off.size
  have z2 := t2.off.size
  have hx'l := t1.here.lt
  -- the heap's new feet are none of the document's
  have d1 : ∀ g, g ∈ q.x :: hm'.foot → g ∉ q.h :: q.rm.foot := fun g hg hr => by
    rcases List.mem_cons.1 hg with e | e
    · exact hdis g (by rw [e]; exact List.mem_cons_self) hr
    · rcases t1.foot g e with e | e
      · exact hdis g (List.mem_cons_of_mem _ e) hr
      · have := hrl g hr; omega
  have hx3 : HeapAt w3 q.x hm' := t1.here.carry fun g hg => t2.off.block g (hx'l g hg) (d1 g hg)
  have hp2' : w2.heap[q.p]? = w1.heap[q.p]? := t1.off.block q.p (by omega) hp1
  have hp3 : w3.heap[q.p]? = some (PairM.head { q with news := news' }) := by
    rw [t2.off.block q.p (by omega) hp2, hp2']; exact h1
  have fx : ∀ g ∈ q.x :: hm'.foot, g ∈ q.x :: q.hm.foot ∨ w.heap.size ≤ g := fun g hg => by
    rcases List.mem_cons.1 hg with e | e
    · exact .inl (by rw [e]; exact List.mem_cons_self)
    · rcases t1.foot g e with e | e
      · exact .inl (List.mem_cons_of_mem _ e)
      · exact .inr (by omega)
  have fr : ∀ g ∈ q.h :: rm'.foot, g ∈ q.h :: q.rm.foot ∨ w2.heap.size ≤ g := fun g hg => by
    rcases List.mem_cons.1 hg with e | e
    · exact .inl (by rw [e]; exact List.mem_cons_self)
    · rcases t2.foot g e with e | e
      · exact .inl (List.mem_cons_of_mem _ e)
      · exact .inr e
  refine ⟨⟨hp3, hx3, t2.here, ?_⟩, rfl, ?_, ⟨t2.off.os.trans (t1.off.os.trans o1.os), t2.off.tape.trans (t1.off.tape.trans o1.tape), t2.off.output.trans (t1.off.output.trans o1.output), by omega, fun k hk hF => ?_⟩⟩
  · show (q.p :: ((q.x :: hm'.foot) ++ (q.h :: rm'.foot))).Nodup
    rw [List.nodup_cons, List.nodup_append, List.mem_append, not_or]
    refine ⟨⟨fun hg => ?_, fun hg => ?_⟩, t1.here.apart, t2.here.apart, fun a ha b hb e => ?_⟩
    · rcases fx _ hg with e | e
      · exact hp1 e
      · omega
    · rcases fr _ hg with e | e
      · exact hp2 e
      · omega
    · subst e
      rcases fr a hb with e | e
      · exact d1 a ha e
      · have := hx'l a ha; omega
  · intro g hg
    rcases List.mem_append.1 (show g ∈ (q.p :: (q.x :: hm'.foot)) ++ (q.h :: rm'.foot) from hg) with e | e
    · rcases List.mem_cons.1 e with e | e
      · exact .inl (by rw [e]; exact List.mem_cons_self)
      · rcases fx g e with e | e
        · exact .inl (List.mem_cons_of_mem q.p (List.mem_append_left (q.h :: q.rm.foot) e))
        · exact .inr e
    · rcases fr g e with e | e
      · exact .inl (List.mem_cons_of_mem q.p (List.mem_append_right (q.x :: q.hm.foot) e))
      · exact .inr (by omega)
  · have hkp : k ≠ q.p := fun e => hF (by rw [e]; exact List.mem_cons_self)
    have hkx : k ∉ q.x :: q.hm.foot := fun e => hF (List.mem_cons_of_mem q.p (List.mem_append_left (q.h :: q.rm.foot) e))
    have hkr : k ∉ q.h :: q.rm.foot := fun e => hF (List.mem_cons_of_mem q.p (List.mem_append_right (q.x :: q.hm.foot) e))
    rw [t2.off.block k (by omega) hkr, t1.off.block k (by omega) hkx, o1.block k hk (by simpa using hkp)]

theorem nodup_flat_set {n : Nat} (l : List PairM) (i : Nat) (q q' : PairM) (hi : l[i]? = some q) (hn : (l.flatMap PairM.foot).Nodup) (hlt : ∀ x ∈ l.flatMap PairM.foot, x < n) (hq : q'.foot.Nodup) (hv : ∀ g ∈ q'.foot, g ∈ q.foot ∨ n ≤ g) :
    ((l.set i q').flatMap PairM.foot).Nodup ∧ ∀ x ∈ (l.set i q').flatMap PairM.foot, x ∈ l.flatMap PairM.foot ∨ n ≤ x := by
  induction l generalizing i with
  | nil => simp at hi
  | cons c l ih =>
    rw [List.flatMap_cons, List.nodup_append] at hn
    obtain ⟨n1, n2, n3⟩ := hn
    cases i with
    | zero =>
      simp at hi
      subst hi
      rw [List.set_cons_zero, List.flatMap_cons, List.flatMap_cons]
      refine ⟨List.nodup_append.2 ⟨hq, n2, fun a ha b hb e => ?_⟩, fun x hx => ?_⟩
      · subst e
        rcases hv a ha with e | e
        · exact n3 a e a hb rfl
        · have := hlt a (by rw [List.flatMap_cons]; exact List.mem_append_right _ hb); omega
      · rcases List.mem_append.1 hx with e | e
        · rcases hv x e with e | e
          · exact .inl (List.mem_append_left _ e)
          · exact .inr e
        · exact .inl (List.mem_append_right _ e)
    | succ i =>
      simp at hi
      rw [List.set_cons_succ, List.flatMap_cons, List.flatMap_cons]
      obtain ⟨g1, g2⟩ := ih i hi n2 (fun x hx => hlt x (by rw [List.flatMap_cons]; exact List.mem_append_right _ hx))
      refine ⟨List.nodup_append.2 ⟨n1, g1, fun a ha b hb e => ?_⟩, fun x hx => ?_⟩
      · subst e
        rcases g2 a hb with e | e
        · exact n3 a ha a e rfl
        · have := hlt a (by rw [List.flatMap_cons]; exact List.mem_append_left _ ha); omega
      · rcases List.mem_append.1 hx with e | e
        · exact .inl (List.mem_append_left _ e)
        · rcases g2 x e with e | e
          · exact .inl (List.mem_append_right _ e)
          · exact .inr e

variable {Sim : HeapM → RefM → Int → Prop}

/-- One pair is turned: the others stay. -/
theorem LawAt.turn {B : Nat} {w w' : World} {wb : Nat} {v : Value} {ps : List PairM} (r : LawAt Sim B w wb v ps) (hB : B ≤ w.heap.size) (i : Nat) {q q' : PairM} (hi : ps[i]? = some q) (t : PairStep w q w' q') (hs : Sim q'.hm q'.rm q'.news) :
    LawAt Sim B w' wb v (ps.set i q') ∧ Off (allFoot wb v ps) w w' := by
  have hlt := r.lt
  have hnd := r.apart
  simp only [allFoot, List.cons_append, List.nodup_cons, List.nodup_append, List.mem_append, not_or] at hnd
  obtain ⟨⟨hwv, hwp⟩, hvn, hpn, hvp⟩ := hnd
  have hqm : q ∈ ps := List.mem_of_getElem? hi
  have hqf : ∀ g ∈ q.foot, g ∈ ps.flatMap PairM.foot := fun g hg => List.mem_flatMap.2 ⟨q, hqm, hg⟩
  have hpl : ∀ g ∈ ps.flatMap PairM.foot, g < w.heap.size := fun g hg => hlt g (by simp only [allFoot, List.cons_append]; exact List.mem_cons_of_mem _ (List.mem_append_right _ hg))
  have hvl : ∀ g, v.ownBlock = some g → g < w.heap.size := fun g hg => (own_lt r.row hg).2
  obtain ⟨g1, g2⟩ := nodup_flat_set ps i q q' hi hpn hpl t.here.apart t.foot
  have hw : wb < w.heap.size := lt_of_heap r.head
  have hwq : wb ∉ q.foot := fun e => hwp (hqf wb e)
  refine ⟨⟨?_, ?_, ?_, ?_, ?_, ?_, r.tab.off t.off fun g hg => r.low g (by simp only [allFoot, List.cons_append]; exact List.mem_cons_of_mem _ (List.mem_append_right _ (hqf g hg)))⟩, t.off.mono fun g hg => by simp only [allFoot, List.cons_append]; exact List.mem_cons_of_mem _ (List.mem_append_right _ (hqf g hg))⟩
  · rw [t.off.block wb hw hwq]; exact r.head
  · have e : (ps.set i q').map (fun q => ptr q.p) = ps.map fun q => ptr q.p := map_set_same (fun q : PairM => ptr q.p) ps i q q' hi (by rw [t.same])
    rw [List.length_set, e]
    exact own_carry r.row fun g hg => t.off.block g (hvl g hg) (fun e => hvp g (by simp [hg]) g (hqf g e) rfl)
  · intro x hx
    obtain ⟨j, hj⟩ := List.getElem?_of_mem hx
    rw [List.getElem?_set] at hj
    split at hj
    · split at hj
      · cases hj; exact t.here
      · cases hj
    · rename_i hne
      have hxm := List.mem_of_getElem? hj
      refine (r.pairs x hxm).carry fun g hg => t.off.block g ((r.pairs x hxm).lt g hg) fun e => ?_
      -- two pairs at two places share no block
      have : ∀ (l : List PairM) (a b : Nat) (p1 p2 : PairM), (l.flatMap PairM.foot).Nodup → l[a]? = some p1 → l[b]? = some p2 → g ∈ p1.foot → g ∈ p2.foot → a = b := by
        intro l
        induction l with
        | nil => intro a b p1 p2 _ h1; simp at h1
        | cons c l ih =>
          intro a b p1 p2 hn h1 h2 h3 h4
          rw [List.flatMap_cons, List.nodup_append] at hn
          cases a with
          | zero =>
            cases b with
            | zero => rfl
            | succ b => simp at h1 h2; subst h1; exact absurd rfl (hn.2.2 g h3 g (List.mem_flatMap.2 ⟨p2, List.mem_of_getElem? h2, h4⟩))
          | succ a =>
            cases b with
            | zero => simp at h1 h2; subst h2; exact absurd rfl (hn.2.2 g h4 g (List.mem_flatMap.2 ⟨p1, List.mem_of_getElem? h1, h3⟩))
            | succ b => simp at h1 h2; rw [ih a b p1 p2 hn.2.1 h1 h2 h3 h4]
      exact hne (this ps i j q x hpn hi hj e hg)
  · intro x hx
    rcases List.mem_or_eq_of_mem_set hx with e | e
    · exact r.sim x e
    · subst e; exact hs
  · simp only [allFoot, List.cons_append, List.nodup_cons, List.nodup_append, List.mem_append, not_or]
    refine ⟨⟨hwv, fun e => ?_⟩, hvn, g1, fun a ha b hb e => ?_⟩
    · rcases g2 wb e with e | e
      · exact hwp e
      · omega
    · subst e
      have ha' : v.ownBlock = some a := by simpa using ha
      rcases g2 a hb with e | e
      · exact hvp a ha a e rfl
      · have := hvl a ha'; omega
  · intro g hg
    simp only [allFoot, List.cons_append] at hg
    rcases List.mem_cons.1 hg with e | hg
    · exact r.low g (by rw [e]; simp [allFoot])
    · rcases List.mem_append.1 hg with e | e
      · exact r.low g (by simp only [allFoot, List.cons_append]; exact List.mem_cons_of_mem _ (List.mem_append_left _ e))
      · rcases g2 g e with e | e
        · exact r.low g (by simp only [allFoot, List.cons_append]; exact List.mem_cons_of_mem _ (List.mem_append_right _ e))
        · omega

theorem PairStep.pre {w0 w w' : World} {q q' : PairM} (pa : PairAt w0 q) (hb : Below w0.heap.size w0 w) (t : PairStep w q w' q') : PairStep w0 q w' q' :=
  ⟨t.here, t.same, fun g hg => by
    rcases t.foot g hg with e | e
    · exact .inl e
    · exact .inr (by have := hb.size; omega), (Off.of_below hb).trans t.off⟩


end Go.Proofs.YtpmkjeihbddfpabGreatDoor

/- OUR OWN. The law: one call of both heaps of a pair. -/
namespace Go.Proofs.YtpmkjeihbddfpabGreatDoor
open Go.RowKit
set_option linter.unusedVariables false
set_option linter.unusedSimpArgs false

variable {HS : HeapM → St → Cf → Nat → Prop} {K : St → Int → Nat → Prop} {Room : St → Prop}

/-- what a call of both heaps leaves -/
def PairSays (Sim : HeapM → RefM → Int → Prop) (w : World) (q : PairM) (w' : World) : Prop := ∃ q', PairStep w q w' q' ∧ Sim q'.hm q'.rm q'.news

/-- how many objects were asked for, and one more (int wraps round) -/
def bump (n : Int) : Int := if n = 9223372036854775807 then -9223372036854775808 else n + 1
theorem bump_fits {n : Int} (h : fits n) : fits (bump n) := by
  unfold bump fits at *
  split <;> omega

/-- Both heaps make one call: the program's first. A: its answer; F: how the document's is called. -/
theorem both_any {w W : World} {q : PairM} {N : Nat} {news' : Int} {A : Ending} {s' : St} (pa : PairAt w q) (sm : LSim' HS K q.hm q.rm q.news N) (hW : W.heap[q.p]? = some (PairM.head { q with news := news' })) (oW : Off [q.p] w W) (sW : W.heap.size = w.heap.size)
    (fx : FuncId) (ax : List Value) (fr : FuncId) (ar : List Value) (A2 : Ending) (hf : fits news') (hk : K s' news' N) (hgd : s'.Good N)
    (PX : HeapAt W q.x q.hm → Calls Tryz.prog fx (.pointer (some ⟨q.x, 0, none⟩) :: ax).toArray W fun e w' => e = A ∧ ∃ hm', HTurn q.x W q.hm w' hm' ∧ HS hm' s' q.rm.cf N)
    (PR : ∀ W', RPre q.h N W' q.rm → Calls Tryz.prog fr (.pointer (some ⟨q.h, 0, none⟩) :: ar).toArray W' fun e w' => e = A2 ∧ ∃ m', RStep q.h N W' q.rm w' m' ∧ m'.st = s') :
    Calls Tryz.prog fx (.pointer (some ⟨q.x, 0, none⟩) :: ax).toArray W fun e w2 => e = A ∧ w2.cell? ⟨q.p, 1, none⟩ = some (.pointer (some ⟨q.h, 0, none⟩)) ∧ W.heap.size ≤ w2.heap.size ∧ (∀ L ob, W.heap[L]? = some ob → L ∉ q.foot → w2.heap[L]? = some ob) ∧
      ∀ W2, Below w2.heap.size w2 W2 → Calls Tryz.prog fr (.pointer (some ⟨q.h, 0, none⟩) :: ar).toArray W2 fun e w3 => e = A2 ∧ W2.heap.size ≤ w3.heap.size ∧ (∀ L ob, W2.heap[L]? = some ob → L ∉ q.foot → w3.heap[L]? = some ob) ∧ PairSays (LSim HS K) w q w3 := by
  obtain ⟨⟨hp1, hp2⟩, hdis⟩ := foot_parts q pa.apart
  have hpl := lt_of_heap pa.head
  have hxl := pa.heap.lt
  have hrl := pa.ref.lt
  have hxW : HeapAt W q.x q.hm := pa.heap.carry fun g hg => oW.block g (hxl g hg) (fun e => hp1 (by simp at e; rw [← e]; exact hg))
  have hrW : RefAt W q.h q.rm := pa.ref.carry fun g hg => oW.block g (hrl g hg) (fun e => hp2 (by simp at e; rw [← e]; exact hg))
  have inx : ∀ g, g ∈ q.x :: q.hm.foot → g ∈ q.foot := fun g hg => List.mem_cons_of_mem q.p (List.mem_append_left (q.h :: q.rm.foot) hg)
  have inr : ∀ g, g ∈ q.h :: q.rm.foot → g ∈ q.foot := fun g hg => List.mem_cons_of_mem q.p (List.mem_append_right (q.x :: q.hm.foot) hg)
  refine (PX hxW).mono ?_
  rintro e w2 ⟨he, hm', t1, hs1⟩
  have z1 := t1.off.size
  refine ⟨he, ?_, z1, fun L ob hL hn => ?_, fun W2 hb => ?_⟩
  · have : w2.heap[q.p]? = some (PairM.head { q with news := news' }) := by rw [t1.off.block q.p (by omega) hp1]; exact hW
    exact cell_of_heap this rfl
  · rw [t1.off.block L (lt_of_heap hL) (fun e => hn (inx L e))]; exact hL
  · have hr2 : RefAt w2 q.h q.rm := hrW.carry fun g hg => t1.off.block g (by have := hrl g hg; omega) (fun e => hdis g e hg)
    have t1' := t1.after hb
    have hr3 : RefAt W2 q.h q.rm := hr2.carry fun g hg => hb.block g (hr2.lt g hg)
    refine (PR W2 (sm.pre hr3)).mono ?_
    rintro e w3 ⟨he3, rm', st2, hst⟩
    refine ⟨he3, st2.turn.off.size, fun L ob hL hn => ?_, _, pair_step pa hW oW sW t1' st2.turn, N, ?_⟩
    · rw [st2.turn.off.block L (lt_of_heap hL) (fun e => hn (inr L e))]; exact hL
    · exact ⟨by show HS hm' rm'.st rm'.cf N; rw [hst, st2.cf]; exact hs1, st2.ok, st2.clean, by rw [hst]; exact hgd, by show CfOk rm'.cf; rw [st2.cf]; exact sm.cf, hf, by show K rm'.st news' N; rw [hst]; exact hk⟩

theorem sim_lens {hm : HeapM} {rm : RefM} {news : Int} {N : Nat} (s : LSim' HS K hm rm news N) : N ≤ 99 ∧ rm.st.stack.length ≤ 16 ∧ rm.st.globals.length ≤ 8 := ⟨s.ok.small, s.ok.stack, s.ok.globals⟩

theorem notfoot {w : World} {q : PairM} (pa : PairAt w q) {L : Nat} (hL : w.heap.size ≤ L) : L ∉ q.foot := fun h => by have := pa.lt L h; omega

/-! ### Gauge -/
set_option maxHeartbeats 1600000 in
set_option maxRecDepth 10000 in
theorem gauged_any (P : GaugePact HS) (w : World) (q : PairM) (pa : PairAt w q) (hs : LSim HS K q.hm q.rm q.news) :
    Calls Tryz.prog 6 #[.pointer (some ⟨q.p, 0, none⟩)] w fun e w' => e = .returned (.bool true) ∧ PairSays (LSim HS K) w q w' := by
  obtain ⟨N, sm⟩ := hs
  obtain ⟨hN, hst, hgl⟩ := sim_lens sm
  have B := both_any (HS := HS) (K := K) pa sm (news' := q.news) pa.head (Off.refl _ _) rfl 16 [] 17 [] _ sm.fits sm.k sm.good
    (fun hx => P q.x N w q.hm q.rm.st q.rm.cf hx sm.hs sm.good sm.cf hN hst hgl)
    (fun W' p => (gauge_any p.r p.ok).mono fun e w' ⟨he, hb⟩ => ⟨he, q.rm, .of_below p hb, rfl⟩)
  have cx : w.cell? ⟨q.p, 0, none⟩ = some (.pointer (some ⟨q.x, 0, none⟩)) := cell_of_heap pa.head rfl
  have nf : Hid (∀ L, w.heap.size ≤ L → L ∉ q.foot) := fun L hL => notfoot pa hL
  have hpl := lt_of_heap pa.head
  obtain ⟨a1, h1⟩ : ∃ a, (gaugeS q.rm.st).1 = a := ⟨_, rfl⟩
  obtain ⟨a2, h2⟩ : ∃ a, (gaugeS q.rm.st).2.1 = a := ⟨_, rfl⟩
  obtain ⟨a3, h3⟩ : ∃ a, (gaugeS q.rm.st).2.2.1 = a := ⟨_, rfl⟩
  obtain ⟨a4, h4⟩ : ∃ a, (gaugeS q.rm.st).2.2.2.1 = a := ⟨_, rfl⟩
  obtain ⟨a5, h5⟩ : ∃ a, (gaugeS q.rm.st).2.2.2.2 = a := ⟨_, rfl⟩
  rw [h1, h2, h3, h4, h5] at B
  have K1 : Hid _ := B
  obtain ⟨qp, hqp⟩ : ∃ qp, q.p = qp := ⟨_, rfl⟩
  obtain ⟨qx, hqx⟩ : ∃ qx, q.x = qx := ⟨_, rfl⟩
  obtain ⟨qh, hqh⟩ : ∃ qh, q.h = qh := ⟨_, rfl⟩
  rw [hqp, hqx] at cx
  rw [hqp] at hpl ⊢
  rw [hqp, hqx, hqh] at K1
  clear h1 h2 h3 h4 h5 hqp hqx hqh pa sm B P hN hst hgl
  go_enter Tryz.func6, Tryz.ntmps6
  go_wp2_with fail
  refine Calls.mono K1.out ?_
  rintro e w2 ⟨rfl, c1, hz, _, hcall⟩
  have C2 : Hid _ := hcall
  have hlt : qp < w2.heap.size := by omega
  have t0 : ∀ ob, (w2.alloc ob).cell? ⟨qp, 1, none⟩ = w2.cell? ⟨qp, 1, none⟩ := fun ob => World.cell?_of_block (hao hlt)
  clear hcall K1
  go_wp2_with fail
  refine Calls.mono (C2.out _ ((Below.refl _ _).alloc (Nat.le_refl _) _)) ?_
  rintro e w3 ⟨rfl, hz3, hkeep, hq⟩
  have l := hkeep w2.heap.size _ (heap_alloc_new w2 _) (nf.out _ hz)
  have l0 := cell_of_heap (i := 0) l rfl
  have l1 := cell_of_heap (i := 1) l rfl
  have l2 := cell_of_heap (i := 2) l rfl
  have l3 := cell_of_heap (i := 3) l rfl
  have l4 := cell_of_heap (i := 4) l rfl
  have Q : Hid _ := hq
  clear hq C2 hkeep l nf
  go_wp2
  go_ret
  exact ⟨rfl, Q.out⟩

/-! ### Dump -/
set_option maxHeartbeats 1600000 in
set_option maxRecDepth 10000 in
theorem dumped_any (P : DumpPact HS) {BT : Nat} (w : World) (ht : Tab BT w) (q : PairM) (pa : PairAt w q) (hs : LSim HS K q.hm q.rm q.news) :
    Calls Tryz.prog 5 #[.pointer (some ⟨q.p, 0, none⟩)] w fun e w' => e = .returned (.bool true) ∧ PairSays (LSim HS K) w q w' := by
  obtain ⟨N, sm⟩ := hs
  obtain ⟨hN, hst, hgl⟩ := sim_lens sm
  have B := both_any (HS := HS) (K := K) pa sm (news' := q.news) pa.head (Off.refl _ _) rfl 14 [] 15 [] _ sm.fits sm.k sm.good
    (fun hx => P q.x N BT w q.hm q.rm.st q.rm.cf ht hx sm.hs sm.good sm.cf hN hst hgl)
    (fun W' p => (dump_any p.r p.ok (sm.good.fits hN)).mono fun e w' ⟨he, hb⟩ => ⟨he, q.rm, .of_below p hb, rfl⟩)
  have cx : w.cell? ⟨q.p, 0, none⟩ = some (.pointer (some ⟨q.x, 0, none⟩)) := cell_of_heap pa.head rfl
  obtain ⟨d, hd⟩ : ∃ d, dumpL q.rm.st = d := ⟨_, rfl⟩
  rw [hd] at B
  unfold str at B
  obtain ⟨ba, hba⟩ : ∃ ba : ByteArray, ⟨d.toArray⟩ = ba := ⟨_, rfl⟩
  rw [hba] at B
  have K1 : Hid _ := B
  obtain ⟨qp, hqp⟩ : ∃ qp, q.p = qp := ⟨_, rfl⟩
  obtain ⟨qx, hqx⟩ : ∃ qx, q.x = qx := ⟨_, rfl⟩
  obtain ⟨qh, hqh⟩ : ∃ qh, q.h = qh := ⟨_, rfl⟩
  rw [hqp, hqx] at cx
  rw [hqp] at ⊢
  rw [hqp, hqx, hqh] at K1
  clear hd hba hqp hqx hqh pa sm B P hN hst hgl ht
  go_enter Tryz.func5, Tryz.ntmps5
  go_wp2_with fail
  refine Calls.mono K1.out ?_
  rintro e w2 ⟨rfl, c1, hz, _, hcall⟩
  have C2 : Hid _ := hcall
  clear hcall K1
  go_wp2_with fail
  refine Calls.mono (C2.out _ (Below.refl _ _)) ?_
  rintro e w3 ⟨rfl, hz3, _, hq⟩
  have Q : Hid _ := hq
  clear hq C2
  go_wp2
  go_ret
  exact ⟨rfl, Q.out⟩

end Go.Proofs.YtpmkjeihbddfpabGreatDoor

/- OUR OWN. The law: done; the steps of each kind. -/
namespace Go.Proofs.YtpmkjeihbddfpabGreatDoor
open Go.RowKit
set_option linter.unusedVariables false
set_option linter.unusedSimpArgs false

variable {HS : HeapM → St → Cf → Nat → Prop} {K : St → Int → Nat → Prop} {Room : St → Prop}

set_option maxHeartbeats 1600000 in
set_option maxRecDepth 10000 in
theorem done_law (P : DoPact HS Room) (w : World) (q : PairM) (op n : Int) (pa : PairAt w q) (hs : LSim HS K q.hm q.rm q.news) (hop : fits op) (hn : fits n) (hg : op = 2 → Room q.rm.st)
    (hk : ∀ N, LSim' HS K q.hm q.rm q.news N → K (doS q.rm.cf q.rm.st op n).1 (if op = 2 then bump q.news else q.news) N) :
    Calls Tryz.prog 9 #[.pointer (some ⟨q.p, 0, none⟩), .int .i64 op, .int .i64 n] w fun e w' => e = .returned (.bool true) ∧ PairSays (LSim HS K) w q w' := by
  obtain ⟨N, sm⟩ := hs
  obtain ⟨hN, hst, hgl⟩ := sim_lens sm
  have hkN := hk N sm
  have B : ∀ (W : World) (news' : Int), W.heap[q.p]? = some (PairM.head { q with news := news' }) → Off [q.p] w W → W.heap.size = w.heap.size → fits news' → K (doS q.rm.cf q.rm.st op n).1 news' N →
      Calls Tryz.prog 22 #[.pointer (some ⟨q.x, 0, none⟩), .int .i64 op, .int .i64 n] W fun e w2 => e = .returned (.tuple #[.int .i64 (doS q.rm.cf q.rm.st op n).2.1, .int .i64 (doS q.rm.cf q.rm.st op n).2.2]) ∧ w2.cell? ⟨q.p, 1, none⟩ = some (.pointer (some ⟨q.h, 0, none⟩)) ∧ W.heap.size ≤ w2.heap.size ∧ (∀ L ob, W.heap[L]? = some ob → L ∉ q.foot → w2.heap[L]? = some ob) ∧
        ∀ W2, Below w2.heap.size w2 W2 → Calls Tryz.prog 23 #[.pointer (some ⟨q.h, 0, none⟩), .int .i64 op, .int .i64 n] W2 fun e w3 => e = .returned (.tuple #[.int .i64 (doS q.rm.cf q.rm.st op n).2.1, .int .i64 (doS q.rm.cf q.rm.st op n).2.2]) ∧ W2.heap.size ≤ w3.heap.size ∧ (∀ L ob, W2.heap[L]? = some ob → L ∉ q.foot → w3.heap[L]? = some ob) ∧ PairSays (LSim HS K) w q w3 := by
    intro W news' hW oW sW hf hk'
    exact both_any (HS := HS) (K := K) pa sm (news' := news') hW oW sW 22 [.int .i64 op, .int .i64 n] 23 [.int .i64 op, .int .i64 n] _ hf hk' (sm.good.did q.rm.cf op n hn)
      (fun hx => P q.x N W q.hm q.rm.st q.rm.cf op n hx sm.hs sm.good sm.cf hN hst hgl hop hn hg)
      (fun W' p => (do_ref op q.h N W' q.rm n p (fun _ => made_all p sm.good sm.cf.over n)).mono fun e w' ⟨he, m', s', hs'⟩ => ⟨he, m', s', hs'⟩)
  have cx : w.cell? ⟨q.p, 0, none⟩ = some (.pointer (some ⟨q.x, 0, none⟩)) := cell_of_heap pa.head rfl
  have cn : w.cell? ⟨q.p, 2, none⟩ = some (.int .i64 q.news) := cell_of_heap pa.head rfl
  have fn' : w.frozen? ⟨q.p, 2, none⟩ = false := frozen_of_heap pa.head
  have NUM : Hid (∀ (e : Int) (W : World), Calls Tryz.prog 20 #[.int .i64 e] W fun r w' => r = .returned (.int .i64 e) ∧ w' = W) := fun e W => num_any e W
  have hfn := sm.fits
  by_cases h2 : op = 2
  · rw [if_pos h2] at hkN
    have K1 : Hid _ := B (w.setCell ⟨q.p, 2, none⟩ (.int .i64 (bump q.news))) (bump q.news) (by rw [heap_setCell_at pa.head]; rfl) (off_setCell w q.p 2 _) (by simp [World.setCell]) (bump_fits hfn) hkN
    obtain ⟨a, ha⟩ : ∃ a, (doS q.rm.cf q.rm.st op n).2.1 = a := ⟨_, rfl⟩
    obtain ⟨b, hb⟩ : ∃ b, (doS q.rm.cf q.rm.st op n).2.2 = b := ⟨_, rfl⟩
    rw [ha, hb] at K1
    obtain ⟨nw, hnw⟩ : ∃ nw, q.news = nw := ⟨_, rfl⟩
    rw [hnw] at cn K1 hfn
    obtain ⟨qp, hqp⟩ : ∃ qp, q.p = qp := ⟨_, rfl⟩
    obtain ⟨qx, hqx⟩ : ∃ qx, q.x = qx := ⟨_, rfl⟩
    obtain ⟨qh, hqh⟩ : ∃ qh, q.h = qh := ⟨_, rfl⟩
    rw [hqp, hqx] at cx
    rw [hqp] at cn fn' ⊢
    rw [hqp, hqx, hqh] at K1
    clear B hN hst hgl hg ha hb hnw hqp hqx hqh pa sm P hk hkN hop hn
    subst h2
    obtain ⟨f1, f2⟩ := hfn
    by_cases hmax : nw = 9223372036854775807
    · subst hmax
      have e : bump 9223372036854775807 = -9223372036854775808 := rfl
      rw [e] at K1
      clear e f1 f2
      go_enter Tryz.func9, Tryz.ntmps9
      go_wp2_with fail
      rw [show wrap64 9223372036854775808 = -9223372036854775808 by kernel_rfl]
      refine Calls.mono K1.out ?_
      rintro e w2 ⟨rfl, c1, _, _, hcall⟩
      have C2 : Hid _ := hcall
      clear hcall K1
      go_wp2_with fail
      refine Calls.mono (C2.out _ (Below.refl _ _)) ?_
      rintro e w3 ⟨rfl, _, _, hq⟩
      have Q : Hid _ := hq
      clear hq C2
      go_wp2_with (go_at_call 20; refine Calls.mono (NUM.out _ _) ?_; rintro e w3 ⟨rfl, rfl⟩)
      go_ret
      exact ⟨rfl, Q.out⟩
    · have e : bump nw = nw + 1 := if_neg hmax
      rw [e] at K1
      clear e
      have f3 : nw + 1 ≤ 9223372036854775807 := by omega
      have f4 : -9223372036854775808 ≤ nw + 1 := by omega
      go_enter Tryz.func9, Tryz.ntmps9
      go_wp2_with fail
      refine Calls.mono K1.out ?_
      rintro e w2 ⟨rfl, c1, _, _, hcall⟩
      have C2 : Hid _ := hcall
      clear hcall K1
      go_wp2_with fail
      refine Calls.mono (C2.out _ (Below.refl _ _)) ?_
      rintro e w3 ⟨rfl, _, _, hq⟩
      have Q : Hid _ := hq
      clear hq C2
      go_wp2_with (go_at_call 20; refine Calls.mono (NUM.out _ _) ?_; rintro e w3 ⟨rfl, rfl⟩)
      go_ret
      exact ⟨rfl, Q.out⟩
  · rw [if_neg h2] at hkN
    have K1 : Hid _ := B w q.news pa.head (Off.refl _ _) rfl hfn hkN
    obtain ⟨a, ha⟩ : ∃ a, (doS q.rm.cf q.rm.st op n).2.1 = a := ⟨_, rfl⟩
    obtain ⟨b, hb⟩ : ∃ b, (doS q.rm.cf q.rm.st op n).2.2 = b := ⟨_, rfl⟩
    rw [ha, hb] at K1
    obtain ⟨qp, hqp⟩ : ∃ qp, q.p = qp := ⟨_, rfl⟩
    obtain ⟨qx, hqx⟩ : ∃ qx, q.x = qx := ⟨_, rfl⟩
    obtain ⟨qh, hqh⟩ : ∃ qh, q.h = qh := ⟨_, rfl⟩
    rw [hqp, hqx] at cx
    rw [hqp] at cn fn' ⊢
    rw [hqp, hqx, hqh] at K1
    have h22 : (op == 2) = false := by simpa using h2
    clear B hN hst hgl hg ha hb hqp hqx hqh pa sm P hk hkN hop hn
    go_enter Tryz.func9, Tryz.ntmps9
    go_wp2_with fail
    refine Calls.mono K1.out ?_
    rintro e w2 ⟨rfl, c1, _, _, hcall⟩
    have C2 : Hid _ := hcall
    clear hcall K1
    go_wp2_with fail
    refine Calls.mono (C2.out _ (Below.refl _ _)) ?_
    rintro e w3 ⟨rfl, _, _, hq⟩
    have Q : Hid _ := hq
    clear hq C2
    go_wp2_with (go_at_call 20; refine Calls.mono (NUM.out _ _) ?_; rintro e w3 ⟨rfl, rfl⟩)
    go_ret
    exact ⟨rfl, Q.out⟩

end Go.Proofs.YtpmkjeihbddfpabGreatDoor

/- OUR OWN. The law: a step of each kind. -/
namespace Go.Proofs.YtpmkjeihbddfpabGreatDoor
open Go.RowKit
set_option linter.unusedVariables false
set_option linter.unusedSimpArgs false

variable {HS : HeapM → St → Cf → Nat → Prop} {K : St → Int → Nat → Prop} {Room : St → Prop}

set_option maxHeartbeats 800000 in
theorem core_do (w : World) (wb gb cap len k qp : Nat) (a op n b s g u z o : Int) (hw : wb < w.heap.size) (hgb : gb < w.heap.size)
    (hc : w.cell? ⟨wb, 0, none⟩ = some (.slice (some ⟨gb, 0, none⟩) len cap)) (hc1 : w.cell? ⟨gb, k, none⟩ = some (.pointer (some ⟨qp, 0, none⟩)))
    (hp : 0 < len) (hk : k < len) (PK : ∀ w, Calls Tryz.prog 8 #[.int .i64 a, .int .i64 len] w fun r w' => r = .returned (.int .i64 k) ∧ w' = w) (Post : World → Prop)
    (DN : ∀ W, Below w.heap.size w W → Calls Tryz.prog 9 #[.pointer (some ⟨qp, 0, none⟩), .int .i64 op, .int .i64 n] W fun e w' => e = .returned (.bool true) ∧ Post w') :
    Calls Tryz.prog 4 #[.pointer (some ⟨wb, 0, none⟩), .agg #[.int .i64 2, .int .i64 a, .int .i64 op, .int .i64 n, .int .i64 b, .int .i64 s, .int .i64 g, .int .i64 u, .int .i64 z, .int .i64 o]] w fun e w' =>
      e = .returned (.bool true) ∧ Post w' := by
  have hkI : (k : Int) < len := by omega
  have hne : ((len : Int) == 0) = false := by simp; omega
  have hl0 : ¬ len = 0 := by omega
  have D : Hid _ := DN
  clear DN
  go_enter Tryz.func4, Tryz.ntmps4
  go_wp2_with fail
  go_quiet ((go_at_call 8; exact Calls.quiet_of_same (PK _)))
  go_wp2_with fail
  refine Calls.mono (D.out _ (below_drewN ((Below.refl _ _).alloc (Nat.le_refl _) _) _)) ?_
  rintro e w1 ⟨rfl, hm⟩
  have M : Hid _ := hm
  clear hm D
  go_wp2
  go_ret
  exact ⟨rfl, M.out⟩

set_option maxHeartbeats 800000 in
theorem core_gauge (w : World) (wb gb cap len k qp : Nat) (a op n b s g u z o : Int) (hw : wb < w.heap.size) (hgb : gb < w.heap.size)
    (hc : w.cell? ⟨wb, 0, none⟩ = some (.slice (some ⟨gb, 0, none⟩) len cap)) (hc1 : w.cell? ⟨gb, k, none⟩ = some (.pointer (some ⟨qp, 0, none⟩)))
    (hp : 0 < len) (hk : k < len) (PK : ∀ w, Calls Tryz.prog 8 #[.int .i64 a, .int .i64 len] w fun r w' => r = .returned (.int .i64 k) ∧ w' = w) (Post : World → Prop)
    (DN : ∀ W, Below w.heap.size w W → Calls Tryz.prog 6 #[.pointer (some ⟨qp, 0, none⟩)] W fun e w' => e = .returned (.bool true) ∧ Post w') :
    Calls Tryz.prog 4 #[.pointer (some ⟨wb, 0, none⟩), .agg #[.int .i64 3, .int .i64 a, .int .i64 op, .int .i64 n, .int .i64 b, .int .i64 s, .int .i64 g, .int .i64 u, .int .i64 z, .int .i64 o]] w fun e w' =>
      e = .returned (.bool true) ∧ Post w' := by
  have hkI : (k : Int) < len := by omega
  have hne : ((len : Int) == 0) = false := by simp; omega
  have hl0 : ¬ len = 0 := by omega
  have D : Hid _ := DN
  clear DN
  go_enter Tryz.func4, Tryz.ntmps4
  go_wp2_with fail
  go_quiet ((go_at_call 8; exact Calls.quiet_of_same (PK _)))
  go_wp2_with fail
  refine Calls.mono (D.out _ (below_drewN ((Below.refl _ _).alloc (Nat.le_refl _) _) _)) ?_
  rintro e w1 ⟨rfl, hm⟩
  have M : Hid _ := hm
  clear hm D
  go_wp2
  go_ret
  exact ⟨rfl, M.out⟩

set_option maxHeartbeats 800000 in
theorem core_dump (w : World) (wb gb cap len k qp : Nat) (a op n b s g u z o : Int) (hw : wb < w.heap.size) (hgb : gb < w.heap.size)
    (hc : w.cell? ⟨wb, 0, none⟩ = some (.slice (some ⟨gb, 0, none⟩) len cap)) (hc1 : w.cell? ⟨gb, k, none⟩ = some (.pointer (some ⟨qp, 0, none⟩)))
    (hp : 0 < len) (hk : k < len) (PK : ∀ w, Calls Tryz.prog 8 #[.int .i64 a, .int .i64 len] w fun r w' => r = .returned (.int .i64 k) ∧ w' = w) (Post : World → Prop)
    (DN : ∀ W, Below w.heap.size w W → Calls Tryz.prog 5 #[.pointer (some ⟨qp, 0, none⟩)] W fun e w' => e = .returned (.bool true) ∧ Post w') :
    Calls Tryz.prog 4 #[.pointer (some ⟨wb, 0, none⟩), .agg #[.int .i64 4, .int .i64 a, .int .i64 op, .int .i64 n, .int .i64 b, .int .i64 s, .int .i64 g, .int .i64 u, .int .i64 z, .int .i64 o]] w fun e w' =>
      e = .returned (.bool true) ∧ Post w' := by
  have hkI : (k : Int) < len := by omega
  have hne : ((len : Int) == 0) = false := by simp; omega
  have hl0 : ¬ len = 0 := by omega
  have D : Hid _ := DN
  clear DN
  go_enter Tryz.func4, Tryz.ntmps4
  go_wp2_with fail
  go_quiet ((go_at_call 8; exact Calls.quiet_of_same (PK _)))
  go_wp2_with fail
  refine Calls.mono (D.out _ (below_drewN ((Below.refl _ _).alloc (Nat.le_refl _) _) _)) ?_
  rintro e w1 ⟨rfl, hm⟩
  have M : Hid _ := hm
  clear hm D
  go_wp2
  go_ret
  exact ⟨rfl, M.out⟩

set_option maxHeartbeats 1600000 in
theorem core_safe (w : World) (wb gb cap len k qp : Nat) (a op n b s g u z o : Int) (hw : wb < w.heap.size) (hgb : gb < w.heap.size)
    (hc : w.cell? ⟨wb, 0, none⟩ = some (.slice (some ⟨gb, 0, none⟩) len cap)) (hc1 : w.cell? ⟨gb, k, none⟩ = some (.pointer (some ⟨qp, 0, none⟩)))
    (hp : 0 < len) (hk : k < len) (PK : ∀ w, Calls Tryz.prog 8 #[.int .i64 a, .int .i64 len] w fun r w' => r = .returned (.int .i64 k) ∧ w' = w) (Post : World → Prop) (qx qh : Nat) (r : Nat) (hqp : qp < w.heap.size) (c0 : w.cell? ⟨qp, 0, none⟩ = some (.pointer (some ⟨qx, 0, none⟩)))
    (DN : ∀ W, Below w.heap.size w W → Calls Tryz.prog 10 #[.pointer (some ⟨qx, 0, none⟩)] W fun e w1 => e = .returned (.int .i64 r) ∧ w1.cell? ⟨qp, 1, none⟩ = some (.pointer (some ⟨qh, 0, none⟩)) ∧
      ∀ W2, Below w1.heap.size w1 W2 → Calls Tryz.prog 11 #[.pointer (some ⟨qh, 0, none⟩)] W2 fun e w2 => e = .returned (.int .i64 r) ∧ Post w2) :
    Calls Tryz.prog 4 #[.pointer (some ⟨wb, 0, none⟩), .agg #[.int .i64 5, .int .i64 a, .int .i64 op, .int .i64 n, .int .i64 b, .int .i64 s, .int .i64 g, .int .i64 u, .int .i64 z, .int .i64 o]] w fun e w' =>
      e = .returned (.bool true) ∧ Post w' := by
  have hkI : (k : Int) < len := by omega
  have hne : ((len : Int) == 0) = false := by simp; omega
  have hl0 : ¬ len = 0 := by omega
  have D : Hid _ := DN
  clear DN
  go_enter Tryz.func4, Tryz.ntmps4
  go_wp2_with fail
  go_quiet ((go_at_call 8; exact Calls.quiet_of_same (PK _)))
  go_wp2_with fail
  refine Calls.mono (D.out _ (below_drewN ((Below.refl _ _).alloc (Nat.le_refl _) _) _)) ?_
  rintro e w1 ⟨rfl, c1, h2⟩
  have M : Hid _ := h2
  clear h2 D
  go_wp2_with fail
  refine Calls.mono (M.out _ (Below.refl _ _)) ?_
  rintro e w2 ⟨rfl, hpost⟩
  have M2 : Hid _ := hpost
  clear hpost M
  go_wp2
  go_ret
  exact ⟨rfl, M2.out⟩

set_option maxHeartbeats 1600000 in
theorem core_coll (w : World) (wb gb cap len k qp : Nat) (a op n b s g u z o : Int) (hw : wb < w.heap.size) (hgb : gb < w.heap.size)
    (hc : w.cell? ⟨wb, 0, none⟩ = some (.slice (some ⟨gb, 0, none⟩) len cap)) (hc1 : w.cell? ⟨gb, k, none⟩ = some (.pointer (some ⟨qp, 0, none⟩)))
    (hp : 0 < len) (hk : k < len) (PK : ∀ w, Calls Tryz.prog 8 #[.int .i64 a, .int .i64 len] w fun r w' => r = .returned (.int .i64 k) ∧ w' = w) (Post : World → Prop) (qx qh : Nat) (r : Nat) (hqp : qp < w.heap.size) (c0 : w.cell? ⟨qp, 0, none⟩ = some (.pointer (some ⟨qx, 0, none⟩)))
    (DN : ∀ W, Below w.heap.size w W → Calls Tryz.prog 12 #[.pointer (some ⟨qx, 0, none⟩)] W fun e w1 => e = .returned (.int .i64 r) ∧ w1.cell? ⟨qp, 1, none⟩ = some (.pointer (some ⟨qh, 0, none⟩)) ∧
      ∀ W2, Below w1.heap.size w1 W2 → Calls Tryz.prog 13 #[.pointer (some ⟨qh, 0, none⟩)] W2 fun e w2 => e = .returned (.int .i64 r) ∧ Post w2) :
    Calls Tryz.prog 4 #[.pointer (some ⟨wb, 0, none⟩), .agg #[.int .i64 6, .int .i64 a, .int .i64 op, .int .i64 n, .int .i64 b, .int .i64 s, .int .i64 g, .int .i64 u, .int .i64 z, .int .i64 o]] w fun e w' =>
      e = .returned (.bool true) ∧ Post w' := by
  have hkI : (k : Int) < len := by omega
  have hne : ((len : Int) == 0) = false := by simp; omega
  have hl0 : ¬ len = 0 := by omega
  have D : Hid _ := DN
  clear DN
  go_enter Tryz.func4, Tryz.ntmps4
  go_wp2_with fail
  go_quiet ((go_at_call 8; exact Calls.quiet_of_same (PK _)))
  go_wp2_with fail
  refine Calls.mono (D.out _ (below_drewN ((Below.refl _ _).alloc (Nat.le_refl _) _) _)) ?_
  rintro e w1 ⟨rfl, c1, h2⟩
  have M : Hid _ := h2
  clear h2 D
  go_wp2_with fail
  refine Calls.mono (M.out _ (Below.refl _ _)) ?_
  rintro e w2 ⟨rfl, hpost⟩
  have M2 : Hid _ := hpost
  clear hpost M
  go_wp2
  go_ret
  exact ⟨rfl, M2.out⟩

theorem law_do (P : DoPact HS Room) {B : Nat} {w : World} {wb : Nat} {v : Value} {ps : List PairM} (r : LawAt (LSim HS K) B w wb v ps) (hB : B ≤ w.heap.size) (t : StepM) (hk : t.kind = 2) (ht : t.ok) (hm : ps.length ≤ 2000000000000) (hp : 0 < ps.length)
    (hgood : t.op = 2 → Room (ps[pickN t.a ps.length]'(pickN_lt _ _ hp)).rm.st) (hK : ∀ N, LSim' HS K (ps[pickN t.a ps.length]'(pickN_lt _ _ hp)).hm (ps[pickN t.a ps.length]'(pickN_lt _ _ hp)).rm (ps[pickN t.a ps.length]'(pickN_lt _ _ hp)).news N → K (doS (ps[pickN t.a ps.length]'(pickN_lt _ _ hp)).rm.cf (ps[pickN t.a ps.length]'(pickN_lt _ _ hp)).rm.st t.op t.n).1 (if t.op = 2 then bump (ps[pickN t.a ps.length]'(pickN_lt _ _ hp)).news else (ps[pickN t.a ps.length]'(pickN_lt _ _ hp)).news) N) :
    Calls Tryz.prog 4 #[ptr wb, t.val] w fun e w' => e = .returned (.bool true) ∧ ∃ ps', ps'.length = ps.length ∧ LawAt (LSim HS K) B w' wb v ps' ∧ Off (allFoot wb v ps) w w' := by
  obtain ⟨kind, a, op, n, b, s, g, u, z, o⟩ := t
  obtain ⟨_, ha, hop, hn, _⟩ := ht
  simp only at hk hgood hK
  subst hk
  obtain ⟨gb, cap, hv, hgb, hrow⟩ := r.form hp
  have hkk := pickN_lt a ps.length hp
  have hq : ps[pickN a ps.length]? = some ps[pickN a ps.length] := List.getElem?_eq_getElem hkk
  have pa := r.pairs _ (List.getElem_mem hkk)
  have hsim := r.sim _ (List.getElem_mem hkk)
  have FIN : ∀ W w', Below w.heap.size w W → PairSays (LSim HS K) W ps[pickN a ps.length] w' → ∃ ps', ps'.length = ps.length ∧ LawAt (LSim HS K) B w' wb v ps' ∧ Off (allFoot wb v ps) w w' := fun W w' hb ⟨q', hst, hs'⟩ => by
    obtain ⟨l1, l2⟩ := r.turn hB _ hq (PairStep.pre pa hb hst) hs'
    exact ⟨_, by simp, l1, l2⟩
  refine core_do w wb gb cap ps.length (pickN a ps.length) _ a op n b s g u z o (lt_of_heap r.head) hgb (by rw [← hv]; exact cell_of_heap r.head rfl) (hrow _ hkk) hp hkk (fun w => pick_any a ps.length w ha hp hm) _ fun W hb => ?_
  refine (done_law P W _ op n (pa.carry fun x hx => hb.block x (pa.lt x hx)) hsim hop hn hgood (hK)).mono ?_
  rintro e w' ⟨he, hps⟩
  exact ⟨he, FIN W w' hb hps⟩

theorem law_gauge (P : GaugePact HS) {B : Nat} {w : World} {wb : Nat} {v : Value} {ps : List PairM} (r : LawAt (LSim HS K) B w wb v ps) (hB : B ≤ w.heap.size) (t : StepM) (hk : t.kind = 3) (ht : t.ok) (hm : ps.length ≤ 2000000000000) (hp : 0 < ps.length) :
    Calls Tryz.prog 4 #[ptr wb, t.val] w fun e w' => e = .returned (.bool true) ∧ ∃ ps', ps'.length = ps.length ∧ LawAt (LSim HS K) B w' wb v ps' ∧ Off (allFoot wb v ps) w w' := by
  obtain ⟨kind, a, op, n, b, s, g, u, z, o⟩ := t
  obtain ⟨_, ha, hop, hn, _⟩ := ht
  simp only at hk
  subst hk
  obtain ⟨gb, cap, hv, hgb, hrow⟩ := r.form hp
  have hkk := pickN_lt a ps.length hp
  have hq : ps[pickN a ps.length]? = some ps[pickN a ps.length] := List.getElem?_eq_getElem hkk
  have pa := r.pairs _ (List.getElem_mem hkk)
  have hsim := r.sim _ (List.getElem_mem hkk)
  have FIN : ∀ W w', Below w.heap.size w W → PairSays (LSim HS K) W ps[pickN a ps.length] w' → ∃ ps', ps'.length = ps.length ∧ LawAt (LSim HS K) B w' wb v ps' ∧ Off (allFoot wb v ps) w w' := fun W w' hb ⟨q', hst, hs'⟩ => by
    obtain ⟨l1, l2⟩ := r.turn hB _ hq (PairStep.pre pa hb hst) hs'
    exact ⟨_, by simp, l1, l2⟩
  refine core_gauge w wb gb cap ps.length (pickN a ps.length) _ a op n b s g u z o (lt_of_heap r.head) hgb (by rw [← hv]; exact cell_of_heap r.head rfl) (hrow _ hkk) hp hkk (fun w => pick_any a ps.length w ha hp hm) _ fun W hb => ?_
  refine (gauged_any P W _ (pa.carry fun x hx => hb.block x (pa.lt x hx)) hsim).mono ?_
  rintro e w' ⟨he, hps⟩
  exact ⟨he, FIN W w' hb hps⟩

theorem law_dump (P : DumpPact HS) {B : Nat} {w : World} {wb : Nat} {v : Value} {ps : List PairM} (r : LawAt (LSim HS K) B w wb v ps) (hB : B ≤ w.heap.size) (t : StepM) (hk : t.kind = 4) (ht : t.ok) (hm : ps.length ≤ 2000000000000) (hp : 0 < ps.length) :
    Calls Tryz.prog 4 #[ptr wb, t.val] w fun e w' => e = .returned (.bool true) ∧ ∃ ps', ps'.length = ps.length ∧ LawAt (LSim HS K) B w' wb v ps' ∧ Off (allFoot wb v ps) w w' := by
  obtain ⟨kind, a, op, n, b, s, g, u, z, o⟩ := t
  obtain ⟨_, ha, hop, hn, _⟩ := ht
  simp only at hk
  subst hk
  obtain ⟨gb, cap, hv, hgb, hrow⟩ := r.form hp
  have hkk := pickN_lt a ps.length hp
  have hq : ps[pickN a ps.length]? = some ps[pickN a ps.length] := List.getElem?_eq_getElem hkk
  have pa := r.pairs _ (List.getElem_mem hkk)
  have hsim := r.sim _ (List.getElem_mem hkk)
  have FIN : ∀ W w', Below w.heap.size w W → PairSays (LSim HS K) W ps[pickN a ps.length] w' → ∃ ps', ps'.length = ps.length ∧ LawAt (LSim HS K) B w' wb v ps' ∧ Off (allFoot wb v ps) w w' := fun W w' hb ⟨q', hst, hs'⟩ => by
    obtain ⟨l1, l2⟩ := r.turn hB _ hq (PairStep.pre pa hb hst) hs'
    exact ⟨_, by simp, l1, l2⟩
  refine core_dump w wb gb cap ps.length (pickN a ps.length) _ a op n b s g u z o (lt_of_heap r.head) hgb (by rw [← hv]; exact cell_of_heap r.head rfl) (hrow _ hkk) hp hkk (fun w => pick_any a ps.length w ha hp hm) _ fun W hb => ?_
  refine (dumped_any P W (r.tab.below hb) _ (pa.carry fun x hx => hb.block x (pa.lt x hx)) hsim).mono ?_
  rintro e w' ⟨he, hps⟩
  exact ⟨he, FIN W w' hb hps⟩

theorem law_safe (P : SafePact HS) {B : Nat} {w : World} {wb : Nat} {v : Value} {ps : List PairM} (r : LawAt (LSim HS K) B w wb v ps) (hB : B ≤ w.heap.size) (t : StepM) (hk : t.kind = 5) (ht : t.ok) (hm : ps.length ≤ 2000000000000) (hp : 0 < ps.length)
    (hK : ∀ N, LSim' HS K (ps[pickN t.a ps.length]'(pickN_lt _ _ hp)).hm (ps[pickN t.a ps.length]'(pickN_lt _ _ hp)).rm (ps[pickN t.a ps.length]'(pickN_lt _ _ hp)).news N → K ((ps[pickN t.a ps.length]'(pickN_lt _ _ hp)).rm.st.safe (ps[pickN t.a ps.length]'(pickN_lt _ _ hp)).rm.cf).1 (ps[pickN t.a ps.length]'(pickN_lt _ _ hp)).news N) :
    Calls Tryz.prog 4 #[ptr wb, t.val] w fun e w' => e = .returned (.bool true) ∧ ∃ ps', ps'.length = ps.length ∧ LawAt (LSim HS K) B w' wb v ps' ∧ Off (allFoot wb v ps) w w' := by
  obtain ⟨kind, a, op, n, b, s, g, u, z, o⟩ := t
  obtain ⟨_, ha, hop, hn, _⟩ := ht
  simp only at hk hK
  subst hk
  obtain ⟨gb, cap, hv, hgb, hrow⟩ := r.form hp
  have hkk := pickN_lt a ps.length hp
  have hq : ps[pickN a ps.length]? = some ps[pickN a ps.length] := List.getElem?_eq_getElem hkk
  have pa := r.pairs _ (List.getElem_mem hkk)
  have hsim := r.sim _ (List.getElem_mem hkk)
  have FIN : ∀ W w', Below w.heap.size w W → PairSays (LSim HS K) W ps[pickN a ps.length] w' → ∃ ps', ps'.length = ps.length ∧ LawAt (LSim HS K) B w' wb v ps' ∧ Off (allFoot wb v ps) w w' := fun W w' hb ⟨q', hst, hs'⟩ => by
    obtain ⟨l1, l2⟩ := r.turn hB _ hq (PairStep.pre pa hb hst) hs'
    exact ⟨_, by simp, l1, l2⟩
  obtain ⟨N, sm⟩ := hsim
  obtain ⟨hN, hst, hgl⟩ := sim_lens sm
  refine core_safe w wb gb cap ps.length (pickN a ps.length) _ a op n b s g u z o (lt_of_heap r.head) hgb (by rw [← hv]; exact cell_of_heap r.head rfl) (hrow _ hkk) hp hkk (fun w => pick_any a ps.length w ha hp hm) _ _ (ps[pickN a ps.length]).h (((ps[pickN a ps.length]).rm.st.safe (ps[pickN a ps.length]).rm.cf).2) (lt_of_heap pa.head) (cell_of_heap pa.head rfl) fun W hb => ?_
  have paW : PairAt W ps[pickN a ps.length] := pa.carry fun x hx => hb.block x (pa.lt x hx)
  refine (both_any (HS := HS) (K := K) paW sm (news' := (ps[pickN a ps.length]).news) paW.head (Off.refl _ _) rfl 10 [] 11 [] _ sm.fits (hK N sm) (sm.good.safe _)
    (fun hx => P _ N W _ _ _ hx sm.hs sm.good sm.cf hN hst hgl) (fun W' p => (safe_any p sm.good sm.cf.budget.2).mono fun e w' ⟨he, m', s', hs'⟩ => ⟨he, m', s', hs'⟩)).mono ?_
  rintro e w1 ⟨he, c1, _, _, h2⟩
  refine ⟨he, c1, fun W2 hb2 => (h2 W2 hb2).mono ?_⟩
  rintro e w2 ⟨he2, _, _, hps⟩
  exact ⟨he2, FIN W w2 hb hps⟩

theorem law_coll (P : CollPact HS) {B : Nat} {w : World} {wb : Nat} {v : Value} {ps : List PairM} (r : LawAt (LSim HS K) B w wb v ps) (hB : B ≤ w.heap.size) (t : StepM) (hk : t.kind = 6) (ht : t.ok) (hm : ps.length ≤ 2000000000000) (hp : 0 < ps.length)
    (hK : ∀ N, LSim' HS K (ps[pickN t.a ps.length]'(pickN_lt _ _ hp)).hm (ps[pickN t.a ps.length]'(pickN_lt _ _ hp)).rm (ps[pickN t.a ps.length]'(pickN_lt _ _ hp)).news N → K ((ps[pickN t.a ps.length]'(pickN_lt _ _ hp)).rm.st.collect (ps[pickN t.a ps.length]'(pickN_lt _ _ hp)).rm.cf.over) (ps[pickN t.a ps.length]'(pickN_lt _ _ hp)).news N) :
    Calls Tryz.prog 4 #[ptr wb, t.val] w fun e w' => e = .returned (.bool true) ∧ ∃ ps', ps'.length = ps.length ∧ LawAt (LSim HS K) B w' wb v ps' ∧ Off (allFoot wb v ps) w w' := by
  obtain ⟨kind, a, op, n, b, s, g, u, z, o⟩ := t
  obtain ⟨_, ha, hop, hn, _⟩ := ht
  simp only at hk hK
  subst hk
  obtain ⟨gb, cap, hv, hgb, hrow⟩ := r.form hp
  have hkk := pickN_lt a ps.length hp
  have hq : ps[pickN a ps.length]? = some ps[pickN a ps.length] := List.getElem?_eq_getElem hkk
  have pa := r.pairs _ (List.getElem_mem hkk)
  have hsim := r.sim _ (List.getElem_mem hkk)
  have FIN : ∀ W w', Below w.heap.size w W → PairSays (LSim HS K) W ps[pickN a ps.length] w' → ∃ ps', ps'.length = ps.length ∧ LawAt (LSim HS K) B w' wb v ps' ∧ Off (allFoot wb v ps) w w' := fun W w' hb ⟨q', hst, hs'⟩ => by
    obtain ⟨l1, l2⟩ := r.turn hB _ hq (PairStep.pre pa hb hst) hs'
    exact ⟨_, by simp, l1, l2⟩
  obtain ⟨N, sm⟩ := hsim
  obtain ⟨hN, hst, hgl⟩ := sim_lens sm
  refine core_coll w wb gb cap ps.length (pickN a ps.length) _ a op n b s g u z o (lt_of_heap r.head) hgb (by rw [← hv]; exact cell_of_heap r.head rfl) (hrow _ hkk) hp hkk (fun w => pick_any a ps.length w ha hp hm) _ _ (ps[pickN a ps.length]).h ((ps[pickN a ps.length]).rm.st.gone) (lt_of_heap pa.head) (cell_of_heap pa.head rfl) fun W hb => ?_
  have paW : PairAt W ps[pickN a ps.length] := pa.carry fun x hx => hb.block x (pa.lt x hx)
  refine (both_any (HS := HS) (K := K) paW sm (news' := (ps[pickN a ps.length]).news) paW.head (Off.refl _ _) rfl 12 [] 13 [] _ sm.fits (hK N sm) (sm.good.collect _)
    (fun hx => P _ N W _ _ _ hx sm.hs sm.good sm.cf hN hst hgl) (fun W' p => (collect_any p sm.good sm.cf.over).mono fun e w' ⟨he, m', s', hs', _⟩ => ⟨he, m', s', hs'⟩)).mono ?_
  rintro e w1 ⟨he, c1, _, _, h2⟩
  refine ⟨he, c1, fun W2 hb2 => (h2 W2 hb2).mono ?_⟩
  rintro e w2 ⟨he2, _, _, hps⟩
  exact ⟨he2, FIN W w2 hb hps⟩

end Go.Proofs.YtpmkjeihbddfpabGreatDoor

/- OUR OWN. The law: the steps of a script, for every law. -/
namespace Go.Proofs.YtpmkjeihbddfpabGreatDoor
open Go.RowKit
set_option linter.unusedVariables false
set_option linter.unusedSimpArgs false

variable {HS : HeapM → St → Cf → Nat → Prop} {K : St → Int → Nat → Prop} {Room : St → Prop}

/-- of the pair that an OpNew speaks of -/
def GoodAt (G : PairM → Prop) (t : StepM) (ps : List PairM) : Prop := t.kind = 2 → t.op = 2 → ∀ hp : 0 < ps.length, G (ps[pickN t.a ps.length]'(pickN_lt _ _ hp))
def earlyG (q : PairM) : Prop := q.news < q.rm.most
def unsweptG (q : PairM) : Prop := ¬ ((gaugeS q.rm.st).1 = 0 ∧ q.rm.st.queue.length = 0)

/-- Every step is as the document says. -/
theorem step_law (last lo hi : Int) (G : PairM → Prop) (hF : FreshSim (LSim HS K)) (Pd : DoPact HS Room) (Pg : 3 ≤ last → GaugePact HS) (Pu : 4 ≤ last → DumpPact HS) (Ps : 5 ≤ last → SafePact HS) (Pc : 6 ≤ last → CollPact HS)
    (hR : ∀ q N, LSim' HS K q.hm q.rm q.news N → G q → Room q.rm.st)
    (kd : ∀ (q : PairM) N op n, LSim' HS K q.hm q.rm q.news N → (op = 2 → G q) → K (doS q.rm.cf q.rm.st op n).1 (if op = 2 then bump q.news else q.news) N)
    (ks : 5 ≤ last → ∀ (q : PairM) N, LSim' HS K q.hm q.rm q.news N → K (q.rm.st.safe q.rm.cf).1 q.news N)
    (kc : 6 ≤ last → ∀ (q : PairM) N, LSim' HS K q.hm q.rm q.news N → K (q.rm.st.collect q.rm.cf.over) q.news N) : StepSays (LSim HS K) last lo hi (GoodAt G) := by
  intro B w wb v ps t r hB hm hok hk hgood
  by_cases h1 : t.kind = 1
  · exact (step_new r hF hB hm t h1).mono fun e w' ⟨v', ps', he, hl, hr, ho⟩ => ⟨true, v', ps', he, fun _ => rfl, hl, hr, ho⟩
  rcases Nat.eq_zero_or_pos ps.length with hp | hp
  · obtain rfl : ps = [] := List.eq_nil_of_length_eq_zero hp
    exact (step_none r t h1).mono fun e w' ⟨he, hb⟩ => ⟨true, v, [], he, fun _ => rfl, by simp, r.below hb, .of_below hb⟩
  have FIN : ∀ (e : Ending) (w' : World), (e = .returned (.bool true) ∧ ∃ ps', ps'.length = ps.length ∧ LawAt (LSim HS K) B w' wb v ps' ∧ Off (allFoot wb v ps) w w') →
      ∃ ok v' ps', e = .returned (.bool ok) ∧ (t.held lo hi → ok = true) ∧ ps'.length ≤ ps.length + 1 ∧ LawAt (LSim HS K) B w' wb v' ps' ∧ Off (allFoot wb v ps) w w' := fun e w' ⟨he, ps', hl, hr, ho⟩ => ⟨true, v, ps', he, fun _ => rfl, by omega, hr, ho⟩
  have hq := pickN_lt t.a ps.length hp
  by_cases h2 : t.kind = 2
  · refine (law_do Pd r hB t h2 hok hm hp (fun ho => ?_) (fun N sm => kd _ N t.op t.n sm (fun ho => hgood h2 ho hp))).mono FIN
    obtain ⟨N, sm⟩ := r.sim _ (List.getElem_mem hq)
    exact hR _ N sm (hgood h2 ho hp)
  by_cases h3 : t.kind = 3
  · exact (law_gauge (Pg (by omega)) r hB t h3 hok hm hp).mono FIN
  by_cases h4 : t.kind = 4
  · exact (law_dump (Pu (by omega)) r hB t h4 hok hm hp).mono FIN
  by_cases h5 : t.kind = 5
  · exact (law_safe (Ps (by omega)) r hB t h5 hok hm hp (fun N sm => ks (by omega) _ N sm)).mono FIN
  by_cases h6 : t.kind = 6
  · exact (law_coll (Pc (by omega)) r hB t h6 hok hm hp (fun N sm => kc (by omega) _ N sm)).mono FIN
  · exact (step_idle r t h1 h2 h3 h4 h5 h6 hok.2.1 hm).mono fun e w' ⟨he, hb⟩ => ⟨true, v, ps, he, fun _ => rfl, by omega, r.below hb, .of_below hb⟩

end Go.Proofs.YtpmkjeihbddfpabGreatDoor

/- OUR OWN. The law: what is held of the count of objects that were asked for. -/
namespace Go.Proofs.YtpmkjeihbddfpabGreatDoor
open Go.RowKit
set_option linter.unusedVariables false
set_option linter.unusedSimpArgs false

/-! ### How many blocks are taken -/
def hereL (s : St) : List Bool := s.objs.map Ob.here
theorem used_here (s : St) : usedN s = (hereL s).tail.countP id := by
  unfold usedN hereL
  rw [← List.map_tail, List.countP_map]
  rfl
theorem here_put {s : St} {i : Nat} {o : Ob} (h : o.here = (s.ob i).here) : hereL (s.put i o) = hereL s := by
  unfold hereL St.put
  by_cases hi : i < s.objs.length
  · rw [List.map_set]
    refine List.ext_getElem? fun j => ?_
    by_cases hj : j = i
    · subst hj
      rw [List.getElem?_set_self (by simpa using hi), List.getElem?_map, List.getElem?_eq_getElem hi, h, ob_of (List.getElem?_eq_getElem hi)]; rfl
    · rw [List.getElem?_set_ne (fun e => hj e.symm)]
  · rw [List.set_eq_of_length_le (by omega)]
theorem here_enq (s : St) (i : Nat) : hereL (s.enq i) = hereL s := here_put (s := s) (i := i) (o := { s.ob i with queued := true }) rfl
theorem here_sortTo (but : Int) (s : St) (k : Nat) : hereL (sortTo but s k) = hereL s := by
  induction k with
  | zero => rfl
  | succ k ih =>
    unfold sortTo
    split
    · rw [here_enq, ih]
    · exact ih
theorem here_enter (z but : Int) (s : St) : hereL (s.enter z but) = hereL s := by
  unfold St.enter
  split
  · exact here_sortTo but s _
  · rfl
theorem here_store (c : Cf) (s : St) (n : Int) : hereL (storeS c s n).1 = hereL s := by
  unfold storeS
  split
  · rfl
  split
  · rfl
  split
  · rfl
  unfold putS
  split
  · rfl
  have h1 : hereL (stickS c.over (s.pop 2) (s.down 0)) = hereL s := by
    unfold stickS
    split
    · exact here_put (s := s.pop 2) (o := { (s.pop 2).ob _ with stuck := true }) rfl
    · rfl
  have h2 : ∀ (t : St) (i k : Nat) (v : Int × Int), hereL (t.field i k v) = hereL t := fun t i k v => here_put (o := { t.ob i with fs := (t.ob i).fs.set k v }) rfl
  unfold dropS'
  split
  · rw [here_enter, h2, h1]
  · rw [h2, h1]
theorem here_lay (z : Int) (s : St) (b n : Nat) : hereL (layS z s b n) = (hereL s).set b true := by
  show hereL ((s.put b ⟨true, List.replicate n (0, 0), false, false⟩).enter z b) = _
  rw [here_enter]
  unfold hereL St.put
  rw [List.map_set]
theorem countP_set_le (l : List Bool) (i : Nat) : (l.set i true).countP id ≤ l.countP id + 1 := by
  induction l generalizing i with
  | nil => simp
  | cons a l ih =>
    cases i with
    | zero => rw [List.set_cons_zero, List.countP_cons, List.countP_cons]; simp
    | succ i => rw [List.set_cons_succ, List.countP_cons, List.countP_cons]; have := ih i; omega
theorem used_new {s : St} (c : Cf) (n : Int) {k : Nat} (h : free? s = some k) : usedN (newS c s n).1 ≤ usedN s + 1 := by
  unfold newS
  split
  · exact Nat.le_succ _
  split
  · exact Nat.le_succ _
  rw [room_of_free h, h]
  show usedN (layS c.zero s (k + 1) n.toNat) ≤ _
  rw [used_here, used_here, here_lay]
  cases e : hereL s with
  | nil => simp
  | cons a l => rw [List.set_cons_succ]; exact countP_set_le l k
theorem used_other {c : Cf} {s : St} {op n : Int} (h : ¬ op = 2) : usedN (doS c s op n).1 = usedN s := by
  have key : ∀ t : St, hereL t = hereL s → usedN t = usedN s := fun t e => by rw [used_here, used_here, e]
  have hs := here_store c s n
  have hpush : ∀ (t : St) (v : Int × Int), hereL t = hereL s → hereL (pushA c.deep t v).1 = hereL s := fun t v e => by
    unfold pushA pushS
    split
    · exact e
    · exact e
  refine key _ ?_
  unfold doS
  by_cases h0 : op = 0
  · rw [if_pos h0]; exact hpush s _ rfl
  rw [if_neg h0]
  by_cases h1 : op = 1
  · rw [if_pos h1]; exact hpush s _ rfl
  rw [if_neg h1]
  by_cases h2 : op = 2
  · exact absurd h2 h
  rw [if_neg h2]
  by_cases h3 : op = 3
  · rw [if_pos h3]; unfold dupS; split
    · rfl
    · exact hpush s _ rfl
  rw [if_neg h3]
  by_cases h4 : op = 4
  · rw [if_pos h4]; unfold dropS; split <;> rfl
  rw [if_neg h4]
  by_cases h5 : op = 5
  · rw [if_pos h5]; unfold getS; split
    · rfl
    · exact hpush s _ rfl
  rw [if_neg h5]
  by_cases h6 : op = 6
  · rw [if_pos h6]; unfold setS; split
    · rfl
    · split <;> rfl
  rw [if_neg h6]
  by_cases h7 : op = 7
  · rw [if_pos h7]; unfold loadS; split
    · rfl
    · split
      · rfl
      · split
        · rfl
        · exact hpush (s.pop 1) _ rfl
  rw [if_neg h7]
  by_cases h8 : op = 8
  · rw [if_pos h8]; exact hs
  rw [if_neg h8]
  by_cases h9 : op = 9
  · rw [if_pos h9]; unfold sameS; split
    · rfl
    · split <;> rfl
  rw [if_neg h9]
  by_cases h10 : op = 10
  · rw [if_pos h10]; unfold takeS; split
    · rfl
    · split <;> rfl
  rw [if_neg h10]
  by_cases h11 : op = 11
  · rw [if_pos h11]; unfold sizeS; split
    · rfl
    · split <;> rfl
  rw [if_neg h11]
  by_cases h12 : op = 12
  · rw [if_pos h12]; unfold kindS; split <;> rfl
  rw [if_neg h12]

/-! ### What an OpNew may be asked of -/
def earlyK (s : St) (news : Int) (N : Nat) : Prop := (usedN s : Int) ≤ news ∧ news ≤ N
def anyK (s : St) (news : Int) (N : Nat) : Prop := True

variable {HS : HeapM → St → Cf → Nat → Prop}

theorem early_room (q : PairM) (N : Nat) (sm : LSim' HS earlyK q.hm q.rm q.news N) (hg : earlyG q) : room2 q.rm.st := by
  have := sm.k.1
  have h2 := sm.ok.most
  unfold earlyG at hg
  exact used_le sm.good.len (by omega)
theorem early_do (q : PairM) (N : Nat) (op n : Int) (sm : LSim' HS earlyK q.hm q.rm q.news N) (hg : op = 2 → earlyG q) : earlyK (doS q.rm.cf q.rm.st op n).1 (if op = 2 then bump q.news else q.news) N := by
  by_cases h : op = 2
  · rw [if_pos h]
    have hlt := hg h
    unfold earlyG at hlt
    have h2 := sm.ok.most
    have h3 := sm.ok.small
    obtain ⟨k, hk⟩ := early_room q N sm (hg h)
    have hu := used_new q.rm.cf n hk
    have e : doS q.rm.cf q.rm.st op n = newS q.rm.cf q.rm.st n := by rw [h]; simp [doS]
    have h1 := sm.k.1
    have eb : bump q.news = q.news + 1 := if_neg (by omega)
    rw [e, eb]
    exact ⟨by omega, by omega⟩
  · rw [if_neg h]
    refine ⟨?_, sm.k.2⟩
    rw [used_other h]; exact sm.k.1
theorem unswept_room (q : PairM) (N : Nat) {K : St → Int → Nat → Prop} (sm : LSim' HS K q.hm q.rm q.news N) (hg : unsweptG q) : room3 q.rm.st := by
  unfold unsweptG at hg
  by_cases hq : q.rm.st.queue.length = 0
  · cases hk : free? q.rm.st with
    | some k => exact .inl ⟨k, hk⟩
    | none =>
      refine absurd ⟨?_, hq⟩ hg
      have hall := free_none sm.ok hk
      have : ∀ j, j ≤ N → countTo q.rm.st.frees j = 0 := fun j => by
        induction j with
        | zero => intro _; simp [countTo]
        | succ j ih =>
          intro hj
          obtain ⟨o, ho, hh⟩ := hall j (by omega)
          rw [countTo_succ, ih (by omega)]
          have : q.rm.st.frees (j + 1) = false := by unfold St.frees; rw [st_ob ho]; simp [RObj.ob, hh]
          rw [this]; rfl
      unfold gaugeS
      show countTo q.rm.st.frees q.rm.st.N = 0
      rw [st_N sm.ok]
      exact this N (Nat.le_refl _)
  · exact .inr hq

/-! ### A configuration's heap, at the start -/
theorem fresh_st (b s g u z o : Nat) (rB rG : Value) : (freshM b s g u z o rB rG).st = ⟨[], List.replicate g (0, 0), List.replicate (b + 1) Ob.free, []⟩ := by
  simp [RefM.st, freshM, RObj.free, RObj.ob, Ob.free]
theorem fresh_sim {K : St → Int → Nat → Prop} (hK : ∀ g b : Nat, K ⟨[], List.replicate g (0, 0), List.replicate (b + 1) Ob.free, []⟩ 0 b)
    (hs : ∀ (b s g u z o : Nat), cfgB b s g u z o = true → ∀ hm, NewM b s g u z o hm → HS hm ⟨[], List.replicate g (0, 0), List.replicate (b + 1) Ob.free, []⟩ ⟨s, u, z, o⟩ b) : FreshSim (LSim HS K) := by
  intro b s g u z o h hm hn rB rG
  have h' := h
  simp [cfgB] at h'
  refine ⟨b, ?_, ⟨rfl, by simp [freshM], by omega, fun x hx => ?_, by simp [freshM], by simp [freshM]; omega, by simp [freshM]⟩, fun x hx _ => ?_, ?_, ⟨?_, ?_, ?_, ?_⟩, ⟨by decide, by decide⟩, ?_⟩
  · rw [fresh_st]; exact hs b s g u z o h hm hn
  · have : x = RObj.free := by simp [freshM] at hx; exact hx
    subst this; simp [RObj.free]
  · have : x = RObj.free := by simp [freshM] at hx; exact hx
    subst this; rfl
  · rw [fresh_st]; exact good_new b g
  · show 1 ≤ (s : Int) ∧ (s : Int) ≤ 16; omega
  · show 1 ≤ (u : Int) ∧ (u : Int) ≤ 99; omega
  · show 0 ≤ (o : Int) ∧ (o : Int) ≤ 9; omega
  · show (s : Int) < (z : Int) ∧ (z : Int) ≤ 99; omega
  · rw [fresh_st]; exact hK g b
theorem early_fresh (g b : Nat) : earlyK ⟨[], List.replicate g (0, 0), List.replicate (b + 1) Ob.free, []⟩ 0 b := by
  refine ⟨?_, by omega⟩
  have : usedN ⟨[], List.replicate g (0, 0), List.replicate (b + 1) Ob.free, []⟩ = 0 := by
    unfold usedN
    rw [List.countP_eq_zero]
    intro x hx
    have := List.mem_of_mem_tail hx
    simp at this
    rw [this]; simp [Ob.free]
  rw [this]; simp

end Go.Proofs.YtpmkjeihbddfpabGreatDoor

