/- OUR OWN. Does: one operation of both heaps. -/
import Derived.Test.YtblekkjamemloaaDA
namespace Go.Proofs.Ytblekkjamemloaa
open Go.RowKit
set_option linter.unusedVariables false
set_option linter.unusedSimpArgs false

/-- a pair is turned: its own memory alone -/
structure PairStep (w : World) (q : PairM) (w' : World) (q' : PairM) : Prop where
  here : PairAt w' q'
  same : q'.p = q.p
  foot : ∀ g ∈ q'.foot, g ∈ q.foot ∨ w.heap.size ≤ g
  off : Off q.foot w w'

theorem foot_parts (q : PairM) : q.foot.Nodup → (q.p ∉ q.x :: q.hm.foot ∧ q.p ∉ q.h :: q.rm.foot) ∧ ∀ g, g ∈ q.x :: q.hm.foot → g ∉ q.h :: q.rm.foot := by
  intro h
  have h' : (q.p :: ((q.x :: q.hm.foot) ++ (q.h :: q.rm.foot))).Nodup := h
  rw [List.nodup_cons, List.nodup_append, List.mem_append, not_or] at h'
  exact ⟨h'.1, fun g h1 h2 => h'.2.2.2 g h1 g h2 rfl⟩

/-- The count of what was asked for, then the heap, then the document's. -/
theorem pair_step {w w1 w2 w3 : World} {q : PairM} {hm' : HeapM} {rm' : RefM} {news' : Int} (pa : PairAt w q) (h1 : w1.heap[q.p]? = some (PairM.head { q with news := news' })) (o1 : Off [q.p] w w1) (s1 : w1.heap.size = w.heap.size)
    (t1 : HTurn q.x w1 q.hm w2 hm') (t2 : Turn q.h w2 q.rm w3 rm') : PairStep w q w3 { q with hm := hm', rm := rm', news := news' } := by
  obtain ⟨⟨hp1, hp2⟩, hdis⟩ := foot_parts q pa.apart
  have hxl := pa.heap.lt
  have hrl := pa.ref.lt
  have hpl := lt_of_heap pa.head
  have z1 := t1.off.size
  have z2 := t2.off.size
  have hx'l := t1.here.lt
  -- the heap's new feet are none of the document's
  have d1 : ∀ g, g ∈ q.x :: hm'.foot → g ∉ q.h :: q.rm.foot := fun g hg hr => by
    rcases List.mem_cons.1 hg with e | e
    · exact hdis g (by rw [e]; exact List.mem_cons_self) hr
    · rcases t1.foot g e with e | e
      · exact hdis g (List.mem_cons_of_mem _ e) hr
      · have := hrl g hr; omega
  have hx3 : HeapAt w3 q.x hm' := t1.here.carry fun g hg => t2.off.block g (hx'l g hg) (d1 g hg)
  have hp2' : w2.heap[q.p]? = w1.heap[q.p]? := t1.off.block q.p (by omega) hp1
  have hp3 : w3.heap[q.p]? = some (PairM.head { q with news := news' }) := by
    rw [t2.off.block q.p (by omega) hp2, hp2']; exact h1
  have fx : ∀ g ∈ q.x :: hm'.foot, g ∈ q.x :: q.hm.foot ∨ w.heap.size ≤ g := fun g hg => by
    rcases List.mem_cons.1 hg with e | e
    · exact .inl (by rw [e]; exact List.mem_cons_self)
    · rcases t1.foot g e with e | e
      · exact .inl (List.mem_cons_of_mem _ e)
      · exact .inr (by omega)
  have fr : ∀ g ∈ q.h :: rm'.foot, g ∈ q.h :: q.rm.foot ∨ w2.heap.size ≤ g := fun g hg => by
    rcases List.mem_cons.1 hg with e | e
    · exact .inl (by rw [e]; exact List.mem_cons_self)
    · rcases t2.foot g e with e | e
      · exact .inl (List.mem_cons_of_mem _ e)
      · exact .inr e
  refine ⟨⟨hp3, hx3, t2.here, ?_⟩, rfl, ?_, ⟨t2.off.os.trans (t1.off.os.trans o1.os), t2.off.tape.trans (t1.off.tape.trans o1.tape), t2.off.output.trans (t1.off.output.trans o1.output), by omega, fun k hk hF => ?_⟩⟩
  · show (q.p :: ((q.x :: hm'.foot) ++ (q.h :: rm'.foot))).Nodup
    rw [List.nodup_cons, List.nodup_append, List.mem_append, not_or]
    refine ⟨⟨fun hg => ?_, fun hg => ?_⟩, t1.here.apart, t2.here.apart, fun a ha b hb e => ?_⟩
    · rcases fx _ hg with e | e
      · exact hp1 e
      · omega
    · rcases fr _ hg with e | e
      · exact hp2 e
      · omega
    · subst e
      rcases fr a hb with e | e
      · exact d1 a ha e
      · have := hx'l a ha; omega
  · intro g hg
    rcases List.mem_append.1 (show g ∈ (q.p :: (q.x :: hm'.foot)) ++ (q.h :: rm'.foot) from hg) with e | e
    · rcases List.mem_cons.1 e with e | e
      · exact .inl (by rw [e]; exact List.mem_cons_self)
      · rcases fx g e with e | e
        · exact .inl (List.mem_cons_of_mem q.p (List.mem_append_left (q.h :: q.rm.foot) e))
        · exact .inr e
    · rcases fr g e with e | e
      · exact .inl (List.mem_cons_of_mem q.p (List.mem_append_right (q.x :: q.hm.foot) e))
      · exact .inr (by omega)
  · have hkp : k ≠ q.p := fun e => hF (by rw [e]; exact List.mem_cons_self)
    have hkx : k ∉ q.x :: q.hm.foot := fun e => hF (List.mem_cons_of_mem q.p (List.mem_append_left (q.h :: q.rm.foot) e))
    have hkr : k ∉ q.h :: q.rm.foot := fun e => hF (List.mem_cons_of_mem q.p (List.mem_append_right (q.x :: q.hm.foot) e))
    rw [t2.off.block k (by omega) hkr, t1.off.block k (by omega) hkx, o1.block k hk (by simpa using hkp)]

/-- What done leaves. -/
def DoneSays (w : World) (q : PairM) (e : Ending) (w' : World) : Prop := e = .returned (.bool true) ∧ ∃ q', PairStep w q w' q' ∧ DoSim q'.hm q'.rm q'.news

theorem simpre {w : World} {q : PairM} (pa : PairAt w q) {N : Nat} (h1 : q.hm.Ok N) (h2 : q.hm.st = q.rm.st) (h3 : q.rm.st.Inv N) (h4 : q.hm.room = q.rm.deep) (h5 : q.rm.deep ≤ 16) : HPre q.x N w q.hm := ⟨pa.heap, h1, by rw [h2]; exact h3, by rw [h4]; exact h5⟩

set_option maxHeartbeats 800000 in
theorem done_any (w : World) (q : PairM) (op n : Int) (pa : PairAt w q) (hs : DoSim q.hm q.rm q.news) (hg : op = 2 → q.news < q.rm.most) :
    Calls Try.prog 36 #[ptr q.p, .int .i64 op, .int .i64 n] w (DoneSays w q) := by
  obtain ⟨N, hok, rok, hcl, hst, hinv, hroom, hdeep, hused, hn0, hnN⟩ := hs
  have hN := rok.small
  have hmost := rok.most
  obtain ⟨⟨hp1, hp2⟩, hdis⟩ := foot_parts q pa.apart
  have hpl := lt_of_heap pa.head
  have hxl := pa.heap.lt
  have hrl := pa.ref.lt
  have hfree : op = 2 → ∃ k, free? q.rm.st = some k := fun h2 => used_le hinv.len (by have := hg h2; omega)
  -- the world with the count turned
  have KEY : ∀ (W : World) (news' : Int), W.heap[q.p]? = some (PairM.head { q with news := news' }) → Off [q.p] w W → W.heap.size = w.heap.size → (usedN (doS q.rm.deep q.rm.st op n).1 : Int) ≤ news' → 0 ≤ news' → news' ≤ N →
      Calls Try.prog 16 #[.pointer (some ⟨q.x, 0, none⟩), .int .i64 op, .int .i64 n] W fun e w2 => e = .returned (.tuple #[.int .i64 (doS q.rm.deep q.rm.st op n).2.1, .int .i64 (doS q.rm.deep q.rm.st op n).2.2]) ∧
        w2.cell? ⟨q.p, 1, none⟩ = some (.pointer (some ⟨q.h, 0, none⟩)) ∧
        Calls Try.prog 54 #[.pointer (some ⟨q.h, 0, none⟩), .int .i64 op, .int .i64 n] w2 fun e w3 => e = .returned (.tuple #[.int .i64 (doS q.rm.deep q.rm.st op n).2.1, .int .i64 (doS q.rm.deep q.rm.st op n).2.2]) ∧
          ∃ q', PairStep w q w3 q' ∧ DoSim q'.hm q'.rm q'.news := by
    intro W news' hW oW sW hu h0 hN'
    have hxW : HeapAt W q.x q.hm := pa.heap.carry fun g hg => oW.block g (hxl g hg) (fun e => hp1 (by simp at e; rw [← e]; exact hg))
    have hrW : RefAt W q.h q.rm := pa.ref.carry fun g hg => oW.block g (hrl g hg) (fun e => hp2 (by simp at e; rw [← e]; exact hg))
    have p1 : HPre q.x N W q.hm := ⟨hxW, hok, by rw [hst]; exact hinv, by rw [hroom]; exact hdeep⟩
    refine (do_prog op q.x N W q.hm n p1 (by rw [hst]; exact hfree)).mono ?_
    rintro e w2 ⟨he, hm', st1, hm1⟩
    rw [hst, hroom] at he hm1
    refine ⟨he, ?_, ?_⟩
    · have : w2.heap[q.p]? = some (PairM.head { q with news := news' }) := by rw [st1.turn.off.block q.p (by omega) hp1]; exact hW
      exact cell_of_heap this rfl
    · have hr2 : RefAt w2 q.h q.rm := hrW.carry fun g hg => st1.turn.off.block g (by have := hrl g hg; omega) (fun e => hdis g e hg)
      have p2 : RPre q.h N w2 q.rm := ⟨hr2, rok, hcl, hinv, hdeep⟩
      refine (do_ref op q.h N w2 q.rm n p2 hfree).mono ?_
      rintro e w3 ⟨he3, rm', st2, hm2⟩
      refine ⟨he3, _, pair_step pa hW oW sW st1.turn st2.turn, N, st1.ok, st2.ok, st2.clean, hm1.trans hm2.symm, ?_, ?_, ?_, ?_, h0, hN'⟩
      · rw [hm2]; exact inv_do hinv _ _ _
      · rw [st1.deep, st2.deep]; exact hroom
      · rw [st2.deep]; exact hdeep
      · rw [hm2]; exact hu
  have cx : w.cell? ⟨q.p, 0, none⟩ = some (.pointer (some ⟨q.x, 0, none⟩)) := cell_of_heap pa.head rfl
  have cn : w.cell? ⟨q.p, 2, none⟩ = some (.int .i64 q.news) := cell_of_heap pa.head rfl
  have fn' : w.frozen? ⟨q.p, 2, none⟩ = false := frozen_of_heap pa.head
  have NUM : Hid (∀ (e : Int) (W : World), Calls Try.prog 52 #[.int .i64 e] W fun r w' => r = .returned (.int .i64 e) ∧ w' = W) := fun e W => num_any e W
  unfold ptr
  by_cases h2 : op = 2
  · have hlt := hg h2
    have hue : (usedN (doS q.rm.deep q.rm.st op n).1 : Int) ≤ q.news + 1 := by
      have e : doS q.rm.deep q.rm.st op n = newS q.rm.deep q.rm.st n := by rw [h2]; simp [doS]
      have := used_new q.rm.deep q.rm.st n
      rw [e]; omega
    have K1 : Hid _ := KEY (w.setCell ⟨q.p, 2, none⟩ (.int .i64 (q.news + 1))) (q.news + 1) (by rw [heap_setCell_at pa.head]; rfl) (off_setCell w q.p 2 _) (by simp [World.setCell]) hue (by omega) (by omega)
    obtain ⟨a, ha⟩ : ∃ a, (doS q.rm.deep q.rm.st op n).2.1 = a := ⟨_, rfl⟩
    obtain ⟨b, hb⟩ : ∃ b, (doS q.rm.deep q.rm.st op n).2.2 = b := ⟨_, rfl⟩
    rw [ha, hb] at K1
    obtain ⟨nw, hnw⟩ : ∃ nw, q.news = nw := ⟨_, rfl⟩
    rw [hnw] at cn K1 hn0 hnN
    have P : Hid (∀ e w', (e = .returned (.bool true) ∧ ∃ q', PairStep w q w' q' ∧ DoSim q'.hm q'.rm q'.news) → DoneSays w q e w') := fun e w' hh => hh
    obtain ⟨qp, hqp⟩ : ∃ qp, q.p = qp := ⟨_, rfl⟩
    obtain ⟨qx, hqx⟩ : ∃ qx, q.x = qx := ⟨_, rfl⟩
    obtain ⟨qh, hqh⟩ : ∃ qh, q.h = qh := ⟨_, rfl⟩
    rw [hqp, hqx] at cx
    rw [hqp] at cn fn' ⊢
    rw [hqp, hqx, hqh] at K1
    clear KEY hok rok hcl hst hinv hroom hdeep hused hmost hp1 hp2 hdis hpl hxl hrl hfree hlt hg ha hb hnw hqp hqx hqh pa hue
    subst h2
    go_enter Try.func36, Try.ntmps36
    go_wp2_with fail
    refine Calls.mono K1.out ?_
    rintro e w2 ⟨rfl, c1, hcall⟩
    have C2 : Hid _ := hcall
    clear hcall K1
    go_wp2_with fail
    refine Calls.mono C2.out ?_
    rintro e w3 ⟨rfl, hq⟩
    have Q : Hid _ := hq
    clear hq C2
    go_wp2_with (go_at_call 52; refine Calls.mono (NUM.out _ _) ?_; rintro e w3 ⟨rfl, rfl⟩)
    go_ret
    exact ⟨rfl, Q.out⟩
  · have K1 : Hid _ := KEY w q.news pa.head (Off.refl _ _) rfl (by rw [used_other _ _ _ _ h2]; exact hused) hn0 hnN
    obtain ⟨a, ha⟩ : ∃ a, (doS q.rm.deep q.rm.st op n).2.1 = a := ⟨_, rfl⟩
    obtain ⟨b, hb⟩ : ∃ b, (doS q.rm.deep q.rm.st op n).2.2 = b := ⟨_, rfl⟩
    rw [ha, hb] at K1
    obtain ⟨qp, hqp⟩ : ∃ qp, q.p = qp := ⟨_, rfl⟩
    obtain ⟨qx, hqx⟩ : ∃ qx, q.x = qx := ⟨_, rfl⟩
    obtain ⟨qh, hqh⟩ : ∃ qh, q.h = qh := ⟨_, rfl⟩
    rw [hqp, hqx] at cx
    rw [hqp] at cn fn' ⊢
    rw [hqp, hqx, hqh] at K1
    have h22 : (op == 2) = false := by simpa using h2
    clear KEY hok rok hcl hst hinv hroom hdeep hused hmost hp1 hp2 hdis hpl hxl hrl hfree hg ha hb hqp hqx hqh pa
    go_enter Try.func36, Try.ntmps36
    go_wp2_with fail
    refine Calls.mono K1.out ?_
    rintro e w2 ⟨rfl, c1, hcall⟩
    have C2 : Hid _ := hcall
    clear hcall K1
    go_wp2_with fail
    refine Calls.mono C2.out ?_
    rintro e w3 ⟨rfl, hq⟩
    have Q : Hid _ := hq
    clear hq C2
    go_wp2_with (go_at_call 52; refine Calls.mono (NUM.out _ _) ?_; rintro e w3 ⟨rfl, rfl⟩)
    go_ret
    exact ⟨rfl, Q.out⟩

end Go.Proofs.Ytblekkjamemloaa
