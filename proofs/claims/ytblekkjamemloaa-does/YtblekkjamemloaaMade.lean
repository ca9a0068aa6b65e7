/- OUR OWN. The law's heaps, in pairs; made. -/
import Derived.Test.YtblekkjamemloaaHeap
import Derived.Test.YtblekkjamemloaaMay
import Derived.Test.YtblekkjamemloaaFresh
namespace Go.Proofs.Ytblekkjamemloaa
open Go.RowKit

/-- a heap, the document's, how many objects were asked for; and where they lie -/
structure PairM where
  p : Nat
  x : Nat
  h : Nat
  hm : HeapM
  rm : RefM
  news : Int

def PairM.foot (q : PairM) : List Nat := q.p :: (q.x :: q.hm.foot) ++ (q.h :: q.rm.foot)
def PairM.head (q : PairM) : Obj := .cells #[.pointer (some ⟨q.x, 0, none⟩), .pointer (some ⟨q.h, 0, none⟩), .int .i64 q.news] 60

structure PairAt (w : World) (q : PairM) : Prop where
  head : w.heap[q.p]? = some q.head
  heap : HeapAt w q.x q.hm
  ref : RefAt w q.h q.rm
  apart : q.foot.Nodup

theorem PairAt.carry {w w' : World} {q : PairM} (r : PairAt w q) (hb : ∀ g ∈ q.foot, w'.heap[g]? = w.heap[g]?) : PairAt w' q :=
  ⟨by rw [hb _ (by simp [PairM.foot])]; exact r.head, r.heap.carry fun g hg => hb g (List.mem_cons_of_mem q.p (List.mem_append_left (q.h :: q.rm.foot) hg)),
    r.ref.carry fun g hg => hb g (List.mem_cons_of_mem q.p (List.mem_append_right (q.x :: q.hm.foot) hg)), r.apart⟩

theorem PairAt.lt {w : World} {q : PairM} (r : PairAt w q) : ∀ g ∈ q.foot, g < w.heap.size := by
  intro g hg
  simp only [PairM.foot, List.cons_append] at hg
  rcases List.mem_cons.1 hg with rfl | hg
  · exact lt_of_heap r.head
  · rcases List.mem_append.1 (show g ∈ (q.x :: q.hm.foot) ++ (q.h :: q.rm.foot) from hg) with hg | hg
    · exact r.heap.lt g hg
    · exact r.ref.lt g hg

def ptr (n : Nat) : Value := .pointer (some ⟨n, 0, none⟩)
def allFoot (wb : Nat) (v : Value) (ps : List PairM) : List Nat := wb :: v.ownBlock.toList ++ ps.flatMap PairM.foot

/-- the law's world: block wb, with the slice v of the pairs ps -/
structure LawAt (Sim : HeapM → RefM → Int → Prop) (B : Nat) (w : World) (wb : Nat) (v : Value) (ps : List PairM) : Prop where
  head : w.heap[wb]? = some (.cells #[v] 43)
  row : w.ownsRow 0 57 1 v ps.length (ps.map fun q => ptr q.p)
  pairs : ∀ q ∈ ps, PairAt w q
  sim : ∀ q ∈ ps, Sim q.hm q.rm q.news
  apart : (allFoot wb v ps).Nodup
  low : ∀ g ∈ allFoot wb v ps, B ≤ g

variable {Sim : HeapM → RefM → Int → Prop}

theorem LawAt.lt {B : Nat} {w : World} {wb : Nat} {v : Value} {ps : List PairM} (r : LawAt Sim B w wb v ps) : ∀ g ∈ allFoot wb v ps, g < w.heap.size := by
  intro g hg
  simp only [allFoot, List.cons_append] at hg
  rcases List.mem_cons.1 hg with rfl | hg
  · exact lt_of_heap r.head
  · rcases List.mem_append.1 hg with hg | hg
    · exact (own_lt r.row (by simpa using hg)).2
    · obtain ⟨q, hq, hg⟩ := List.mem_flatMap.1 hg
      exact (r.pairs q hq).lt g hg

theorem LawAt.carry {B : Nat} {w w' : World} {wb : Nat} {v : Value} {ps : List PairM} (r : LawAt Sim B w wb v ps) (hb : ∀ g ∈ allFoot wb v ps, w'.heap[g]? = w.heap[g]?) : LawAt Sim B w' wb v ps :=
  ⟨by rw [hb _ (by simp [allFoot])]; exact r.head, own_carry r.row fun g hg => hb g (by simp [allFoot, hg]),
    fun q hq => (r.pairs q hq).carry fun g hg => hb g (by simp only [allFoot, List.cons_append]; exact List.mem_cons_of_mem _ (List.mem_append_right _ (List.mem_flatMap.2 ⟨q, hq, hg⟩))), r.sim, r.apart, r.low⟩

theorem LawAt.below {B : Nat} {w w' : World} {wb : Nat} {v : Value} {ps : List PairM} (r : LawAt Sim B w wb v ps) (hb : Below w.heap.size w w') : LawAt Sim B w' wb v ps :=
  r.carry fun g hg => hb.block g (r.lt g hg)

/-- One pair more: its memory is new; only the world's own block and the row of the pairs were written. -/
theorem LawAt.more {B : Nat} {w w1 : World} {wb : Nat} {v v' : Value} {ps : List PairM} (r : LawAt Sim B w wb v ps) (q : PairM)
    (hB : B ≤ w.heap.size) (hh : w1.heap[wb]? = some (.cells #[v'] 43))
    (hrow : w1.ownsRow 0 57 1 v' (ps.length + 1) (ps.map (fun q => ptr q.p) ++ [ptr q.p])) (hv : ∀ g, v'.ownBlock = some g → v.ownBlock = some g ∨ (w.heap.size ≤ g ∧ g ∉ q.foot))
    (hold : ∀ g, g < w.heap.size → g ≠ wb → v.ownBlock ≠ some g → w1.heap[g]? = w.heap[g]?) (hq : PairAt w1 q) (hqn : ∀ g ∈ q.foot, w.heap.size ≤ g) (hs : Sim q.hm q.rm q.news) :
    LawAt Sim B w1 wb v' (ps ++ [q]) := by
  have hnd := r.apart
  have hlt := r.lt
  simp only [allFoot, List.cons_append, List.nodup_cons, List.nodup_append, List.mem_append, not_or] at hnd
  obtain ⟨⟨hwv, hwp⟩, hvn, hpn, hvp⟩ := hnd
  have hin : ∀ q' ∈ ps, ∀ g ∈ q'.foot, g ∈ allFoot wb v ps := fun q' hq' g hg => by
    simp only [allFoot, List.cons_append]; exact List.mem_cons_of_mem _ (List.mem_append_right _ (List.mem_flatMap.2 ⟨q', hq', hg⟩))
  have hw : wb < w.heap.size := lt_of_heap r.head
  have hpl : ∀ g ∈ ps.flatMap PairM.foot, g < w.heap.size := fun g hg => hlt g (by simp only [allFoot, List.cons_append]; exact List.mem_cons_of_mem _ (List.mem_append_right _ hg))
  have hvl : ∀ g, v.ownBlock = some g → g < w.heap.size := fun g hg => (own_lt r.row hg).2
  refine ⟨hh, by simpa using hrow, ?_, ?_, ?_, ?_⟩
  · intro q' hq'
    rcases List.mem_append.1 hq' with hq' | hq'
    · refine (r.pairs q' hq').carry fun g hg => hold g (hlt g (hin q' hq' g hg)) ?_ ?_
      · intro e; subst e; exact hwp (List.mem_flatMap.2 ⟨q', hq', hg⟩)
      · intro e; exact hvp g (by simp [e]) g (List.mem_flatMap.2 ⟨q', hq', hg⟩) rfl
    · simp at hq'; subst hq'; exact hq
  · intro q' hq'
    rcases List.mem_append.1 hq' with hq' | hq'
    · exact r.sim q' hq'
    · simp at hq'; subst hq'; exact hs
  · simp only [allFoot, List.cons_append, List.flatMap_append, List.flatMap_cons, List.flatMap_nil, List.append_nil, List.nodup_cons, List.nodup_append, List.mem_append, not_or]
    refine ⟨⟨?_, hwp, fun hg => by have := hqn _ hg; omega⟩, ?_, ⟨hpn, hq.apart, ?_⟩, ?_⟩
    · intro hg
      have hg' : v'.ownBlock = some wb := by simpa using hg
      rcases hv _ hg' with e | ⟨e, _⟩
      · exact hwv (by simp [e])
      · omega
    · cases v'.ownBlock <;> simp
    · intro a ha b hb' e; subst e; have := hpl _ ha; have := hqn _ hb'; omega
    · intro a ha b hb' e
      subst e
      have ha' : v'.ownBlock = some a := by simpa using ha
      rcases hv _ ha' with e1 | ⟨e1, e2⟩
      · rcases hb' with hb' | hb'
        · exact hvp a (by simp [e1]) a hb' rfl
        · have := hqn _ hb'; have := hvl _ e1; omega
      · rcases hb' with hb' | hb'
        · have := hpl _ hb'; omega
        · exact e2 hb'
  · intro g hg
    simp only [allFoot, List.cons_append, List.flatMap_append, List.flatMap_cons, List.flatMap_nil, List.append_nil] at hg
    rcases List.mem_cons.1 hg with rfl | hg
    · exact r.low _ (by simp [allFoot])
    · rcases List.mem_append.1 hg with hg | hg
      · have hg' : v'.ownBlock = some g := by simpa using hg
        rcases hv _ hg' with e | ⟨e, _⟩
        · exact r.low _ (by simp [allFoot, e])
        · omega
      · rcases List.mem_append.1 hg with hg | hg
        · exact r.low _ (by simp only [allFoot, List.cons_append]; exact List.mem_cons_of_mem _ (List.mem_append_right _ hg))
        · have := hqn _ hg; omega

theorem infoPair : (Try.prog.info? 57).map (fun i => (i.zero, i.size, i.bytes)) = some (some (.pointer none), 1, 8) := by kernel_rfl

/-- the configuration that a call has boxed, behind whatever made memory alone -/
theorem boxed {w w1 : World} {cs : Array Value} {t : TypeId} (hb : Below (w.alloc (.cells cs t)).heap.size (w.alloc (.cells cs t)) w1) : w1.heap[w.heap.size]? = some (.cells cs t) := by
  rw [hb.block _ (by simp)]; exact heap_alloc_new w _

set_option maxHeartbeats 800000 in
theorem made_no {B : Nat} {w : World} {wb : Nat} {v : Value} {ps : List PairM} (r : LawAt Sim B w wb v ps) (b s g u z o : Int) (h : cfgB b s g u z o = false) :
    Calls Try.prog 35 #[ptr wb, .agg #[.int .i64 b, .int .i64 s, .int .i64 g, .int .i64 u, .int .i64 z, .int .i64 o]] w
      fun e w' => e = .returned (.bool true) ∧ LawAt Sim B w' wb v ps ∧ Off (allFoot wb v ps) w w' := by
  have key : ∀ w', Below w.heap.size w w' → LawAt Sim B w' wb v ps ∧ Off (allFoot wb v ps) w w' := fun w' hb => ⟨r.below hb, .of_below hb⟩
  clear r
  go_enter Try.func35, Try.ntmps35
  go_wp2_with (first
    | (go_at_call 20; refine (new_no _ _ _ _ _ _ _ h).mono ?_; rintro e w1 ⟨rfl, hbel⟩; have hh := boxed hbel; have hc0 := cell_of_heap (i := 0) hh rfl; have hc1 := cell_of_heap (i := 1) hh rfl; have hc2 := cell_of_heap (i := 2) hh rfl; have hc3 := cell_of_heap (i := 3) hh rfl; have hc4 := cell_of_heap (i := 4) hh rfl; have hc5 := cell_of_heap (i := 5) hh rfl; clear hh)
    | (go_at_call 51; refine (may_no _ _ _ _ _ _ _ h).mono ?_; rintro e w2 ⟨rfl, rfl⟩)
    | (go_at_call 52; refine (num_any _ _).mono ?_; rintro e w2 ⟨rfl, rfl⟩))
  go_ret
  exact ⟨rfl, key _ (((Below.refl _ _).alloc (Nat.le_refl _) _).trans (hbel.mono (by simp)))⟩

theorem nodup_two {l m : List Nat} {n : Nat} (hl : l.Nodup) (hm : m.Nodup) (h : ∀ x ∈ l, x < n) (h' : ∀ x ∈ m, n ≤ x) : (l ++ m).Nodup :=
  List.nodup_append.2 ⟨hl, hm, fun a ha b hb e => by have := h a ha; have := h' b hb; omega⟩

/-- The end of made: all that the walk leaves, put together. -/
theorem made_end {B : Nat} {w w1 w2 w3 : World} {wb : Nat} {v : Value} {ps : List PairM} (r : LawAt Sim B w wb v ps) (hB : B ≤ w.heap.size) {cfg : Obj} {b s g u z o : Nat} {x gg cap : Nat} {vG vB rB rG : Value}
    (hsim : Sim (newM b s g vG vB) (freshM b s g u z o rB rG) 0)
    (hbel : Below (w.alloc cfg).heap.size (w.alloc cfg) w1) (hat : HeapAt w1 x (newM b s g vG vB)) (hft : ∀ j ∈ x :: (newM b s g vG vB).foot, (w.alloc cfg).heap.size ≤ j)
    (hm : Made2 w1 w2 b s u z o rB rG (b + 1) g)
    (hown : w3.ownsRow 0 57 1 (.slice (some ⟨gg, 0, none⟩) (ps.length + 1) cap) (ps.length + 1) (ps.map (fun q => ptr q.p) ++ [ptr w2.heap.size]))
    (hgr : ((w2.alloc (.cells #[ptr x, ptr w1.heap.size, .int .i64 0] 60)).alloc (.cells #[ptr w2.heap.size] 57)).grownBy w3 v.ownBlock)
    (hlie : v.ownBlock = some gg ∨ gg = w2.heap.size + 1 + 1) :
    LawAt Sim B (w3.setCell ⟨wb, 0, none⟩ (.slice (some ⟨gg, 0, none⟩) (ps.length + 1) cap)) wb (.slice (some ⟨gg, 0, none⟩) (ps.length + 1) cap)
      (ps ++ [⟨w2.heap.size, x, w1.heap.size, newM b s g vG vB, freshM b s g u z o rB rG, 0⟩]) ∧
    Off (allFoot wb v ps) w (w3.setCell ⟨wb, 0, none⟩ (.slice (some ⟨gg, 0, none⟩) (ps.length + 1) cap)) := by
  have hw := lt_of_heap r.head
  have hs1 : w.heap.size + 1 ≤ w1.heap.size := by have := hbel.size; simpa using this
  have hs2 : w1.heap.size < w2.heap.size := lt_of_heap hm.head
  have hs3 : w2.heap.size + 1 + 1 ≤ w3.heap.size := by have := hgr.size; simpa using this
  have hvl : ∀ j, v.ownBlock = some j → j < w.heap.size := fun j hj => (own_lt r.row hj).2
  -- a block of the old world, or of what New made, is the same in w2 and in w3
  have old1 : ∀ j, j < w.heap.size → w1.heap[j]? = w.heap[j]? := fun j hj => by
    rw [hbel.block j (by simp; omega), hao hj]
  have old2 : ∀ j, j < w1.heap.size → w2.heap[j]? = w1.heap[j]? := fun j hj => hm.below.block j hj
  have old3 : ∀ j, j < w2.heap.size → v.ownBlock ≠ some j → w3.heap[j]? = w2.heap[j]? := fun j hj hv => by
    rw [hgr.block j (by simp; omega) (fun e => hv e.symm), hao (by simp; omega), hao hj]
  have newp : w3.heap[w2.heap.size]? = some (.cells #[ptr x, ptr w1.heap.size, .int .i64 0] 60) := by
    rw [hgr.block _ (by simp; omega) (fun e => by have := hvl _ e.symm; omega), hao (by simp)]; exact heap_alloc_new w2 _
  have hset : ∀ j, j ≠ wb → (w3.setCell ⟨wb, 0, none⟩ (.slice (some ⟨gg, 0, none⟩) (ps.length + 1) cap)).heap[j]? = w3.heap[j]? := fun j hj => Below.heap_setCell _ _ _ _ hj
  have hxl := hat.lt
  have hrl := hm.refAt.lt
  have hrf := hm.foot
  have hwv : v.ownBlock ≠ some wb := fun e => by
    have := r.apart
    simp only [allFoot, e, List.cons_append, List.nodup_cons] at this
    exact this.1 (by simp)
  have hgw : gg ≠ wb := fun e => by
    subst e
    rcases hlie with e | e
    · exact hwv e
    · omega
  have hhead : w3.heap[wb]? = some (.cells #[v] 43) := by
    rw [old3 wb (by omega) hwv, old2 wb (by omega), old1 wb hw]; exact r.head
  have hfoot : ∀ j ∈ PairM.foot ⟨w2.heap.size, x, w1.heap.size, newM b s g vG vB, freshM b s g u z o rB rG, 0⟩, w.heap.size ≤ j ∧ j ≤ w2.heap.size := by
    intro j hj
    rcases List.mem_append.1 (show j ∈ (w2.heap.size :: (x :: (newM b s g vG vB).foot)) ++ (w1.heap.size :: (freshM b s g u z o rB rG).foot) from hj) with hj | hj
    · rcases List.mem_cons.1 hj with rfl | hj
      · omega
      · have h1 := hft j hj
        have h2 := hxl j hj
        simp at h1
        omega
    · have h1 := hrf j hj
      have h2 := hrl j hj
      omega
  have hne : ∀ j, w.heap.size ≤ j → v.ownBlock ≠ some j := fun j hj e => by have := hvl j e; omega
  refine ⟨r.more _ hB (by rw [heap_setCell_at hhead]; rfl) ?_ ?_ ?_ ?_ (fun j hj => (hfoot j hj).1) hsim, ?_⟩
  · exact own_carry hown fun j hj => hset j (by simp [Value.ownBlock] at hj; omega)
  · intro j hj
    simp [Value.ownBlock] at hj
    subst hj
    rcases hlie with e | e
    · exact .inl e
    · right
      refine ⟨by omega, fun hj => ?_⟩
      have := (hfoot _ hj).2
      omega
  · intro j hj h1 h2
    rw [hset j h1, old3 j (by omega) h2, old2 j (by omega), old1 j hj]
  · refine ⟨?_, ?_, ?_, ?_⟩
    · exact (hset _ (show w2.heap.size ≠ wb by omega)).trans newp
    · refine hat.carry fun j hj => ?_
      have h1 := hft j hj
      have h2 := hxl j hj
      simp at h1
      rw [hset _ (by omega), old3 j (by omega) (hne j (by omega)), old2 j h2]
    · refine hm.refAt.carry fun j hj => ?_
      have h1 := hrf j hj
      have h2 := hrl j hj
      rw [hset _ (by omega), old3 j h2 (hne j (by omega))]
    · show (w2.heap.size :: ((x :: (newM b s g vG vB).foot) ++ (w1.heap.size :: (freshM b s g u z o rB rG).foot))).Nodup
      refine List.nodup_cons.2 ⟨fun hj => ?_, nodup_two hat.apart hm.refAt.apart hxl hrf⟩
      rcases List.mem_append.1 hj with hj | hj
      · have := hxl _ hj; omega
      · have := hrl _ hj; omega
  · refine ⟨?_, ?_, ?_, ?_, ?_⟩
    · exact hgr.os.trans (hm.below.os.trans hbel.os)
    · exact hgr.tape.trans (hm.below.tape.trans hbel.tape)
    · exact hgr.output.trans (hm.below.output.trans hbel.output)
    · simp [World.setCell]; omega
    · intro j hj hF
      rw [hset j (fun e => hF (by simp [allFoot, e])), old3 j (by omega) (fun e => hF (by simp [allFoot, e])), old2 j (by omega), old1 j hj]

set_option maxHeartbeats 800000 in
theorem made_yes {B : Nat} {w : World} {wb : Nat} {v : Value} {ps : List PairM} (r : LawAt Sim B w wb v ps) (hB : B ≤ w.heap.size) (hlen : ps.length ≤ 2000000000000) (b s g u z o : Nat) (h : cfgB b s g u z o = true)
    (hsim : ∀ vG vB rB rG, Sim (newM b s g vG vB) (freshM b s g u z o rB rG) 0) :
    Calls Try.prog 35 #[ptr wb, .agg #[.int .i64 b, .int .i64 s, .int .i64 g, .int .i64 u, .int .i64 z, .int .i64 o]] w
      fun e w' => ∃ v' q, e = .returned (.bool true) ∧ LawAt Sim B w' wb v' (ps ++ [q]) ∧ Off (allFoot wb v ps) w w' := by
  have hcf : (b : Int) ≤ 99 ∧ (g : Int) ≤ 8 := by simp [cfgB] at h; omega
  have hb : b ≤ 99 := by omega
  have hg : g ≤ 8 := by omega
  obtain ⟨i0, hi, hz0, hz1, hz2⟩ := info_parts infoPair
  have hw := lt_of_heap r.head
  have hwv : v.ownBlock ≠ some wb := fun e => by
    have := r.apart
    simp only [allFoot, e, List.cons_append, List.nodup_cons] at this
    exact this.1 (by simp)
  have hhd := r.head
  have E : Hid (LawAt Sim B w wb v ps ∧ B ≤ w.heap.size ∧ ∀ vG vB rB rG, Sim (newM b s g vG vB) (freshM b s g u z o rB rG) 0) := ⟨r, hB, hsim⟩
  have W : Hid (w.heap[wb]? = some (.cells #[v] 43) ∧ wb < w.heap.size) := ⟨hhd, hw⟩
  have OWN : Hid (w.ownsRow 0 57 1 v ps.length (ps.map fun q => ptr q.p)) := r.row
  clear r hsim hB hhd
  unfold ptr
  go_enter Try.func35, Try.ntmps35
  go_wp2_with (first
    | (go_at_call 20; refine (new_yes _ _ _ _ _ _ _ h hb hg).mono ?_; rintro e w1 ⟨x, vG, vB, rfl, hbel, hat, hft⟩; have hh := boxed hbel; have hc0 := cell_of_heap (i := 0) hh rfl; have hc1 := cell_of_heap (i := 1) hh rfl; have hc2 := cell_of_heap (i := 2) hh rfl; have hc3 := cell_of_heap (i := 3) hh rfl; have hc4 := cell_of_heap (i := 4) hh rfl; have hc5 := cell_of_heap (i := 5) hh rfl; clear hh; have N : Hid (_ ∧ _ ∧ _) := ⟨hbel, hat, hft⟩; clear hbel hat hft)
    | (go_at_call 51; refine (may_yes _ _ _ _ _ _ _ h).mono ?_; rintro e w1 ⟨rfl, rfl⟩)
    | (go_at_call 52; refine (num_any _ _).mono ?_; rintro e w1 ⟨rfl, rfl⟩))
  refine (fresh_any _ _ _ _ _ _ _ hb hg).mono ?_
  rintro e w2 ⟨rfl, rB, rG, hm⟩
  obtain ⟨hbel, hat, hft⟩ := N.out
  have hs1 : w.heap.size + 1 ≤ w1.heap.size := by have := hbel.size; simpa using this
  have hs2 : w1.heap.size < w2.heap.size := lt_of_heap hm.head
  have old2 : ∀ j, j < w.heap.size → w2.heap[j]? = w.heap[j]? := fun j hj => by
    rw [hm.below.block j (by omega), hbel.block j (by simp; omega), hao hj]
  have hwb : w2.cell? ⟨wb, 0, none⟩ = some v := cell_of_heap ((old2 wb W.out.2).trans W.out.1) rfl
  have own2 : w2.ownsRow 0 57 1 v ps.length (ps.map fun q => ptr q.p) := own_carry OWN.out fun j hj => old2 j (own_lt OWN.out hj).2
  have own3 := (own2.alloc (.cells #[ptr x, ptr w1.heap.size, .int .i64 0] 60)).alloc (.cells #[ptr w2.heap.size] 57)
  have OWN3 : Hid (((w2.alloc (.cells #[ptr x, ptr w1.heap.size, .int .i64 0] 60)).alloc (.cells #[ptr w2.heap.size] 57)).ownsRow 0 57 1 v ps.length (ps.map fun q => ptr q.p)) := own3
  have M : Hid (Made2 w1 w2 b s u z o rB rG (b + 1) g) := hm
  have O2 : Hid (∀ j, j < w.heap.size → w2.heap[j]? = w.heap[j]?) := old2
  clear hm hbel hat hft own2 own3 old2 hc0 hc1 hc2 hc3 hc4 hc5 h
  go_wp2_with (at_builtin; refine wpList_append_lies _ rfl (.tmp 60) (.tmp 65) 41 rfl 0 57 i0 _ 1 8 Try.underlying41 hi hz0 hz1 hz2 rfl (by decide) _ _ _ rfl OWN3.out ⟨w2.heap.size + 1, 0, none⟩ 1 1 [ptr w2.heap.size] rfl rfl ?c1 ?c2 (by decide) ?c3 ?c4 (Nat.zero_le _) (w2.heap.size + 1 + 1) (by simp) ?_)
  case c1 => have := news_new (w2.alloc (.cells #[ptr x, ptr w1.heap.size, .int .i64 0] 60)) [ptr w2.heap.size] 57; simpa [ptr] using this
  case c2 => intro u hu; simp at hu; subst hu; rfl
  case c3 => unfold maxLen; omega
  case c4 => omega
  intro gg cap w3 hown hgr hlie _
  obtain ⟨r, hB, hsim⟩ := E.out
  obtain ⟨hbel, hat, hft⟩ := N.out
  have K := made_end r hB (hsim vG vB rB rG) hbel hat hft M.out hown hgr hlie
  have hh3 : w3.heap[wb]? = some (.cells #[v] 43) := by
    rw [hgr.block wb (by simp; omega) (fun e => hwv e.symm), hao (by simp; omega), hao (by omega), O2.out wb hw]; exact W.out.1
  have hf3 : w3.frozen? ⟨wb, 0, none⟩ = false := frozen_of_heap hh3
  have hc3 : w3.cell? ⟨wb, 0, none⟩ = some v := cell_of_heap hh3 rfl
  clear hown hgr hlie r hB hsim hbel hat hft hh3 E W OWN OWN3 M O2 N
  go_wp2
  go_ret
  exact ⟨_, _, rfl, K⟩

end Go.Proofs.Ytblekkjamemloaa
