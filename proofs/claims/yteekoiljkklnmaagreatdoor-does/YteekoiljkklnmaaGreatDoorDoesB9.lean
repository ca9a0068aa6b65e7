import Derived.Test.YteekoiljkklnmaaGreatDoorDoesB8
import Derived.Lib.LaidTab
import Derived.Lib.ItoaNum
/- OUR OWN. The table of the library's that strconv reads: where it lies, and that it stays. -/
namespace Go.Proofs.YteekoiljkklnmaaGreatDoor
open Go.RowKit
set_option linter.unusedVariables false
set_option linter.unusedSimpArgs false

theorem tabNamed : Tryz.prog.globalNamed "internal/strconv.uint64pow10" = some 0 := by kernel_rfl
/-- the table's block lies below B, and holds the powers of ten -/
def Tab (B : Nat) (w : World) : Prop := 0 < B ∧ 0 < w.heap.size ∧ Lib.TabIs Tryz.prog w "internal/strconv.uint64pow10" .u64 Lib.pow10Tab
theorem Tab.keep {B : Nat} {w w' : World} (t : Tab B w) (hs : w.heap.size ≤ w'.heap.size) (h : ∀ k, k < B → k < w.heap.size → w'.heap[k]? = w.heap[k]?) : Tab B w' := by
  refine ⟨t.1, by have := t.2.1; omega, ?_⟩
  have h2 := t.2.2
  unfold Lib.TabIs World.var? at h2 ⊢
  rw [tabNamed] at h2 ⊢
  simp only [Option.bind_some] at h2 ⊢
  rw [h _ t.1 t.2.1]
  exact h2
theorem Tab.below {B : Nat} {w w' : World} (t : Tab B w) (h : Below w.heap.size w w') : Tab B w' := t.keep h.size fun k _ h2 => h.block k h2
theorem Tab.off {B : Nat} {F : List Nat} {w w' : World} (t : Tab B w) (h : Off F w w') (hF : ∀ g ∈ F, B ≤ g) : Tab B w' := t.keep h.size fun k h1 h2 => h.block k h2 fun e => by have := hF k e; omega

end Go.Proofs.YteekoiljkklnmaaGreatDoor

/- OUR OWN. The law's heaps, in pairs; made. -/
namespace Go.Proofs.YteekoiljkklnmaaGreatDoor
open Go.RowKit
set_option linter.unusedVariables false
set_option linter.unusedSimpArgs false

/-- a heap, the document's, how many objects were asked for; and where they lie -/
structure PairM where
  p : Nat
  x : Nat
  h : Nat
  hm : HeapM
  rm : RefM
  news : Int

def PairM.foot (q : PairM) : List Nat := q.p :: (q.x :: q.hm.foot) ++ (q.h :: q.rm.foot)
def PairM.head (q : PairM) : Obj := .cells #[.pointer (some ⟨q.x, 0, none⟩), .pointer (some ⟨q.h, 0, none⟩), .int .i64 q.news] 40

structure PairAt (w : World) (q : PairM) : Prop where
  head : w.heap[q.p]? = some q.head
  heap : HeapAt w q.x q.hm
  ref : RefAt w q.h q.rm
  apart : q.foot.Nodup

theorem PairAt.carry {w w' : World} {q : PairM} (r : PairAt w q) (hb : ∀ g ∈ q.foot, w'.heap[g]? = w.heap[g]?) : PairAt w' q :=
  ⟨by rw [hb _ (by simp [PairM.foot])]; exact r.head, r.heap.carry fun g hg => hb g (List.mem_cons_of_mem q.p (List.mem_append_left (q.h :: q.rm.foot) hg)),
    r.ref.carry fun g hg => hb g (List.mem_cons_of_mem q.p (List.mem_append_right (q.x :: q.hm.foot) hg)), r.apart⟩

theorem PairAt.lt {w : World} {q : PairM} (r : PairAt w q) : ∀ g ∈ q.foot, g < w.heap.size := by
  intro g hg
  simp only [PairM.foot, List.cons_append] at hg
  rcases List.mem_cons.1 hg with rfl | hg
  · exact lt_of_heap r.head
  · rcases List.mem_append.1 (show g ∈ (q.x :: q.hm.foot) ++ (q.h :: q.rm.foot) from hg) with hg | hg
    · exact r.heap.lt g hg
    · exact r.ref.lt g hg

def ptr (n : Nat) : Value := .pointer (some ⟨n, 0, none⟩)
def allFoot (wb : Nat) (v : Value) (ps : List PairM) : List Nat := wb :: v.ownBlock.toList ++ ps.flatMap PairM.foot

/-- the law's world: block wb, with the slice v of the pairs ps -/
structure LawAt (Sim : HeapM → RefM → Int → Prop) (B : Nat) (w : World) (wb : Nat) (v : Value) (ps : List PairM) : Prop where
  head : w.heap[wb]? = some (.cells #[v] 28)
  row : w.ownsRow 0 35 1 v ps.length (ps.map fun q => ptr q.p)
  pairs : ∀ q ∈ ps, PairAt w q
  sim : ∀ q ∈ ps, Sim q.hm q.rm q.news
  apart : (allFoot wb v ps).Nodup
  low : ∀ g ∈ allFoot wb v ps, B ≤ g
  tab : Tab B w

variable {Sim : HeapM → RefM → Int → Prop}

theorem LawAt.lt {B : Nat} {w : World} {wb : Nat} {v : Value} {ps : List PairM} (r : LawAt Sim B w wb v ps) : ∀ g ∈ allFoot wb v ps, g < w.heap.size := by
  intro g hg
  simp only [allFoot, List.cons_append] at hg
  rcases List.mem_cons.1 hg with rfl | hg
  · exact lt_of_heap r.head
  · rcases List.mem_append.1 hg with hg | hg
    · exact (own_lt r.row (by simpa using hg)).2
    · obtain ⟨q, hq, hg⟩ := List.mem_flatMap.1 hg
      exact (r.pairs q hq).lt g hg

theorem LawAt.carry {B : Nat} {w w' : World} {wb : Nat} {v : Value} {ps : List PairM} (r : LawAt Sim B w wb v ps) (hb : ∀ g ∈ allFoot wb v ps, w'.heap[g]? = w.heap[g]?) (ht : Tab B w') : LawAt Sim B w' wb v ps :=
  ⟨by rw [hb _ (by simp [allFoot])]; exact r.head, own_carry r.row fun g hg => hb g (by simp [allFoot, hg]),
    fun q hq => (r.pairs q hq).carry fun g hg => hb g (by simp only [allFoot, List.cons_append]; exact List.mem_cons_of_mem _ (List.mem_append_right _ (List.mem_flatMap.2 ⟨q, hq, hg⟩))), r.sim, r.apart, r.low, ht⟩

theorem LawAt.below {B : Nat} {w w' : World} {wb : Nat} {v : Value} {ps : List PairM} (r : LawAt Sim B w wb v ps) (hb : Below w.heap.size w w') : LawAt Sim B w' wb v ps :=
  r.carry (fun g hg => hb.block g (r.lt g hg)) (r.tab.below hb)

/-- One pair more: its memory is new; only the world's own block and the row of the pairs were written. -/
theorem LawAt.more {B : Nat} {w w1 : World} {wb : Nat} {v v' : Value} {ps : List PairM} (r : LawAt Sim B w wb v ps) (q : PairM)
    (hB : B ≤ w.heap.size) (hh : w1.heap[wb]? = some (.cells #[v'] 28))
    (hrow : w1.ownsRow 0 35 1 v' (ps.length + 1) (ps.map (fun q => ptr q.p) ++ [ptr q.p])) (hv : ∀ g, v'.ownBlock = some g → v.ownBlock = some g ∨ (w.heap.size ≤ g ∧ g ∉ q.foot))
    (hsz1 : w.heap.size ≤ w1.heap.size) (hold : ∀ g, g < w.heap.size → g ≠ wb → v.ownBlock ≠ some g → w1.heap[g]? = w.heap[g]?) (hq : PairAt w1 q) (hqn : ∀ g ∈ q.foot, w.heap.size ≤ g) (hs : Sim q.hm q.rm q.news) :
    LawAt Sim B w1 wb v' (ps ++ [q]) := by
  have hnd := r.apart
  have hlt := r.lt
  simp only [allFoot, List.cons_append, List.nodup_cons, List.nodup_append, List.mem_append, not_or] at hnd
  obtain ⟨⟨hwv, hwp⟩, hvn, hpn, hvp⟩ := hnd
  have hin : ∀ q' ∈ ps, ∀ g ∈ q'.foot, g ∈ allFoot wb v ps := fun q' hq' g hg => by
    simp only [allFoot, List.cons_append]; exact List.mem_cons_of_mem _ (List.mem_append_right _ (List.mem_flatMap.2 ⟨q', hq', hg⟩))
  have hw : wb < w.heap.size := lt_of_heap r.head
  have hpl : ∀ g ∈ ps.flatMap PairM.foot, g < w.heap.size := fun g hg => hlt g (by simp only [allFoot, List.cons_append]; exact List.mem_cons_of_mem _ (List.mem_append_right _ hg))
  have hvl : ∀ g, v.ownBlock = some g → g < w.heap.size := fun g hg => (own_lt r.row hg).2
  refine ⟨hh, by simpa using hrow, ?_, ?_, ?_, ?_, r.tab.keep hsz1 fun k h1 h2 => hold k h2 (fun e => ?_) (fun e => ?_)⟩
  rotate_left 4
  · have := r.low wb (by simp [allFoot]); omega
  · have := r.low k (by simp [allFoot, e]); omega
  · intro q' hq'
    rcases List.mem_append.1 hq' with hq' | hq'
    · refine (r.pairs q' hq').carry fun g hg => hold g (hlt g (hin q' hq' g hg)) ?_ ?_
      · intro e; subst e; exact hwp (List.mem_flatMap.2 ⟨q', hq', hg⟩)
      · intro e; exact hvp g (by simp [e]) g (List.mem_flatMap.2 ⟨q', hq', hg⟩) rfl
    · simp at hq'; subst hq'; exact hq
  · intro q' hq'
    rcases List.mem_append.1 hq' with hq' | hq'
    · exact r.sim q' hq'
    · simp at hq'; subst hq'; exact hs
  · simp only [allFoot, List.cons_append, List.flatMap_append, List.flatMap_cons, List.flatMap_nil, List.append_nil, List.nodup_cons, List.nodup_append, List.mem_append, not_or]
    refine ⟨⟨?_, hwp, fun hg => by have := hqn _ hg; omega⟩, ?_, ⟨hpn, hq.apart, ?_⟩, ?_⟩
    · intro hg
      have hg' : v'.ownBlock = some wb := by simpa using hg
      rcases hv _ hg' with e | ⟨e, _⟩
      · exact hwv (by simp [e])
      · omega
    · cases v'.ownBlock <;> simp
    · intro a ha b hb' e; subst e; have := hpl _ ha; have := hqn _ hb'; omega
    · intro a ha b hb' e
      subst e
      have ha' : v'.ownBlock = some a := by simpa using ha
      rcases hv _ ha' with e1 | ⟨e1, e2⟩
      · rcases hb' with hb' | hb'
        · exact hvp a (by simp [e1]) a hb' rfl
        · have := hqn _ hb'; have := hvl _ e1; omega
      · rcases hb' with hb' | hb'
        · have := hpl _ hb'; omega
        · exact e2 hb'
  · intro g hg
    simp only [allFoot, List.cons_append, List.flatMap_append, List.flatMap_cons, List.flatMap_nil, List.append_nil] at hg
    rcases List.mem_cons.1 hg with rfl | hg
    · exact r.low _ (by simp [allFoot])
    · rcases List.mem_append.1 hg with hg | hg
      · have hg' : v'.ownBlock = some g := by simpa using hg
        rcases hv _ hg' with e | ⟨e, _⟩
        · exact r.low _ (by simp [allFoot, e])
        · omega
      · rcases List.mem_append.1 hg with hg | hg
        · exact r.low _ (by simp only [allFoot, List.cons_append]; exact List.mem_cons_of_mem _ (List.mem_append_right _ hg))
        · have := hqn _ hg; omega

theorem infoPair : (Tryz.prog.info? 35).map (fun i => (i.zero, i.size, i.bytes)) = some (some (.pointer none), 1, 8) := by kernel_rfl

/-- the configuration that a call has boxed, behind whatever made memory alone -/
theorem boxed {w w1 : World} {cs : Array Value} {t : TypeId} (hb : Below (w.alloc (.cells cs t)).heap.size (w.alloc (.cells cs t)) w1) : w1.heap[w.heap.size]? = some (.cells cs t) := by
  rw [hb.block _ (by simp)]; exact heap_alloc_new w _

set_option maxHeartbeats 800000 in
theorem made_no {B : Nat} {w : World} {wb : Nat} {v : Value} {ps : List PairM} (r : LawAt Sim B w wb v ps) (b s g u z o : Int) (h : cfgB b s g u z o = false) :
    Calls Tryz.prog 14 #[ptr wb, .agg #[.int .i64 b, .int .i64 s, .int .i64 g, .int .i64 u, .int .i64 z, .int .i64 o]] w
      fun e w' => e = .returned (.bool true) ∧ LawAt Sim B w' wb v ps ∧ Off (allFoot wb v ps) w w' := by
  have key : ∀ w', Below w.heap.size w w' → LawAt Sim B w' wb v ps ∧ Off (allFoot wb v ps) w w' := fun w' hb => ⟨r.below hb, .of_below hb⟩
  clear r
  go_enter Tryz.func14, Tryz.ntmps14
  go_wp2_with (first
    | (go_at_call 24; refine (new_no _ _ _ _ _ _ _ h).mono ?_; rintro e w1 ⟨rfl, hbel⟩; have hh := boxed hbel; have hc0 := cell_of_heap (i := 0) hh rfl; have hc1 := cell_of_heap (i := 1) hh rfl; have hc2 := cell_of_heap (i := 2) hh rfl; have hc3 := cell_of_heap (i := 3) hh rfl; have hc4 := cell_of_heap (i := 4) hh rfl; have hc5 := cell_of_heap (i := 5) hh rfl; clear hh)
    | (go_at_call 25; refine (may_no _ _ _ _ _ _ _ h).mono ?_; rintro e w2 ⟨rfl, rfl⟩)
    | (go_at_call 26; refine (num_any _ _).mono ?_; rintro e w2 ⟨rfl, rfl⟩))
  go_ret
  exact ⟨rfl, key _ (((Below.refl _ _).alloc (Nat.le_refl _) _).trans (hbel.mono (by simp)))⟩

theorem nodup_two {l m : List Nat} {n : Nat} (hl : l.Nodup) (hm : m.Nodup) (h : ∀ x ∈ l, x < n) (h' : ∀ x ∈ m, n ≤ x) : (l ++ m).Nodup :=
  List.nodup_append.2 ⟨hl, hm, fun a ha b hb e => by have := h a ha; have := h' b hb; omega⟩

/-- The end of made: all that the walk leaves, put together. -/
theorem made_end {B : Nat} {w w1 w2 w3 : World} {wb : Nat} {v : Value} {ps : List PairM} (r : LawAt Sim B w wb v ps) (hB : B ≤ w.heap.size) {cfg : Obj} {b s g u z o : Nat} {x gg cap : Nat} {hm0 : HeapM} {rB rG : Value}
    (hsim : Sim hm0 (freshM b s g u z o rB rG) 0)
    (hbel : Below (w.alloc cfg).heap.size (w.alloc cfg) w1) (hat : HeapAt w1 x hm0) (hft : ∀ j ∈ x :: hm0.foot, (w.alloc cfg).heap.size ≤ j)
    (hm : Made2 w1 w2 b s u z o rB rG (b + 1) g)
    (hown : w3.ownsRow 0 35 1 (.slice (some ⟨gg, 0, none⟩) (ps.length + 1) cap) (ps.length + 1) (ps.map (fun q => ptr q.p) ++ [ptr w2.heap.size]))
    (hgr : ((w2.alloc (.cells #[ptr x, ptr w1.heap.size, .int .i64 0] 40)).alloc (.cells #[ptr w2.heap.size] 35)).grownBy w3 v.ownBlock)
    (hlie : v.ownBlock = some gg ∨ gg = w2.heap.size + 1 + 1) :
    LawAt Sim B (w3.setCell ⟨wb, 0, none⟩ (.slice (some ⟨gg, 0, none⟩) (ps.length + 1) cap)) wb (.slice (some ⟨gg, 0, none⟩) (ps.length + 1) cap)
      (ps ++ [⟨w2.heap.size, x, w1.heap.size, hm0, freshM b s g u z o rB rG, 0⟩]) ∧
    Off (allFoot wb v ps) w (w3.setCell ⟨wb, 0, none⟩ (.slice (some ⟨gg, 0, none⟩) (ps.length + 1) cap)) := by
  have hw := lt_of_heap r.head
  have hs1 : w.heap.size + 1 ≤ w1.heap.size := by have := hbel.size; simpa using this
  have hs2 : w1.heap.size < w2.heap.size := lt_of_heap hm.head
  have hs3 : w2.heap.size + 1 + 1 ≤ w3.heap.size := by have := hgr.size; simpa using this
  have hvl : ∀ j, v.ownBlock = some j → j < w.heap.size := fun j hj => (own_lt r.row hj).2
  -- a block of the old world, or of what New made, is the same in w2 and in w3
  have old1 : ∀ j, j < w.heap.size → w1.heap[j]? = w.heap[j]? := fun j hj => by
    rw [hbel.block j (by simp; omega), hao hj]
  have old2 : ∀ j, j < w1.heap.size → w2.heap[j]? = w1.heap[j]? := fun j hj => hm.below.block j hj
  have old3 : ∀ j, j < w2.heap.size → v.ownBlock ≠ some j → w3.heap[j]? = w2.heap[j]? := fun j hj hv => by
    rw [hgr.block j (by simp; omega) (fun e => hv e.symm), hao (by simp; omega), hao hj]
  have newp : w3.heap[w2.heap.size]? = some (.cells #[ptr x, ptr w1.heap.size, .int .i64 0] 40) := by
    rw [hgr.block _ (by simp; omega) (fun e => by have := hvl _ e.symm; omega), hao (by simp)]; exact heap_alloc_new w2 _
  have hset : ∀ j, j ≠ wb → (w3.setCell ⟨wb, 0, none⟩ (.slice (some ⟨gg, 0, none⟩) (ps.length + 1) cap)).heap[j]? = w3.heap[j]? := fun j hj => Below.heap_setCell _ _ _ _ hj
  have hxl := hat.lt
  have hrl := hm.refAt.lt
  have hrf := hm.foot
  have hwv : v.ownBlock ≠ some wb := fun e => by
    have := r.apart
    simp only [allFoot, e, List.cons_append, List.nodup_cons] at this
    exact this.1 (by simp)
  have hgw : gg ≠ wb := fun e => by
    subst e
    rcases hlie with e | e
    · exact hwv e
    · omega
  have hhead : w3.heap[wb]? = some (.cells #[v] 28) := by
    rw [old3 wb (by omega) hwv, old2 wb (by omega), old1 wb hw]; exact r.head
  have hfoot : ∀ j ∈ PairM.foot ⟨w2.heap.size, x, w1.heap.size, hm0, freshM b s g u z o rB rG, 0⟩, w.heap.size ≤ j ∧ j ≤ w2.heap.size := by
    intro j hj
    rcases List.mem_append.1 (show j ∈ (w2.heap.size :: (x :: hm0.foot)) ++ (w1.heap.size :: (freshM b s g u z o rB rG).foot) from hj) with hj | hj
    · rcases List.mem_cons.1 hj with rfl | hj
      · omega
      · have h1 := hft j hj
        have h2 := hxl j hj
        simp at h1
        omega
    · have h1 := hrf j hj
      have h2 := hrl j hj
      omega
  have hne : ∀ j, w.heap.size ≤ j → v.ownBlock ≠ some j := fun j hj e => by have := hvl j e; omega
  refine ⟨r.more _ hB (by rw [heap_setCell_at hhead]; rfl) ?_ ?_ (by simp [World.setCell]; omega) ?_ ?_ (fun j hj => (hfoot j hj).1) hsim, ?_⟩
  · exact own_carry hown fun j hj => hset j (by simp [Value.ownBlock] at hj; omega)
  · intro j hj
    simp [Value.ownBlock] at hj
    subst hj
    rcases hlie with e | e
    · exact .inl e
    · right
      refine ⟨by omega, fun hj => ?_⟩
      have := (hfoot _ hj).2
      omega
  · intro j hj h1 h2
    rw [hset j h1, old3 j (by omega) h2, old2 j (by omega), old1 j hj]
  · refine ⟨?_, ?_, ?_, ?_⟩
    · exact (hset _ (show w2.heap.size ≠ wb by omega)).trans newp
    · refine hat.carry fun j hj => ?_
      have h1 := hft j hj
      have h2 := hxl j hj
      simp at h1
      rw [hset _ (by omega), old3 j (by omega) (hne j (by omega)), old2 j h2]
    · refine hm.refAt.carry fun j hj => ?_
      have h1 := hrf j hj
      have h2 := hrl j hj
      rw [hset _ (by omega), old3 j h2 (hne j (by omega))]
    · show (w2.heap.size :: ((x :: hm0.foot) ++ (w1.heap.size :: (freshM b s g u z o rB rG).foot))).Nodup
      refine List.nodup_cons.2 ⟨fun hj => ?_, nodup_two hat.apart hm.refAt.apart hxl hrf⟩
      rcases List.mem_append.1 hj with hj | hj
      · have := hxl _ hj; omega
      · have := hrl _ hj; omega
  · refine ⟨?_, ?_, ?_, ?_, ?_⟩
    · exact hgr.os.trans (hm.below.os.trans hbel.os)
    · exact hgr.tape.trans (hm.below.tape.trans hbel.tape)
    · exact hgr.output.trans (hm.below.output.trans hbel.output)
    · simp [World.setCell]; omega
    · intro j hj hF
      rw [hset j (fun e => hF (by simp [allFoot, e])), old3 j (by omega) (fun e => hF (by simp [allFoot, e])), old2 j (by omega), old1 j hj]

set_option maxHeartbeats 800000 in
theorem made_yes {B : Nat} {w : World} {wb : Nat} {v : Value} {ps : List PairM} (r : LawAt Sim B w wb v ps) (hB : B ≤ w.heap.size) (hlen : ps.length ≤ 2000000000000) (b s g u z o : Nat) (h : cfgB b s g u z o = true)
    (hsim : ∀ hm0, NewM b s g u z o hm0 → ∀ rB rG, Sim hm0 (freshM b s g u z o rB rG) 0) :
    Calls Tryz.prog 14 #[ptr wb, .agg #[.int .i64 b, .int .i64 s, .int .i64 g, .int .i64 u, .int .i64 z, .int .i64 o]] w
      fun e w' => ∃ v' q, e = .returned (.bool true) ∧ LawAt Sim B w' wb v' (ps ++ [q]) ∧ Off (allFoot wb v ps) w w' := by
  have hcf : (b : Int) ≤ 99 ∧ (g : Int) ≤ 8 := by simp [cfgB] at h; omega
  have hb : b ≤ 99 := by omega
  have hg : g ≤ 8 := by omega
  obtain ⟨i0, hi, hz0, hz1, hz2⟩ := info_parts infoPair
  have hw := lt_of_heap r.head
  have hwv : v.ownBlock ≠ some wb := fun e => by
    have := r.apart
    simp only [allFoot, e, List.cons_append, List.nodup_cons] at this
    exact this.1 (by simp)
  have hhd := r.head
  have E : Hid (LawAt Sim B w wb v ps ∧ B ≤ w.heap.size ∧ ∀ hm0, NewM b s g u z o hm0 → ∀ rB rG, Sim hm0 (freshM b s g u z o rB rG) 0) := ⟨r, hB, hsim⟩
  have W : Hid (w.heap[wb]? = some (.cells #[v] 28) ∧ wb < w.heap.size) := ⟨hhd, hw⟩
  have OWN : Hid (w.ownsRow 0 35 1 v ps.length (ps.map fun q => ptr q.p)) := r.row
  clear r hsim hB hhd
  unfold ptr
  go_enter Tryz.func14, Tryz.ntmps14
  go_wp2_with (first
    | (go_at_call 24; refine (new_says _ _ _ _ _ _ _ h).mono ?_; rintro e w1 ⟨x, hm0, rfl, hbel, hat, hft, hnw⟩; have hh := boxed hbel; have hc0 := cell_of_heap (i := 0) hh rfl; have hc1 := cell_of_heap (i := 1) hh rfl; have hc2 := cell_of_heap (i := 2) hh rfl; have hc3 := cell_of_heap (i := 3) hh rfl; have hc4 := cell_of_heap (i := 4) hh rfl; have hc5 := cell_of_heap (i := 5) hh rfl; clear hh; have N : Hid (_ ∧ _ ∧ _ ∧ _) := ⟨hbel, hat, hft, hnw⟩; clear hbel hat hft hnw)
    | (go_at_call 25; refine (may_yes _ _ _ _ _ _ _ h).mono ?_; rintro e w1 ⟨rfl, rfl⟩)
    | (go_at_call 26; refine (num_any _ _).mono ?_; rintro e w1 ⟨rfl, rfl⟩))
  refine (fresh_any _ _ _ _ _ _ _ hb hg).mono ?_
  rintro e w2 ⟨rfl, rB, rG, hm⟩
  obtain ⟨hbel, hat, hft, hnw⟩ := N.out
  have hs1 : w.heap.size + 1 ≤ w1.heap.size := by have := hbel.size; simpa using this
  have hs2 : w1.heap.size < w2.heap.size := lt_of_heap hm.head
  have old2 : ∀ j, j < w.heap.size → w2.heap[j]? = w.heap[j]? := fun j hj => by
    rw [hm.below.block j (by omega), hbel.block j (by simp; omega), hao hj]
  have hwb : w2.cell? ⟨wb, 0, none⟩ = some v := cell_of_heap ((old2 wb W.out.2).trans W.out.1) rfl
  have own2 : w2.ownsRow 0 35 1 v ps.length (ps.map fun q => ptr q.p) := own_carry OWN.out fun j hj => old2 j (own_lt OWN.out hj).2
  have own3 := (own2.alloc (.cells #[ptr x, ptr w1.heap.size, .int .i64 0] 40)).alloc (.cells #[ptr w2.heap.size] 35)
  have OWN3 : Hid (((w2.alloc (.cells #[ptr x, ptr w1.heap.size, .int .i64 0] 40)).alloc (.cells #[ptr w2.heap.size] 35)).ownsRow 0 35 1 v ps.length (ps.map fun q => ptr q.p)) := own3
  have M : Hid (Made2 w1 w2 b s u z o rB rG (b + 1) g) := hm
  have O2 : Hid (∀ j, j < w.heap.size → w2.heap[j]? = w.heap[j]?) := old2
  clear hm hbel hat hft hnw own2 own3 old2 hc0 hc1 hc2 hc3 hc4 hc5 h
  go_wp2_with (at_builtin; refine wpList_append_lies _ rfl (.tmp 60) (.tmp 65) 26 rfl 0 35 i0 _ 1 8 Tryz.underlying26 hi hz0 hz1 hz2 rfl (by decide) _ _ _ rfl OWN3.out ⟨w2.heap.size + 1, 0, none⟩ 1 1 [ptr w2.heap.size] rfl rfl ?c1 ?c2 (by decide) ?c3 ?c4 (Nat.zero_le _) (w2.heap.size + 1 + 1) (by simp) ?_)
  case c1 => have := news_new (w2.alloc (.cells #[ptr x, ptr w1.heap.size, .int .i64 0] 40)) [ptr w2.heap.size] 35; simpa [ptr] using this
  case c2 => intro u hu; simp at hu; subst hu; rfl
  case c3 => unfold maxLen; omega
  case c4 => omega
  intro gg cap w3 hown hgr hlie _
  obtain ⟨r, hB, hsim⟩ := E.out
  obtain ⟨hbel, hat, hft, hnw⟩ := N.out
  have K := made_end r hB (hsim hm0 hnw rB rG) hbel hat hft M.out hown hgr hlie
  have hh3 : w3.heap[wb]? = some (.cells #[v] 28) := by
    rw [hgr.block wb (by simp; omega) (fun e => hwv e.symm), hao (by simp; omega), hao (by omega), O2.out wb hw]; exact W.out.1
  have hf3 : w3.frozen? ⟨wb, 0, none⟩ = false := frozen_of_heap hh3
  have hc3 : w3.cell? ⟨wb, 0, none⟩ = some v := cell_of_heap hh3 rfl
  clear hown hgr hlie r hB hsim hbel hat hft hnw hh3 E W OWN OWN3 M O2 N
  go_wp2
  go_ret
  exact ⟨_, _, rfl, K⟩

end Go.Proofs.YteekoiljkklnmaaGreatDoor

/- OUR OWN. The law's steps, as numbers; a script in memory. -/
namespace Go.Proofs.YteekoiljkklnmaaGreatDoor
open Go.RowKit
set_option linter.unusedVariables false
set_option linter.unusedSimpArgs false

variable {Sim : HeapM → RefM → Int → Prop}

/-- a step, as its ten numbers -/
structure StepM where
  kind : Int
  a : Int
  op : Int
  n : Int
  b : Int
  s : Int
  g : Int
  u : Int
  z : Int
  o : Int

def StepM.cells (t : StepM) : List Value := [.int .i64 t.kind, .int .i64 t.a, .int .i64 t.op, .int .i64 t.n, .int .i64 t.b, .int .i64 t.s, .int .i64 t.g, .int .i64 t.u, .int .i64 t.z, .int .i64 t.o]
def StepM.val (t : StepM) : Value := .agg #[.int .i64 t.kind, .int .i64 t.a, .int .i64 t.op, .int .i64 t.n, .int .i64 t.b, .int .i64 t.s, .int .i64 t.g, .int .i64 t.u, .int .i64 t.z, .int .i64 t.o]
def fits (x : Int) : Prop := -9223372036854775808 ≤ x ∧ x ≤ 9223372036854775807
/-- the configuration in a step -/
def StepM.cfg (t : StepM) : Bool := cfgB t.b t.s t.g t.u t.z t.o

theorem LawAt.form {B : Nat} {w : World} {wb : Nat} {v : Value} {ps : List PairM} (r : LawAt Sim B w wb v ps) (hp : 0 < ps.length) :
    ∃ g cap, v = .slice (some ⟨g, 0, none⟩) ps.length cap ∧ g < w.heap.size ∧ ∀ k (hk : k < ps.length), w.cell? ⟨g, k, none⟩ = some (ptr (ps[k]).p) := by
  obtain ⟨g, cap, hv, _, hg⟩ := r.row.form hp
  refine ⟨g, cap, hv, hg, fun k hk => ?_⟩
  have := r.row.cells (g := g) (by rw [hv]; rfl) k (ptr (ps[k]).p) (by simp [hk])
  rwa [show (⟨g, 0, none⟩ : Addr).add k = ⟨g, k, none⟩ by unfold Addr.add; split <;> simp_all] at this

def StepM.ok (t : StepM) : Prop := fits t.kind ∧ fits t.a ∧ fits t.op ∧ fits t.n ∧ fits t.b ∧ fits t.s ∧ fits t.g ∧ fits t.u ∧ fits t.z ∧ fits t.o
def StepM.held (t : StepM) (lo hi : Int) : Prop := t.kind = 1 ∨ (lo ≤ t.kind ∧ t.kind ≤ hi)

/-- what a step that is played must do -/
def StepSays (Sim : HeapM → RefM → Int → Prop) (last lo hi : Int) (Good : StepM → List PairM → Prop) : Prop :=
  ∀ (B : Nat) (w : World) (wb : Nat) (v : Value) (ps : List PairM) (t : StepM), LawAt Sim B w wb v ps → B ≤ w.heap.size → ps.length ≤ 2000000000000 → t.ok → t.kind ≤ last → Good t ps →
    Calls Tryz.prog 11 #[ptr wb, t.val] w fun e w' => ∃ ok v' ps', e = .returned (.bool ok) ∧ (t.held lo hi → ok = true) ∧ ps'.length ≤ ps.length + 1 ∧ LawAt Sim B w' wb v' ps' ∧ Off (allFoot wb v ps) w w'

/-- the script in memory -/
def ScriptAt (w : World) (sb off len : Nat) (st : Nat → StepM) : Prop :=
  ∀ k, k < len → (st k).ok ∧ ∀ j u, (st k).cells[j]? = some u → w.cell? ⟨sb, off + k * 10 + j, none⟩ = some u

theorem lawStart (w : World) (B : Nat) (hB : B ≤ w.heap.size) (ht : Tab B w) : LawAt Sim B (w.alloc (.cells #[.slice none 0 0] 28)) w.heap.size (.slice none 0 0) [] :=
  ⟨heap_alloc_new w _, own_nil, by simp, by simp, by simp [allFoot, Value.ownBlock], by simp [allFoot, Value.ownBlock]; omega, ht.below ((Below.refl _ _).alloc (Nat.le_refl _) _)⟩


end Go.Proofs.YteekoiljkklnmaaGreatDoor

/- OUR OWN. The program's heap: Do. -/
namespace Go.Proofs.YteekoiljkklnmaaGreatDoor
open Go.RowKit
set_option linter.unusedVariables false
set_option linter.unusedSimpArgs false

def HDoSays (op : Int) : Prop := ∀ (h N : Nat) (w : World) (m : HeapM) (s : St) (c : Cf) (n : Int), HB 0 h w m s c N → (op = 2 → ∃ k, free? s = some k) →
  Calls Tryz.prog 28 #[.pointer (some ⟨h, 0, none⟩), .int .i64 op, .int .i64 n] w (HDone2 h N w m c (doS c s op n))

set_option maxHeartbeats 400000 in
theorem hdo_0 : HDoSays 0 := by
  intro h N w m s c n p hf
  have e : doS c s 0 n = pushA c.deep s (0, 0) := by simp [doS]
  rw [e]
  have C : Hid (Calls Tryz.prog 39 #[.pointer (some ⟨h, 0, none⟩), .agg #[.int .i64 0, .int .i64 0]] w (HDone h N w m c (pushA c.deep s (0, 0)))) := by
    have d := hpush_do p.pre (0, 0)
    rw [p.hs.st, p.hs.deep] at d
    exact d.mono fun e w' x => x.done p.hs
  clear p e hf
  go_enter Tryz.func28, Tryz.ntmps28
  go_wp2_with fail
  refine Calls.mono C.out ?_
  rintro e w1 ⟨rfl, hm⟩
  have M : Hid _ := hm
  clear hm C
  go_wp2
  go_ret2
  exact ⟨ret_zero (push_zero _ _ _), M.out⟩

set_option maxHeartbeats 400000 in
theorem hdo_1 : HDoSays 1 := by
  intro h N w m s c n p hf
  have e : doS c s 1 n = pushA c.deep s (1, n) := by simp [doS]
  rw [e]
  have C : Hid (Calls Tryz.prog 39 #[.pointer (some ⟨h, 0, none⟩), .agg #[.int .i64 1, .int .i64 n]] w (HDone h N w m c (pushA c.deep s (1, n)))) := by
    have d := hpush_do p.pre (1, n)
    rw [p.hs.st, p.hs.deep] at d
    exact d.mono fun e w' x => x.done p.hs
  clear p e hf
  go_enter Tryz.func28, Tryz.ntmps28
  go_wp2_with fail
  refine Calls.mono C.out ?_
  rintro e w1 ⟨rfl, hm⟩
  have M : Hid _ := hm
  clear hm C
  go_wp2
  go_ret2
  exact ⟨ret_zero (push_zero _ _ _), M.out⟩

set_option maxHeartbeats 400000 in
theorem hdo_2 : HDoSays 2 := by
  intro h N w m s c n p hf
  have e : doS c s 2 n = newS c s n := by simp [doS]
  rw [e]
  have C : Hid (Calls Tryz.prog 40 #[.pointer (some ⟨h, 0, none⟩), .int .i64 n] w (HDone h N w m c (newS c s n))) := new_done p n (hf rfl)
  clear p e hf
  go_enter Tryz.func28, Tryz.ntmps28
  go_wp2_with fail
  refine Calls.mono C.out ?_
  rintro e w1 ⟨rfl, hm⟩
  have M : Hid _ := hm
  clear hm C
  go_wp2
  go_ret2
  exact ⟨ret_zero (new_zero _ _ _), M.out⟩

set_option maxHeartbeats 400000 in
theorem hdo_3 : HDoSays 3 := by
  intro h N w m s c n p hf
  have e : doS c s 3 n = dupS c.deep s n := by simp [doS]
  rw [e]
  have C : Hid (Calls Tryz.prog 41 #[.pointer (some ⟨h, 0, none⟩), .int .i64 n] w (HDone h N w m c (dupS c.deep s n))) := by
    have d := hdup_do h N w m n p.pre
    rw [p.hs.st, p.hs.deep] at d
    exact d.mono fun e w' x => x.done p.hs
  clear p e hf
  go_enter Tryz.func28, Tryz.ntmps28
  go_wp2_with fail
  refine Calls.mono C.out ?_
  rintro e w1 ⟨rfl, hm⟩
  have M : Hid _ := hm
  clear hm C
  go_wp2
  go_ret2
  exact ⟨ret_zero (dup_zero _ _ _), M.out⟩

set_option maxHeartbeats 400000 in
theorem hdo_4 : HDoSays 4 := by
  intro h N w m s c n p hf
  have e : doS c s 4 n = dropS s := by simp [doS]
  rw [e]
  have C : Hid (Calls Tryz.prog 42 #[.pointer (some ⟨h, 0, none⟩)] w (HDone h N w m c (dropS s))) := by
    have d := hdrop_do h N w m p.pre
    rw [p.hs.st] at d
    exact d.mono fun e w' x => x.done p.hs
  clear p e hf
  go_enter Tryz.func28, Tryz.ntmps28
  go_wp2_with fail
  refine Calls.mono C.out ?_
  rintro e w1 ⟨rfl, hm⟩
  have M : Hid _ := hm
  clear hm C
  go_wp2
  go_ret2
  exact ⟨ret_zero (drop_zero _), M.out⟩

set_option maxHeartbeats 400000 in
theorem hdo_5 : HDoSays 5 := by
  intro h N w m s c n p hf
  have e : doS c s 5 n = getS c.deep s n := by simp [doS]
  rw [e]
  have C : Hid (Calls Tryz.prog 43 #[.pointer (some ⟨h, 0, none⟩), .int .i64 n] w (HDone h N w m c (getS c.deep s n))) := by
    have d := hget_do h N w m n p.pre
    rw [p.hs.st, p.hs.deep] at d
    exact d.mono fun e w' x => x.done p.hs
  clear p e hf
  go_enter Tryz.func28, Tryz.ntmps28
  go_wp2_with fail
  refine Calls.mono C.out ?_
  rintro e w1 ⟨rfl, hm⟩
  have M : Hid _ := hm
  clear hm C
  go_wp2
  go_ret2
  exact ⟨ret_zero (get_zero _ _ _), M.out⟩

set_option maxHeartbeats 400000 in
theorem hdo_6 : HDoSays 6 := by
  intro h N w m s c n p hf
  have e : doS c s 6 n = setS s n := by simp [doS]
  rw [e]
  have C : Hid (Calls Tryz.prog 44 #[.pointer (some ⟨h, 0, none⟩), .int .i64 n] w (HDone h N w m c (setS s n))) := by
    have d := hset_do h N w m n p.pre
    rw [p.hs.st] at d
    exact d.mono fun e w' x => x.done p.hs
  clear p e hf
  go_enter Tryz.func28, Tryz.ntmps28
  go_wp2_with fail
  refine Calls.mono C.out ?_
  rintro e w1 ⟨rfl, hm⟩
  have M : Hid _ := hm
  clear hm C
  go_wp2
  go_ret2
  exact ⟨ret_zero (set_zero _ _), M.out⟩

set_option maxHeartbeats 400000 in
theorem hdo_7 : HDoSays 7 := by
  intro h N w m s c n p hf
  have e : doS c s 7 n = loadS c.deep s n := by simp [doS]
  rw [e]
  have C : Hid (Calls Tryz.prog 45 #[.pointer (some ⟨h, 0, none⟩), .int .i64 n] w (HDone h N w m c (loadS c.deep s n))) := by
    have d := hload_do h N w m n p.pre
    rw [p.hs.st, p.hs.deep] at d
    exact d.mono fun e w' x => x.done p.hs
  clear p e hf
  go_enter Tryz.func28, Tryz.ntmps28
  go_wp2_with fail
  refine Calls.mono C.out ?_
  rintro e w1 ⟨rfl, hm⟩
  have M : Hid _ := hm
  clear hm C
  go_wp2
  go_ret2
  exact ⟨ret_zero (load_zero _ _ _), M.out⟩

set_option maxHeartbeats 400000 in
theorem hdo_8 : HDoSays 8 := by
  intro h N w m s c n p hf
  have e : doS c s 8 n = storeS c s n := by simp [doS]
  rw [e]
  have C : Hid (Calls Tryz.prog 46 #[.pointer (some ⟨h, 0, none⟩), .int .i64 n] w (HDone h N w m c (storeS c s n))) := store_done p n
  clear p e hf
  go_enter Tryz.func28, Tryz.ntmps28
  go_wp2_with fail
  refine Calls.mono C.out ?_
  rintro e w1 ⟨rfl, hm⟩
  have M : Hid _ := hm
  clear hm C
  go_wp2
  go_ret2
  exact ⟨ret_zero (store_zero _ _ _), M.out⟩

set_option maxHeartbeats 400000 in
theorem hdo_9 : HDoSays 9 := by
  intro h N w m s c n p hf
  have e : doS c s 9 n = sameS s := by simp [doS]
  rw [e]
  have C : Hid (Calls Tryz.prog 47 #[.pointer (some ⟨h, 0, none⟩)] w (HDone2 h N w m c (sameS s))) := by
    have d := hsame_do h N w m p.pre
    rw [p.hs.st] at d
    exact d.mono fun e w' x => x.done p.hs
  clear p e hf
  go_enter Tryz.func28, Tryz.ntmps28
  go_wp2_with fail
  refine Calls.mono C.out ?_
  rintro e w1 ⟨rfl, hm⟩
  have M : Hid _ := hm
  clear hm C
  go_wp2
  go_ret2
  exact ⟨rfl, M.out⟩

set_option maxHeartbeats 400000 in
theorem hdo_10 : HDoSays 10 := by
  intro h N w m s c n p hf
  have e : doS c s 10 n = takeS s := by simp [doS]
  rw [e]
  have C : Hid (Calls Tryz.prog 48 #[.pointer (some ⟨h, 0, none⟩)] w (HDone2 h N w m c (takeS s))) := by
    have d := htake_do h N w m p.pre
    rw [p.hs.st] at d
    exact d.mono fun e w' x => x.done p.hs
  clear p e hf
  go_enter Tryz.func28, Tryz.ntmps28
  go_wp2_with fail
  refine Calls.mono C.out ?_
  rintro e w1 ⟨rfl, hm⟩
  have M : Hid _ := hm
  clear hm C
  go_wp2
  go_ret2
  exact ⟨rfl, M.out⟩

set_option maxHeartbeats 400000 in
theorem hdo_11 : HDoSays 11 := by
  intro h N w m s c n p hf
  have e : doS c s 11 n = sizeS s := by simp [doS]
  rw [e]
  have C : Hid (Calls Tryz.prog 49 #[.pointer (some ⟨h, 0, none⟩)] w (HDone2 h N w m c (sizeS s))) := by
    have d := hsize_do h N w m p.pre
    rw [p.hs.st] at d
    exact d.mono fun e w' x => x.done p.hs
  clear p e hf
  go_enter Tryz.func28, Tryz.ntmps28
  go_wp2_with fail
  refine Calls.mono C.out ?_
  rintro e w1 ⟨rfl, hm⟩
  have M : Hid _ := hm
  clear hm C
  go_wp2
  go_ret2
  exact ⟨rfl, M.out⟩

set_option maxHeartbeats 400000 in
theorem hdo_12 : HDoSays 12 := by
  intro h N w m s c n p hf
  have e : doS c s 12 n = kindS s := by simp [doS]
  rw [e]
  have C : Hid (Calls Tryz.prog 50 #[.pointer (some ⟨h, 0, none⟩)] w (HDone2 h N w m c (kindS s))) := by
    have d := hkind_do h N w m p.pre
    rw [p.hs.st] at d
    exact d.mono fun e w' x => x.done p.hs
  clear p e hf
  go_enter Tryz.func28, Tryz.ntmps28
  go_wp2_with fail
  refine Calls.mono C.out ?_
  rintro e w1 ⟨rfl, hm⟩
  have M : Hid _ := hm
  clear hm C
  go_wp2
  go_ret2
  exact ⟨rfl, M.out⟩

set_option maxHeartbeats 400000 in
theorem hdo_none (op : Int) (h0 : ¬ op = 0) (h1 : ¬ op = 1) (h2 : ¬ op = 2) (h3 : ¬ op = 3) (h4 : ¬ op = 4) (h5 : ¬ op = 5) (h6 : ¬ op = 6) (h7 : ¬ op = 7) (h8 : ¬ op = 8) (h9 : ¬ op = 9) (h10 : ¬ op = 10) (h11 : ¬ op = 11) (h12 : ¬ op = 12) : HDoSays op := by
  intro h N w m s c n p hf
  have e : doS c s op n = (s, 0, 2) := by simp [doS, h0, h1, h2, h3, h4, h5, h6, h7, h8, h9, h10, h11, h12]
  rw [e]
  have M : Hid (∃ m', HTurn h w m w m' ∧ HS m' s c N) := ⟨m, .refl p.r, p.hs⟩
  have q0 : (op == 0) = false := by simpa using h0
  have q1 : (op == 1) = false := by simpa using h1
  have q2 : (op == 2) = false := by simpa using h2
  have q3 : (op == 3) = false := by simpa using h3
  have q4 : (op == 4) = false := by simpa using h4
  have q5 : (op == 5) = false := by simpa using h5
  have q6 : (op == 6) = false := by simpa using h6
  have q7 : (op == 7) = false := by simpa using h7
  have q8 : (op == 8) = false := by simpa using h8
  have q9 : (op == 9) = false := by simpa using h9
  have q10 : (op == 10) = false := by simpa using h10
  have q11 : (op == 11) = false := by simpa using h11
  have q12 : (op == 12) = false := by simpa using h12
  clear p e hf
  go_enter Tryz.func28, Tryz.ntmps28
  go_wp2
  go_ret2
  exact ⟨rfl, M.out⟩

theorem hdo_any (op : Int) : HDoSays op := by
  by_cases h0 : op = 0
  · subst h0; exact hdo_0
  by_cases h1 : op = 1
  · subst h1; exact hdo_1
  by_cases h2 : op = 2
  · subst h2; exact hdo_2
  by_cases h3 : op = 3
  · subst h3; exact hdo_3
  by_cases h4 : op = 4
  · subst h4; exact hdo_4
  by_cases h5 : op = 5
  · subst h5; exact hdo_5
  by_cases h6 : op = 6
  · subst h6; exact hdo_6
  by_cases h7 : op = 7
  · subst h7; exact hdo_7
  by_cases h8 : op = 8
  · subst h8; exact hdo_8
  by_cases h9 : op = 9
  · subst h9; exact hdo_9
  by_cases h10 : op = 10
  · subst h10; exact hdo_10
  by_cases h11 : op = 11
  · subst h11; exact hdo_11
  by_cases h12 : op = 12
  · subst h12; exact hdo_12
  exact hdo_none op h0 h1 h2 h3 h4 h5 h6 h7 h8 h9 h10 h11 h12

end Go.Proofs.YteekoiljkklnmaaGreatDoor

/- OUR OWN. The document's heap: free, the walk over what the callees leave. -/
namespace Go.Proofs.YteekoiljkklnmaaGreatDoor
open Go.RowKit
set_option linter.unusedVariables false
set_option linter.unusedSimpArgs false

def noObj : RObj := ⟨false, .slice none 0 0, [], false, false⟩

/-- P j: ahead of field j; Q: field j is nil, what it had is not let go yet. -/
structure FreeEnv (h N g capB fl fc b : Nat) (ao : Option Addr) (P : Nat → World → Prop) (Q : Nat → Int → Int → World → Prop) (Done : World → Prop) : Prop where
  pbelow : ∀ j W W', P j W → Below W.heap.size W W' → P j W'
  lt : ∀ j W, P j W → h < W.heap.size ∧ g < W.heap.size
  cells : ∀ j W, P j W → W.cell? ⟨h, 5, none⟩ = some (.slice (some ⟨g, 0, none⟩) (N + 1) capB) ∧ W.cell? ⟨g, b * 4 + 1, none⟩ = some (.slice ao fl fc)
  round : ∀ j W, P j W → j < fl → ∃ (fg : Nat) (y1 y2 : Int), ao = some ⟨fg, 0, none⟩ ∧ fg < W.heap.size ∧ fg ≠ h ∧ fg ≠ g ∧ W.cell? ⟨fg, j * 2, none⟩ = some (.int .i64 y1) ∧ W.cell? ⟨fg, j * 2 + 1, none⟩ = some (.int .i64 y2) ∧
    W.frozen? ⟨fg, j * 2, none⟩ = false ∧ W.frozen? ⟨fg, j * 2 + 1, none⟩ = false ∧ ∀ W', Below W.heap.size W W' → Q j y1 y2 ((W'.setCell ⟨fg, j * 2, none⟩ (.int .i64 0)).setCell ⟨fg, j * 2 + 1, none⟩ (.int .i64 0))
  qbelow : ∀ j y1 y2 W W', Q j y1 y2 W → Below W.heap.size W W' → Q j y1 y2 W'
  skip : ∀ j y1 y2 W, Q j y1 y2 W → y1 ≠ 2 → P (j + 1) W
  ref : ∀ j y2 W, Q j 2 y2 W → ∃ (i c : Nat) (st rb : Bool), i ≤ N ∧ y2 = i ∧ W.cell? ⟨h, 5, none⟩ = some (.slice (some ⟨g, 0, none⟩) (N + 1) capB) ∧ W.cell? ⟨g, i * 4 + 2, none⟩ = some (.bool st) ∧
    (Calls Tryz.prog 36 #[.pointer (some ⟨h, 0, none⟩), .int .i64 i] W fun e w' => e = .returned (.int .i64 c) ∧ w' = W) ∧ (0 < c → P (j + 1) W) ∧ (st = true → P (j + 1) W) ∧
    (∀ W', Below W.heap.size W W' → Calls Tryz.prog 65 #[.pointer (some ⟨h, 0, none⟩), .int .i64 i] W' fun e w' => e = .returned (.bool rb) ∧ w' = W') ∧
    (∀ W', Below W.heap.size W W' → c = 0 → st = false → rb = true → Calls Tryz.prog 67 #[.pointer (some ⟨h, 0, none⟩), .int .i64 i] W' fun e w' => e = .returned (.tuple #[]) ∧ P (j + 1) w') ∧
    (∀ W', Below W.heap.size W W' → c = 0 → st = false → rb = false → Calls Tryz.prog 66 #[.pointer (some ⟨h, 0, none⟩), .int .i64 i] W' fun e w' => e = .returned (.tuple #[]) ∧ P (j + 1) w')
  stop : ∀ W, P fl W → ∃ (qg qo ql qc : Nat) (u0 u1 u2 u3 : Value), W.cell? ⟨h, 6, none⟩ = some (.slice (some ⟨qg, qo, none⟩) (ql + 1) qc) ∧ ql + 1 ≤ qc ∧ qc ≤ maxLen ∧ W.cell? ⟨g, b * 4, none⟩ = some u0 ∧ W.cell? ⟨g, b * 4 + 1, none⟩ = some u1 ∧ W.cell? ⟨g, b * 4 + 2, none⟩ = some u2 ∧ W.cell? ⟨g, b * 4 + 3, none⟩ = some u3 ∧
    (∀ o, W.frozen? ⟨g, o, none⟩ = false) ∧ W.frozen? ⟨h, 6, none⟩ = false ∧ ∀ W' qo', (qo' = qo + 1 ∨ (qc = 1 ∧ qo' = qo)) → W' = ((layObj W g b noObj).setCell ⟨h, 6, none⟩ (.slice (some ⟨qg, qo', none⟩) ql (qc - 1))) → ∀ W'', Below W'.heap.size W' W'' → Done W''

set_option maxHeartbeats 4000000 in
set_option maxRecDepth 10000 in
theorem free_walk (h N g capB fl fc b qg0 qo0 ql0 qc0 : Nat) (ao : Option Addr) (w : World) (P : Nat → World → Prop) (Q : Nat → Int → Int → World → Prop) (Done : World → Prop) (E : Hid (FreeEnv h N g capB fl fc b ao P Q Done))
    (cQ : w.cell? ⟨h, 6, none⟩ = some (.slice (some ⟨qg0, qo0, none⟩) (ql0 + 1) qc0)) (c0 : w.cell? ⟨qg0, qo0, none⟩ = some (.int .i64 b)) (P0 : Hid (P 0 w)) (hN : N ≤ 99) (hb : b ≤ N) (hfl : fl ≤ 4) (hgh : g ≠ h) :
    Calls Tryz.prog 34 #[.pointer (some ⟨h, 0, none⟩)] w fun e w' => e = .returned (.tuple #[]) ∧ Done w' := by
  have hbI : (b : Int) < (N : Int) + 1 := by omega
  have hq0 : (0 : Int) < (ql0 : Int) + 1 := by omega
  go_enter Tryz.func34, Tryz.ntmps34
  go_wp2
  go_loopw [3] (fun i wr => ∃ j : Nat, j ≤ fl ∧ i = .int .i64 j ∧ P j wr) (fun i _ => fl - (intOf i).toNat)
  case atStart => exact ⟨0, Nat.zero_le _, rfl, P0.out⟩
  case round =>
    obtain ⟨j, hj, rfl, hp⟩ := hrel
    have K : Hid (P j wr) := hp
    obtain ⟨hh, hg⟩ := E.out.lt j wr hp
    obtain ⟨d0, d1⟩ := E.out.cells j wr hp
    clear hp
    by_cases hlt : j < fl
    · obtain ⟨fg, y1, y2, hao, hfg, hfh, hfgg, e0, e1, z0, z1, hQ⟩ := E.out.round j wr K.out hlt
      subst hao
      have QQ : Hid (∀ W', Below wr.heap.size wr W' → Q j y1 y2 ((W'.setCell ⟨fg, j * 2, none⟩ (.int .i64 0)).setCell ⟨fg, j * 2 + 1, none⟩ (.int .i64 0))) := hQ
      clear hQ
      have hltI : (j : Int) < fl := by omega
      have n1 : ¬ wr.heap.size = fg := by omega
      have n2 : ¬ wr.heap.size = g := by omega
      have n3 : ¬ wr.heap.size = h := by omega
      have BQ : Hid (Below wr.heap.size wr (wr.alloc (.cells #[.int .i64 y1, .int .i64 y2] 78))) := (Below.refl _ _).alloc (Nat.le_refl _) _
      have LL : Hid (fg ≠ wr.heap.size) := by show fg ≠ wr.heap.size; omega
      have al : ∀ (ob : Obj) (b o : Nat), b < wr.heap.size → (wr.alloc ob).cell? ⟨b, o, none⟩ = wr.cell? ⟨b, o, none⟩ ∧ (wr.alloc ob).frozen? ⟨b, o, none⟩ = wr.frozen? ⟨b, o, none⟩ := fun ob b o hlt => ⟨World.cell?_of_block (hao hlt), World.frozen?_of_block (hao hlt)⟩
      have t0 : ∀ ob, (wr.alloc ob).cell? ⟨h, 5, none⟩ = wr.cell? ⟨h, 5, none⟩ := fun ob => (al ob h 5 hh).1
      have t1 : ∀ ob, (wr.alloc ob).cell? ⟨g, b * 4 + 1, none⟩ = wr.cell? ⟨g, b * 4 + 1, none⟩ := fun ob => (al ob g _ hg).1
      have t2 : ∀ ob, (wr.alloc ob).cell? ⟨fg, j * 2, none⟩ = wr.cell? ⟨fg, j * 2, none⟩ := fun ob => (al ob fg _ hfg).1
      have t3 : ∀ ob, (wr.alloc ob).cell? ⟨fg, j * 2 + 1, none⟩ = wr.cell? ⟨fg, j * 2 + 1, none⟩ := fun ob => (al ob fg _ hfg).1
      have t4 : ∀ ob, (wr.alloc ob).frozen? ⟨fg, j * 2, none⟩ = wr.frozen? ⟨fg, j * 2, none⟩ := fun ob => (al ob fg _ hfg).2
      have t5 : ∀ ob, (wr.alloc ob).frozen? ⟨fg, j * 2 + 1, none⟩ = wr.frozen? ⟨fg, j * 2 + 1, none⟩ := fun ob => (al ob fg _ hfg).2
      clear hfh hfgg hgh hq0 cQ c0 K hh hg hfg al
      by_cases hy : y1 = 2
      · subst hy
        go_wp2_with fail
        obtain ⟨w2, hw2⟩ : ∃ w2, w2 = (((wr.alloc (.cells #[.int .i64 2, .int .i64 y2] 78)).setCell ⟨fg, j * 2, none⟩ (.int .i64 0)).setCell ⟨fg, j * 2 + 1, none⟩ (.int .i64 0)) := ⟨_, rfl⟩
        rw [← hw2]
        have Q2 := QQ.out _ BQ.out
        rw [← hw2] at Q2
        have L2 : w2.heap[wr.heap.size]? = some (.cells #[.int .i64 2, .int .i64 y2] 78) := by
          rw [hw2, hso (fun e => LL.out e.symm), hso (fun e => LL.out e.symm)]; exact heap_alloc_new wr _
        obtain ⟨i, c, st, rb, hi, hy2, d0', d2', CNT, C1, C2, C3, C4, C5⟩ := E.out.ref j y2 w2 Q2
        subst hy2
        have l1 : w2.cell? ⟨wr.heap.size, 1, none⟩ = some (.int .i64 (i : Int)) := cell_of_heap L2 rfl
        have CC : Hid _ := And.intro C1 (And.intro C2 (And.intro C3 (And.intro C4 C5)))
        have hiI : (i : Int) < (N : Int) + 1 := by omega
        clear hw2 Q2 L2 C1 C2 C3 C4 C5 QQ BQ t0 t1 t2 t3 t4 t5 d0 d1 e0 e1 z0 z1 n1 n2 n3 LL
        refine Calls.mono CNT ?_
        rintro e w3 ⟨rfl, hw3⟩
        subst hw3
        clear CNT
        by_cases hc : c = 0
        · subst hc
          cases st with
          | true =>
            go_wp2_with fail
            go_quiet (fail)
            go_wp2
            go_roundw
            case rel => exact ⟨j + 1, by omega, by go_num, E.out.pbelow _ _ _ (CC.out.2.1 (by simp)) (below_drewN (Below.refl _ _) _)⟩
            case measure => simp [intOf]; omega
          | false =>
            go_wp2_with fail
            go_quiet (fail)
            go_wp2_with fail
            refine Calls.mono (CC.out.2.2.1 _ (below_drewN (Below.refl _ _) _)) ?_
            rintro e w4 ⟨rfl, hw4⟩
            have l4 : w4.cell? ⟨wr.heap.size, 1, none⟩ = some (.int .i64 (i : Int)) := by rw [hw4]; exact l1
            have B4 : Hid (Below w3.heap.size w3 w4) := by rw [hw4]; exact below_drewN (Below.refl _ _) _
            clear hw4
            cases rb with
            | true =>
              go_wp2_with fail
              refine Calls.mono (CC.out.2.2.2.1 _ B4.out (by simp) (by simp) (by simp)) ?_
              rintro e w5 ⟨rfl, hp⟩
              have PP : Hid _ := hp
              clear hp
              go_wp2
              go_roundw
              case rel => exact ⟨j + 1, by omega, by go_num, PP.out⟩
              case measure => simp [intOf]; omega
            | false =>
              go_wp2_with fail
              refine Calls.mono (CC.out.2.2.2.2 _ B4.out (by simp) (by simp) (by simp)) ?_
              rintro e w5 ⟨rfl, hp⟩
              have PP : Hid _ := hp
              clear hp
              go_wp2
              go_roundw
              case rel => exact ⟨j + 1, by omega, by go_num, PP.out⟩
              case measure => simp [intOf]; omega
        · have hcI : (0 : Int) < c := by omega
          have hcd : decide ((0 : Int) < c) = true := by simpa using hcI
          go_wp2_with fail
          go_quiet (fail)
          go_wp2
          go_roundw
          case rel => exact ⟨j + 1, by omega, by go_num, E.out.pbelow _ _ _ (CC.out.1 (by omega)) (below_drewN (Below.refl _ _) _)⟩
          case measure => simp [intOf]; omega
      · have hy2 : (y1 == 2) = false := by simpa using hy
        go_wp2
        go_roundw
        case rel => exact ⟨j + 1, by omega, by go_num, E.out.skip _ _ _ _ (QQ.out _ BQ.out) hy⟩
        case measure => simp [intOf]; omega
    · obtain rfl : j = fl := by omega
      obtain ⟨qg, qo, ql, qc, u0, u1, u2, u3, e6, hq1, hq2, e0, e1, e2, e3, fz, f6, hD⟩ := E.out.stop wr K.out
      have DD : Hid _ := hD
      have f0 := fz (b * 4)
      have f1 := fz (b * 4 + 1)
      have f2 := fz (b * 4 + 2)
      have f3 := fz (b * 4 + 3)
      clear hD fz cQ c0 K hq0
      have hq3 : (1 : Int) ≤ (ql : Int) + 1 := by omega
      unfold maxLen at hq2
      by_cases hq5 : qc = 1
      · subst hq5
        obtain rfl : ql = 0 := by omega
        go_wp2
        go_end0
        exact ⟨rfl, DD.out _ qo (by simp) (by simp [layObj, noObj]) _ (Below.refl _ _)⟩
      · go_wp2
        go_end0
        exact ⟨rfl, DD.out _ (qo + 1) (by simp) (by simp [layObj, noObj]) _ (Below.refl _ _)⟩

end Go.Proofs.YteekoiljkklnmaaGreatDoor

/- OUR OWN. The document's heap: free, exact. -/
namespace Go.Proofs.YteekoiljkklnmaaGreatDoor
open Go.RowKit
set_option linter.unusedVariables false
set_option linter.unusedSimpArgs false

theorem SortRel.vB {but : Int} {m : RefM} : ∀ {k : Nat} {m' : RefM}, SortRel but m k m' → m'.vB = m.vB := by
  intro k
  induction k with
  | zero => intro m' h; rw [show m' = m from h]
  | succ k ih =>
    rintro m' ⟨m1, h1, ⟨_, v, rfl⟩ | ⟨_, rfl⟩⟩
    · have := ih h1; exact this
    · exact ih h1
theorem EnterRel.vB {but : Int} {m m' : RefM} {N : Nat} (h : EnterRel but m N m') : m'.vB = m.vB := by
  unfold EnterRel at h
  split at h
  · exact h.vB
  · rw [h]
theorem alike_obj {m m' : RefM} (a : Alikeq m m') {i : Nat} {o : RObj} (h : m.objs[i]? = some o) : ∃ o', m'.objs[i]? = some o' ∧ o'.vF = o.vF ∧ o'.fs = o.fs ∧ o'.here = o.here ∧ o'.stuck = o.stuck := by
  have e := congrArg (fun l => l[i]?) a.objs
  simp only [List.getElem?_map, h] at e
  cases h' : m'.objs[i]? with
  | none => rw [h'] at e; cases e
  | some o' =>
    rw [h'] at e
    simp [RObj.strip] at e
    exact ⟨o', rfl, e.2.1, e.2.2.1, e.1, e.2.2.2⟩

/-- the blocks' row and an object's fields lie apart -/
theorem RPre.apart {h N : Nat} {w : World} {m : RefM} (p : RPre h N w m) {i : Nat} {o : RObj} (hi : m.objs[i]? = some o) {g fg : Nat} (hg : m.vB.ownBlock = some g) (hf : o.vF.ownBlock = some fg) : fg ≠ g ∧ fg ≠ h := by
  have hap := List.nodup_cons.1 p.r.rowsAt.apart
  have h1 : m.rows[0]? = some ⟨54, 4, m.vB, m.objs.length, m.objs.flatMap RObj.cells⟩ := rfl
  have h2 : m.rows[4 + i]? = some o.row := by
    simp only [RefM.rows, show 4 + i = i + 1 + 1 + 1 + 1 by omega, List.getElem?_cons_succ, List.getElem?_map, hi]; rfl
  refine ⟨fun e => ?_, fun e => ?_⟩
  · subst e
    have := filterMap_idx SRow.ob m.rows hap.2 0 (4 + i) _ _ fg h1 h2 hg hf
    omega
  · subst e
    exact p.r.ne (List.mem_of_getElem? h2) hf

/-! ### What letting go does, by cases -/
theorem letGo_not {z : Int} {b k : Nat} {s : St} (h : ((s.ob b).fs.getD k (0, 0)).1 ≠ 2) : letGo z b k s = s.field b k (0, 0) := by unfold letGo; exact if_pos h
theorem letGo_held {z : Int} {b k : Nat} {s : St} {i : Nat} (h : (s.ob b).fs.getD k (0, 0) = (2, (i : Int))) (hc : 0 < (s.field b k (0, 0)).count i ∨ ((s.field b k (0, 0)).ob i).stuck = true) : letGo z b k s = s.field b k (0, 0) := by
  unfold letGo; rw [h]; exact (if_neg (by simp)).trans (if_pos hc)
theorem letGo_root {z : Int} {b k : Nat} {s : St} {i : Nat} (h : (s.ob b).fs.getD k (0, 0) = (2, (i : Int))) (hc : (s.field b k (0, 0)).count i = 0) (hs : ((s.field b k (0, 0)).ob i).stuck = false) (hr : (s.field b k (0, 0)).rooted i = true) :
    letGo z b k s = (s.field b k (0, 0)).enter z i := by
  unfold letGo; rw [h]
  refine (if_neg (by simp)).trans ((if_neg ?_).trans (if_pos hr))
  rintro (h1 | h1)
  · have h2 : 0 < (s.field b k (0, 0)).count i := h1
    omega
  · have h2 : ((s.field b k (0, 0)).ob i).stuck = true := h1
    rw [hs] at h2; cases h2
theorem letGo_queue {z : Int} {b k : Nat} {s : St} {i : Nat} (h : (s.ob b).fs.getD k (0, 0) = (2, (i : Int))) (hc : (s.field b k (0, 0)).count i = 0) (hs : ((s.field b k (0, 0)).ob i).stuck = false) (hr : (s.field b k (0, 0)).rooted i = false) :
    letGo z b k s = (s.field b k (0, 0)).enq i := by
  unfold letGo; rw [h]
  refine (if_neg (by simp)).trans ((if_neg ?_).trans ((if_neg ?_).trans ?_))
  · rintro (h1 | h1)
    · have h2 : 0 < (s.field b k (0, 0)).count i := h1
      omega
    · have h2 : ((s.field b k (0, 0)).ob i).stuck = true := h1
      rw [hs] at h2; cases h2
  · intro h1
    have h2 : (s.field b k (0, 0)).rooted i = true := h1
    rw [hr] at h2; cases h2
  · rfl

/-- the heap in the midst of it: the object in block b has its fields where they were -/
structure Fr (h N : Nat) (w : World) (m : RefM) (b : Nat) (vF : Value) (fl : Nat) (s : St) (W : World) (m1 : RefM) : Prop where
  pre : RPre h N W m1
  step : RStep h N w m W m1
  st : m1.st = s
  vB : m1.vB = m.vB
  obj : ∃ o, m1.objs[b]? = some o ∧ o.vF = vF ∧ o.fs.length = fl
theorem Fr.below {h N : Nat} {w W W' : World} {m m1 : RefM} {b fl : Nat} {vF : Value} {s : St} (t : Fr h N w m b vF fl s W m1) (hb : Below W.heap.size W W') : Fr h N w m b vF fl s W' m1 := ⟨t.pre.below hb, t.step.after hb, t.st, t.vB, t.obj⟩
theorem Fr.zero {h N : Nat} {w W : World} {m m1 : RefM} {b fl : Nat} {vF : Value} {s : St} (t : Fr h N w m b vF fl s W m1) : m1.zero = m.zero := congrArg Cf.zero t.step.cf

/-- an object in the block of which the state says so -/
theorem st_obj {m : RefM} {i : Nat} (h : (m.st.ob i).here = true) : ∃ o, m.objs[i]? = some o ∧ o.ob = m.st.ob i := by
  cases e : m.objs[i]? with
  | none => rw [st_ob_none e] at h; cases h
  | some o => exact ⟨o, rfl, (st_ob e).symm⟩

theorem win_tail {w : World} {g off n cap : Nat} {x : Value} {xs : List Value} {e : TypeId} (h : ownsWin w e (.slice (some ⟨g, off, none⟩) (n + 1) cap) (n + 1) (x :: xs)) (off' : Nat) (ho : off' = off + 1 ∨ (cap = 1 ∧ off' = off)) :
    ownsWin w e (.slice (some ⟨g, off', none⟩) n (cap - 1)) n xs := by
  rcases h.2 with ⟨hv, _⟩ | ⟨g', off1, cap', cur, hv, h1, h2, h3, h4, h5⟩
  · cases hv
  · simp at hv
    obtain ⟨⟨rfl, rfl⟩, rfl⟩ := hv
    have hl := h.1
    simp at hl
    refine ⟨hl, .inr ⟨g, off', cap - 1, cur, rfl, h1, by omega, by omega, by omega, fun j u hu => ?_⟩⟩
    have hj : j < xs.length := (List.getElem?_eq_some_iff.1 hu).1
    rcases ho with rfl | ⟨hc, _⟩
    · have := h5 (j + 1) u (by simpa using hu)
      rw [show off + 1 + j = off + (j + 1) by omega]; exact this
    · omega

theorem countP_unset {l : List RObj} {i : Nat} {o o' : RObj} (h : l[i]? = some o) (hq : o.queued = true) (hq' : o'.queued = false) : (l.set i o').countP RObj.queued + 1 = l.countP RObj.queued := by
  induction l generalizing i with
  | nil => simp at h
  | cons a l ih =>
    cases i with
    | zero => simp at h; subst h; simp [List.countP_cons, hq, hq']
    | succ i => simp at h; rw [List.set_cons_succ, List.countP_cons, List.countP_cons]; have := ih h; omega

/-- the first of the queue leaves it, its block is free -/
theorem RStep.leave {h N : Nat} {W : World} {m : RefM} (p : RPre h N W m) {g capB b qg qo ql qc qo' : Nat} (hvB : m.vB = .slice (some ⟨g, 0, none⟩) (N + 1) capB) {o : RObj} (hi : m.objs[b]? = some o) (hq : o.queued = true) {q : List Int} (hqe : m.queue = (b : Int) :: q)
    (hvQ : m.vQ = .slice (some ⟨qg, qo, none⟩) (ql + 1) qc) (hql : m.queue.length = ql + 1) (ho : qo' = qo + 1 ∨ (qc = 1 ∧ qo' = qo)) :
    ∃ m', RStep h N W m ((layObj W g b noObj).setCell ⟨h, 6, none⟩ (.slice (some ⟨qg, qo', none⟩) ql (qc - 1))) m' ∧ m'.st = m.st.leave b ∧ m'.vB = m.vB := by
  have t1 : Turn h W m (layObj W g b noObj) (m.put b noObj) := p.r.placed p.ok (Below.refl _ _) hvB b hi noObj (World.ownsRow_nil _ _ _ _) (fun x hx => by cases hx)
  have r1 := t1.here
  have hw : ownsWin (layObj W g b noObj) 3 (.slice (some ⟨qg, qo, none⟩) (ql + 1) qc) (ql + 1) (.int .i64 (b : Int) :: q.map (Value.int .i64)) := by
    have := r1.queue
    have e1 : (m.put b noObj).vQ = .slice (some ⟨qg, qo, none⟩) (ql + 1) qc := hvQ
    have e2 : (m.put b noObj).queue = (b : Int) :: q := hqe
    have e3 : (m.put b noObj).queue.length = ql + 1 := hql
    rw [e3, e1, e2] at this
    exact this
  have hw' := win_tail hw qo' ho
  have hl : q.length = ql := by rw [hqe] at hql; simpa using hql
  have t2 := r1.requeued (w1 := layObj W g b noObj) (.slice (some ⟨qg, qo', none⟩) ql (qc - 1)) q (by rw [hl]; exact hw') (Off.refl _ _) (fun x hx => .inl (by
    have e1 : (m.put b noObj).vQ = .slice (some ⟨qg, qo, none⟩) (ql + 1) qc := hvQ
    rw [e1]; exact hx))
  refine ⟨_, ⟨t1.trans t2, ⟨p.ok.most, by simp [RefM.put, p.ok.len], p.ok.small, fun x hx => ?_, p.ok.stack, p.ok.globals, ?_⟩, rfl, fun x hx hf => ?_⟩, ?_, rfl⟩
  · rcases List.mem_or_eq_of_mem_set hx with e | e
    · exact p.ok.fields x e
    · subst e; simp [noObj]
  · show q.length ≤ (m.objs.set b noObj).countP RObj.queued
    have := countP_unset (o' := noObj) hi hq rfl
    have := p.ok.queue
    omega
  · rcases List.mem_or_eq_of_mem_set hx with e | e
    · exact p.clean x e hf
    · subst e; rfl
  · have e1 : (m.put b noObj).st = m.st.put b Ob.free := put_st m b noObj
    unfold St.leave
    have e2 : m.st.queue = (b : Int) :: q := hqe
    rw [e2]
    show (⟨m.stack, m.globals, (m.objs.set b noObj).map RObj.ob, q⟩ : St) = ⟨m.stack, m.globals, (m.objs.map RObj.ob).set b Ob.free, q⟩
    rw [List.map_set]; rfl

theorem free_any {h N : Nat} {w : World} {m : RefM} (p : RPre h N w m) (gd : m.st.Good N) (hq : m.queue.length ≠ 0) :
    Calls Tryz.prog 34 #[.pointer (some ⟨h, 0, none⟩)] w fun e w' => e = .returned (.tuple #[]) ∧ ∃ m', RStep h N w m w' m' ∧ m'.st = m.st.free m.zero ∧ m'.vB = m.vB := by
  obtain ⟨q, hqe⟩ := gd.first hq
  obtain ⟨b, hb⟩ : ∃ b, m.st.first = b := ⟨_, rfl⟩
  rw [hb] at hqe
  have hqd : (m.st.ob b).queued = true := (gd.inq b).1 (by rw [hqe]; simp)
  have hh : (m.st.ob b).here = true := by
    cases e : (m.st.ob b).here with
    | true => rfl
    | false => rw [gd.gone b e] at hqd; cases hqd
  have hbN := gd.ne_zero hh
  obtain ⟨o, ho, hoo⟩ := st_obj hh
  have hbl : b < m.objs.length := (List.getElem?_eq_some_iff.1 ho).1
  have hom : o ∈ m.objs := List.mem_of_getElem? ho
  obtain ⟨ao, fc, hvF⟩ := own_slice (p.r.fields o hom)
  obtain ⟨g, capB, hvB, hg, hgh, hgo, hfz, hobj⟩ := p.r.view p.ok
  obtain ⟨fl, hfl⟩ : ∃ fl, o.fs.length = fl := ⟨_, rfl⟩
  have hfs : (m.st.ob b).fs = o.fs := by rw [← hoo]; rfl
  obtain ⟨S, hS⟩ : ∃ S : Nat → St, S = fun j => letTo m.zero b m.st j := ⟨_, rfl⟩
  have gS : ∀ j, (S j).Good N := fun j => by rw [hS]; exact gd.letTo _ _ _
  have S0 : S 0 = m.st := by rw [hS]; rfl
  have S1 : ∀ j, S (j + 1) = letGo m.zero b j (S j) := fun j => by rw [hS]; rfl
  have target : m.st.free m.zero = (S fl).leave b := by
    unfold St.free
    rw [hb, hfs, hfl, hS]
  rw [target]
  obtain ⟨qg0, qo0, qc0, hvQ0, _, _, hqc0, hqcell0, _⟩ := win_view p.r.queue (by omega)
  obtain ⟨ql0, hql0⟩ : ∃ ql0, m.queue.length = ql0 + 1 := ⟨m.queue.length - 1, by omega⟩
  have VIEW : ∀ (s : St) W m1, Fr h N w m b o.vF fl s W m1 → W.cell? ⟨h, 5, none⟩ = some (.slice (some ⟨g, 0, none⟩) (N + 1) capB) ∧ g < W.heap.size ∧ (∀ j, W.frozen? ⟨g, j, none⟩ = false) ∧ (∀ i (hi : i < m1.objs.length), W.cell? ⟨g, i * 4, none⟩ = some (.bool (m1.objs[i]).here) ∧ W.cell? ⟨g, i * 4 + 1, none⟩ = some (m1.objs[i]).vF ∧
      W.cell? ⟨g, i * 4 + 2, none⟩ = some (.bool (m1.objs[i]).stuck) ∧ W.cell? ⟨g, i * 4 + 3, none⟩ = some (.bool (m1.objs[i]).queued)) := by
    intro s W m1 t
    obtain ⟨g', capB', hvB', hg', _, _, hfz', hobj'⟩ := t.pre.r.view t.pre.ok
    have e1 : (Value.slice (some ⟨g', 0, none⟩) (N + 1) capB') = .slice (some ⟨g, 0, none⟩) (N + 1) capB := hvB'.symm.trans (t.vB.trans hvB)
    simp at e1
    obtain ⟨rfl, rfl⟩ := e1
    exact ⟨by rw [t.pre.r.cell.2.2.2.2.2.1, hvB'], hg', hfz', hobj'⟩
  have OBJ : ∀ (s : St) W m1, Fr h N w m b o.vF fl s W m1 → W.cell? ⟨g, b * 4 + 1, none⟩ = some (.slice ao fl fc) := by
    intro s W m1 t
    obtain ⟨o1, h1, h2, h3⟩ := t.obj
    have hl : b < m1.objs.length := (List.getElem?_eq_some_iff.1 h1).1
    have e : m1.objs[b] = o1 := (List.getElem?_eq_some_iff.1 h1).2
    rw [((VIEW s W m1 t).2.2.2 b hl).2.1, e, h2, hvF, hfl]
  have ENV : FreeEnv h N g capB fl fc b ao (fun j W => ∃ m1, Fr h N w m b o.vF fl (S j) W m1) (fun j y1 y2 W => ∃ m2, Fr h N w m b o.vF fl ((S j).field b j (0, 0)) W m2 ∧ ((S j).ob b).fs.getD j (0, 0) = (y1, y2))
      (fun W => ∃ m', RStep h N w m W m' ∧ m'.st = (S fl).leave b ∧ m'.vB = m.vB) := by
    refine ⟨?_, ?_, ?_, ?_, ?_, ?_, ?_, ?_⟩
    · rintro j W W' ⟨m1, t⟩ hbl; exact ⟨m1, t.below hbl⟩
    · rintro j W ⟨m1, t⟩; exact ⟨lt_of_heap t.pre.r.head, (VIEW _ W m1 t).2.1⟩
    · rintro j W ⟨m1, t⟩; exact ⟨(VIEW _ W m1 t).1, OBJ _ W m1 t⟩
    · rintro j W ⟨m1, t⟩ hj
      obtain ⟨o1, h1, h2, h3⟩ := t.obj
      have hj1 : j < o1.fs.length := by omega
      obtain ⟨g', capB', fg, fc', hvB', hvF', hg', hfg, a1, a2, a3, a4, a5, a6⟩ := t.pre.facts b o1 h1 j hj1
      have e1 : (Value.slice (some ⟨g', 0, none⟩) (N + 1) capB') = .slice (some ⟨g, 0, none⟩) (N + 1) capB := hvB'.symm.trans (t.vB.trans hvB)
      simp at e1
      obtain ⟨rfl, rfl⟩ := e1
      have e2 : (Value.slice (some ⟨fg, 0, none⟩) o1.fs.length fc') = .slice ao o.fs.length fc := hvF'.symm.trans (h2.trans hvF)
      simp at e2
      obtain ⟨e2, _, rfl⟩ := e2
      obtain ⟨ne1, ne2⟩ := t.pre.apart h1 (by rw [hvB']; rfl) (by rw [hvF']; rfl)
      refine ⟨fg, (o1.fs[j]).1, (o1.fs[j]).2, e2.symm, hfg, ne2, ne1, a3, a4, a5, a6, fun W' hbl => ?_⟩
      obtain ⟨s1, p1, st1⟩ := RStep.field (t.pre.below hbl) b h1 hvF' j hj1 (0, 0) (.inl rfl)
      refine ⟨_, ⟨p1, (t.step.after hbl).trans s1, ?_, t.vB, ?_⟩, ?_⟩
      · rw [st1, t.st]
      · have hl : b < m1.objs.length := (List.getElem?_eq_some_iff.1 h1).1
        exact ⟨{ o1 with fs := o1.fs.set j (0, 0) }, by simp [RefM.put, hl], h2, by simpa using h3⟩
      · rw [← t.st, st_ob h1]
        show o1.fs.getD j (0, 0) = _
        rw [List.getD_eq_getElem?_getD, List.getElem?_eq_getElem hj1]; rfl
    · rintro j y1 y2 W W' ⟨m2, t, hy⟩ hbl; exact ⟨m2, t.below hbl, hy⟩
    · rintro j y1 y2 W ⟨m2, t, hy⟩ hne
      refine ⟨m2, ?_⟩
      rw [S1, letGo_not (by rw [hy]; exact hne)]; exact t
    · rintro j y2 W ⟨m2, t, hy⟩
      have hlead : ((S j).field b j (0, 0)).leads (2, y2) := leads_put (i := b) (o := { (S j).ob b with fs := ((S j).ob b).fs.set j (0, 0) }) rfl rfl (by rw [← hy]; exact leads_getD ((gS j).fields b) j)
      obtain ⟨i, hi, ha⟩ := leads_ref hlead rfl
      have hi' : y2 = i := hi
      subst hi'
      rw [← t.st] at ha
      have g2 : m2.st.Good N := by rw [t.st]; exact (gS j).setField b j (.inl rfl)
      have hiN := g2.ne_zero ha.1
      obtain ⟨oi, hoi, hoo2⟩ := st_obj ha.1
      have hil : i < m2.objs.length := (List.getElem?_eq_some_iff.1 hoi).1
      have eoi : m2.objs[i] = oi := (List.getElem?_eq_some_iff.1 hoi).2
      have hstk : oi.stuck = (m2.st.ob i).stuck := by rw [← hoo2]; rfl
      have hqi : oi.queued = false := by have : (oi.ob).queued = false := by rw [hoo2]; exact ha.2
                                         exact this
      refine ⟨i, m2.st.count i, (m2.st.ob i).stuck, m2.st.rooted i, hiN.2, rfl, (VIEW _ W m2 t).1, ?_, ?_, ?_, ?_, ?_, ?_, ?_⟩
      · rw [((VIEW _ W m2 t).2.2.2 i hil).2.2.1, eoi, hstk]
      · rw [st_count]; exact count_any t.pre.r t.pre.ok i
      · intro hc
        exact ⟨m2, by rw [S1, letGo_held hy (.inl (by rw [← t.st]; exact hc))]; exact t⟩
      · intro hc
        exact ⟨m2, by rw [S1, letGo_held hy (.inr (by rw [← t.st]; exact hc))]; exact t⟩
      · intro W' hbl
        exact rooted_any (t.below hbl).pre.r t.pre.ok i
      · intro W' hbl hc hs hr
        have t' := t.below hbl
        refine (enter_any t'.pre.r t'.pre.ok (i : Int)).mono ?_
        rintro e w' ⟨he, m3, hE, hT, hok⟩
        obtain ⟨s3, st3⟩ := RStep.enter t'.pre hE hT hok
        have st4 : m3.st = S (j + 1) := by
          rw [S1, letGo_root hy (by rw [← t.st]; exact hc) (by rw [← t.st]; exact hs) (by rw [← t.st]; exact hr), st3, t.zero, t.st]
        obtain ⟨o2, h1, h2, h3⟩ := t.obj
        obtain ⟨o3, k1, k2, k3, _, _⟩ := alike_obj hE.alike h1
        exact ⟨he, m3, s3.pre t'.pre (by rw [st4]; exact (gS (j + 1)).inv), t'.step.trans s3, st4, hE.vB.trans t.vB, ⟨o3, k1, k2.trans h2, by rw [k3]; exact h3⟩⟩
      · intro W' hbl hc hs hr
        have t' := t.below hbl
        refine (queued_any t'.pre.r t'.pre.ok i hiN.2).mono ?_
        rintro e w' ⟨he, v', hT⟩
        have hwait : m2.waitsB i = true := by
          rw [← st_waits]
          exact waits_iff.2 ⟨ha, hs, hc⟩
        have st4 : (m2.enq i v').st = S (j + 1) := by
          rw [S1, letGo_queue hy (by rw [← t.st]; exact hc) (by rw [← t.st]; exact hs) (by rw [← t.st]; exact hr), enq_st, t.st]
        have s3 : RStep h N W' m2 w' (m2.enq i v') := ⟨hT, t.pre.ok.enq hoi hqi v', rfl, clean_enq t.pre.clean hwait⟩
        obtain ⟨o2, h1, h2, h3⟩ := t.obj
        obtain ⟨o3, k1, k2, k3, _, _⟩ := alike_obj (alikeq_enq m2 i v') h1
        exact ⟨he, m2.enq i v', s3.pre t'.pre (by rw [st4]; exact (gS (j + 1)).inv), t'.step.trans s3, st4, t.vB, ⟨o3, k1, k2.trans h2, by rw [k3]; exact h3⟩⟩
    · rintro W ⟨m1, t⟩
      obtain ⟨_, _, _, q', hq'⟩ := letTo_same m.zero b m.st fl
      have hqm : m1.queue = (b : Int) :: (q ++ q') := by
        have : m1.st.queue = (b : Int) :: (q ++ q') := by rw [t.st, hS]; show (letTo m.zero b m.st fl).queue = _; rw [hq', hqe]; simp
        exact this
      obtain ⟨o1, h1, h2, h3⟩ := t.obj
      have hl : b < m1.objs.length := (List.getElem?_eq_some_iff.1 h1).1
      have eo : m1.objs[b] = o1 := (List.getElem?_eq_some_iff.1 h1).2
      have hqd1 : o1.queued = true := by
        have := ((gS fl).inq b).1 (by rw [← t.st]; show (b : Int) ∈ m1.queue; rw [hqm]; simp)
        rw [← t.st, st_ob h1] at this
        exact this
      obtain ⟨ql, hql⟩ : ∃ ql, m1.queue.length = ql + 1 := ⟨(q ++ q').length, by rw [hqm]; rfl⟩
      have hw := t.pre.r.queue
      obtain ⟨qg, qo, qc, hvQ, _, _, hqc, _, _⟩ := win_view hw (by omega)
      have hmax : qc ≤ maxLen := by
        rcases hw.2 with ⟨hn, _⟩ | ⟨g', off', cap', cur, hn, _, _, hx, _⟩
        · rw [hvQ] at hn; cases hn
        · rw [hvQ] at hn; simp at hn; rw [hn.2]; exact hx
      rw [hql] at hvQ hqc
      obtain ⟨v1, v2, v3, v4⟩ := VIEW _ W m1 t
      obtain ⟨d0, d1, d2, d3⟩ := v4 b hl
      refine ⟨qg, qo, ql, qc, _, _, _, _, by rw [t.pre.r.cell.2.2.2.2.2.2.1, hvQ], hqc, hmax, d0, d1, d2, d3, v3, frozen_of_heap t.pre.r.head, fun W' qo' hqo hW' W'' hbl => ?_⟩
      obtain ⟨m', s', st', vb'⟩ := RStep.leave t.pre (t.vB.trans hvB) h1 hqd1 hqm hvQ hql hqo
      rw [← hW'] at s'
      exact ⟨m', (t.step.trans s').after hbl, by rw [st', t.st], vb'.trans t.vB⟩
  refine free_walk h N g capB fl fc b qg0 qo0 ql0 qc0 ao w _ _ _ ENV ?_ ?_ ?_ p.ok.small hbN.2 ?_ hgh
  · rw [p.r.cell.2.2.2.2.2.2.1, hvQ0, hql0]
  · have := hqcell0 0 (.int .i64 b) (by
      have e : m.queue = (b : Int) :: q := hqe
      rw [e]; rfl)
    simpa using this
  · exact ⟨m, ⟨p, .refl p, S0.symm, rfl, ⟨o, ho, rfl, hfl⟩⟩⟩
  · rw [← hfl]; exact p.ok.fields o hom

end Go.Proofs.YteekoiljkklnmaaGreatDoor

/- OUR OWN. The document's heap: Safepoint, exact. -/
namespace Go.Proofs.YteekoiljkklnmaaGreatDoor
open Go.RowKit
set_option linter.unusedVariables false
set_option linter.unusedSimpArgs false

theorem sort_do {h N : Nat} {w : World} {m : RefM} (p : RPre h N w m) (but : Int) :
    Calls Tryz.prog 33 #[.pointer (some ⟨h, 0, none⟩), .int .i64 but] w fun e w' => e = .returned (.tuple #[]) ∧ ∃ m', RStep h N w m w' m' ∧ m'.st = m.st.sort but := by
  refine (sort_any p.r p.ok but).mono ?_
  rintro e w' ⟨he, m', hS, hT, hok⟩
  refine ⟨he, m', ⟨hT, hok, hS.alike.cf, hS.clean p.clean⟩, ?_⟩
  rw [hS.st]; unfold St.sort; rw [st_N p.ok]

/-- in the midst of a safepoint: j are freed -/
structure Sf (h N : Nat) (w : World) (m : RefM) (B : Nat) (fin : St × Nat) (j : Nat) (W : World) (m1 : RefM) : Prop where
  pre : RPre h N W m1
  step : RStep h N w m W m1
  good : m1.st.Good N
  le : j ≤ B
  st : (safeN m.zero (B - j) m1.st).1 = fin.1
  n : (safeN m.zero (B - j) m1.st).2 + j = fin.2

theorem Sf.done {h N : Nat} {w : World} {m : RefM} {B : Nat} {fin : St × Nat} {j : Nat} {W : World} {m1 : RefM} (t : Sf h N w m B fin j W m1) (hd : ¬ (j < B ∧ m1.queue.length ≠ 0)) : m1.st = fin.1 ∧ j = fin.2 := by
  have e : safeN m.zero (B - j) m1.st = (m1.st, 0) := by
    cases k : B - j with
    | zero => rfl
    | succ k => unfold safeN; exact if_pos (by show m1.queue.length = 0; have : j < B := by omega
                                               exact Classical.byContradiction fun hn => hd ⟨this, hn⟩)
  have h1 := t.st
  have h2 := t.n
  rw [e] at h1 h2
  exact ⟨h1, by simpa using h2⟩
theorem Sf.next {h N : Nat} {w : World} {m : RefM} {B : Nat} {fin : St × Nat} {j : Nat} {W W' : World} {m1 m2 : RefM} (t : Sf h N w m B fin j W m1) (hj : j < B) (hq : m1.queue.length ≠ 0) (s : RStep h N W m1 W' m2) (st : m2.st = m1.st.free m1.zero) : Sf h N w m B fin (j + 1) W' m2 := by
  have hz : m1.zero = m.zero := congrArg Cf.zero t.step.cf
  have g2 : m2.st.Good N := by rw [st]; exact t.good.freed _ hq
  have e : safeN m.zero (B - j) m1.st = ((safeN m.zero (B - (j + 1)) m2.st).1, (safeN m.zero (B - (j + 1)) m2.st).2 + 1) := by
    rw [show B - j = (B - (j + 1)) + 1 by omega, st, hz]
    show safeN m.zero (B - (j + 1) + 1) m1.st = _
    conv => lhs; unfold safeN
    exact if_neg hq
  have h1 := t.st
  have h2 := t.n
  rw [e] at h1 h2
  have h3 : (safeN m.zero (B - (j + 1)) m2.st).2 + 1 + j = fin.2 := h2
  exact ⟨s.pre t.pre g2.inv, t.step.trans s, g2, hj, h1, by omega⟩

set_option maxHeartbeats 1600000 in
theorem safe_any {h N : Nat} {w : World} {m : RefM} (p : RPre h N w m) (gd : m.st.Good N) (hbd : m.budget ≤ 99) :
    Calls Tryz.prog 19 #[.pointer (some ⟨h, 0, none⟩)] w fun e w' => e = .returned (.int .i64 (m.st.safe m.cf).2) ∧ ∃ m', RStep h N w m w' m' ∧ m'.st = (m.st.safe m.cf).1 := by
  obtain ⟨B, hB⟩ : ∃ B, m.budget.toNat = B := ⟨_, rfl⟩
  obtain ⟨fin, hfin⟩ : ∃ fin, m.st.safe m.cf = fin := ⟨_, rfl⟩
  have SORT : Hid (Calls Tryz.prog 33 #[.pointer (some ⟨h, 0, none⟩), .int .i64 0] w fun e w' => e = .returned (.tuple #[]) ∧ ∃ m', Sf h N w m B fin 0 w' m') := by
    refine (sort_do p 0).mono ?_
    rintro e w' ⟨he, m', s, st⟩
    have g' : m'.st.Good N := by rw [st]; exact gd.sort 0
    have e : fin = safeN m.zero B (m.st.sort 0) := by rw [← hfin, ← hB]; rfl
    exact ⟨he, m', s.pre p g'.inv, s, g', Nat.zero_le _, by rw [Nat.sub_zero, st, e], by rw [Nat.sub_zero, st, e]; rfl⟩
  rw [hfin]
  have FACT : Hid (∀ j W m1, Sf h N w m B fin j W m1 → W.cell? ⟨h, 2, none⟩ = some (.int .i64 m.budget) ∧ ∃ ao cp, W.cell? ⟨h, 6, none⟩ = some (.slice ao m1.queue.length cp)) := fun j W m1 t => by
    have hb : m1.budget = m.budget := congrArg Cf.budget t.step.cf
    obtain ⟨ao, cp, hv⟩ := win_slice t.pre.r.queue
    exact ⟨by rw [t.pre.r.cell.2.2.1, hb], ao, cp, by rw [t.pre.r.cell.2.2.2.2.2.2.1, hv]⟩
  have FREE : Hid (∀ j W m1, Sf h N w m B fin j W m1 → j < B → m1.queue.length ≠ 0 → ∀ W1, Below W.heap.size W W1 → Calls Tryz.prog 34 #[.pointer (some ⟨h, 0, none⟩)] W1 fun e w' => e = .returned (.tuple #[]) ∧ ∃ m2, Sf h N w m B fin (j + 1) w' m2) := fun j W m1 t hj hq W1 hb => by
    refine (free_any (t.pre.below hb) t.good hq).mono ?_
    rintro e w' ⟨he, m2, s, st, _⟩
    exact ⟨he, m2, Sf.next ⟨t.pre.below hb, t.step.after hb, t.good, t.le, t.st, t.n⟩ hj hq s st⟩
  obtain ⟨bud, hbud⟩ : ∃ bud, m.budget = bud := ⟨_, rfl⟩
  rw [hbud] at hbd hB FACT
  have LT : Hid (∀ j : Nat, ((j : Int) < bud ↔ j < B)) := fun j => by omega
  have hB99 : B ≤ 99 := by omega
  have LEN : Hid (∀ W m1, RefAt W h m1 → m1.Ok N → m1.queue.length ≤ 100) := fun W m1 r ok => by
    have h1 := ok.queue
    have h2 : m1.objs.countP RObj.queued ≤ m1.objs.length := List.countP_le_length
    have := ok.len; have := ok.small; omega
  clear p gd hfin hbud hB
  go_enter Tryz.func19, Tryz.ntmps19
  go_wp2_with fail
  refine SORT.out.mono ?_
  rintro e w1 ⟨rfl, m1, t1⟩
  have T1 : Hid (Sf h N w m B fin 0 w1 m1) := t1
  clear t1 SORT
  go_wp2
  go_loopw [3] (fun i wr => ∃ (j : Nat) (m1 : RefM), i = .int .i64 j ∧ Sf h N w m B fin j wr m1) (fun i _ => B - (intOf i).toNat)
  case atStart => exact ⟨0, m1, rfl, T1.out⟩
  case round =>
    obtain ⟨j, m2, rfl, t⟩ := hrel
    have T : Hid (Sf h N w m B fin j wr m2) := t
    have hjB := t.le
    have hql := LEN.out wr m2 t.pre.r t.pre.ok
    obtain ⟨c2, ao, cp, c6⟩ := FACT.out j wr m2 t
    obtain ⟨ql, hqe⟩ : ∃ ql, m2.queue.length = ql := ⟨_, rfl⟩
    rw [hqe] at c6 hql
    have QE : Hid (m2.queue.length = ql) := hqe
    clear t hqe T1
    by_cases hj : j < B
    · have hjI : (j : Int) < bud := (LT.out j).2 hj
      have hjd : decide ((j : Int) < bud) = true := by simpa using hjI
      by_cases hq : ql = 0
      · have hqI : ¬ (0 : Int) < ql := by omega
        have hqd : decide ((0 : Int) < ql) = false := by simpa using hqI
        have R : Hid (m2.st = fin.1 ∧ j = fin.2) := T.out.done fun h2 => h2.2 (by rw [QE.out]; exact hq)
        go_wp2
        go_ret
        exact ⟨ret_int (congrArg Int.ofNat R.out.2), m2, T.out.step, R.out.1⟩
      · have hqI : (0 : Int) < ql := by omega
        have hqd : decide ((0 : Int) < ql) = true := by simpa using hqI
        have F : Hid _ := FREE.out j wr m2 T.out hj (by rw [QE.out]; exact hq) wr (Below.refl _ _)
        go_wp2_with fail
        refine Calls.mono F.out ?_
        rintro e w3 ⟨rfl, m3, t3⟩
        have T3 : Hid (Sf h N w m B fin (j + 1) w3 m3) := t3
        clear t3 F
        go_wp2
        go_roundw
        case rel => exact ⟨j + 1, m3, by go_num, T3.out⟩
        case measure => simp [intOf]; omega
    · have hjI : ¬ (j : Int) < bud := fun hn => hj ((LT.out j).1 hn)
      have hjd : decide ((j : Int) < bud) = false := by simpa using hjI
      have R : Hid (m2.st = fin.1 ∧ j = fin.2) := T.out.done fun h2 => hj h2.1
      go_wp2
      go_ret
      exact ⟨ret_int (congrArg Int.ofNat R.out.2), m2, T.out.step, R.out.1⟩

end Go.Proofs.YteekoiljkklnmaaGreatDoor

