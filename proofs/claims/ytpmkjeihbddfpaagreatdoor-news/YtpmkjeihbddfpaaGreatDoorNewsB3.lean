import Derived.Test.YtpmkjeihbddfpaaGreatDoorNewsB2
import Derived.WalkSmall
import Derived.Lib.LaidTab
import Derived.Lib.ItoaNum
/- OUR OWN. The table of the library's that strconv reads: where it lies, and that it stays. -/
namespace Go.Proofs.YtpmkjeihbddfpaaGreatDoor
open Go.RowKit
set_option linter.unusedVariables false
set_option linter.unusedSimpArgs false

theorem tabNamed : Tryz.prog.globalNamed "internal/strconv.uint64pow10" = some 0 := by kernel_rfl
/-- the table's block lies below B, and holds the powers of ten -/
def Tab (B : Nat) (w : World) : Prop := 0 < B ∧ 0 < w.heap.size ∧ Lib.TabIs Tryz.prog w "internal/strconv.uint64pow10" .u64 Lib.pow10Tab
theorem Tab.keep {B : Nat} {w w' : World} (t : Tab B w) (hs : w.heap.size ≤ w'.heap.size) (h : ∀ k, k < B → k < w.heap.size → w'.heap[k]? = w.heap[k]?) : Tab B w' := by
  refine ⟨t.1, by have := t.2.1; omega, ?_⟩
  have h2 := t.2.2
  unfold Lib.TabIs World.var? at h2 ⊢
  rw [tabNamed] at h2 ⊢
  simp only [Option.bind_some] at h2 ⊢
  rw [h _ t.1 t.2.1]
  exact h2
theorem Tab.below {B : Nat} {w w' : World} (t : Tab B w) (h : Below w.heap.size w w') : Tab B w' := t.keep h.size fun k _ h2 => h.block k h2
theorem Tab.off {B : Nat} {F : List Nat} {w w' : World} (t : Tab B w) (h : Off F w w') (hF : ∀ g ∈ F, B ≤ g) : Tab B w' := t.keep h.size fun k h1 h2 => h.block k h2 fun e => by have := hF k e; omega

end Go.Proofs.YtpmkjeihbddfpaaGreatDoor

/- OUR OWN. Which of n things a raw number speaks of. -/
namespace Go.Proofs.YtpmkjeihbddfpaaGreatDoor

def pickN (c : Int) (n : Nat) : Nat := ((if c < 0 then -(c + 1) else c) % n).toNat

theorem pickN_lt (c : Int) (n : Nat) (h : 0 < n) : pickN c n < n := by
  unfold pickN
  have := Int.emod_lt_of_pos (if c < 0 then -(c + 1) else c) (show (0 : Int) < n by omega)
  omega

end Go.Proofs.YtpmkjeihbddfpaaGreatDoor

/- OUR OWN. May, num, pick. -/
namespace Go.Proofs.YtpmkjeihbddfpaaGreatDoor
open Go.RowKit
set_option linter.unusedVariables false
set_option linter.unusedSimpArgs false

theorem num_any (e : Int) (w : World) :
    Calls Tryz.prog 26 #[.int .i64 e] w fun r w' => r = .returned (.int .i64 e) ∧ w' = w := by
  go_enter Tryz.func26, Tryz.ntmps26
  go_wp2
  go_ret
  exact ⟨rfl, rfl⟩

set_option maxHeartbeats 400000 in
theorem pick_any (c : Int) (n : Nat) (w : World) (hc : -9223372036854775808 ≤ c ∧ c ≤ 9223372036854775807) (hn : 0 < n) (hm : n ≤ 2000000000000) :
    Calls Tryz.prog 12 #[.int .i64 c, .int .i64 n] w fun r w' => r = .returned (.int .i64 (pickN c n)) ∧ w' = w := by
  obtain ⟨c1, c2⟩ := hc
  have hp : (0 : Int) < n := by omega
  have hne : ((n : Int) == 0) = false := by simp; omega
  by_cases h : c < 0
  · have e : (pickN c n : Int) = -((c + 1).tmod n) := by
      rw [← Int.neg_tmod, Int.tmod_eq_emod_of_nonneg (by omega)]
      unfold pickN; rw [if_pos h]; have := Int.emod_nonneg (-(c + 1)) (show (n : Int) ≠ 0 by omega); omega
    have E : Hid ((pickN c n : Int) = -((c + 1).tmod n)) := e
    clear e
    go_enter Tryz.func12, Tryz.ntmps12
    go_wp2
    go_ret
    rw [E.out]
    exact ⟨rfl, rfl⟩
  · have e : (pickN c n : Int) = c % n := by
      unfold pickN; rw [if_neg h]; have := Int.emod_nonneg c (show (n : Int) ≠ 0 by omega); omega
    have E : Hid ((pickN c n : Int) = c % n) := e
    clear e
    go_enter Tryz.func12, Tryz.ntmps12
    go_wp2
    go_ret
    rw [E.out]
    exact ⟨rfl, rfl⟩

set_option maxHeartbeats 800000 in
theorem may_yes (b s g u z o : Int) (w : World) (h : cfgB b s g u z o = true) :
    Calls Tryz.prog 25 #[.int .i64 b, .int .i64 s, .int .i64 g, .int .i64 u, .int .i64 z, .int .i64 o] w
      fun e w' => e = .returned (.bool true) ∧ w' = w := by
  have ⟨h1, h2, h3, h4, h5, h6, h7, h8, h9, h10, h11, h12⟩ : 1 ≤ b ∧ b ≤ 99 ∧ 1 ≤ s ∧ s ≤ 16 ∧ 0 ≤ g ∧ g ≤ 8 ∧ 1 ≤ u ∧ u ≤ 99 ∧ s + g < z ∧ z ≤ 99 ∧ 0 ≤ o ∧ o ≤ 9 := by simpa [cfgB] using h
  clear h
  go_enter Tryz.func25, Tryz.ntmps25
  go_wp2
  go_ret
  exact ⟨rfl, rfl⟩

theorem cfg_cases {b s g u z o : Int} (h : cfgB b s g u z o = false) :
    (b < 1) ∨
    (1 ≤ b ∧ 99 < b) ∨
    (1 ≤ b ∧ b ≤ 99 ∧ s < 1) ∨
    (1 ≤ b ∧ b ≤ 99 ∧ 1 ≤ s ∧ 16 < s) ∨
    (1 ≤ b ∧ b ≤ 99 ∧ 1 ≤ s ∧ s ≤ 16 ∧ g < 0) ∨
    (1 ≤ b ∧ b ≤ 99 ∧ 1 ≤ s ∧ s ≤ 16 ∧ 0 ≤ g ∧ 8 < g) ∨
    (1 ≤ b ∧ b ≤ 99 ∧ 1 ≤ s ∧ s ≤ 16 ∧ 0 ≤ g ∧ g ≤ 8 ∧ u < 1) ∨
    (1 ≤ b ∧ b ≤ 99 ∧ 1 ≤ s ∧ s ≤ 16 ∧ 0 ≤ g ∧ g ≤ 8 ∧ 1 ≤ u ∧ 99 < u) ∨
    (1 ≤ b ∧ b ≤ 99 ∧ 1 ≤ s ∧ s ≤ 16 ∧ 0 ≤ g ∧ g ≤ 8 ∧ 1 ≤ u ∧ u ≤ 99 ∧ z ≤ s + g) ∨
    (1 ≤ b ∧ b ≤ 99 ∧ 1 ≤ s ∧ s ≤ 16 ∧ 0 ≤ g ∧ g ≤ 8 ∧ 1 ≤ u ∧ u ≤ 99 ∧ s + g < z ∧ 99 < z) ∨
    (1 ≤ b ∧ b ≤ 99 ∧ 1 ≤ s ∧ s ≤ 16 ∧ 0 ≤ g ∧ g ≤ 8 ∧ 1 ≤ u ∧ u ≤ 99 ∧ s + g < z ∧ z ≤ 99 ∧ o < 0) ∨
    (1 ≤ b ∧ b ≤ 99 ∧ 1 ≤ s ∧ s ≤ 16 ∧ 0 ≤ g ∧ g ≤ 8 ∧ 1 ≤ u ∧ u ≤ 99 ∧ s + g < z ∧ z ≤ 99 ∧ 0 ≤ o ∧ 9 < o) := by
  by_cases a0 : b < 1
  · exact Or.inl a0
  by_cases a1 : 99 < b
  · exact Or.inr (Or.inl (⟨Int.not_lt.1 a0, a1⟩))
  by_cases a2 : s < 1
  · exact Or.inr (Or.inr (Or.inl (⟨Int.not_lt.1 a0, Int.not_lt.1 a1, a2⟩)))
  by_cases a3 : 16 < s
  · exact Or.inr (Or.inr (Or.inr (Or.inl (⟨Int.not_lt.1 a0, Int.not_lt.1 a1, Int.not_lt.1 a2, a3⟩))))
  by_cases a4 : g < 0
  · exact Or.inr (Or.inr (Or.inr (Or.inr (Or.inl (⟨Int.not_lt.1 a0, Int.not_lt.1 a1, Int.not_lt.1 a2, Int.not_lt.1 a3, a4⟩)))))
  by_cases a5 : 8 < g
  · exact Or.inr (Or.inr (Or.inr (Or.inr (Or.inr (Or.inl (⟨Int.not_lt.1 a0, Int.not_lt.1 a1, Int.not_lt.1 a2, Int.not_lt.1 a3, Int.not_lt.1 a4, a5⟩))))))
  by_cases a6 : u < 1
  · exact Or.inr (Or.inr (Or.inr (Or.inr (Or.inr (Or.inr (Or.inl (⟨Int.not_lt.1 a0, Int.not_lt.1 a1, Int.not_lt.1 a2, Int.not_lt.1 a3, Int.not_lt.1 a4, Int.not_lt.1 a5, a6⟩)))))))
  by_cases a7 : 99 < u
  · exact Or.inr (Or.inr (Or.inr (Or.inr (Or.inr (Or.inr (Or.inr (Or.inl (⟨Int.not_lt.1 a0, Int.not_lt.1 a1, Int.not_lt.1 a2, Int.not_lt.1 a3, Int.not_lt.1 a4, Int.not_lt.1 a5, Int.not_lt.1 a6, a7⟩))))))))
  by_cases a8 : z ≤ s + g
  · exact Or.inr (Or.inr (Or.inr (Or.inr (Or.inr (Or.inr (Or.inr (Or.inr (Or.inl (⟨Int.not_lt.1 a0, Int.not_lt.1 a1, Int.not_lt.1 a2, Int.not_lt.1 a3, Int.not_lt.1 a4, Int.not_lt.1 a5, Int.not_lt.1 a6, Int.not_lt.1 a7, a8⟩)))))))))
  by_cases a9 : 99 < z
  · exact Or.inr (Or.inr (Or.inr (Or.inr (Or.inr (Or.inr (Or.inr (Or.inr (Or.inr (Or.inl (⟨Int.not_lt.1 a0, Int.not_lt.1 a1, Int.not_lt.1 a2, Int.not_lt.1 a3, Int.not_lt.1 a4, Int.not_lt.1 a5, Int.not_lt.1 a6, Int.not_lt.1 a7, Int.not_le.1 a8, a9⟩))))))))))
  by_cases a10 : o < 0
  · exact Or.inr (Or.inr (Or.inr (Or.inr (Or.inr (Or.inr (Or.inr (Or.inr (Or.inr (Or.inr (Or.inl (⟨Int.not_lt.1 a0, Int.not_lt.1 a1, Int.not_lt.1 a2, Int.not_lt.1 a3, Int.not_lt.1 a4, Int.not_lt.1 a5, Int.not_lt.1 a6, Int.not_lt.1 a7, Int.not_le.1 a8, Int.not_lt.1 a9, a10⟩)))))))))))
  by_cases a11 : 9 < o
  · exact Or.inr (Or.inr (Or.inr (Or.inr (Or.inr (Or.inr (Or.inr (Or.inr (Or.inr (Or.inr (Or.inr (⟨Int.not_lt.1 a0, Int.not_lt.1 a1, Int.not_lt.1 a2, Int.not_lt.1 a3, Int.not_lt.1 a4, Int.not_lt.1 a5, Int.not_lt.1 a6, Int.not_lt.1 a7, Int.not_le.1 a8, Int.not_lt.1 a9, Int.not_lt.1 a10, a11⟩)))))))))))
  exfalso
  simp only [cfgB, decide_eq_false_iff_not] at h
  exact h ⟨Int.not_lt.1 a0, Int.not_lt.1 a1, Int.not_lt.1 a2, Int.not_lt.1 a3, Int.not_lt.1 a4, Int.not_lt.1 a5, Int.not_lt.1 a6, Int.not_lt.1 a7, Int.not_le.1 a8, Int.not_lt.1 a9, Int.not_lt.1 a10, Int.not_lt.1 a11⟩

set_option maxHeartbeats 1600000 in
theorem may_no (b s g u z o : Int) (w : World) (h : cfgB b s g u z o = false) :
    Calls Tryz.prog 25 #[.int .i64 b, .int .i64 s, .int .i64 g, .int .i64 u, .int .i64 z, .int .i64 o] w
      fun e w' => e = .returned (.bool false) ∧ w' = w := by
  have h' := cfg_cases h
  clear h
  rcases h' with h | h | h | h | h | h | h | h | h | h | h | h
  all_goals
    (repeat (obtain ⟨hx, h⟩ := h))
    go_enter Tryz.func25, Tryz.ntmps25
    go_wp2
    go_ret
    first | exact ⟨rfl, rfl⟩ | exact ⟨ret_bool (by simp; omega), rfl⟩

end Go.Proofs.YtpmkjeihbddfpaaGreatDoor

/- OUR OWN. The law's heaps, in pairs; made. -/
namespace Go.Proofs.YtpmkjeihbddfpaaGreatDoor
open Go.RowKit
set_option linter.unusedVariables false
set_option linter.unusedSimpArgs false

/-- a heap, the document's, how many objects were asked for; and where they lie -/
structure PairM where
  p : Nat
  x : Nat
  h : Nat
  hm : HeapM
  rm : RefM
  news : Int

def PairM.foot (q : PairM) : List Nat := q.p :: (q.x :: q.hm.foot) ++ (q.h :: q.rm.foot)
def PairM.head (q : PairM) : Obj := .cells #[.pointer (some ⟨q.x, 0, none⟩), .pointer (some ⟨q.h, 0, none⟩), .int .i64 q.news] 40

structure PairAt (w : World) (q : PairM) : Prop where
  head : w.heap[q.p]? = some q.head
  heap : HeapAt w q.x q.hm
  ref : RefAt w q.h q.rm
  apart : q.foot.Nodup

theorem PairAt.carry {w w' : World} {q : PairM} (r : PairAt w q) (hb : ∀ g ∈ q.foot, w'.heap[g]? = w.heap[g]?) : PairAt w' q :=
  ⟨by rw [hb _ (by simp [PairM.foot])]; exact r.head, r.heap.carry fun g hg => hb g (List.mem_cons_of_mem q.p (List.mem_append_left (q.h :: q.rm.foot) hg)),
    r.ref.carry fun g hg => hb g (List.mem_cons_of_mem q.p (List.mem_append_right (q.x :: q.hm.foot) hg)), r.apart⟩

theorem PairAt.lt {w : World} {q : PairM} (r : PairAt w q) : ∀ g ∈ q.foot, g < w.heap.size := by
  intro g hg
  simp only [PairM.foot, List.cons_append] at hg
  rcases List.mem_cons.1 hg with rfl | hg
  · exact lt_of_heap r.head
  · rcases List.mem_append.1 (show g ∈ (q.x :: q.hm.foot) ++ (q.h :: q.rm.foot) from hg) with hg | hg
    · exact r.heap.lt g hg
    · exact r.ref.lt g hg

def ptr (n : Nat) : Value := .pointer (some ⟨n, 0, none⟩)
def allFoot (wb : Nat) (v : Value) (ps : List PairM) : List Nat := wb :: v.ownBlock.toList ++ ps.flatMap PairM.foot

/-- the law's world: block wb, with the slice v of the pairs ps -/
structure LawAt (Sim : HeapM → RefM → Int → Prop) (B : Nat) (w : World) (wb : Nat) (v : Value) (ps : List PairM) : Prop where
  head : w.heap[wb]? = some (.cells #[v] 28)
  row : w.ownsRow 0 35 1 v ps.length (ps.map fun q => ptr q.p)
  pairs : ∀ q ∈ ps, PairAt w q
  sim : ∀ q ∈ ps, Sim q.hm q.rm q.news
  apart : (allFoot wb v ps).Nodup
  low : ∀ g ∈ allFoot wb v ps, B ≤ g
  tab : Tab B w

variable {Sim : HeapM → RefM → Int → Prop}

theorem LawAt.lt {B : Nat} {w : World} {wb : Nat} {v : Value} {ps : List PairM} (r : LawAt Sim B w wb v ps) : ∀ g ∈ allFoot wb v ps, g < w.heap.size := by
  intro g hg
  simp only [allFoot, List.cons_append] at hg
  rcases List.mem_cons.1 hg with rfl | hg
  · exact lt_of_heap r.head
  · rcases List.mem_append.1 hg with hg | hg
    · exact (own_lt r.row (by simpa using hg)).2
    · obtain ⟨q, hq, hg⟩ := List.mem_flatMap.1 hg
      exact (r.pairs q hq).lt g hg

theorem LawAt.carry {B : Nat} {w w' : World} {wb : Nat} {v : Value} {ps : List PairM} (r : LawAt Sim B w wb v ps) (hb : ∀ g ∈ allFoot wb v ps, w'.heap[g]? = w.heap[g]?) (ht : Tab B w') : LawAt Sim B w' wb v ps :=
  ⟨by rw [hb _ (by simp [allFoot])]; exact r.head, own_carry r.row fun g hg => hb g (by simp [allFoot, hg]),
    fun q hq => (r.pairs q hq).carry fun g hg => hb g (by simp only [allFoot, List.cons_append]; exact List.mem_cons_of_mem _ (List.mem_append_right _ (List.mem_flatMap.2 ⟨q, hq, hg⟩))), r.sim, r.apart, r.low, ht⟩

theorem LawAt.below {B : Nat} {w w' : World} {wb : Nat} {v : Value} {ps : List PairM} (r : LawAt Sim B w wb v ps) (hb : Below w.heap.size w w') : LawAt Sim B w' wb v ps :=
  r.carry (fun g hg => hb.block g (r.lt g hg)) (r.tab.below hb)

/-- One pair more: its memory is new; only the world's own block and the row of the pairs were written. -/
theorem LawAt.more {B : Nat} {w w1 : World} {wb : Nat} {v v' : Value} {ps : List PairM} (r : LawAt Sim B w wb v ps) (q : PairM)
    (hB : B ≤ w.heap.size) (hh : w1.heap[wb]? = some (.cells #[v'] 28))
    (hrow : w1.ownsRow 0 35 1 v' (ps.length + 1) (ps.map (fun q => ptr q.p) ++ [ptr q.p])) (hv : ∀ g, v'.ownBlock = some g → v.ownBlock = some g ∨ (w.heap.size ≤ g ∧ g ∉ q.foot))
    (hsz1 : w.heap.size ≤ w1.heap.size) (hold : ∀ g, g < w.heap.size → g ≠ wb → v.ownBlock ≠ some g → w1.heap[g]? = w.heap[g]?) (hq : PairAt w1 q) (hqn : ∀ g ∈ q.foot, w.heap.size ≤ g) (hs : Sim q.hm q.rm q.news) :
    LawAt Sim B w1 wb v' (ps ++ [q]) := by
  have hnd := r.apart
  have hlt := r.lt
  simp only [allFoot, List.cons_append, List.nodup_cons, List.nodup_append, List.mem_append, not_or] at hnd
  obtain ⟨⟨hwv, hwp⟩, hvn, hpn, hvp⟩ := hnd
  have hin : ∀ q' ∈ ps, ∀ g ∈ q'.foot, g ∈ allFoot wb v ps := fun q' hq' g hg => by
    simp only [allFoot, List.cons_append]; exact List.mem_cons_of_mem _ (List.mem_append_right _ (List.mem_flatMap.2 ⟨q', hq', hg⟩))
  have hw : wb < w.heap.size := lt_of_heap r.head
  have hpl : ∀ g ∈ ps.flatMap PairM.foot, g < w.heap.size := fun g hg => hlt g (by simp only [allFoot, List.cons_append]; exact List.mem_cons_of_mem _ (List.mem_append_right _ hg))
  have hvl : ∀ g, v.ownBlock = some g → g < w.heap.size := fun g hg => (own_lt r.row hg).2
  refine ⟨hh, by simpa using hrow, ?_, ?_, ?_, ?_, r.tab.keep hsz1 fun k h1 h2 => hold k h2 (fun e => ?_) (fun e => ?_)⟩
  rotate_left 4
  · have := r.low wb (by simp [allFoot]); omega
  · have := r.low k (by simp [allFoot, e]); omega
  · intro q' hq'
    rcases List.mem_append.1 hq' with hq' | hq'
    · refine (r.pairs q' hq').carry fun g hg => hold g (hlt g (hin q' hq' g hg)) ?_ ?_
      · intro e; subst e; exact hwp (List.mem_flatMap.2 ⟨q', hq', hg⟩)
      · intro e; exact hvp g (by simp [e]) g (List.mem_flatMap.2 ⟨q', hq', hg⟩) rfl
    · simp at hq'; subst hq'; exact hq
  · intro q' hq'
    rcases List.mem_append.1 hq' with hq' | hq'
    · exact r.sim q' hq'
    · simp at hq'; subst hq'; exact hs
  · simp only [allFoot, List.cons_append, List.flatMap_append, List.flatMap_cons, List.flatMap_nil, List.append_nil, List.nodup_cons, List.nodup_append, List.mem_append, not_or]
    refine ⟨⟨?_, hwp, fun hg => by have := hqn _ hg; omega⟩, ?_, ⟨hpn, hq.apart, ?_⟩, ?_⟩
    · intro hg
      have hg' : v'.ownBlock = some wb := by simpa using hg
      rcases hv _ hg' with e | ⟨e, _⟩
      · exact hwv (by simp [e])
      · omega
    · cases v'.ownBlock <;> simp
    · intro a ha b hb' e; subst e; have := hpl _ ha; have := hqn _ hb'; omega
    · intro a ha b hb' e
      subst e
      have ha' : v'.ownBlock = some a := by simpa using ha
      rcases hv _ ha' with e1 | ⟨e1, e2⟩
      · rcases hb' with hb' | hb'
        · exact hvp a (by simp [e1]) a hb' rfl
        · have := hqn _ hb'; have := hvl _ e1; omega
      · rcases hb' with hb' | hb'
        · have := hpl _ hb'; omega
        · exact e2 hb'
  · intro g hg
    simp only [allFoot, List.cons_append, List.flatMap_append, List.flatMap_cons, List.flatMap_nil, List.append_nil] at hg
    rcases List.mem_cons.1 hg with rfl | hg
    · exact r.low _ (by simp [allFoot])
    · rcases List.mem_append.1 hg with hg | hg
      · have hg' : v'.ownBlock = some g := by simpa using hg
        rcases hv _ hg' with e | ⟨e, _⟩
        · exact r.low _ (by simp [allFoot, e])
        · omega
      · rcases List.mem_append.1 hg with hg | hg
        · exact r.low _ (by simp only [allFoot, List.cons_append]; exact List.mem_cons_of_mem _ (List.mem_append_right _ hg))
        · have := hqn _ hg; omega

theorem infoPair : (Tryz.prog.info? 35).map (fun i => (i.zero, i.size, i.bytes)) = some (some (.pointer none), 1, 8) := by kernel_rfl

/-- the configuration that a call has boxed, behind whatever made memory alone -/
theorem boxed {w w1 : World} {cs : Array Value} {t : TypeId} (hb : Below (w.alloc (.cells cs t)).heap.size (w.alloc (.cells cs t)) w1) : w1.heap[w.heap.size]? = some (.cells cs t) := by
  rw [hb.block _ (by simp)]; exact heap_alloc_new w _

set_option maxHeartbeats 800000 in
theorem made_no {B : Nat} {w : World} {wb : Nat} {v : Value} {ps : List PairM} (r : LawAt Sim B w wb v ps) (b s g u z o : Int) (h : cfgB b s g u z o = false) :
    Calls Tryz.prog 14 #[ptr wb, .agg #[.int .i64 b, .int .i64 s, .int .i64 g, .int .i64 u, .int .i64 z, .int .i64 o]] w
      fun e w' => e = .returned (.bool true) ∧ LawAt Sim B w' wb v ps ∧ Off (allFoot wb v ps) w w' := by
  have key : ∀ w', Below w.heap.size w w' → LawAt Sim B w' wb v ps ∧ Off (allFoot wb v ps) w w' := fun w' hb => ⟨r.below hb, .of_below hb⟩
  clear r
  go_enter Tryz.func14, Tryz.ntmps14
  go_wp2_with (first
    | (go_at_call 24; refine (new_no _ _ _ _ _ _ _ h).mono ?_; rintro e w1 ⟨rfl, hbel⟩; have hh := boxed hbel; have hc0 := cell_of_heap (i := 0) hh rfl; have hc1 := cell_of_heap (i := 1) hh rfl; have hc2 := cell_of_heap (i := 2) hh rfl; have hc3 := cell_of_heap (i := 3) hh rfl; have hc4 := cell_of_heap (i := 4) hh rfl; have hc5 := cell_of_heap (i := 5) hh rfl; clear hh)
    | (go_at_call 25; refine (may_no _ _ _ _ _ _ _ h).mono ?_; rintro e w2 ⟨rfl, rfl⟩)
    | (go_at_call 26; refine (num_any _ _).mono ?_; rintro e w2 ⟨rfl, rfl⟩))
  go_ret
  exact ⟨rfl, key _ (((Below.refl _ _).alloc (Nat.le_refl _) _).trans (hbel.mono (by simp)))⟩

theorem nodup_two {l m : List Nat} {n : Nat} (hl : l.Nodup) (hm : m.Nodup) (h : ∀ x ∈ l, x < n) (h' : ∀ x ∈ m, n ≤ x) : (l ++ m).Nodup :=
  List.nodup_append.2 ⟨hl, hm, fun a ha b hb e => by have := h a ha; have := h' b hb; omega⟩

/-- The end of made: all that the walk leaves, put together. -/
theorem made_end {B : Nat} {w w1 w2 w3 : World} {wb : Nat} {v : Value} {ps : List PairM} (r : LawAt Sim B w wb v ps) (hB : B ≤ w.heap.size) {cfg : Obj} {b s g u z o : Nat} {x gg cap : Nat} {hm0 : HeapM} {rB rG : Value}
    (hsim : Sim hm0 (freshM b s g u z o rB rG) 0)
    (hbel : Below (w.alloc cfg).heap.size (w.alloc cfg) w1) (hat : HeapAt w1 x hm0) (hft : ∀ j ∈ x :: hm0.foot, (w.alloc cfg).heap.size ≤ j)
    (hm : Made2 w1 w2 b s u z o rB rG (b + 1) g)
    (hown : w3.ownsRow 0 35 1 (.slice (some ⟨gg, 0, none⟩) (ps.length + 1) cap) (ps.length + 1) (ps.map (fun q => ptr q.p) ++ [ptr w2.heap.size]))
    (hgr : ((w2.alloc (.cells #[ptr x, ptr w1.heap.size, .int .i64 0] 40)).alloc (.cells #[ptr w2.heap.size] 35)).grownBy w3 v.ownBlock)
    (hlie : v.ownBlock = some gg ∨ gg = w2.heap.size + 1 + 1) :
    LawAt Sim B (w3.setCell ⟨wb, 0, none⟩ (.slice (some ⟨gg, 0, none⟩) (ps.length + 1) cap)) wb (.slice (some ⟨gg, 0, none⟩) (ps.length + 1) cap)
      (ps ++ [⟨w2.heap.size, x, w1.heap.size, hm0, freshM b s g u z o rB rG, 0⟩]) ∧
    Off (allFoot wb v ps) w (w3.setCell ⟨wb, 0, none⟩ (.slice (some ⟨gg, 0, none⟩) (ps.length + 1) cap)) := by
  have hw := lt_of_heap r.head
  have hs1 : w.heap.size + 1 ≤ w1.heap.size := by have := hbel.size; simpa using this
  have hs2 : w1.heap.size < w2.heap.size := lt_of_heap hm.head
  have hs3 : w2.heap.size + 1 + 1 ≤ w3.heap.size := by have := hgr.size; simpa using this
  have hvl : ∀ j, v.ownBlock = some j → j < w.heap.size := fun j hj => (own_lt r.row hj).2
  -- a block of the old world, or of what New made, is the same in w2 and in w3
  have old1 : ∀ j, j < w.heap.size → w1.heap[j]? = w.heap[j]? := fun j hj => by
    rw [hbel.block j (by simp; omega), hao hj]
  have old2 : ∀ j, j < w1.heap.size → w2.heap[j]? = w1.heap[j]? := fun j hj => hm.below.block j hj
  have old3 : ∀ j, j < w2.heap.size → v.ownBlock ≠ some j → w3.heap[j]? = w2.heap[j]? := fun j hj hv => by
    rw [hgr.block j (by simp; omega) (fun e => hv e.symm), hao (by simp; omega), hao hj]
  have newp : w3.heap[w2.heap.size]? = some (.cells #[ptr x, ptr w1.heap.size, .int .i64 0] 40) := by
    rw [hgr.block _ (by simp; omega) (fun e => by have := hvl _ e.symm; omega), hao (by simp)]; exact heap_alloc_new w2 _
  have hset : ∀ j, j ≠ wb → (w3.setCell ⟨wb, 0, none⟩ (.slice (some ⟨gg, 0, none⟩) (ps.length + 1) cap)).heap[j]? = w3.heap[j]? := fun j hj => Below.heap_setCell _ _ _ _ hj
  have hxl := hat.lt
  have hrl := hm.refAt.lt
  have hrf := hm.foot
  have hwv : v.ownBlock ≠ some wb := fun e => by
    have := r.apart
    simp only [allFoot, e, List.cons_append, List.nodup_cons] at this
    exact this.1 (by simp)
  have hgw : gg ≠ wb := fun e => by
    subst e
    rcases hlie with e | e
    · exact hwv e
    · omega
  have hhead : w3.heap[wb]? = some (.cells #[v] 28) := by
    rw [old3 wb (by omega) hwv, old2 wb (by omega), old1 wb hw]; exact r.head
  have hfoot : ∀ j ∈ PairM.foot ⟨w2.heap.size, x, w1.heap.size, hm0, freshM b s g u z o rB rG, 0⟩, w.heap.size ≤ j ∧ j ≤ w2.heap.size := by
    intro j hj
    rcases List.mem_append.1 (show j ∈ (w2.heap.size :: (x :: hm0.foot)) ++ (w1.heap.size :: (freshM b s g u z o rB rG).foot) from hj) with hj | hj
    · rcases List.mem_cons.1 hj with rfl | hj
      · omega
      · have h1 := hft j hj
        have h2 := hxl j hj
        simp at h1
        omega
    · have h1 := hrf j hj
      have h2 := hrl j hj
      omega
  have hne : ∀ j, w.heap.size ≤ j → v.ownBlock ≠ some j := fun j hj e => by have := hvl j e; omega
  refine ⟨r.more _ hB (by rw [heap_setCell_at hhead]; rfl) ?_ ?_ (by simp [World.setCell]; omega) ?_ ?_ (fun j hj => (hfoot j hj).1) hsim, ?_⟩
  · exact own_carry hown fun j hj => hset j (by simp [Value.ownBlock] at hj; omega)
  · intro j hj
    simp [Value.ownBlock] at hj
    subst hj
    rcases hlie with e | e
    · exact .inl e
    · right
      refine ⟨by omega, fun hj => ?_⟩
      have := (hfoot _ hj).2
      omega
  · intro j hj h1 h2
    rw [hset j h1, old3 j (by omega) h2, old2 j (by omega), old1 j hj]
  · refine ⟨?_, ?_, ?_, ?_⟩
    · exact (hset _ (show w2.heap.size ≠ wb by omega)).trans newp
    · refine hat.carry fun j hj => ?_
      have h1 := hft j hj
      have h2 := hxl j hj
      simp at h1
      rw [hset _ (by omega), old3 j (by omega) (hne j (by omega)), old2 j h2]
    · refine hm.refAt.carry fun j hj => ?_
      have h1 := hrf j hj
      have h2 := hrl j hj
      rw [hset _ (by omega), old3 j h2 (hne j (by omega))]
    · show (w2.heap.size :: ((x :: hm0.foot) ++ (w1.heap.size :: (freshM b s g u z o rB rG).foot))).Nodup
      refine List.nodup_cons.2 ⟨fun hj => ?_, nodup_two hat.apart hm.refAt.apart hxl hrf⟩
      rcases List.mem_append.1 hj with hj | hj
      · have := hxl _ hj; omega
      · have := hrl _ hj; omega
  · refine ⟨?_, ?_, ?_, ?_, ?_⟩
    · exact hgr.os.trans (hm.below.os.trans hbel.os)
    · exact hgr.tape.trans (hm.below.tape.trans hbel.tape)
    · exact hgr.output.trans (hm.below.output.trans hbel.output)
    · simp [World.setCell]; omega
    · intro j hj hF
      rw [hset j (fun e => hF (by simp [allFoot, e])), old3 j (by omega) (fun e => hF (by simp [allFoot, e])), old2 j (by omega), old1 j hj]

set_option maxHeartbeats 800000 in
theorem made_yes {B : Nat} {w : World} {wb : Nat} {v : Value} {ps : List PairM} (r : LawAt Sim B w wb v ps) (hB : B ≤ w.heap.size) (hlen : ps.length ≤ 2000000000000) (b s g u z o : Nat) (h : cfgB b s g u z o = true)
    (hsim : ∀ hm0, NewM b s g u z o hm0 → ∀ rB rG, Sim hm0 (freshM b s g u z o rB rG) 0) :
    Calls Tryz.prog 14 #[ptr wb, .agg #[.int .i64 b, .int .i64 s, .int .i64 g, .int .i64 u, .int .i64 z, .int .i64 o]] w
      fun e w' => ∃ v' q, e = .returned (.bool true) ∧ LawAt Sim B w' wb v' (ps ++ [q]) ∧ Off (allFoot wb v ps) w w' := by
  have hcf : (b : Int) ≤ 99 ∧ (g : Int) ≤ 8 := by simp [cfgB] at h; omega
  have hb : b ≤ 99 := by omega
  have hg : g ≤ 8 := by omega
  obtain ⟨i0, hi, hz0, hz1, hz2⟩ := info_parts infoPair
  have hw := lt_of_heap r.head
  have hwv : v.ownBlock ≠ some wb := fun e => by
    have := r.apart
    simp only [allFoot, e, List.cons_append, List.nodup_cons] at this
    exact this.1 (by simp)
  have hhd := r.head
  have E : Hid (LawAt Sim B w wb v ps ∧ B ≤ w.heap.size ∧ ∀ hm0, NewM b s g u z o hm0 → ∀ rB rG, Sim hm0 (freshM b s g u z o rB rG) 0) := ⟨r, hB, hsim⟩
  have W : Hid (w.heap[wb]? = some (.cells #[v] 28) ∧ wb < w.heap.size) := ⟨hhd, hw⟩
  have OWN : Hid (w.ownsRow 0 35 1 v ps.length (ps.map fun q => ptr q.p)) := r.row
  clear r hsim hB hhd
  unfold ptr
  go_enter Tryz.func14, Tryz.ntmps14
  go_wp2_with (first
    | (go_at_call 24; refine (new_says _ _ _ _ _ _ _ h).mono ?_; rintro e w1 ⟨x, hm0, rfl, hbel, hat, hft, hnw⟩; have hh := boxed hbel; have hc0 := cell_of_heap (i := 0) hh rfl; have hc1 := cell_of_heap (i := 1) hh rfl; have hc2 := cell_of_heap (i := 2) hh rfl; have hc3 := cell_of_heap (i := 3) hh rfl; have hc4 := cell_of_heap (i := 4) hh rfl; have hc5 := cell_of_heap (i := 5) hh rfl; clear hh; have N : Hid (_ ∧ _ ∧ _ ∧ _) := ⟨hbel, hat, hft, hnw⟩; clear hbel hat hft hnw)
    | (go_at_call 25; refine (may_yes _ _ _ _ _ _ _ h).mono ?_; rintro e w1 ⟨rfl, rfl⟩)
    | (go_at_call 26; refine (num_any _ _).mono ?_; rintro e w1 ⟨rfl, rfl⟩))
  refine (fresh_any _ _ _ _ _ _ _ hb hg).mono ?_
  rintro e w2 ⟨rfl, rB, rG, hm⟩
  obtain ⟨hbel, hat, hft, hnw⟩ := N.out
  have hs1 : w.heap.size + 1 ≤ w1.heap.size := by have := hbel.size; simpa using this
  have hs2 : w1.heap.size < w2.heap.size := lt_of_heap hm.head
  have old2 : ∀ j, j < w.heap.size → w2.heap[j]? = w.heap[j]? := fun j hj => by
    rw [hm.below.block j (by omega), hbel.block j (by simp; omega), hao hj]
  have hwb : w2.cell? ⟨wb, 0, none⟩ = some v := cell_of_heap ((old2 wb W.out.2).trans W.out.1) rfl
  have own2 : w2.ownsRow 0 35 1 v ps.length (ps.map fun q => ptr q.p) := own_carry OWN.out fun j hj => old2 j (own_lt OWN.out hj).2
  have own3 := (own2.alloc (.cells #[ptr x, ptr w1.heap.size, .int .i64 0] 40)).alloc (.cells #[ptr w2.heap.size] 35)
  have OWN3 : Hid (((w2.alloc (.cells #[ptr x, ptr w1.heap.size, .int .i64 0] 40)).alloc (.cells #[ptr w2.heap.size] 35)).ownsRow 0 35 1 v ps.length (ps.map fun q => ptr q.p)) := own3
  have M : Hid (Made2 w1 w2 b s u z o rB rG (b + 1) g) := hm
  have O2 : Hid (∀ j, j < w.heap.size → w2.heap[j]? = w.heap[j]?) := old2
  clear hm hbel hat hft hnw own2 own3 old2 hc0 hc1 hc2 hc3 hc4 hc5 h
  go_wp2_with (at_builtin; refine wpList_append_lies _ rfl (.tmp 60) (.tmp 65) 26 rfl 0 35 i0 _ 1 8 Tryz.underlying26 hi hz0 hz1 hz2 rfl (by decide) _ _ _ rfl OWN3.out ⟨w2.heap.size + 1, 0, none⟩ 1 1 [ptr w2.heap.size] rfl rfl ?c1 ?c2 (by decide) ?c3 ?c4 (Nat.zero_le _) (w2.heap.size + 1 + 1) (by simp) ?_)
  case c1 => have := news_new (w2.alloc (.cells #[ptr x, ptr w1.heap.size, .int .i64 0] 40)) [ptr w2.heap.size] 35; simpa [ptr] using this
  case c2 => intro u hu; simp at hu; subst hu; rfl
  case c3 => unfold maxLen; omega
  case c4 => omega
  intro gg cap w3 hown hgr hlie _
  obtain ⟨r, hB, hsim⟩ := E.out
  obtain ⟨hbel, hat, hft, hnw⟩ := N.out
  have K := made_end r hB (hsim hm0 hnw rB rG) hbel hat hft M.out hown hgr hlie
  have hh3 : w3.heap[wb]? = some (.cells #[v] 28) := by
    rw [hgr.block wb (by simp; omega) (fun e => hwv e.symm), hao (by simp; omega), hao (by omega), O2.out wb hw]; exact W.out.1
  have hf3 : w3.frozen? ⟨wb, 0, none⟩ = false := frozen_of_heap hh3
  have hc3 : w3.cell? ⟨wb, 0, none⟩ = some v := cell_of_heap hh3 rfl
  clear hown hgr hlie r hB hsim hbel hat hft hnw hh3 E W OWN OWN3 M O2 N
  go_wp2
  go_ret
  exact ⟨_, _, rfl, K⟩

end Go.Proofs.YtpmkjeihbddfpaaGreatDoor

/- OUR OWN. The law's steps, as numbers; a script in memory. -/
namespace Go.Proofs.YtpmkjeihbddfpaaGreatDoor
open Go.RowKit
set_option linter.unusedVariables false
set_option linter.unusedSimpArgs false

variable {Sim : HeapM → RefM → Int → Prop}

/-- a step, as its ten numbers -/
structure StepM where
  kind : Int
  a : Int
  op : Int
  n : Int
  b : Int
  s : Int
  g : Int
  u : Int
  z : Int
  o : Int

def StepM.cells (t : StepM) : List Value := [.int .i64 t.kind, .int .i64 t.a, .int .i64 t.op, .int .i64 t.n, .int .i64 t.b, .int .i64 t.s, .int .i64 t.g, .int .i64 t.u, .int .i64 t.z, .int .i64 t.o]
def StepM.val (t : StepM) : Value := .agg #[.int .i64 t.kind, .int .i64 t.a, .int .i64 t.op, .int .i64 t.n, .int .i64 t.b, .int .i64 t.s, .int .i64 t.g, .int .i64 t.u, .int .i64 t.z, .int .i64 t.o]
/-- the configuration in a step -/
def StepM.cfg (t : StepM) : Bool := cfgB t.b t.s t.g t.u t.z t.o

theorem LawAt.form {B : Nat} {w : World} {wb : Nat} {v : Value} {ps : List PairM} (r : LawAt Sim B w wb v ps) (hp : 0 < ps.length) :
    ∃ g cap, v = .slice (some ⟨g, 0, none⟩) ps.length cap ∧ g < w.heap.size ∧ ∀ k (hk : k < ps.length), w.cell? ⟨g, k, none⟩ = some (ptr (ps[k]).p) := by
  obtain ⟨g, cap, hv, _, hg⟩ := r.row.form hp
  refine ⟨g, cap, hv, hg, fun k hk => ?_⟩
  have := r.row.cells (g := g) (by rw [hv]; rfl) k (ptr (ps[k]).p) (by simp [hk])
  rwa [show (⟨g, 0, none⟩ : Addr).add k = ⟨g, k, none⟩ by unfold Addr.add; split <;> simp_all] at this

def StepM.ok (t : StepM) : Prop := fits t.kind ∧ fits t.a ∧ fits t.op ∧ fits t.n ∧ fits t.b ∧ fits t.s ∧ fits t.g ∧ fits t.u ∧ fits t.z ∧ fits t.o
def StepM.held (t : StepM) (lo hi : Int) : Prop := t.kind = 1 ∨ (lo ≤ t.kind ∧ t.kind ≤ hi)

/-- what a step that is played must do -/
def StepSays (Sim : HeapM → RefM → Int → Prop) (last lo hi : Int) (Good : StepM → List PairM → Prop) : Prop :=
  ∀ (B : Nat) (w : World) (wb : Nat) (v : Value) (ps : List PairM) (t : StepM), LawAt Sim B w wb v ps → B ≤ w.heap.size → ps.length ≤ 2000000000000 → t.ok → t.kind ≤ last → Good t ps →
    Calls Tryz.prog 11 #[ptr wb, t.val] w fun e w' => ∃ ok v' ps', e = .returned (.bool ok) ∧ (t.held lo hi → ok = true) ∧ ps'.length ≤ ps.length + 1 ∧ LawAt Sim B w' wb v' ps' ∧ Off (allFoot wb v ps) w w'

/-- the script in memory -/
def ScriptAt (w : World) (sb off len : Nat) (st : Nat → StepM) : Prop :=
  ∀ k, k < len → (st k).ok ∧ ∀ j u, (st k).cells[j]? = some u → w.cell? ⟨sb, off + k * 10 + j, none⟩ = some u

theorem lawStart (w : World) (B : Nat) (hB : B ≤ w.heap.size) (ht : Tab B w) : LawAt Sim B (w.alloc (.cells #[.slice none 0 0] 28)) w.heap.size (.slice none 0 0) [] :=
  ⟨heap_alloc_new w _, own_nil, by simp, by simp, by simp [allFoot, Value.ownBlock], by simp [allFoot, Value.ownBlock]; omega, ht.below ((Below.refl _ _).alloc (Nat.le_refl _) _)⟩


end Go.Proofs.YtpmkjeihbddfpaaGreatDoor

/- OUR OWN. late: the steps that are left out. -/
namespace Go.Proofs.YtpmkjeihbddfpaaGreatDoor
open Go.RowKit
set_option linter.unusedVariables false
set_option linter.unusedSimpArgs false

variable {Sim : HeapM → RefM → Int → Prop}

set_option maxHeartbeats 400000 in
theorem late_kind (wb : Nat) (t : StepM) (left : Int) (w : World) (h : t.kind ≠ 2 ∨ t.op ≠ 2) :
    Calls Tryz.prog 10 #[ptr wb, t.val, .int .i64 left] w fun e w' => e = .returned (.bool false) ∧ Below w.heap.size w w' := by
  obtain ⟨kind, a, op, n, b, s, g, u, z, o⟩ := t
  simp only at h
  unfold ptr StepM.val
  by_cases h1 : kind = 2
  · have h3 : ¬ op = 2 := by rcases h with h | h <;> simp_all
    have h2 : (op == 2) = false := by simpa using h3
    clear h
    subst h1
    go_enter Tryz.func10, Tryz.ntmps10
    go_wp2
    go_ret
    exact ⟨rfl, (Below.refl _ _).alloc (Nat.le_refl _) _⟩
  · have h2 : (kind == 2) = false := by simpa using h1
    clear h
    go_enter Tryz.func10, Tryz.ntmps10
    go_wp2
    go_ret
    exact ⟨rfl, (Below.refl _ _).alloc (Nat.le_refl _) _⟩

set_option maxHeartbeats 400000 in
theorem late_none {B : Nat} {w : World} {wb : Nat} {v : Value} (r : LawAt Sim B w wb v []) (t : StepM) (left : Int) (h1 : t.kind = 2) (h2 : t.op = 2) :
    Calls Tryz.prog 10 #[ptr wb, t.val, .int .i64 left] w fun e w' => e = .returned (.bool false) ∧ Below w.heap.size w w' := by
  obtain ⟨kind, a, op, n, b, s, g, u, z, o⟩ := t
  simp only at h1 h2
  subst h1 h2
  have hw := lt_of_heap r.head
  have hc : w.cell? ⟨wb, 0, none⟩ = some v := cell_of_heap r.head rfl
  obtain ⟨ao, cap, hv⟩ : ∃ ao cap, v = .slice ao 0 cap := by
    rcases r.row.2 with ⟨hv, _⟩ | ⟨g, cap, cur, hv, _⟩
    · exact ⟨_, _, hv⟩
    · exact ⟨_, _, hv⟩
  subst hv
  clear r
  unfold ptr StepM.val
  go_enter Tryz.func10, Tryz.ntmps10
  go_wp2
  go_ret
  exact ⟨rfl, (Below.refl _ _).alloc (Nat.le_refl _) _⟩

set_option maxHeartbeats 800000 in
theorem late_core (w : World) (wb gb cap len k qp qh : Nat) (nw mo a n b s g u z o : Int) (hw : wb < w.heap.size) (hgb : gb < w.heap.size) (hqp : qp < w.heap.size) (hqh : qh < w.heap.size)
    (hc : w.cell? ⟨wb, 0, none⟩ = some (.slice (some ⟨gb, 0, none⟩) len cap)) (hc1 : w.cell? ⟨gb, k, none⟩ = some (.pointer (some ⟨qp, 0, none⟩)))
    (hc2 : w.cell? ⟨qp, 1, none⟩ = some (.pointer (some ⟨qh, 0, none⟩))) (hc3 : w.cell? ⟨qp, 2, none⟩ = some (.int .i64 nw)) (hc4 : w.cell? ⟨qh, 0, none⟩ = some (.int .i64 mo))
    (hp : 0 < len) (hk : k < len) (PK : ∀ w, Calls Tryz.prog 12 #[.int .i64 a, .int .i64 len] w fun r w' => r = .returned (.int .i64 k) ∧ w' = w) :
    Calls Tryz.prog 10 #[.pointer (some ⟨wb, 0, none⟩), .agg #[.int .i64 2, .int .i64 a, .int .i64 2, .int .i64 n, .int .i64 b, .int .i64 s, .int .i64 g, .int .i64 u, .int .i64 z, .int .i64 o], .int .i64 1] w fun e w' =>
      e = .returned (.bool (decide (mo ≤ nw))) ∧ Below w.heap.size w w' := by
  have hkI : (k : Int) < len := by omega
  have hne : ((len : Int) == 0) = false := by simp; omega
  have hl0 : ¬ len = 0 := by omega
  go_enter Tryz.func10, Tryz.ntmps10
  go_wp2_with fail
  go_quiet ((go_at_call 12; exact Calls.quiet_of_same (PK _)))
  go_wp2
  go_quiet (fail)
  go_wp2
  go_ret
  exact ⟨rfl, below_drewN (below_drewN ((Below.refl _ _).alloc (Nat.le_refl _) _) _) _⟩

theorem late_early {B : Nat} {w : World} {wb : Nat} {v : Value} {ps : List PairM} (r : LawAt Sim B w wb v ps) (t : StepM) (h1 : t.kind = 2) (h2 : t.op = 2) (ha : fits t.a) (hp : 0 < ps.length) (hm : ps.length ≤ 2000000000000) :
    Calls Tryz.prog 10 #[ptr wb, t.val, .int .i64 1] w fun e w' =>
      e = .returned (.bool (decide ((ps[pickN t.a ps.length]'(pickN_lt _ _ hp)).rm.most ≤ (ps[pickN t.a ps.length]'(pickN_lt _ _ hp)).news))) ∧ Below w.heap.size w w' := by
  obtain ⟨kind, a, op, n, b, s, g, u, z, o⟩ := t
  simp only at h1 h2 ha ⊢
  subst h1 h2
  have hw := lt_of_heap r.head
  obtain ⟨gb, cap, rfl, hgb, hrow⟩ := r.form hp
  have hk := pickN_lt a ps.length hp
  have pa := r.pairs _ (List.getElem_mem hk)
  exact late_core w wb gb cap ps.length (pickN a ps.length) _ _ _ _ a n b s g u z o hw hgb (lt_of_heap pa.head) (lt_of_heap pa.ref.head) (cell_of_heap r.head rfl) (hrow _ hk)
    (cell_of_heap pa.head rfl) (cell_of_heap pa.head rfl) (cell_of_heap pa.ref.head rfl) hp hk (fun w => pick_any a ps.length w ha hp hm)

end Go.Proofs.YtpmkjeihbddfpaaGreatDoor

/- OUR OWN. step: New, and what does nothing. -/
namespace Go.Proofs.YtpmkjeihbddfpaaGreatDoor
open Go.RowKit
set_option linter.unusedVariables false
set_option linter.unusedSimpArgs false

variable {Sim : HeapM → RefM → Int → Prop}

theorem cfg_nats {b s g u z o : Int} (h : cfgB b s g u z o = true) : ∃ b' s' g' u' z' o' : Nat, b = b' ∧ s = s' ∧ g = g' ∧ u = u' ∧ z = z' ∧ o = o' := by
  simp [cfgB] at h
  exact ⟨b.toNat, s.toNat, g.toNat, u.toNat, z.toNat, o.toNat, by omega, by omega, by omega, by omega, by omega, by omega⟩

/-- A fresh heap and the document's are alike. -/
def FreshSim (Sim : HeapM → RefM → Int → Prop) : Prop :=
  ∀ (b s g u z o : Nat), cfgB b s g u z o = true → ∀ hm0, NewM b s g u z o hm0 → ∀ rB rG, Sim hm0 (freshM b s g u z o rB rG) 0

set_option maxHeartbeats 800000 in
theorem step_new {B : Nat} {w : World} {wb : Nat} {v : Value} {ps : List PairM} (r : LawAt Sim B w wb v ps) (hF : FreshSim Sim) (hB : B ≤ w.heap.size) (hlen : ps.length ≤ 2000000000000) (t : StepM) (hk : t.kind = 1) :
    Calls Tryz.prog 11 #[ptr wb, t.val] w
      fun e w' => ∃ v' ps', e = .returned (.bool true) ∧ ps'.length ≤ ps.length + 1 ∧ LawAt Sim B w' wb v' ps' ∧ Off (allFoot wb v ps) w w' := by
  obtain ⟨kind, a, op, n, b, s, g, u, z, o⟩ := t
  simp only at hk
  subst hk
  have rb : ∀ ob, LawAt Sim B (w.alloc ob) wb v ps := fun ob => r.below ((Below.refl _ _).alloc (Nat.le_refl _) ob)
  have hw := lt_of_heap r.head
  cases hc : cfgB b s g u z o with
  | false =>
    have MK : Hid (∀ ob, Calls Tryz.prog 14 #[.pointer (some ⟨wb, 0, none⟩), .agg #[.int .i64 b, .int .i64 s, .int .i64 g, .int .i64 u, .int .i64 z, .int .i64 o]] (w.alloc ob)
      fun e w' => e = .returned (.bool true) ∧ LawAt Sim B w' wb v ps ∧ Off (allFoot wb v ps) (w.alloc ob) w') := fun ob => made_no (rb ob) b s g u z o hc
    clear r rb hF hc
    unfold ptr StepM.val
    go_enter Tryz.func11, Tryz.ntmps11
    go_wp2_with (go_at_call 14; refine (MK.out _).mono ?_; rintro e w1 ⟨rfl, hl, hbel⟩)
    go_ret
    exact ⟨v, ps, rfl, by omega, hl, (Off.of_below ((Below.refl _ w).alloc (Nat.le_refl _) _)).trans hbel⟩
  | true =>
    obtain ⟨b', s', g', u', z', o', rfl, rfl, rfl, rfl, rfl, rfl⟩ := cfg_nats hc
    have MK : Hid (∀ ob, Calls Tryz.prog 14 #[.pointer (some ⟨wb, 0, none⟩), .agg #[.int .i64 b', .int .i64 s', .int .i64 g', .int .i64 u', .int .i64 z', .int .i64 o']] (w.alloc ob)
      fun e w' => ∃ v' q, e = .returned (.bool true) ∧ LawAt Sim B w' wb v' (ps ++ [q]) ∧ Off (allFoot wb v ps) (w.alloc ob) w') := fun ob => made_yes (rb ob) (by simp; omega) hlen b' s' g' u' z' o' hc (hF _ _ _ _ _ _ hc)
    clear r rb hF hc
    unfold ptr StepM.val
    go_enter Tryz.func11, Tryz.ntmps11
    go_wp2_with (go_at_call 14; refine (MK.out _).mono ?_; rintro e w1 ⟨v', q, rfl, hl, hbel⟩)
    go_ret
    exact ⟨v', ps ++ [q], rfl, by simp, hl, (Off.of_below ((Below.refl _ w).alloc (Nat.le_refl _) _)).trans hbel⟩

set_option maxHeartbeats 400000 in
theorem step_none {B : Nat} {w : World} {wb : Nat} {v : Value} (r : LawAt Sim B w wb v []) (t : StepM) (hk : t.kind ≠ 1) :
    Calls Tryz.prog 11 #[ptr wb, t.val] w fun e w' => e = .returned (.bool true) ∧ Below w.heap.size w w' := by
  obtain ⟨kind, a, op, n, b, s, g, u, z, o⟩ := t
  simp only at hk
  have hk2 : (kind == 1) = false := by simpa using hk
  have hw := lt_of_heap r.head
  have hc : w.cell? ⟨wb, 0, none⟩ = some v := cell_of_heap r.head rfl
  obtain ⟨ao, cap, hv⟩ : ∃ ao cap, v = .slice ao 0 cap := by
    rcases r.row.2 with ⟨hv, _⟩ | ⟨g, cap, cur, hv, _⟩
    · exact ⟨_, _, hv⟩
    · exact ⟨_, _, hv⟩
  subst hv
  clear r
  unfold ptr StepM.val
  go_enter Tryz.func11, Tryz.ntmps11
  go_wp2
  go_ret
  exact ⟨rfl, (Below.refl _ _).alloc (Nat.le_refl _) _⟩

set_option maxHeartbeats 800000 in
theorem idle_core (w : World) (wb gb cap len k qp : Nat) (kind a op n b s g u z o : Int) (hw : wb < w.heap.size) (hgb : gb < w.heap.size)
    (hc : w.cell? ⟨wb, 0, none⟩ = some (.slice (some ⟨gb, 0, none⟩) len cap)) (hc1 : w.cell? ⟨gb, k, none⟩ = some (.pointer (some ⟨qp, 0, none⟩)))
    (hp : 0 < len) (hk : k < len) (PK : ∀ w, Calls Tryz.prog 12 #[.int .i64 a, .int .i64 len] w fun r w' => r = .returned (.int .i64 k) ∧ w' = w)
    (h1 : ¬ kind = 1) (h2 : ¬ kind = 2) (h3 : ¬ kind = 3) (h4 : ¬ kind = 4) (h5 : ¬ kind = 5) (h6 : ¬ kind = 6) :
    Calls Tryz.prog 11 #[.pointer (some ⟨wb, 0, none⟩), .agg #[.int .i64 kind, .int .i64 a, .int .i64 op, .int .i64 n, .int .i64 b, .int .i64 s, .int .i64 g, .int .i64 u, .int .i64 z, .int .i64 o]] w fun e w' =>
      e = .returned (.bool true) ∧ Below w.heap.size w w' := by
  have hkI : (k : Int) < len := by omega
  have hne : ((len : Int) == 0) = false := by simp; omega
  have hl0 : ¬ len = 0 := by omega
  have e1 : (kind == 1) = false := by simpa using h1
  have e2 : (kind == 2) = false := by simpa using h2
  have e3 : (kind == 3) = false := by simpa using h3
  have e4 : (kind == 4) = false := by simpa using h4
  have e5 : (kind == 5) = false := by simpa using h5
  have e6 : (kind == 6) = false := by simpa using h6
  go_enter Tryz.func11, Tryz.ntmps11
  go_wp2_with fail
  go_quiet ((go_at_call 12; exact Calls.quiet_of_same (PK _)))
  go_wp2
  go_ret
  exact ⟨rfl, below_drewN ((Below.refl _ _).alloc (Nat.le_refl _) _) _⟩

theorem step_idle {B : Nat} {w : World} {wb : Nat} {v : Value} {ps : List PairM} (r : LawAt Sim B w wb v ps) (t : StepM) (h1 : ¬ t.kind = 1) (h2 : ¬ t.kind = 2) (h3 : ¬ t.kind = 3) (h4 : ¬ t.kind = 4) (h5 : ¬ t.kind = 5) (h6 : ¬ t.kind = 6)
    (ha : fits t.a) (hm : ps.length ≤ 2000000000000) :
    Calls Tryz.prog 11 #[ptr wb, t.val] w fun e w' => e = .returned (.bool true) ∧ Below w.heap.size w w' := by
  rcases Nat.eq_zero_or_pos ps.length with hp | hp
  · obtain rfl : ps = [] := List.eq_nil_of_length_eq_zero hp
    exact step_none r t h1
  · obtain ⟨kind, a, op, n, b, s, g, u, z, o⟩ := t
    obtain ⟨gb, cap, rfl, hgb, hrow⟩ := r.form hp
    have hk := pickN_lt a ps.length hp
    exact idle_core w wb gb cap ps.length (pickN a ps.length) _ kind a op n b s g u z o (lt_of_heap r.head) hgb (cell_of_heap r.head rfl) (hrow _ hk) hp hk
      (fun w => pick_any a ps.length w ha hp hm) h1 h2 h3 h4 h5 h6

end Go.Proofs.YtpmkjeihbddfpaaGreatDoor

/- OUR OWN. UpTo: the loop over a script, for whatever kinds of steps. -/
namespace Go.Proofs.YtpmkjeihbddfpaaGreatDoor
open Go.RowKit
set_option linter.unusedVariables false
set_option linter.unusedSimpArgs false

variable {Sim : HeapM → RefM → Int → Prop}

/-- what late must tell of a step that is played -/
def LateSays (Sim : HeapM → RefM → Int → Prop) (left : Int) (last : Int) (Good : StepM → List PairM → Prop) : Prop :=
  ∀ (B : Nat) (w : World) (wb : Nat) (v : Value) (ps : List PairM) (t : StepM), LawAt Sim B w wb v ps → ps.length ≤ 2000000000000 → t.ok →
    Calls Tryz.prog 10 #[ptr wb, t.val, .int .i64 left] w fun e w' => ∃ out, e = .returned (.bool out) ∧ (out = false → t.kind ≤ last → Good t ps) ∧ Below w.heap.size w w'

set_option maxHeartbeats 1000000 in
theorem upto_any (sb off len cap : Nat) (st : Nat → StepM) (last left lo hi : Int) (w : World) (hL : len * 80 ≤ 140737488351232) (hsb : sb < w.heap.size) (hS : ScriptAt w sb off len st) (htab : Tab w.heap.size w)
    (Good : StepM → List PairM → Prop) (late : LateSays Sim left last Good) (step : StepSays Sim last lo hi Good) :
    Calls Tryz.prog 9 #[.slice (some ⟨sb, off, none⟩) len cap, .int .i64 last, .int .i64 left, .int .i64 lo, .int .i64 hi] w
      fun e w' => e = .returned (.int .i64 (-1)) ∧ Below w.heap.size w w' := by
  have HT : Hid (Tab w.heap.size w) := htab
  have H : Hid (ScriptAt w sb off len st ∧ LateSays Sim left last Good ∧ StepSays Sim last lo hi Good) := ⟨hS, late, step⟩
  clear hS late step htab
  go_enter Tryz.func9, Tryz.ntmps9
  go_wp2
  go_loopw [12] (fun i wr => ∃ (k : Nat) (v : Value) (ps : List PairM), k ≤ len ∧ i = .int .i64 k ∧ ps.length ≤ k ∧ LawAt Sim w.heap.size wr w.heap.size v ps ∧ Below w.heap.size w wr) (fun i _ => len - (intOf i).toNat)
  case atStart => exact ⟨0, _, [], by omega, rfl, by simp, lawStart w _ (Nat.le_refl _) HT.out, (Below.refl _ _).alloc (Nat.le_refl _) _⟩
  case round =>
    obtain ⟨k, v, ps, hk, rfl, hps, hl, hbel⟩ := hrel
    by_cases hlt : k < len
    · obtain ⟨hS, late, step⟩ := H.out
      obtain ⟨hok, hcells⟩ := hS k hlt
      obtain ⟨t, ht⟩ : ∃ t, t = st k := ⟨_, rfl⟩
      rw [← ht] at hok hcells
      obtain ⟨kind, a, op, n, b, s, g, u, z, o⟩ := t
      have cc : ∀ j u, _ → wr.cell? ⟨sb, off + k * 10 + j, none⟩ = some u := fun j u hj => (hbel.cell (p := ⟨sb, off + k * 10 + j, none⟩) hsb).trans (hcells j u hj)
      have c0 := cc 0 _ rfl
      have c1 := cc 1 _ rfl
      have c2 := cc 2 _ rfl
      have c3 := cc 3 _ rfl
      have c4 := cc 4 _ rfl
      have c5 := cc 5 _ rfl
      have c6 := cc 6 _ rfl
      have c7 := cc 7 _ rfl
      have c8 := cc 8 _ rfl
      have c9 := cc 9 _ rfl
      simp only [Nat.add_zero] at c0
      have T : Hid (StepM.ok ⟨kind, a, op, n, b, s, g, u, z, o⟩ ∧ ps.length ≤ k ∧ LawAt Sim w.heap.size wr w.heap.size v ps ∧ Below w.heap.size w wr) := ⟨hok, hps, hl, hbel⟩
      clear hS late step hcells cc ht hok hl hbel hps
      go_wp2_with fail
      obtain ⟨hok, hps, hl, hbel⟩ := T.out
      obtain ⟨hS, late, step⟩ := H.out
      have hsz := hbel.size
      have hl1 := hl.below ((Below.refl _ _).alloc (Nat.le_refl _) (.cells #[.int .i64 kind, .int .i64 a, .int .i64 op, .int .i64 n, .int .i64 b, .int .i64 s, .int .i64 g, .int .i64 u, .int .i64 z, .int .i64 o] 32))
      refine (late _ _ _ _ _ ⟨kind, a, op, n, b, s, g, u, z, o⟩ hl1 (by omega) hok).mono ?_
      rintro e w1 ⟨out, rfl, hgood, hb1⟩
      have hl2 := hl1.below hb1
      have hh1 : w1.heap[wr.heap.size]? = some (.cells #[.int .i64 kind, .int .i64 a, .int .i64 op, .int .i64 n, .int .i64 b, .int .i64 s, .int .i64 g, .int .i64 u, .int .i64 z, .int .i64 o] 32) := by
        rw [hb1.block _ (by simp)]; exact heap_alloc_new wr _
      have hbel1 : Below w.heap.size w w1 := (hbel.alloc hsz _).trans (hb1.mono (by simp; omega))
      have hsz1 : wr.heap.size + 1 ≤ w1.heap.size := by have := hb1.size; simpa using this
      have hnf : wr.heap.size ∉ allFoot w.heap.size v ps := fun e => by have := hl.lt _ e; omega
      have STEP : Hid (kind ≤ last → out = false → Calls Tryz.prog 11 #[.pointer (some ⟨w.heap.size, 0, none⟩), .agg #[.int .i64 kind, .int .i64 a, .int .i64 op, .int .i64 n, .int .i64 b, .int .i64 s, .int .i64 g, .int .i64 u, .int .i64 z, .int .i64 o]] w1
        fun e w' => ∃ ok v' ps', e = .returned (.bool ok) ∧ (StepM.held ⟨kind, a, op, n, b, s, g, u, z, o⟩ lo hi → ok = true) ∧ ps'.length ≤ ps.length + 1 ∧ LawAt Sim w.heap.size w' w.heap.size v' ps' ∧ Off (allFoot w.heap.size v ps) w1 w') :=
        fun h1 h2 => step _ _ _ _ _ ⟨kind, a, op, n, b, s, g, u, z, o⟩ hl2 (by omega) (by omega) hok h1 (hgood h2 h1)
      have d0 := cell_of_heap (i := 0) hh1 rfl
      have d1 := cell_of_heap (i := 1) hh1 rfl
      have d2 := cell_of_heap (i := 2) hh1 rfl
      have d3 := cell_of_heap (i := 3) hh1 rfl
      have d4 := cell_of_heap (i := 4) hh1 rfl
      have d5 := cell_of_heap (i := 5) hh1 rfl
      have d6 := cell_of_heap (i := 6) hh1 rfl
      have d7 := cell_of_heap (i := 7) hh1 rfl
      have d8 := cell_of_heap (i := 8) hh1 rfl
      have d9 := cell_of_heap (i := 9) hh1 rfl
      have T1 : Hid (w1.heap[wr.heap.size]? = some (.cells #[.int .i64 kind, .int .i64 a, .int .i64 op, .int .i64 n, .int .i64 b, .int .i64 s, .int .i64 g, .int .i64 u, .int .i64 z, .int .i64 o] 32) ∧
        ps.length ≤ k ∧ LawAt Sim w.heap.size w1 w.heap.size v ps ∧ Below w.heap.size w w1 ∧ wr.heap.size + 1 ≤ w1.heap.size ∧ wr.heap.size ∉ allFoot w.heap.size v ps ∧ w.heap.size ≤ w1.heap.size) := ⟨hh1, hps, hl2, hbel1, hsz1, hnf, by omega⟩
      clear T hok hps hl hbel hS late step hl1 hgood hb1 hl2 hh1 hbel1 hsz1 hnf hsz c0 c1 c2 c3 c4 c5 c6 c7 c8 c9
      by_cases hkl : last < kind
      · go_wp2
        go_roundw
        case rel => exact ⟨k + 1, v, ps, by omega, by go_num, by have := T1.out.2.1; omega, T1.out.2.2.1, T1.out.2.2.2.1⟩
        case measure => simp [intOf]; omega
      cases out with
      | true =>
        go_wp2
        go_roundw
        case rel => exact ⟨k + 1, v, ps, by omega, by go_num, by have := T1.out.2.1; omega, T1.out.2.2.1, T1.out.2.2.2.1⟩
        case measure => simp [intOf]; omega
      | false =>
        go_wp2_with fail
        refine (STEP.out (by omega) (by first | rfl | trivial)).mono ?_
        rintro e w2 ⟨ok, v', ps', rfl, hheld, hps', hl', hoff⟩
        obtain ⟨hh1, hps, hl2, hbel1, hsz1, hnf, hsz2⟩ := T1.out
        have hh2 : w2.heap[wr.heap.size]? = some (.cells #[.int .i64 kind, .int .i64 a, .int .i64 op, .int .i64 n, .int .i64 b, .int .i64 s, .int .i64 g, .int .i64 u, .int .i64 z, .int .i64 o] 32) := by
          rw [hoff.block _ (by omega) hnf]; exact hh1
        have f0 := cell_of_heap (i := 0) hh2 rfl
        have KR : Hid (∃ (k' : Nat) (v : Value) (ps : List PairM), k' ≤ len ∧ (.int .i64 (k + 1) : Value) = .int .i64 k' ∧ ps.length ≤ k' ∧ LawAt Sim w.heap.size w2 w.heap.size v ps ∧ Below w.heap.size w w2) :=
          ⟨k + 1, v', ps', by omega, by go_num, by omega, hl', hbel1.trans (hoff.below hsz2 hl2.low)⟩
        have hheld' : kind = 1 ∨ (lo ≤ kind ∧ kind ≤ hi) → ok = true := hheld
        clear T1 STEP hheld hps' hl' hoff hh1 hps hl2 hbel1 hsz1 hnf hsz2 hh2 d0 d1 d2 d3 d4 d5 d6 d7 d8 d9
        by_cases q1 : kind = 1
        · have q0 : ok = true := hheld' (.inl q1)
          clear hheld'
          subst q1 q0
          go_wp2
          go_roundw
          case rel => exact KR.out
          case measure => simp [intOf]; omega
        · by_cases q2 : lo ≤ kind
          · by_cases q3 : kind ≤ hi
            · have q0 : ok = true := hheld' (.inr ⟨q2, q3⟩)
              clear hheld'
              subst q0
              go_wp2
              go_roundw
              case rel => exact KR.out
              case measure => simp [intOf]; omega
            · clear hheld'
              go_wp2
              go_roundw
              case rel => exact KR.out
              case measure => simp [intOf]; omega
          · clear hheld'
            go_wp2
            go_roundw
            case rel => exact KR.out
            case measure => simp [intOf]; omega
    · have K : Hid (Below w.heap.size w wr) := hbel
      clear hl hbel hps
      go_wp2
      go_ret
      exact ⟨rfl, K.out⟩

end Go.Proofs.YtpmkjeihbddfpaaGreatDoor

