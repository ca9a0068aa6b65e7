import Derived.Test.YtpmkjeihbddfpaaCoESB1
/- OUR OWN. Swept: emptied, of every configuration. -/
namespace Go.Proofs.Ytpmkjeihbddfpaa
open Go.RowKit
set_option linter.unusedVariables false
set_option linter.unusedSimpArgs false
section
variable {HS : HeapM → St → Cf → Nat → Prop} {Bx x N kg : Nat} {c : Cf} {K : List (Nat × Obj)} {W : World}

/-- at most n are on the stack -/
def S0 (HS : HeapM → St → Cf → Nat → Prop) (Bx x N kg : Nat) (c : Cf) (K : List (Nat × Obj)) (n : Nat) (W : World) : Prop := ∃ s, KK HS Bx x N c K s W ∧ s.stack.length ≤ n ∧ s.globals.length = kg
/-- on the stack is l, and nil in the first i globals -/
def S1 (HS : HeapM → St → Cf → Nat → Prop) (Bx x N kg : Nat) (c : Cf) (K : List (Nat × Obj)) (l : List (Int × Int)) (i : Nat) (W : World) : Prop := ∃ s, KK HS Bx x N c K s W ∧ s.stack = l ∧ s.globals.length = kg ∧ ∀ j, j < i → s.globals[j]? = some (0, 0)
theorem S0.kept {n : Nat} (h : S0 HS Bx x N kg c K n W) {L : Nat} {ob : Obj} (hL : (L, ob) ∈ K) : W.heap[L]? = some ob := by
  obtain ⟨s, k, _⟩ := h
  exact k.kept hL
theorem S1.kept {l : List (Int × Int)} {i : Nat} (h : S1 HS Bx x N kg c K l i W) {L : Nat} {ob : Obj} (hL : (L, ob) ∈ K) : W.heap[L]? = some ob := by
  obtain ⟨s, k, _⟩ := h
  exact k.kept hL
theorem S0.mono {n m : Nat} (h : S0 HS Bx x N kg c K n W) (hm : n ≤ m) : S0 HS Bx x N kg c K m W := by
  obtain ⟨s, k, h1, h2⟩ := h
  exact ⟨s, k, by omega, h2⟩
theorem S0.to {n : Nat} (h : S0 HS Bx x N kg c K n W) (h0 : n = 0) : S1 HS Bx x N kg c K [] 0 W := by
  obtain ⟨s, k, h1, h2⟩ := h
  exact ⟨s, k, List.eq_nil_of_length_eq_zero (by omega), h2, fun j hj => by omega⟩
theorem s_drop (P : Pacts HS) {n : Nat} (h : S0 HS Bx x N kg c K n W) :
    Calls Try.prog 10 #[.pointer (some ⟨x, 0, none⟩), .int .i64 4, .int .i64 0] W fun r w' => (∃ a e : Int, r = .returned (.tuple #[.int .i64 a, .int .i64 e])) ∧ S0 HS Bx x N kg c K (n - 1) w' ∧ Below Bx W w' := by
  obtain ⟨s, k, h1, h2⟩ := h
  refine (kk_do P k 4 0 ⟨by omega, by omega⟩ ⟨by omega, by omega⟩).mono ?_
  rintro r w' ⟨hr, hk, hb⟩
  obtain ⟨d1, d2⟩ := drop_len c s
  exact ⟨⟨_, _, hr⟩, ⟨_, hk, by omega, by rw [d2]; exact h2⟩, hb⟩
theorem s_nil (P : Pacts HS) {i : Nat} (h : S1 HS Bx x N kg c K [] i W) (hd : 1 ≤ c.deep) :
    Calls Try.prog 10 #[.pointer (some ⟨x, 0, none⟩), .int .i64 0, .int .i64 0] W fun r w' => r = .returned (.tuple #[.int .i64 0, .int .i64 0]) ∧ S1 HS Bx x N kg c K [(0, 0)] i w' ∧ Below Bx W w' := by
  obtain ⟨s, k, h1, h2, h3⟩ := h
  refine (kk_do P k 0 0 ⟨by omega, by omega⟩ ⟨by omega, by omega⟩).mono ?_
  rintro r w' ⟨hr, hk, hb⟩
  rw [nil_push h1 hd] at hr hk
  exact ⟨hr, ⟨_, hk, rfl, h2, h3⟩, hb⟩
theorem s_set (P : Pacts HS) {i : Nat} (h : S1 HS Bx x N kg c K [(0, 0)] i W) (hi : i < kg) (h8 : kg ≤ 8) :
    Calls Try.prog 10 #[.pointer (some ⟨x, 0, none⟩), .int .i64 6, .int .i64 i] W fun r w' => r = .returned (.tuple #[.int .i64 0, .int .i64 0]) ∧ S1 HS Bx x N kg c K [] (i + 1) w' ∧ Below Bx W w' := by
  obtain ⟨s, k, h1, h2, h3⟩ := h
  refine (kk_do P k 6 i ⟨by omega, by omega⟩ ⟨by omega, by omega⟩).mono ?_
  rintro r w' ⟨hr, hk, hb⟩
  rw [nil_set h1 (by omega)] at hr hk
  refine ⟨hr, ⟨_, hk, rfl, by simp [h2], fun j hj => ?_⟩, hb⟩
  show (s.globals.set i (0, 0))[j]? = _
  rw [List.getElem?_set]
  by_cases e : i = j
  · rw [if_pos e, if_pos (by omega)]
  · rw [if_neg e]; exact h3 j (by omega)
theorem s_end (P : Pacts HS) {i : Nat} (h : S1 HS Bx x N kg c K [] i W) :
    Calls Try.prog 10 #[.pointer (some ⟨x, 0, none⟩), .int .i64 4, .int .i64 0] W fun r w' => r = .returned (.tuple #[.int .i64 0, .int .i64 3]) ∧ S1 HS Bx x N kg c K [] i w' ∧ Below Bx W w' := by
  obtain ⟨s, k, h1, h2, h3⟩ := h
  refine (kk_do P k 4 0 ⟨by omega, by omega⟩ ⟨by omega, by omega⟩).mono ?_
  rintro r w' ⟨hr, hk, hb⟩
  rw [drop_none h1] at hr hk
  exact ⟨hr, ⟨_, hk, h1, h2, h3⟩, hb⟩
theorem S1.empty (h : S1 HS Bx x N kg c K [] kg W) : ∃ s, KK HS Bx x N c K s W ∧ Empty s := by
  obtain ⟨s, k, h1, h2, h3⟩ := h
  refine ⟨s, k, h1, fun v hv => ?_⟩
  obtain ⟨j, hj, e⟩ := List.getElem_of_mem hv
  have := h3 j (by omega)
  rw [List.getElem?_eq_getElem hj] at this
  rw [← e]
  exact Option.some.inj this

set_option maxRecDepth 100000 in
set_option maxHeartbeats 1600000 in
theorem emptied_all (P : Pacts HS) {s : St} {ks : Nat} (p : KK HS Bx x N c K s W) (hg : s.globals.length = kg) (h8 : kg ≤ 8) (hks : c.deep = ks) (h1 : 1 ≤ ks) (h16 : ks ≤ 16) (b u z o : Int) :
    Calls Try.prog 12 #[.pointer (some ⟨x, 0, none⟩), .agg #[.int .i64 b, .int .i64 ks, .int .i64 kg, .int .i64 u, .int .i64 z, .int .i64 o]] W fun e w' => e = .returned (.bool true) ∧ (∃ s', KK HS Bx x N c K s' w' ∧ Empty s') ∧ Below Bx W w' := by
  obtain ⟨K', hK'⟩ : ∃ K', (W.heap.size, Obj.cells #[.int .i64 b, .int .i64 ks, .int .i64 kg, .int .i64 u, .int .i64 z, .int .i64 o] 23) :: K = K' := ⟨_, rfl⟩
  have DR : Hid (∀ n V, S0 HS Bx x N kg c K' n V → Calls Try.prog 10 #[.pointer (some ⟨x, 0, none⟩), .int .i64 4, .int .i64 0] V fun r w' => (∃ a e : Int, r = .returned (.tuple #[.int .i64 a, .int .i64 e])) ∧ S0 HS Bx x N kg c K' (n - 1) w' ∧ Below Bx V w') := fun n V q => s_drop P q
  have NI : Hid (∀ i V, S1 HS Bx x N kg c K' [] i V → Calls Try.prog 10 #[.pointer (some ⟨x, 0, none⟩), .int .i64 0, .int .i64 0] V fun r w' => r = .returned (.tuple #[.int .i64 0, .int .i64 0]) ∧ S1 HS Bx x N kg c K' [(0, 0)] i w' ∧ Below Bx V w') := fun i V q => s_nil P q (by omega)
  have SE : Hid (∀ (i : Nat) V, S1 HS Bx x N kg c K' [(0, 0)] i V → i < kg → Calls Try.prog 10 #[.pointer (some ⟨x, 0, none⟩), .int .i64 6, .int .i64 i] V fun r w' => r = .returned (.tuple #[.int .i64 0, .int .i64 0]) ∧ S1 HS Bx x N kg c K' [] (i + 1) w' ∧ Below Bx V w') := fun i V q h => s_set P q h h8
  have EN : Hid (∀ i V, S1 HS Bx x N kg c K' [] i V → Calls Try.prog 10 #[.pointer (some ⟨x, 0, none⟩), .int .i64 4, .int .i64 0] V fun r w' => r = .returned (.tuple #[.int .i64 0, .int .i64 3]) ∧ S1 HS Bx x N kg c K' [] i w' ∧ Below Bx V w') := fun i V q => s_end P q
  have FIN : Hid (∀ V, S1 HS Bx x N kg c K' [] kg V → ∃ s', KK HS Bx x N c K s' V ∧ Empty s') := fun V q => by
    obtain ⟨s', k', he⟩ := q.empty
    exact ⟨s', k'.less fun r hr => by rw [← hK']; exact List.mem_cons_of_mem _ hr, he⟩
  have LB : Hid (∀ n V, S0 HS Bx x N kg c K' n V → V.heap[W.heap.size]? = some (.cells #[.int .i64 b, .int .i64 ks, .int .i64 kg, .int .i64 u, .int .i64 z, .int .i64 o] 23)) := fun n V q => q.kept (by rw [← hK']; exact List.mem_cons_self)
  have BB : Hid (∀ i V, S1 HS Bx x N kg c K' [] i V → V.heap[W.heap.size]? = some (.cells #[.int .i64 b, .int .i64 ks, .int .i64 kg, .int .i64 u, .int .i64 z, .int .i64 o] 23)) := fun i V q => q.kept (by rw [← hK']; exact List.mem_cons_self)
  have L0 : Hid (S0 HS Bx x N kg c K' ks (W.alloc (.cells #[.int .i64 b, .int .i64 ks, .int .i64 kg, .int .i64 u, .int .i64 z, .int .i64 o] 23)) ∧ Below Bx W (W.alloc (.cells #[.int .i64 b, .int .i64 ks, .int .i64 kg, .int .i64 u, .int .i64 z, .int .i64 o] 23))) := ⟨⟨s, by rw [← hK']; exact p.box _, by have := p.roots; omega, hg⟩, (Below.refl _ _).alloc p.size _⟩
  clear P p hK' hks hg
  go_enter Try.func12, Try.ntmps12
  go_wp2
  go_loopw [5] (fun i wr => ∃ j : Nat, j ≤ ks ∧ i = .int .i64 j ∧ S0 HS Bx x N kg c K' (ks - j) wr ∧ Below Bx W wr) (fun i _ => ks - (intOf i).toNat)
  case atStart => exact ⟨0, Nat.zero_le _, rfl, L0.out.1, L0.out.2⟩
  case round =>
    obtain ⟨j, hj, rfl, hlow, hbel⟩ := hrel
    have l1 : wr.cell? ⟨W.heap.size, 1, none⟩ = some (.int .i64 ks) := cell_of_heap (LB.out _ _ hlow) rfl
    have l2 : wr.cell? ⟨W.heap.size, 2, none⟩ = some (.int .i64 kg) := cell_of_heap (LB.out _ _ hlow) rfl
    have M : Hid (S0 HS Bx x N kg c K' (ks - j) wr ∧ Below Bx W wr) := ⟨hlow, hbel⟩
    clear hlow hbel L0
    by_cases hlt : j < ks
    · have hjI : (j : Int) < ks := by omega
      go_wp2_with fail
      refine Calls.mono (DR.out _ _ M.out.1) ?_
      rintro e w1 ⟨⟨a, e, rfl⟩, hl1, hb1⟩
      have M1 : Hid (S0 HS Bx x N kg c K' (ks - (j + 1)) w1 ∧ Below Bx W w1) := ⟨hl1.mono (by omega), M.out.2.trans hb1⟩
      clear hl1 hb1 l1 l2
      go_wp2
      go_roundw
      case rel => exact ⟨j + 1, by omega, by go_num, M1.out.1, M1.out.2⟩
      case measure => simp [intOf]; omega
    · have hjd : ¬ (j : Int) < ks := by omega
      have M0 : Hid (S1 HS Bx x N kg c K' [] 0 wr ∧ Below Bx W wr) := ⟨M.out.1.to (by omega), M.out.2⟩
      clear hlt hj M
      go_wp2
      clear l1 l2 hjd
      go_loopw [6] (fun i wq => ∃ j : Nat, j ≤ kg ∧ i = .int .i64 j ∧ S1 HS Bx x N kg c K' [] j wq ∧ Below Bx W wq) (fun i _ => kg - (intOf i).toNat)
      case atStart => exact ⟨0, by omega, rfl, M0.out.1, M0.out.2⟩
      case round =>
        obtain ⟨q, hq, rfl, hbare, hbel⟩ := hrel
        have m2 : wr.cell? ⟨W.heap.size, 2, none⟩ = some (.int .i64 kg) := cell_of_heap (BB.out _ _ hbare) rfl
        have M : Hid (S1 HS Bx x N kg c K' [] q wr ∧ Below Bx W wr) := ⟨hbare, hbel⟩
        clear hbare hbel M0
        by_cases hlt : q < kg
        · have hqI : (q : Int) < kg := by omega
          go_wp2_with fail
          refine Calls.mono (NI.out _ _ M.out.1) ?_
          rintro e w1 ⟨rfl, hs1, hb1⟩
          have M1 : Hid (S1 HS Bx x N kg c K' [(0, 0)] q w1 ∧ Below Bx W w1) := ⟨hs1, M.out.2.trans hb1⟩
          clear hs1 hb1 m2
          go_wp2_with fail
          refine Calls.mono (SE.out _ _ M1.out.1 hlt) ?_
          rintro e w2 ⟨rfl, hs2, hb2⟩
          have M2 : Hid (S1 HS Bx x N kg c K' [] (q + 1) w2 ∧ Below Bx W w2) := ⟨hs2, M1.out.2.trans hb2⟩
          clear hs2 hb2
          go_wp2
          go_roundw
          case rel => exact ⟨q + 1, by omega, by go_num, M2.out.1, M2.out.2⟩
          case measure => simp [intOf]; omega
        · have hqI : ¬ (q : Int) < kg := by omega
          obtain rfl : q = kg := by omega
          go_wp2_with fail
          refine Calls.mono (EN.out _ _ M.out.1) ?_
          rintro e w1 ⟨rfl, hb1, hl1⟩
          have M3 : Hid ((∃ s', KK HS Bx x N c K s' w1 ∧ Empty s') ∧ Below Bx W w1) := ⟨FIN.out _ hb1, M.out.2.trans hl1⟩
          clear hb1 hl1
          go_wp2
          go_ret
          exact ⟨rfl, M3.out.1, M3.out.2⟩
end

end Go.Proofs.Ytpmkjeihbddfpaa

/- OUR OWN. Swept, the walk. -/
namespace Go.Proofs.Ytpmkjeihbddfpaa
open Go.RowKit
set_option linter.unusedVariables false
set_option linter.unusedSimpArgs false
section
variable {HS : HeapM → St → Cf → Nat → Prop} {Bx x N kg : Nat} {c : Cf} {K : List (Nat × Obj)} {W : World}

def Q0 (HS : HeapM → St → Cf → Nat → Prop) (Bx x N kg : Nat) (c : Cf) (W : World) : Prop := ∃ s, KK HS Bx x N c [] s W ∧ s.globals.length = kg
def Q1 (HS : HeapM → St → Cf → Nat → Prop) (Bx x N : Nat) (c : Cf) (K : List (Nat × Obj)) (F : Nat) (W : World) : Prop := ∃ s, KK HS Bx x N c K s W ∧ Empty s ∧ freeN s = F
def Q2 (HS : HeapM → St → Cf → Nat → Prop) (Bx x N : Nat) (c : Cf) (K : List (Nat × Obj)) (W : World) : Prop := ∃ s, KK HS Bx x N c K s W ∧ (∀ b, (s.ob b).here = false) ∧ gaugeS s = (N, 0, 0, 0, 0)
def Q3 (HS : HeapM → St → Cf → Nat → Prop) (Bx x N : Nat) (c : Cf) (K : List (Nat × Obj)) (W : World) : Prop := ∃ s, KK HS Bx x N c K s W ∧ (∀ b, (s.ob b).here = false)
theorem q_act (P : Pacts HS) (h : Q0 HS Bx x N kg c W) (op n : Int) (hop : fits op) (hn : fits n) :
    Calls Try.prog 16 #[.pointer (some ⟨x, 0, none⟩), .agg #[.int .i64 op, .int .i64 n]] W fun e w' => (∃ r1 r2 : Int, e = .returned (.tuple #[.int .i64 r1, .int .i64 r2])) ∧ Q0 HS Bx x N kg c w' ∧ Below Bx W w' := by
  obtain ⟨s, k, hg⟩ := h
  refine (kk_act P k op n hop hn).mono ?_
  rintro e w' ⟨he, hk, hb⟩
  exact ⟨⟨_, _, he⟩, ⟨_, hk, by rw [act_glob k.good]; exact hg⟩, hb⟩
theorem q_gauge (P : Pacts HS) (h : ∃ s, KK HS Bx x N c K s W ∧ Empty s) :
    Calls Try.prog 13 #[.pointer (some ⟨x, 0, none⟩)] W fun e w' => ∃ F a b d f : Nat, e = .returned (.agg #[.int .i64 F, .int .i64 a, .int .i64 b, .int .i64 d, .int .i64 f]) ∧ F ≤ N ∧ Q1 HS Bx x N c K F w' ∧ Below Bx W w' := by
  obtain ⟨s, k, he⟩ := h
  refine (kk_gauge P k).mono ?_
  rintro e w' ⟨hr, hk, hb⟩
  exact ⟨_, _, _, _, _, hr, by have := freeN_le s; rw [k.good.sN] at this; exact this, ⟨s, hk, he, rfl⟩, hb⟩
theorem q_coll (P : Pacts HS) {F : Nat} (h : Q1 HS Bx x N c K F W) :
    Calls Try.prog 15 #[.pointer (some ⟨x, 0, none⟩)] W fun e w' => e = .returned (.int .i64 ((N : Int) - F)) ∧ Q2 HS Bx x N c K w' ∧ Below Bx W w' := by
  obtain ⟨s, k, he, hf⟩ := h
  obtain ⟨a1, a2, a3⟩ := he.swept k.good c.over
  refine (kk_coll P k).mono ?_
  rintro e w' ⟨hr, hk, hb⟩
  rw [a2, hf] at hr
  exact ⟨hr, ⟨_, hk, a1, a3⟩, hb⟩
theorem q_gauge2 (P : Pacts HS) (h : Q2 HS Bx x N c K W) :
    Calls Try.prog 13 #[.pointer (some ⟨x, 0, none⟩)] W fun e w' => e = .returned (.agg #[.int .i64 N, .int .i64 0, .int .i64 0, .int .i64 0, .int .i64 0]) ∧ Q3 HS Bx x N c K w' ∧ Below Bx W w' := by
  obtain ⟨s, k, h1, h2⟩ := h
  refine (kk_gauge P k).mono ?_
  rintro e w' ⟨hr, hk, hb⟩
  rw [h2] at hr
  exact ⟨hr, ⟨s, hk, h1⟩, hb⟩
theorem q_coll2 (P : Pacts HS) (h : Q3 HS Bx x N c K W) :
    Calls Try.prog 15 #[.pointer (some ⟨x, 0, none⟩)] W fun e w' => e = .returned (.int .i64 0) ∧ Q3 HS Bx x N c K w' ∧ Below Bx W w' := by
  obtain ⟨s, k, h1⟩ := h
  refine (kk_coll P k).mono ?_
  rintro e w' ⟨hr, hk, hb⟩
  rw [free_gone h1] at hr
  exact ⟨hr, ⟨_, hk, free_all k.good h1 c.over⟩, hb⟩
theorem q_safe (P : Pacts HS) (h : Q3 HS Bx x N c K W) :
    Calls Try.prog 14 #[.pointer (some ⟨x, 0, none⟩)] W fun e w' => e = .returned (.int .i64 0) ∧ (∀ L ob, (L, ob) ∈ K → w'.heap[L]? = some ob) ∧ Below Bx W w' := by
  obtain ⟨s, k, h1⟩ := h
  refine (kk_safe P k).mono ?_
  rintro e w' ⟨hr, hk, hb⟩
  rw [free_safe k.good h1 c hk.good] at hr
  exact ⟨hr, fun L ob hL => hk.kept hL, hb⟩
theorem Q1.box {F : Nat} (h : Q1 HS Bx x N c K F W) (ob : Obj) : Q1 HS Bx x N c ((W.heap.size, ob) :: K) F (W.alloc ob) := by
  obtain ⟨s, k, h1⟩ := h
  exact ⟨s, k.box ob, h1⟩
theorem Q3.box (h : Q3 HS Bx x N c K W) (ob : Obj) : Q3 HS Bx x N c ((W.heap.size, ob) :: K) (W.alloc ob) := by
  obtain ⟨s, k, h1⟩ := h
  exact ⟨s, k.box ob, h1⟩
theorem Q1.size {F : Nat} (h : Q1 HS Bx x N c K F W) : Bx ≤ W.heap.size := by
  obtain ⟨s, k, h1⟩ := h
  exact k.size
theorem Q3.size (h : Q3 HS Bx x N c K W) : Bx ≤ W.heap.size := by
  obtain ⟨s, k, h1⟩ := h
  exact k.size

set_option maxHeartbeats 4000000 in
set_option maxRecDepth 100000 in
theorem swept_walk (P : Pacts HS) (b s g u z o : Int) (fb : fits b) (fs : fits s) (fg : fits g) (fu : fits u) (fz : fits z) (fo : fits o) (a0 : Option Addr) (alen acap : Nat) (hal : alen ≤ 20000000000000) (w : World) (acts : Nat → Int × Int) (HA : ActsIn w a0 alen acts) :
    Calls Try.prog 6 #[.agg #[.int .i64 b, .int .i64 s, .int .i64 g, .int .i64 u, .int .i64 z, .int .i64 o], .slice a0 alen acap] w
      fun e w' => e = .returned (.bool true) ∧ Below w.heap.size w w' := by
  have CF : Hid (∀ W, Calls Try.prog 7 #[.agg #[.int .i64 b, .int .i64 s, .int .i64 g, .int .i64 u, .int .i64 z, .int .i64 o]] W fun e w' => (∃ k : CfgM, e = .returned k.val ∧ k.ok) ∧ Below W.heap.size W w') := fun W => config_any b s g u z o W fb fs fg fu fz fo
  have FR : Hid (∀ (k : CfgM) (W : World), k.ok → Calls Try.prog 9 #[.agg #[.int .i64 k.b, .int .i64 k.s, .int .i64 k.g, .int .i64 k.u, .int .i64 k.z, .int .i64 k.o]] W fun e w' => ∃ x hm, e = .returned (.pointer (some ⟨x, 0, none⟩)) ∧ Below W.heap.size W w' ∧ KAt HS W.heap.size w' x hm (st0 k) k.cf k.b) := fun k W hk => fresh_keep P.base k hk W
  have H : Hid (ActsIn w a0 alen acts ∧ Pacts HS) := ⟨HA, P⟩
  clear P HA fb fs fg fu fz fo
  go_enter Try.func6, Try.ntmps6
  go_wp2_with fail
  refine Calls.mono (CF.out _) ?_
  rintro e w1 ⟨⟨k, rfl, hk⟩, hb⟩
  have hL : w1.heap[w.heap.size]? = some (.cells #[.int .i64 b, .int .i64 s, .int .i64 g, .int .i64 u, .int .i64 z, .int .i64 o] 23) := by rw [hb.block _ (by simp)]; exact heap_alloc_new w _
  obtain ⟨kb, ks, kg, ku, kz, ko⟩ := k
  have hB := CfgM.bounds hk
  simp only at hB
  have hs1 : w.heap.size + 1 ≤ w1.heap.size := by have := hb.size; simpa using this
  have B1 : Hid (Below w.heap.size w w1) := ((Below.refl _ _).alloc (Nat.le_refl _) _).trans (hb.mono (by simp))
  obtain ⟨x0, x1, x2, x3, x4, x5, xf⟩ := box6 hL
  have f0 := xf 0
  have f1 := xf 1
  have f2 := xf 2
  have f3 := xf 3
  have f4 := xf 4
  have f5 := xf 5
  have HL : Hid (w1.heap[w.heap.size]? = some (.cells #[.int .i64 b, .int .i64 s, .int .i64 g, .int .i64 u, .int .i64 z, .int .i64 o] 23)) := hL
  have HK : Hid (CfgM.ok ⟨kb, ks, kg, ku, kz, ko⟩) := hk
  clear hb hL hk xf CF
  unfold CfgM.val
  simp only
  go_wp2_with fail
  obtain ⟨w2, hw2⟩ : ∃ w2, w2 = ((((((w1.setCell ⟨w.heap.size, 0, none⟩ (.int .i64 kb)).setCell ⟨w.heap.size, 1, none⟩ (.int .i64 ks)).setCell ⟨w.heap.size, 2, none⟩ (.int .i64 kg)).setCell ⟨w.heap.size, 3, none⟩ (.int .i64 ku)).setCell ⟨w.heap.size, 4, none⟩ (.int .i64 kz)).setCell ⟨w.heap.size, 5, none⟩ (.int .i64 ko)) := ⟨_, rfl⟩
  rw [← hw2]
  have hL2 : w2.heap[w.heap.size]? = some (.cells #[.int .i64 kb, .int .i64 ks, .int .i64 kg, .int .i64 ku, .int .i64 kz, .int .i64 ko] 23) := by rw [hw2]; exact set6_heap HL.out _ _ _ _ _ _
  have B2 : Hid (Below w.heap.size w w2) := by rw [hw2]; exact set6_below B1.out (Nat.le_refl _) _ _ _ _ _ _
  have hs2 : w.heap.size + 1 ≤ w2.heap.size := by rw [hw2, set6_size]; exact hs1
  clear x0 x1 x2 x3 x4 x5 f0 f1 f2 f3 f4 f5 HL B1 hw2 hs1
  refine Calls.mono (FR.out ⟨kb, ks, kg, ku, kz, ko⟩ w2 HK.out) ?_
  rintro e w3 ⟨x, hm, rfl, hb3, ka⟩
  obtain ⟨cf, hcf⟩ : ∃ cf, CfgM.cf ⟨kb, ks, kg, ku, kz, ko⟩ = cf := ⟨_, rfl⟩
  have hdp : cf.deep = ks := by rw [← hcf]; rfl
  have BX : Hid (∀ wr, Below w2.heap.size w3 wr → Box6 wr w.heap.size (.int .i64 kb) (.int .i64 ks) (.int .i64 kg) (.int .i64 ku) (.int .i64 kz) (.int .i64 ko) ∧ Below w.heap.size w wr) := fun wr hb => by
    have h23 := (hb3.trans hb)
    exact ⟨box6 ((h23.block _ (by omega)).trans hL2), B2.out.trans (h23.mono (by omega))⟩
  have IV : Hid (Q0 HS w2.heap.size x kb kg cf w3) := ⟨_, ⟨hm, by rw [← hcf]; exact ka, (fun p hp => by cases hp)⟩, by simp [st0]⟩
  have hN : kb ≤ 99 := by have := hB; omega
  have EM : Hid (∀ V, Q0 HS w2.heap.size x kb kg cf V → Calls Try.prog 12 #[.pointer (some ⟨x, 0, none⟩), .agg #[.int .i64 kb, .int .i64 ks, .int .i64 kg, .int .i64 ku, .int .i64 kz, .int .i64 ko]] V fun e w' => e = .returned (.bool true) ∧ (∃ s', KK HS w2.heap.size x kb cf [] s' w' ∧ Empty s') ∧ Below w2.heap.size V w') := fun V q => by
    obtain ⟨s, k, hg⟩ := q
    exact emptied_all H.out.2 k hg (by have := hB; omega) hdp (by have := hB; omega) (by have := hB; omega) _ _ _ _
  have G1 : Hid (∀ V, (∃ s', KK HS w2.heap.size x kb cf [] s' V ∧ Empty s') → Calls Try.prog 13 #[.pointer (some ⟨x, 0, none⟩)] V fun e w' => ∃ F a b d f : Nat, e = .returned (.agg #[.int .i64 F, .int .i64 a, .int .i64 b, .int .i64 d, .int .i64 f]) ∧ F ≤ kb ∧ Q1 HS w2.heap.size x kb cf [] F w' ∧ Below w2.heap.size V w') := fun V q => q_gauge H.out.2 q
  have C1 : Hid (∀ F K V, Q1 HS w2.heap.size x kb cf K F V → Calls Try.prog 15 #[.pointer (some ⟨x, 0, none⟩)] V fun e w' => e = .returned (.int .i64 ((kb : Int) - F)) ∧ Q2 HS w2.heap.size x kb cf K w' ∧ Below w2.heap.size V w') := fun F K V q => q_coll H.out.2 q
  have G2 : Hid (∀ K V, Q2 HS w2.heap.size x kb cf K V → Calls Try.prog 13 #[.pointer (some ⟨x, 0, none⟩)] V fun e w' => e = .returned (.agg #[.int .i64 kb, .int .i64 0, .int .i64 0, .int .i64 0, .int .i64 0]) ∧ Q3 HS w2.heap.size x kb cf K w' ∧ Below w2.heap.size V w') := fun K V q => q_gauge2 H.out.2 q
  have C2 : Hid (∀ K V, Q3 HS w2.heap.size x kb cf K V → Calls Try.prog 15 #[.pointer (some ⟨x, 0, none⟩)] V fun e w' => e = .returned (.int .i64 0) ∧ Q3 HS w2.heap.size x kb cf K w' ∧ Below w2.heap.size V w') := fun K V q => q_coll2 H.out.2 q
  have S2 : Hid (∀ K V, Q3 HS w2.heap.size x kb cf K V → Calls Try.prog 14 #[.pointer (some ⟨x, 0, none⟩)] V fun e w' => e = .returned (.int .i64 0) ∧ (∀ L ob, (L, ob) ∈ K → w'.heap[L]? = some ob) ∧ Below w2.heap.size V w') := fun K V q => q_safe H.out.2 q
  have hw23 := hb3.size
  clear hb3 ka hL2 FR HK B2 hcf hdp hB
  go_wp2
  go_loopw [6] (fun i wr => ∃ j : Nat, j ≤ alen ∧ i = .int .i64 j ∧ Q0 HS w2.heap.size x kb kg cf wr ∧ Below w2.heap.size w3 wr) (fun i _ => alen - (intOf i).toNat)
  case atStart => exact ⟨0, Nat.zero_le _, rfl, IV.out, Below.refl _ _⟩
  case round =>
    obtain ⟨j, hj, rfl, hi, hbr⟩ := hrel
    have IB : Hid (Q0 HS w2.heap.size x kb kg cf wr ∧ Below w2.heap.size w3 wr) := ⟨hi, hbr⟩
    obtain ⟨hx6, hbw⟩ := BX.out wr hbr
    by_cases hlt : j < alen
    · obtain ⟨sb, off, ha0, hsb, ff1, ff2, d0, d1⟩ := H.out.1 j hlt
      have q0 : wr.cell? ⟨sb, off + j * 2, none⟩ = some (.int .i64 (acts j).1) := (hbw.cell (p := ⟨sb, off + j * 2, none⟩) hsb).trans d0
      have q1 : wr.cell? ⟨sb, off + j * 2 + 1, none⟩ = some (.int .i64 (acts j).2) := (hbw.cell (p := ⟨sb, off + j * 2 + 1, none⟩) hsb).trans d1
      have AC : Hid _ := q_act H.out.2 hi (acts j).1 (acts j).2 ff1 ff2
      obtain ⟨op, hop⟩ : ∃ op, (acts j).1 = op := ⟨_, rfl⟩
      obtain ⟨nn, hnn⟩ : ∃ nn, (acts j).2 = nn := ⟨_, rfl⟩
      rw [hop] at q0 AC
      rw [hnn] at q1 AC
      subst ha0
      have hjI : (j : Int) < alen := by omega
      clear hi hbr hx6 hbw d0 d1 ff1 ff2 hop hnn IV
      go_wp2_with fail
      refine Calls.mono AC.out ?_
      rintro e w4 ⟨⟨r1, r2, rfl⟩, hi4, hb4⟩
      have I4 : Hid _ := And.intro hi4 (IB.out.2.trans hb4)
      clear hi4 hb4
      go_wp2
      go_roundw
      case rel => exact ⟨j + 1, by omega, by go_num, I4.out.1, I4.out.2⟩
      case measure => simp [intOf]; omega
    · have hjI : ¬ (j : Int) < alen := by omega
      obtain ⟨y0, y1, y2, y3, y4, y5, _⟩ := hx6
      clear hi hbr hbw IV
      go_wp2_with fail
      refine Calls.mono (EM.out _ IB.out.1) ?_
      rintro e w4 ⟨rfl, he4, hb4⟩
      have I4 : Hid ((∃ s', KK HS w2.heap.size x kb cf [] s' w4 ∧ Empty s') ∧ Below w2.heap.size w3 w4) := ⟨he4, IB.out.2.trans hb4⟩
      clear he4 hb4 y0 y1 y2 y3 y4 y5
      go_wp2_with fail
      refine Calls.mono (G1.out _ I4.out.1) ?_
      rintro e w5 ⟨F, ga, gb, gd, gf, rfl, hF, he5, hb5⟩
      have I5 : Hid (Q1 HS w2.heap.size x kb cf [] F w5 ∧ Below w2.heap.size w3 w5) := ⟨he5, I4.out.2.trans hb5⟩
      have hz5 := he5.size
      clear he5 hb5 I4
      go_wp2_with fail
      obtain ⟨gbox, hgb⟩ : ∃ gbox : Obj, Obj.cells #[.int .i64 F, .int .i64 ga, .int .i64 gb, .int .i64 gd, .int .i64 gf] 36 = gbox := ⟨_, rfl⟩
      have HG : Hid (Obj.cells #[.int .i64 F, .int .i64 ga, .int .i64 gb, .int .i64 gd, .int .i64 gf] 36 = gbox) := hgb
      have L5 : Hid (Q1 HS w2.heap.size x kb cf [(w5.heap.size, gbox)] F (w5.alloc gbox) ∧ Below w2.heap.size w3 (w5.alloc gbox)) := ⟨I5.out.1.box _, I5.out.2.alloc hz5 _⟩
      rw [hgb]
      clear I5 hgb
      refine Calls.mono (C1.out F _ _ L5.out.1) ?_
      rintro e w6 ⟨rfl, he6, hb6⟩
      have I6 : Hid (Q2 HS w2.heap.size x kb cf [(w5.heap.size, gbox)] w6 ∧ Below w2.heap.size w3 w6) := ⟨he6, L5.out.2.trans hb6⟩
      clear he6 hb6 L5
      go_wp2_with fail
      refine Calls.mono (G2.out _ _ I6.out.1) ?_
      rintro e w7 ⟨rfl, he7, hb7⟩
      have I7 : Hid (Q3 HS w2.heap.size x kb cf [(w5.heap.size, gbox)] w7 ∧ Below w2.heap.size w3 w7) := ⟨he7, I6.out.2.trans hb7⟩
      have hz7 := he7.size
      clear he7 hb7 I6
      go_wp2_with fail
      obtain ⟨fbox, hfb⟩ : ∃ fbox : Obj, Obj.cells #[.int .i64 kb, .int .i64 0, .int .i64 0, .int .i64 0, .int .i64 0] 36 = fbox := ⟨_, rfl⟩
      have HF : Hid (Obj.cells #[.int .i64 kb, .int .i64 0, .int .i64 0, .int .i64 0, .int .i64 0] 36 = fbox) := hfb
      have L7 : Hid (Q3 HS w2.heap.size x kb cf [(w7.heap.size, fbox), (w5.heap.size, gbox)] (w7.alloc fbox) ∧ Below w2.heap.size w3 (w7.alloc fbox)) := ⟨I7.out.1.box _, I7.out.2.alloc hz7 _⟩
      rw [hfb]
      clear I7 hfb
      refine Calls.mono (C2.out _ _ L7.out.1) ?_
      rintro e w8 ⟨rfl, he8, hb8⟩
      have I8 : Hid (Q3 HS w2.heap.size x kb cf [(w7.heap.size, fbox), (w5.heap.size, gbox)] w8 ∧ Below w2.heap.size w3 w8) := ⟨he8, L7.out.2.trans hb8⟩
      clear he8 hb8 L7
      go_wp2_with fail
      refine Calls.mono (S2.out _ _ I8.out.1) ?_
      rintro e w9 ⟨rfl, he9, hb9⟩
      have B9 : Hid (Below w2.heap.size w3 w9) := I8.out.2.trans hb9
      have hg9 := he9 w5.heap.size gbox (by simp)
      have hf9 := he9 w7.heap.size fbox (by simp)
      rw [← HG.out] at hg9
      rw [← HF.out] at hf9
      have z0 : w9.cell? ⟨w5.heap.size, 0, none⟩ = some (.int .i64 F) := cell_of_heap hg9 rfl
      have t0 : w9.cell? ⟨w7.heap.size, 0, none⟩ = some (.int .i64 kb) := cell_of_heap hf9 rfl
      have t1 : w9.cell? ⟨w7.heap.size, 1, none⟩ = some (.int .i64 0) := cell_of_heap hf9 rfl
      have t2 : w9.cell? ⟨w7.heap.size, 2, none⟩ = some (.int .i64 0) := cell_of_heap hf9 rfl
      have t3 : w9.cell? ⟨w7.heap.size, 3, none⟩ = some (.int .i64 0) := cell_of_heap hf9 rfl
      have t4 : w9.cell? ⟨w7.heap.size, 4, none⟩ = some (.int .i64 0) := cell_of_heap hf9 rfl
      obtain ⟨⟨y0, y1, y2, y3, y4, y5, _⟩, hbw9⟩ := BX.out w9 B9.out
      have BE : Hid (Below w.heap.size w w9) := hbw9
      clear he9 hb9 hg9 hf9 hbw9 I8 y1 y2 y3 y4 y5
      go_wp2
      go_ret
      exact ⟨rfl, BE.out⟩
end

end Go.Proofs.Ytpmkjeihbddfpaa

/- OUR OWN. Swept: the statement, out of the program's contracts. -/
namespace Go.Proofs.Ytpmkjeihbddfpaa
open Go.ChangeShapes Go.WideShapes Go.ChangeAt Go.RowKit Go.Deep
set_option linter.unusedVariables false
set_option linter.unusedSimpArgs false

variable {HS : HeapM → St → Cf → Nat → Prop}

set_option maxRecDepth 100000 in
theorem swept_lifted (P : Pacts HS) (os : Os) (started : os.Started) (H : Type) (enc : TypeId × Value → H) :
    ReturnsInHanded {} Try.checked os 6 .any (Rows.sweptSpec.pre6 enc Try.prog Try.f6 Rows.sweptRow.domain false) (Rows.sweptSpec.post enc Try.prog Try.f6 false true false false) := by
  refine returnsInHanded_of_change_sized (C := Try.checked) own started (by kernel_rfl) Try.func6
    (ChangeSpec.witness6 (enc := enc) (C := Try.checked) false ⟨#[], #[.agg #[.int .i64 0, .int .i64 0, .int .i64 0, .int .i64 0, .int .i64 0, .int .i64 0], .slice none 0 0], []⟩ 8 (by kernel_rfl) (by kernel_rfl) (by kernel_rfl) (by kernel_rfl)) ?_
  intro W base args ds gs before hval0 hW _ hsz0 _
  have hsz : (DataW.weightsEach Try.prog (Try.f6.params.toList ++ Rows.sweptSpec.plain.varTypes Try.prog) (ds ++ gs)).all (· ≤ reachBytes) = true := hsz0
  clear hsz0
  have hval : ∀ (j : Nat) t v, Try.f6.params[j]? = some t → args[j]? = some v → Value.okWide Try.prog W .any base t v := hval0
  have hW' := hW
  obtain ⟨p, q, hA0, hV, rfl, hfz, hnd⟩ := hW
  have hA : DataW.TrodAll enc Try.prog W 0 (fun _ => true) true Try.f6.params.toList args.toList ds p := hA0
  rw [Try.params6] at hA hval hsz
  obtain ⟨v0, vs0, d0, ds0, p0, q0, hargs, rfl, rfl, h0, r0⟩ := trodAll_cons hA
  obtain ⟨v1, vs1, d1, ds1, p1, q1, rfl, rfl, rfl, h1, r1⟩ := trodAll_cons r0
  obtain ⟨rfl, rfl, rfl⟩ := trodAll_nil r1
  obtain rfl : args = #[v0, v1] := by cases args; simp_all
  obtain ⟨rfl, rfl⟩ := trodVars_none hV
  obtain ⟨c0, rfl, hc0⟩ := okWide_struct Try.underlying23 (hval 0 23 v0 rfl rfl)
  obtain ⟨b0, len1, cap1, rfl⟩ := okWide_slice Try.underlying40 (hval 1 40 v1 rfl rfl)
  have k0 := h0
  have k1 := h1
  have lt0 : ∀ x ∈ p0, x.block < W.heap.size := by obtain ⟨m, hm⟩ := k0; exact DataW.trod_lt m _ _ _ hm
  have lt1 : ∀ x ∈ p1, x.block < W.heap.size := by obtain ⟨m, hm⟩ := k1; exact DataW.trod_lt m _ _ _ hm
  obtain ⟨u0, g0⟩ := h0
  obtain ⟨u1, g1⟩ := h1
  have g0' : DataW.trod enc Try.prog W 0 (fun _ => true) true u0 23 c0.toList = some (d0, p0) := by simpa [Value.cells] using g0
  have g1' : DataW.trod enc Try.prog W 0 (fun _ => true) true u1 40 [.slice b0 len1 cap1] = some (d1, p1) := by simpa [Value.cells] using g1
  obtain ⟨b, s, g, u, z, o, fb, fs, fg, fu, fz, fo, e0⟩ := cfg_of g0'
  have e0' : c0 = #[.int .i64 b, .int .i64 s, .int .i64 g, .int .i64 u, .int .i64 z, .int .i64 o] := by rw [← Array.toArray_toList (xs := c0), e0]
  subst e0'
  obtain ⟨acts, HP⟩ := acts_of g1'
  have hL1 : len1 ≤ 20000000000000 := by
    rcases open_slice Try.underlying40 g1' with ⟨hc, _⟩ | ⟨a, l, c, m, n, D, Pl, hc, _, _, _, _, hx, _⟩
    · simp at hc; rw [hc.2.1]; omega
    · simp at hc
      obtain ⟨rfl, rfl, rfl⟩ := hc
      simp only [Prod.mk.injEq] at hx
      have hd := hx.1
      subst hd
      have := sized_slice hsz (j := 1) (t := 40) (e := 42) rfl rfl Try.underlying40
      rw [bytesAct] at this
      simp only [List.length_map, List.length_range, reachBytes] at this
      omega
  clear hA0 hval0
  refine (swept_walk P b s g u z o fb fs fg fu fz fo b0 len1 cap1 hL1 W acts HP).mono fun e W' ⟨he, bel⟩ => ?_
  subst he
  exact ⟨_, rfl, _, _, _, [], _, [], hW', trodAll_mk1 (shut_bool Try.underlying4 _), (trodAll_cons_mk (Below.trod laidOut (by kernel_rfl) (of_decide_eq_true (by kernel_rfl)) k0 bel lt0) (trodAll_cons_mk (Below.trod laidOut (by kernel_rfl) (of_decide_eq_true (by kernel_rfl)) k1 bel lt1) trodAll_mk0)), rfl, bel.frame _, fun h => by cases h⟩

theorem swept_of (P : Pacts HS) : Rows.SweptSaid :=
  OpenClaim.holds_of_wide 6 Try.f6 rfl rfl rfl rfl rfl rfl rfl ⟨rfl, rfl, rfl, rfl, rfl⟩ rfl rfl rfl rfl rfl (by kernel_rfl) Try.func6 (by kernel_rfl)
    (of_decide_eq_true (by kernel_rfl)) (by unfold Func.isWrapper; rw [if_neg (of_decide_eq_false (by kernel_rfl))]; exact ⟨rfl, rfl⟩)
    (fun os started H enc _ => swept_lifted P os started H enc)

end Go.Proofs.Ytpmkjeihbddfpaa

/- OUR OWN. Swept: the statement. -/
namespace Go.Proofs.Ytpmkjeihbddfpaa
set_option linter.unusedVariables false
set_option linter.unusedSimpArgs false

/-- P10, P11: once no root has anything, a collection frees all, and tells how many. -/
theorem swept_holds : Rows.SweptSaid := swept_of (HS := HS) ⟨fresh_hs, do_all, gauge_pact, safe_pact, coll_pact⟩

#print axioms swept_holds

end Go.Proofs.Ytpmkjeihbddfpaa

