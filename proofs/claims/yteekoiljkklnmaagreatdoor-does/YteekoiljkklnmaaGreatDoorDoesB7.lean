import Derived.Test.YteekoiljkklnmaaGreatDoorDoesB6
import Derived.Deep.RegionHeld3
/- OUR OWN. The program's heap: how many wait, have an extra, are in a state; isRoot. -/
namespace Go.Proofs.YteekoiljkklnmaaGreatDoor
open Go.RowKit
set_option linter.unusedVariables false
set_option linter.unusedSimpArgs false

set_option maxHeartbeats 800000 in
theorem waiting_any {but : Int} {h : Nat} {w : World} {m : HeapM} {s : St} {c : Cf} {N : Nat} (p : HB but h w m s c N) :
    Calls Tryz.prog 57 #[.pointer (some ⟨h, 0, none⟩)] w fun e w' => e = .returned (.int .i64 (countTo (s.others but) N)) ∧ Below w.heap.size w w' := by
  obtain ⟨g, cap, cB, hg, hobj⟩ := p.cells
  have hh := lt_of_heap p.r.head
  have hN := p.small
  have C : Hid (∀ wr, Below w.heap.size w wr → wr.cell? ⟨h, 5, none⟩ = some (.slice (some ⟨g, 0, none⟩) (N + 1) cap) ∧ ∀ i, i ≤ N → ∃ st ct ao fl fc, (decide (st = 1) && decide (ct = 0)) = s.others but i ∧ wr.cell? ⟨g, i * 3, none⟩ = some (.int .i64 st) ∧ wr.cell? ⟨g, i * 3 + 1, none⟩ = some (.int .i64 ct) ∧ wr.cell? ⟨g, i * 3 + 2, none⟩ = some (.slice ao fl fc)) := fun wr hb => by
    refine ⟨(hb.cell (p := ⟨h, 5, none⟩) hh).trans cB, fun i hi => ?_⟩
    obtain ⟨o, ao, fl, fc, ho, _, _, c0, c1, c2⟩ := hobj i hi
    exact ⟨o.state, o.count, ao, fl, fc, p.hs.waits ho, (hb.cell (p := ⟨g, _, none⟩) hg).trans c0, (hb.cell (p := ⟨g, _, none⟩) hg).trans c1, (hb.cell (p := ⟨g, _, none⟩) hg).trans c2⟩
  have WF : Hid (∀ st ct v w, Calls Tryz.prog 84 #[.agg #[.int .i64 st, .int .i64 ct, v]] w fun e w' => e = .returned (.bool (decide (st = 1) && decide (ct = 0))) ∧ Below w.heap.size w w') := waits_fn
  clear p hobj cB
  go_enter Tryz.func57, Tryz.ntmps57
  go_wp2
  go_loopw [3, 4] (fun n i wr => ∃ j : Nat, j ≤ N ∧ i = .int .i64 (j + 1) ∧ n = .int .i64 (countTo (s.others but) j) ∧ Below w.heap.size w wr) (fun _ i _ => N + 1 - (intOf i).toNat)
  case atStart => exact ⟨0, Nat.zero_le _, rfl, rfl, Below.refl _ _⟩
  case round =>
    obtain ⟨j, hj, rfl, rfl, hb⟩ := hrel
    obtain ⟨cB, hobj⟩ := C.out wr hb
    have hle := countTo_le (s.others but) j
    have HB : Hid (Below w.heap.size w wr) := hb
    have hsz := hb.size
    clear hb
    obtain ⟨k, hk⟩ : ∃ k, k = countTo (s.others but) j := ⟨_, rfl⟩
    rw [← hk] at hle ⊢
    by_cases hlt : j < N
    · obtain ⟨st, ct, ao, fl, fc, ho, c0, c1, c2⟩ := hobj (j + 1) (by omega)
      have S : Hid (countTo (s.others but) (j + 1) = k + if (decide (st = 1) && decide (ct = 0)) then 1 else 0) := by rw [hk, ho]; exact countTo_succ _ _
      clear hk hobj ho
      have X := WF.out st ct
      have X1 : Hid _ := X
      clear X
      go_wp2_with fail
      refine Calls.mono (X1.out _ _) ?_
      rintro e w1 ⟨rfl, hb1⟩
      have HB1 : Hid (Below w.heap.size w w1) := HB.out.trans (hb1.mono hsz)
      clear hb1 X1 c0 c1 c2 cB
      cases hx : (decide (st = 1) && decide (ct = 0)) with
      | true =>
        rw [hx] at S
        clear hx
        go_wp2
        go_roundw
        case rel => exact ⟨j + 1, by omega, by go_num, by rw [S.out]; go_num, HB1.out⟩
        case measure => simp [intOf]; omega
      | false =>
        rw [hx] at S
        clear hx
        go_wp2
        go_roundw
        case rel => exact ⟨j + 1, by omega, by go_num, by rw [S.out]; go_num, HB1.out⟩
        case measure => simp [intOf]; omega
    · obtain rfl : j = N := by omega
      have HC : Hid (k = countTo (s.others but) j) := hk
      clear hk hobj
      go_wp2
      go_ret
      exact ⟨ret_int (by rw [HC.out]), HB.out⟩

set_option maxHeartbeats 800000 in
theorem hextras_any {h : Nat} {w : World} {m : HeapM} {s : St} {c : Cf} {N : Nat} (p : HB 0 h w m s c N) :
    Calls Tryz.prog 58 #[.pointer (some ⟨h, 0, none⟩)] w fun e w' => e = .returned (.int .i64 (countTo s.extra N)) ∧ Below w.heap.size w w' := by
  obtain ⟨g, cap, cB, hg, hobj⟩ := p.cells
  have hh := lt_of_heap p.r.head
  have hN := p.small
  have C : Hid (∀ wr, Below w.heap.size w wr → wr.cell? ⟨h, 5, none⟩ = some (.slice (some ⟨g, 0, none⟩) (N + 1) cap) ∧ ∀ i, i ≤ N → ∃ st ct ao fl fc, (decide (st = 1) && decide (7 < ct)) = s.extra i ∧ wr.cell? ⟨g, i * 3, none⟩ = some (.int .i64 st) ∧ wr.cell? ⟨g, i * 3 + 1, none⟩ = some (.int .i64 ct) ∧ wr.cell? ⟨g, i * 3 + 2, none⟩ = some (.slice ao fl fc)) := fun wr hb => by
    refine ⟨(hb.cell (p := ⟨h, 5, none⟩) hh).trans cB, fun i hi => ?_⟩
    obtain ⟨o, ao, fl, fc, ho, _, _, c0, c1, c2⟩ := hobj i hi
    exact ⟨o.state, o.count, ao, fl, fc, p.hs.extra p.good ho, (hb.cell (p := ⟨g, _, none⟩) hg).trans c0, (hb.cell (p := ⟨g, _, none⟩) hg).trans c1, (hb.cell (p := ⟨g, _, none⟩) hg).trans c2⟩
  have WF : Hid (∀ st ct v w, Calls Tryz.prog 85 #[.agg #[.int .i64 st, .int .i64 ct, v]] w fun e w' => e = .returned (.bool (decide (st = 1) && decide (7 < ct))) ∧ Below w.heap.size w w') := hasExtra_fn
  clear p hobj cB
  go_enter Tryz.func58, Tryz.ntmps58
  go_wp2
  go_loopw [3, 4] (fun n i wr => ∃ j : Nat, j ≤ N ∧ i = .int .i64 (j + 1) ∧ n = .int .i64 (countTo s.extra j) ∧ Below w.heap.size w wr) (fun _ i _ => N + 1 - (intOf i).toNat)
  case atStart => exact ⟨0, Nat.zero_le _, rfl, rfl, Below.refl _ _⟩
  case round =>
    obtain ⟨j, hj, rfl, rfl, hb⟩ := hrel
    obtain ⟨cB, hobj⟩ := C.out wr hb
    have hle := countTo_le s.extra j
    have HB : Hid (Below w.heap.size w wr) := hb
    have hsz := hb.size
    clear hb
    obtain ⟨k, hk⟩ : ∃ k, k = countTo s.extra j := ⟨_, rfl⟩
    rw [← hk] at hle ⊢
    by_cases hlt : j < N
    · obtain ⟨st, ct, ao, fl, fc, ho, c0, c1, c2⟩ := hobj (j + 1) (by omega)
      have S : Hid (countTo s.extra (j + 1) = k + if (decide (st = 1) && decide (7 < ct)) then 1 else 0) := by rw [hk, ho]; exact countTo_succ _ _
      clear hk hobj ho
      have X := WF.out st ct
      have X1 : Hid _ := X
      clear X
      go_wp2_with fail
      refine Calls.mono (X1.out _ _) ?_
      rintro e w1 ⟨rfl, hb1⟩
      have HB1 : Hid (Below w.heap.size w w1) := HB.out.trans (hb1.mono hsz)
      clear hb1 X1 c0 c1 c2 cB
      cases hx : (decide (st = 1) && decide (7 < ct)) with
      | true =>
        rw [hx] at S
        clear hx
        go_wp2
        go_roundw
        case rel => exact ⟨j + 1, by omega, by go_num, by rw [S.out]; go_num, HB1.out⟩
        case measure => simp [intOf]; omega
      | false =>
        rw [hx] at S
        clear hx
        go_wp2
        go_roundw
        case rel => exact ⟨j + 1, by omega, by go_num, by rw [S.out]; go_num, HB1.out⟩
        case measure => simp [intOf]; omega
    · obtain rfl : j = N := by omega
      have HC : Hid (k = countTo s.extra j) := hk
      clear hk hobj
      go_wp2
      go_ret
      exact ⟨ret_int (by rw [HC.out]), HB.out⟩

/-- of the blocks: in that state -/
def HeapM.inB (m : HeapM) (st : Int) (i : Nat) : Bool := match m.blks[i]? with
  | some o => decide (o.state = st)
  | none => false

set_option maxHeartbeats 800000 in
theorem inState_any {but : Int} {h : Nat} {w : World} {m : HeapM} {s : St} {c : Cf} {N : Nat} (p : HB but h w m s c N) (x : Int) :
    Calls Tryz.prog 56 #[.pointer (some ⟨h, 0, none⟩), .int .i64 x] w fun e w' => e = .returned (.int .i64 (countTo (m.inB x) N)) ∧ w' = w := by
  obtain ⟨g, cap, cB, hg, hobj⟩ := p.cells
  have hN := p.small
  have C : Hid (∀ i, i ≤ N → ∃ st, decide (st = x) = m.inB x i ∧ w.cell? ⟨g, i * 3, none⟩ = some (.int .i64 st)) := fun i hi => by
    obtain ⟨o, ao, fl, fc, ho, _, _, c0, c1, c2⟩ := hobj i hi
    exact ⟨o.state, by unfold HeapM.inB; rw [ho], c0⟩
  clear p hobj
  go_enter Tryz.func56, Tryz.ntmps56
  go_wp2
  go_loop [5, 6] (fun n i => ∃ j : Nat, j ≤ N ∧ i = .int .i64 (j + 1) ∧ n = .int .i64 (countTo (m.inB x) j)) (fun _ i => N + 1 - (intOf i).toNat)
  case atStart => exact ⟨0, Nat.zero_le _, rfl, rfl⟩
  case round =>
    obtain ⟨j, hj, rfl, rfl⟩ := hrel
    have hle := countTo_le (m.inB x) j
    obtain ⟨k, hk⟩ : ∃ k, k = countTo (m.inB x) j := ⟨_, rfl⟩
    rw [← hk] at hle ⊢
    by_cases hlt : j < N
    · obtain ⟨st, ho, c0⟩ := C.out (j + 1) (by omega)
      have S : Hid (countTo (m.inB x) (j + 1) = k + if decide (st = x) then 1 else 0) := by rw [hk, ho]; exact countTo_succ _ _
      clear hk ho
      by_cases hx : st = x
      · subst hx
        have S2 : Hid (countTo (m.inB st) (j + 1) = k + 1) := by have := S.out; simp at this; exact this
        clear S
        go_wp2
        go_round
        case rel => exact ⟨j + 1, by omega, by go_num, by rw [S2.out]; go_num⟩
        case measure => simp [intOf]; omega
      · have S2 : Hid (countTo (m.inB x) (j + 1) = k) := by have := S.out; simp [hx] at this; exact this
        have hx2 : (st == x) = false := by simpa using hx
        clear S
        go_wp2
        go_round
        case rel => exact ⟨j + 1, by omega, by go_num, by rw [S2.out]⟩
        case measure => simp [intOf]; omega
    · obtain rfl : j = N := by omega
      have HC : Hid (k = countTo (m.inB x) j) := hk
      clear hk
      go_wp2
      go_ret
      exact ⟨ret_int (by rw [HC.out]), rfl⟩

set_option maxHeartbeats 800000 in
theorem hasValue_any (v : Value) (l : List (Int × Int)) (x : Int × Int) (w : World) (ho : w.ownsRow 0 81 2 v l.length (l.flatMap valCells)) (hn : l.length ≤ 1000) :
    Calls Tryz.prog 97 #[v, .agg #[.int .i64 x.1, .int .i64 x.2]] w fun e w' => e = .returned (.bool (decide (x ∈ l))) ∧ Below w.heap.size w w' := by
  obtain ⟨ao, cap, hv⟩ := own_slice ho
  have C : Hid (∀ k (hk : k < l.length), ∃ g, ao = some ⟨g, 0, none⟩ ∧ ∀ wr, Below w.heap.size w wr → wr.cell? ⟨g, k * 2, none⟩ = some (.int .i64 (l[k]).1) ∧ wr.cell? ⟨g, k * 2 + 1, none⟩ = some (.int .i64 (l[k]).2)) := fun k hk => by
    obtain ⟨g, cap', hv', hg, _, _, hcell, _⟩ := own_view ho (by omega)
    rw [hv] at hv'
    simp at hv'
    refine ⟨g, hv'.1, fun wr hb => ⟨(hb.cell (p := ⟨g, _, none⟩) hg).trans (hcell _ _ ?_), (hb.cell (p := ⟨g, _, none⟩) hg).trans (hcell _ _ ?_)⟩⟩
    · have := flat_get valCells 2 (fun _ => rfl) l k 0 (by decide); simpa [hk, valCells] using this
    · have := flat_get valCells 2 (fun _ => rfl) l k 1 (by decide); simpa [hk, valCells] using this
  have SV : Hid (∀ (a b : Int × Int) W, Calls Tryz.prog 77 #[.agg #[.int .i64 a.1, .int .i64 a.2], .agg #[.int .i64 b.1, .int .i64 b.2]] W fun e w' => e = .returned (.bool (decide (a = b))) ∧ Below W.heap.size W w') := sameValue_any
  subst hv
  obtain ⟨len, hlen⟩ : ∃ len, l.length = len := ⟨_, rfl⟩
  rw [hlen] at hn ⊢
  have L : Hid (l.length = len) := hlen
  obtain ⟨x1, x2⟩ := x
  clear hlen ho
  simp only
  go_enter Tryz.func97, Tryz.ntmps97
  go_wp2
  go_loopw [5] (fun i wr => ∃ k : Nat, k ≤ len ∧ i = .int .i64 k ∧ (∀ y ∈ l.take k, y ≠ (x1, x2)) ∧ Below w.heap.size w wr ∧ wr.heap[w.heap.size]? = some (.cells #[.int .i64 x1, .int .i64 x2] 81)) (fun i _ => len - (intOf i).toNat)
  case atStart => exact ⟨0, Nat.zero_le _, rfl, fun y hy => by simp at hy, (Below.refl _ _).alloc (Nat.le_refl _) _, heap_alloc_new w _⟩
  case round =>
    obtain ⟨k, hk, rfl, hno, hb, hbox⟩ := hrel
    have NO : Hid (∀ y ∈ l.take k, y ≠ (x1, x2)) := hno
    have B : Hid (Below w.heap.size w wr ∧ wr.heap[w.heap.size]? = some (.cells #[.int .i64 x1, .int .i64 x2] 81)) := ⟨hb, hbox⟩
    have b0 : wr.cell? ⟨w.heap.size, 0, none⟩ = some (.int .i64 x1) := cell_of_heap hbox rfl
    have b1 : wr.cell? ⟨w.heap.size, 1, none⟩ = some (.int .i64 x2) := cell_of_heap hbox rfl
    have hsz := hb.size
    have hsz1 := lt_of_heap hbox
    clear hno hbox
    by_cases hlt : k < len
    · have hk' : k < l.length := by rw [L.out]; exact hlt
      obtain ⟨g, rfl, hc⟩ := C.out k hk'
      obtain ⟨c0, c1⟩ := hc wr hb
      obtain ⟨y, hy⟩ : ∃ y, y = l[k] := ⟨_, rfl⟩
      rw [← hy] at c0 c1
      have Y : Hid (l.take (k + 1) = l.take k ++ [y]) := by show l.take (k + 1) = _; rw [hy]; exact take_snoc l k hk'
      have YM : Hid (y ∈ l) := by show y ∈ l; rw [hy]; exact List.getElem_mem hk'
      obtain ⟨y1, y2⟩ := y
      simp only at c0 c1
      have S1 : Hid (∀ W, Calls Tryz.prog 77 #[.agg #[.int .i64 y1, .int .i64 y2], .agg #[.int .i64 x1, .int .i64 x2]] W fun e w' => e = .returned (.bool (decide ((y1, y2) = (x1, x2)))) ∧ Below W.heap.size W w') := SV.out (y1, y2) (x1, x2)
      clear hc hb hy
      have YN : Hid (¬ ((y1, y2) : Int × Int) = (x1, x2) → ∀ y ∈ l.take (k + 1), y ≠ (x1, x2)) := fun hx y hy => by
        rw [Y.out] at hy
        rcases List.mem_append.1 hy with e | e
        · exact NO.out y e
        · rw [List.mem_singleton.1 e]; exact hx
      have YY : Hid (((y1, y2) : Int × Int) = (x1, x2) → decide ((x1, x2) ∈ l) = true) := fun hx => by have := YM.out; rw [hx] at this; simpa using this
      have BB : Hid (∀ w1, Below wr.heap.size wr w1 → Below w.heap.size w w1 ∧ w1.heap[w.heap.size]? = some (.cells #[.int .i64 x1, .int .i64 x2] 81)) := fun w1 hb1 => ⟨B.out.1.trans (hb1.mono hsz), by rw [hb1.block _ hsz1]; exact B.out.2⟩
      obtain ⟨sv, hsv⟩ : ∃ sv, decide (((y1, y2) : Int × Int) = (x1, x2)) = sv := ⟨_, rfl⟩
      rw [hsv] at S1
      cases sv with
      | true =>
        have FF : Hid (decide ((x1, x2) ∈ l) = true) := YY.out (by simpa using hsv)
        clear hsv YY YN NO Y YM
        go_wp2_with fail
        go_region_with (go_at_call 77; refine Calls.mono (S1.out _) ?_; rintro e w1 ⟨rfl, hb1⟩; have B1 : Hid _ := BB.out w1 ((Below.refl _ _).drew.trans hb1); clear hb1)
        all_goals go_wp2
        all_goals go_ret
        all_goals exact ⟨ret_bool FF.out.symm, B1.out.1⟩
      | false =>
        have FF : Hid _ := YN.out (by simpa using hsv)
        clear hsv YY YN NO Y YM
        go_wp2_with fail
        go_region_with (go_at_call 77; refine Calls.mono (S1.out _) ?_; rintro e w1 ⟨rfl, hb1⟩; have B1 : Hid _ := BB.out w1 ((Below.refl _ _).drew.trans hb1); clear hb1)
        all_goals go_wp2
        all_goals go_roundw
        all_goals first
          | exact ⟨k + 1, by omega, by go_num, FF.out, B1.out.1, B1.out.2⟩
          | (simp [intOf]; omega)
    · obtain rfl : k = len := by omega
      have FF : Hid (decide ((x1, x2) ∈ l) = false) := by
        have := NO.out
        rw [List.take_of_length_le (by rw [L.out]; exact Nat.le_refl _)] at this
        simp
        intro e; exact this _ e rfl
      clear hb
      go_wp2
      go_ret
      exact ⟨ret_bool FF.out.symm, B.out.1⟩

end Go.Proofs.YteekoiljkklnmaaGreatDoor

/- OUR OWN. The document's heap without memory: no more wait than may, no more have extras. -/
namespace Go.Proofs.YteekoiljkklnmaaGreatDoor
set_option linter.unusedVariables false
set_option linter.unusedSimpArgs false

def waitN (s : St) : Nat := countTo s.waits s.N
/-- within the configuration; the roots are fewer than may wait -/
structure Bound (c : Cf) (s : St) : Prop where
  waits : (waitN s : Int) ≤ c.zero
  extras : (s.extras : Int) ≤ c.over
  roots : (s.stack.length : Int) ≤ c.deep
  zero : c.deep + s.globals.length < c.zero

/-! ### What waits, behind a sorting -/
theorem waits_congr {s t : St} {b : Nat} (h : t.ob b = s.ob b) (hc : t.count b = s.count b) : t.waits b = s.waits b := by unfold St.waits; rw [h, hc]
theorem waits_enq {s : St} {i : Nat} (hi : i < s.objs.length) (b : Nat) : (s.enq i).waits b = if b = i then false else s.waits b := by
  by_cases e : b = i
  · rw [if_pos e]
    unfold St.waits
    rw [ob_enq b hi, if_pos e]; simp
  · rw [if_neg e]
    exact waits_congr (by rw [ob_enq b hi, if_neg e]) (count_enq s i b)
theorem sort_N (but : Int) (s : St) (k : Nat) : (sortTo but s k).N = s.N := (sh_sortTo but s k).1
theorem sortTo_root (but : Int) (s : St) (k : Nat) (b : Int) : (sortTo but s k).rooted b = s.rooted b := by
  obtain ⟨e1, e2, _⟩ := sortTo_same but s k
  unfold St.rooted; rw [e1, e2]
theorem sortTo_waits (but : Int) (s : St) (k b : Nat) : (sortTo but s k).waits b = (s.waits b && (decide (k < b) || decide (b = 0) || s.rooted b || decide ((b : Int) = but))) := by
  induction k with
  | zero =>
    have : (decide (0 < b) || decide (b = 0)) = true := by simp; omega
    show s.waits b = _
    rw [this]; simp
  | succ k ih =>
    unfold sortTo
    split
    · rename_i h
      obtain ⟨w1, w2, w3⟩ := sorts_iff.1 h
      have hl := here_lt (waits_iff.1 w1).1.1
      rw [waits_enq hl]
      by_cases e : b = k + 1
      · rw [if_pos e]
        subst e
        rw [sortTo_root] at w2
        rw [w2]
        have : decide (((k + 1 : Nat) : Int) = but) = false := by simpa using w3
        rw [this]; simp
      · rw [if_neg e, ih]
        have : decide (k + 1 < b) = decide (k < b) := decide_eq_decide.2 (by omega)
        rw [this]
    · rename_i h
      rw [ih]
      by_cases e : b = k + 1
      · subst e
        have hs : (sortTo but s k).waits (k + 1) = s.waits (k + 1) := by rw [ih]; simp
        have h' : ¬ ((sortTo but s k).waits (k + 1) = true ∧ (sortTo but s k).rooted ((k + 1 : Nat) : Int) = false ∧ ((k + 1 : Nat) : Int) ≠ but) := fun hh => h (sorts_iff.2 hh)
        rw [hs, sortTo_root] at h'
        cases ew : s.waits (k + 1) with
        | false => rfl
        | true =>
          cases er : s.rooted ((k + 1 : Nat) : Int) with
          | true => simp
          | false =>
            have : ((k + 1 : Nat) : Int) = but := Classical.byContradiction fun hb => h' ⟨ew, er, hb⟩
            simp [this]
      · have : decide (k + 1 < b) = decide (k < b) := decide_eq_decide.2 (by omega)
        rw [this]
theorem sort_waits {but : Int} {s : St} {b : Nat} (h1 : 1 ≤ b) (h2 : b ≤ s.N) : (s.sort but).waits b = (s.waits b && (s.rooted b || decide ((b : Int) = but))) := by
  unfold St.sort
  rw [sortTo_waits]
  have e1 : decide (s.N < b) = false := by simp; omega
  have e2 : decide (b = 0) = false := by simp; omega
  rw [e1, e2]; simp

/-! ### The roots are few -/
theorem countTo_or {p q r : Nat → Bool} {k : Nat} (h : ∀ b, p b = true → q b = true ∨ r b = true) : countTo p k ≤ countTo q k + countTo r k := by
  induction k with
  | zero => simp [countTo]
  | succ k ih =>
    rw [countTo_succ, countTo_succ, countTo_succ]
    cases e : p (k + 1) with
    | false => simp; omega
    | true =>
      rcases h _ e with e2 | e2
      · rw [e2]; simp; omega
      · rw [e2]; simp; omega
theorem countTo_eq_le (x : Int) (k : Nat) : countTo (fun b => decide ((b : Int) = x)) k ≤ 1 := by
  have : ∀ k, countTo (fun b => decide ((b : Int) = x)) k ≤ if (k : Int) < x then 0 else 1 := fun k => by
    induction k with
    | zero => simp [countTo]
    | succ k ih =>
      rw [countTo_succ]
      by_cases e : ((k + 1 : Nat) : Int) = x
      · rw [if_pos (by simpa using e), if_neg (by omega)]
        rw [if_pos (by omega)] at ih
        omega
      · rw [if_neg (by simpa using e)]
        by_cases h : ((k + 1 : Nat) : Int) < x
        · rw [if_pos h]; rw [if_pos (by omega)] at ih; omega
        · rw [if_neg h]; have : (if (k : Int) < x then 0 else 1) ≤ 1 := by split <;> omega
          omega
  have h := this k
  have : (if (k : Int) < x then 0 else 1) ≤ 1 := by split <;> omega
  omega
theorem countTo_refs (l : List (Int × Int)) (k : Nat) : countTo (fun b => decide (0 < refsN l b)) k ≤ l.length := by
  induction l with
  | nil =>
    have : countTo (fun b => decide (0 < refsN ([] : List (Int × Int)) b)) k = 0 := by
      unfold countTo
      exact List.countP_eq_zero.2 fun j _ => by simp [refsN]
    omega
  | cons v l ih =>
    have := countTo_or (p := fun b : Nat => decide (0 < refsN (v :: l) b)) (q := fun b : Nat => decide (0 < refsN l b)) (r := fun b : Nat => decide ((b : Int) = v.2)) (k := k) (fun b hb => by
      simp only [decide_eq_true_eq] at hb ⊢
      rw [refs_cons] at hb
      by_cases e : 0 < refsN l b
      · exact .inl e
      · right
        have : isRef v b ≠ 0 := by omega
        unfold isRef at this
        have hh : v.1 = 2 ∧ v.2 = (b : Int) := Classical.byContradiction fun hn => this (if_neg hn)
        exact hh.2.symm)
    have h2 := countTo_eq_le v.2 k
    rw [List.length_cons]
    omega
theorem countTo_rooted (s : St) (k : Nat) : countTo (fun b => s.rooted b) k ≤ s.stack.length + s.globals.length := by
  have := countTo_or (p := fun b : Nat => s.rooted b) (q := fun b : Nat => decide (0 < refsN s.stack b)) (r := fun b : Nat => decide (0 < refsN s.globals b)) (k := k) (fun b hb => by
    unfold St.rooted at hb
    simp only [decide_eq_true_eq] at hb ⊢
    omega)
  have h1 := countTo_refs s.stack k
  have h2 := countTo_refs s.globals k
  omega
theorem waitN_sort (but : Int) (s : St) : waitN (s.sort but) ≤ s.stack.length + s.globals.length + 1 := by
  unfold waitN
  have eN : (s.sort but).N = s.N := sort_N but s s.N
  rw [eN]
  have e : countTo (s.sort but).waits s.N = countTo (fun b => s.waits b && (s.rooted b || decide ((b : Int) = but))) s.N := countTo_congr fun b h1 h2 => sort_waits h1 h2
  have := countTo_or (p := fun b : Nat => s.waits b && (s.rooted b || decide ((b : Int) = but))) (q := fun b : Nat => s.rooted b) (r := fun b : Nat => decide ((b : Int) = but)) (k := s.N) (fun b hb => by
    simp only [Bool.and_eq_true, Bool.or_eq_true] at hb
    exact hb.2)
  have h1 := countTo_rooted s s.N
  have h2 := countTo_eq_le but s.N
  omega
theorem waitN_sort0 (s : St) : waitN (s.sort 0) ≤ s.stack.length + s.globals.length := by
  unfold waitN
  have eN : (s.sort 0).N = s.N := sort_N 0 s s.N
  rw [eN]
  have e : countTo (s.sort 0).waits s.N = countTo (fun b => s.waits b && s.rooted b) s.N := countTo_congr fun b h1 h2 => by
    rw [sort_waits h1 h2]
    have : decide ((b : Int) = 0) = false := by simp; omega
    rw [this]; simp
  have := countTo_mono (p := fun b : Nat => s.waits b && s.rooted b) (q := fun b : Nat => s.rooted b) (fun b hb => by simp only [Bool.and_eq_true] at hb; exact hb.2) s.N
  have h1 := countTo_rooted s s.N
  omega
/-- an object is to wait: behind it no more wait than may -/
theorem waitN_enter (z but : Int) (s : St) (hz : (s.stack.length : Int) + s.globals.length < z) : (waitN (s.enter z but) : Int) ≤ z := by
  unfold St.enter
  split
  · have := waitN_sort but s; omega
  · rename_i h
    have h1 := countTo_or (p := s.waits) (q := s.others but) (r := fun b => decide ((b : Int) = but)) (k := s.N) (fun b hb => by
      unfold St.others
      by_cases e : (b : Int) = but
      · right; simpa using e
      · left; rw [hb]; simpa using e)
    have h2 := countTo_eq_le but s.N
    unfold waitN
    omega

end Go.Proofs.YteekoiljkklnmaaGreatDoor

/- OUR OWN. The document's heap without memory: the configuration's bounds hold behind every call. -/
namespace Go.Proofs.YteekoiljkklnmaaGreatDoor
set_option linter.unusedVariables false
set_option linter.unusedSimpArgs false

theorem waitN_le {s t : St} (hN : t.N = s.N) (h : ∀ b, 1 ≤ b → b ≤ s.N → t.waits b = true → s.waits b = true) : waitN t ≤ waitN s := by
  unfold waitN
  rw [hN, countTo_congr (p := t.waits) (q := fun b => t.waits b && s.waits b) (fun b h1 h2 => by
    cases e : t.waits b with
    | false => rfl
    | true => rw [h b h1 h2 e]; rfl)]
  exact countTo_mono (fun b hb => by simp only [Bool.and_eq_true] at hb; exact hb.2) _
theorem extras_le {s t : St} (hN : t.N = s.N) (h : ∀ b, 1 ≤ b → b ≤ s.N → t.extra b = true → s.extra b = true) : t.extras ≤ s.extras := by
  unfold St.extras
  rw [hN, countTo_congr (p := t.extra) (q := fun b => t.extra b && s.extra b) (fun b h1 h2 => by
    cases e : t.extra b with
    | false => rfl
    | true => rw [h b h1 h2 e]; rfl)]
  exact countTo_mono (fun b hb => by simp only [Bool.and_eq_true] at hb; exact hb.2) _
theorem extra_iff {s : St} {b : Nat} : s.extra b = true ↔ (s.ob b).here = true ∧ (s.ob b).stuck = false ∧ 7 < s.count b := by
  unfold St.extra
  simp
  exact and_assoc
/-- but for the queue's flags the objects are the same -/
def alikeO (o o' : Ob) : Prop := o'.here = o.here ∧ o'.stuck = o.stuck
theorem enq_alike (s : St) (i b : Nat) : alikeO (s.ob b) ((s.enq i).ob b) := by
  by_cases hi : i < s.objs.length
  · rw [ob_enq b hi]
    by_cases e : b = i
    · rw [if_pos e, e]; exact ⟨rfl, rfl⟩
    · rw [if_neg e]; exact ⟨rfl, rfl⟩
  · have : (s.enq i).ob b = s.ob b := by
      show (s.put i { s.ob i with queued := true }).ob b = s.ob b
      rw [put_out _ hi]
    rw [this]; exact ⟨rfl, rfl⟩
theorem sortTo_alike (but : Int) (s : St) (k b : Nat) : alikeO (s.ob b) ((sortTo but s k).ob b) := by
  induction k with
  | zero => exact ⟨rfl, rfl⟩
  | succ k ih =>
    unfold sortTo
    split
    · have := enq_alike (sortTo but s k) (k + 1) b
      exact ⟨this.1.trans ih.1, this.2.trans ih.2⟩
    · exact ih
theorem extras_sortTo (but : Int) (s : St) (k : Nat) : (sortTo but s k).extras ≤ s.extras :=
  extras_le (sort_N but s k) fun b _ _ hb => by
    obtain ⟨h1, h2, h3⟩ := extra_iff.1 hb
    obtain ⟨e1, e2⟩ := sortTo_alike but s k b
    rw [count_sortTo] at h3
    exact extra_iff.2 ⟨by rw [← e1]; exact h1, by rw [← e2]; exact h2, h3⟩
theorem extras_enter (z but : Int) (s : St) : (s.enter z but).extras ≤ s.extras := by
  unfold St.enter
  split
  · exact extras_sortTo but s _
  · exact Nat.le_refl _
theorem enter_roots (z but : Int) (s : St) : (s.enter z but).stack = s.stack ∧ (s.enter z but).globals = s.globals := ⟨(enter_same z but s).1, (enter_same z but s).2.1⟩
/-- only roots are turned -/
theorem Bound.roots' {c : Cf} {s t : St} (h : Bound c s) (ho : t.objs = s.objs) (h1 : (t.stack.length : Int) ≤ c.deep) (h2 : t.globals.length = s.globals.length) : Bound c t := by
  have eo : ∀ b, t.ob b = s.ob b := fun b => by unfold St.ob; rw [ho]
  have ec : ∀ b, t.count b = s.count b := fun b => by unfold St.count; rw [ho]
  have eN : t.N = s.N := by unfold St.N; rw [ho]
  have e1 : waitN t ≤ waitN s := waitN_le eN fun b _ _ hb => by rw [← waits_congr (eo b) (ec b)]; exact hb
  have e2 : t.extras ≤ s.extras := extras_le eN fun b _ _ hb => by
    obtain ⟨a1, a2, a3⟩ := extra_iff.1 hb
    rw [eo] at a1 a2; rw [ec] at a3
    exact extra_iff.2 ⟨a1, a2, a3⟩
  have := h.waits; have := h.extras
  exact ⟨by omega, by omega, h1, by rw [h2]; exact h.zero⟩
theorem Bound.slack {c : Cf} {s : St} (h : Bound c s) : (s.stack.length : Int) + s.globals.length < c.zero := by have := h.roots; have := h.zero; omega

/-- the old value of a field that becomes v: what may wait now is what waited, or the old value's object -/
theorem field_waits {s : St} {N : Nat} (g : s.Good N) {i k : Nat} (hk : k < (s.ob i).fs.length) (v : Int × Int) {b : Nat} (hb : (s.field i k v).waits b = true) :
    s.waits b = true ∨ (((s.ob i).fs.getD k (0, 0)).1 = 2 ∧ ((s.ob i).fs.getD k (0, 0)).2 = b) := by
  obtain ⟨h1, h2, h3⟩ := waits_iff.1 hb
  have hc := count_field g hk v b
  by_cases e : ((s.ob i).fs.getD k (0, 0)).1 = 2 ∧ ((s.ob i).fs.getD k (0, 0)).2 = b
  · exact .inr e
  · have e0 : isRef ((s.ob i).fs.getD k (0, 0)) b = 0 := if_neg e
    left
    have ha : s.alive b := (alive_put (s := s) (i := i) (o := { s.ob i with fs := (s.ob i).fs.set k v }) rfl rfl b).1 h1
    refine waits_iff.2 ⟨ha, ?_, by omega⟩
    have hl : i < s.objs.length := by
      by_cases hi : i < s.objs.length
      · exact hi
      · exfalso
        cases eh : (s.ob i).here with
        | true => exact hi (here_lt eh)
        | false => rw [g.gone i eh] at hk; simp [Ob.free] at hk
    have : ((s.field i k v).ob b).stuck = (s.ob b).stuck := by
      unfold St.field
      rw [ob_put _ b hl]
      by_cases e2 : b = i
      · rw [if_pos e2, e2]
      · rw [if_neg e2]
    rw [← this]; exact h2
theorem field_ob {s : St} {i k : Nat} {v : Int × Int} (b : Nat) : ((s.field i k v).ob b).here = (s.ob b).here ∧ ((s.field i k v).ob b).stuck = (s.ob b).stuck ∧ ((s.field i k v).ob b).queued = (s.ob b).queued := by
  by_cases hi : i < s.objs.length
  · unfold St.field
    rw [ob_put _ b hi]
    by_cases e : b = i
    · rw [if_pos e, e]; exact ⟨rfl, rfl, rfl⟩
    · rw [if_neg e]; exact ⟨rfl, rfl, rfl⟩
  · unfold St.field
    rw [put_out _ hi]; exact ⟨rfl, rfl, rfl⟩
theorem field_N (s : St) (i k : Nat) (v : Int × Int) : (s.field i k v).N = s.N := put_N s i _
/-- a field becomes nil: no extra more -/
theorem nil_extras {s : St} {N : Nat} (g : s.Good N) {i k : Nat} (hk : k < (s.ob i).fs.length) : (s.field i k (0, 0)).extras ≤ s.extras :=
  extras_le (field_N s i k _) fun b _ _ hb => by
    obtain ⟨h1, h2, h3⟩ := extra_iff.1 hb
    obtain ⟨e1, e2, _⟩ := field_ob (s := s) (i := i) (k := k) (v := (0, 0)) b
    have hc := count_field g hk (0, 0) b
    rw [isRef_nil] at hc
    exact extra_iff.2 ⟨by rw [← e1]; exact h1, by rw [← e2]; exact h2, by omega⟩

theorem Bound.letGo {c : Cf} {s : St} {N : Nat} (h : Bound c s) (g : s.Good N) {b k : Nat} (hk : k < (s.ob b).fs.length) : Bound c (letGo c.zero b k s) := by
  have g1 : (s.field b k (0, 0)).Good N := g.setField b k (.inl rfl)
  have hx := nil_extras g hk
  have hz := h.slack
  have hw := h.waits
  have he := h.extras
  -- nothing more waits, if the old value's object does not
  have W : ((s.field b k (0, 0)).waits ((s.ob b).fs.getD k (0, 0)).2.toNat = true → ((s.ob b).fs.getD k (0, 0)).1 = 2 → False) → waitN (s.field b k (0, 0)) ≤ waitN s := fun hn => waitN_le (field_N s b k _) fun x _ _ hxw => by
    rcases field_waits g hk (0, 0) hxw with e | ⟨e1, e2⟩
    · exact e
    · exact absurd hxw (fun hh => hn (by rw [e2, Int.toNat_natCast]; exact hh) e1)
  unfold YteekoiljkklnmaaGreatDoor.letGo
  split
  · rename_i hr
    have := W fun _ e => hr e
    exact ⟨by omega, by omega, h.roots, h.zero⟩
  · rename_i hr
    have hr2 : ((s.ob b).fs.getD k (0, 0)).1 = 2 := by omega
    obtain ⟨j, hj, ha⟩ := leads_ref (leads_put (s := s) (i := b) (o := { s.ob b with fs := (s.ob b).fs.set k (0, 0) }) rfl rfl (leads_getD (g.fields b) k)) hr2
    split
    · rename_i hc
      rw [hj, Int.toNat_natCast] at hc
      have := W fun hw2 _ => by
        rw [hj, Int.toNat_natCast] at hw2
        obtain ⟨_, w2, w3⟩ := waits_iff.1 hw2
        rcases hc with hc | hc
        · omega
        · rw [w2] at hc; cases hc
      exact ⟨by omega, by omega, h.roots, h.zero⟩
    · split
      · have h1 := waitN_enter c.zero ((s.ob b).fs.getD k (0, 0)).2 (s.field b k (0, 0)) hz
        have h2 := extras_enter c.zero ((s.ob b).fs.getD k (0, 0)).2 (s.field b k (0, 0))
        obtain ⟨r1, r2⟩ := enter_roots c.zero ((s.ob b).fs.getD k (0, 0)).2 (s.field b k (0, 0))
        exact ⟨h1, by omega, by rw [r1]; exact h.roots, by rw [r2]; exact h.zero⟩
      · rw [hj, Int.toNat_natCast]
        have hl : j < (s.field b k (0, 0)).objs.length := here_lt ha.1
        have h1 : waitN ((s.field b k (0, 0)).enq j) ≤ waitN s := waitN_le ((sh_enq _ j).1.trans (field_N s b k _)) fun x _ _ hxw => by
          rw [waits_enq hl] at hxw
          by_cases e : x = j
          · rw [if_pos e] at hxw; cases hxw
          · rw [if_neg e] at hxw
            rcases field_waits g hk (0, 0) hxw with e2 | ⟨_, e2⟩
            · exact e2
            · exact absurd (by omega : x = j) e
        have h2 : ((s.field b k (0, 0)).enq j).extras ≤ (s.field b k (0, 0)).extras := extras_le (sh_enq _ j).1 fun x _ _ hxe => by
          obtain ⟨a1, a2, a3⟩ := extra_iff.1 hxe
          obtain ⟨e1, e2⟩ := enq_alike (s.field b k (0, 0)) j x
          rw [count_enq] at a3
          exact extra_iff.2 ⟨by rw [← e1]; exact a1, by rw [← e2]; exact a2, a3⟩
        exact ⟨by omega, by omega, h.roots, h.zero⟩
theorem Bound.letTo {c : Cf} {s : St} {N : Nat} (h : Bound c s) (g : s.Good N) {b : Nat} (hq : (s.ob b).queued = true) (k : Nat) (hk : k ≤ (s.ob b).fs.length) : Bound c (letTo c.zero b s k) := by
  induction k with
  | zero => exact h
  | succ k ih =>
    have := ih (by omega)
    obtain ⟨_, h2, _, _⟩ := letTo_ob (z := c.zero) g hq k
    exact this.letGo (g.letTo c.zero b k) (by rw [h2]; omega)
theorem Bound.freed {c : Cf} {s : St} {N : Nat} (h : Bound c s) (g : s.Good N) (hq : s.queue.length ≠ 0) : Bound c (s.free c.zero) := by
  have hqd := g.first_queued hq
  have hz := g.ne_zero (g.queued_here hqd)
  have b1 := h.letTo g hqd (s.ob s.first).fs.length (Nat.le_refl _)
  have g1 := g.letTo c.zero s.first (s.ob s.first).fs.length
  have hl : s.first < (YteekoiljkklnmaaGreatDoor.letTo c.zero s.first s (s.ob s.first).fs.length).objs.length := by rw [g1.len]; omega
  have eo : ∀ x, (s.free c.zero).ob x = if x = s.first then Ob.free else (YteekoiljkklnmaaGreatDoor.letTo c.zero s.first s (s.ob s.first).fs.length).ob x := fun x => getD_set _ _ _ _ hl
  have ec := count_free (z := c.zero) g hq
  have eN : (s.free c.zero).N = (YteekoiljkklnmaaGreatDoor.letTo c.zero s.first s (s.ob s.first).fs.length).N := by rw [(g.freed c.zero hq).sN, g1.sN]
  have e1 : waitN (s.free c.zero) ≤ waitN (YteekoiljkklnmaaGreatDoor.letTo c.zero s.first s (s.ob s.first).fs.length) := waitN_le eN fun x _ _ hx => by
    obtain ⟨a1, a2, a3⟩ := waits_iff.1 hx
    unfold St.alive at a1
    rw [eo] at a1 a2
    by_cases e : x = s.first
    · rw [if_pos e] at a1; cases a1.1
    · rw [if_neg e] at a1 a2
      rw [ec] at a3
      exact waits_iff.2 ⟨a1, a2, a3⟩
  have e2 : (s.free c.zero).extras ≤ (YteekoiljkklnmaaGreatDoor.letTo c.zero s.first s (s.ob s.first).fs.length).extras := extras_le eN fun x _ _ hx => by
    obtain ⟨a1, a2, a3⟩ := extra_iff.1 hx
    rw [eo] at a1 a2
    by_cases e : x = s.first
    · rw [if_pos e] at a1; cases a1
    · rw [if_neg e] at a1 a2
      rw [ec] at a3
      exact extra_iff.2 ⟨a1, a2, a3⟩
  have := b1.waits; have := b1.extras
  exact ⟨by omega, by omega, b1.roots, b1.zero⟩
theorem Bound.sorted {c : Cf} {s : St} (h : Bound c s) (but : Int) : Bound c (s.sort but) := by
  have h1 := waitN_sort but s
  have h2 := extras_sortTo but s s.N
  have hz := h.slack
  have he := h.extras
  obtain ⟨r1, r2, _⟩ := sortTo_same but s s.N
  exact ⟨by omega, by show ((sortTo but s s.N).extras : Int) ≤ c.over; omega, by show ((sortTo but s s.N).stack.length : Int) ≤ c.deep; rw [r1]; exact h.roots, by show c.deep + ((sortTo but s s.N).globals.length : Int) < c.zero; rw [r2]; exact h.zero⟩
theorem Bound.safeN {c : Cf} {N : Nat} (k : Nat) : ∀ {s : St}, Bound c s → s.Good N → Bound c (safeN c.zero k s).1 := by
  induction k with
  | zero => intro s h g; exact h
  | succ k ih =>
    intro s h g
    unfold YteekoiljkklnmaaGreatDoor.safeN
    split
    · exact h
    · rename_i hq; exact ih (h.freed g hq) (g.freed c.zero hq)
theorem Bound.safe {c : Cf} {s : St} {N : Nat} (h : Bound c s) (g : s.Good N) : Bound c (s.safe c).1 := Bound.safeN _ (h.sorted 0) (g.sort 0)

end Go.Proofs.YteekoiljkklnmaaGreatDoor

/- OUR OWN. The document's heap without memory: the configuration's bounds, behind a collection and behind an operation. -/
namespace Go.Proofs.YteekoiljkklnmaaGreatDoor
set_option linter.unusedVariables false
set_option linter.unusedSimpArgs false

/-! ### A collection -/
theorem count_map {s t : St} (h : t.objs.map (fun o => (o.here, o.fs)) = s.objs.map (fun o => (o.here, o.fs))) (b : Int) : t.count b = s.count b := by
  unfold St.count
  have e : ∀ l : List Ob, l.map (obCount b) = (l.map (fun o => (o.here, o.fs))).map (fun p => if p.1 then refsN p.2 b else 0) := fun l => by rw [List.map_map]; rfl
  rw [List.map_tail, List.map_tail, e, e, h]
theorem count_restuck (s : St) (over b : Int) : (s.restuck over).count b = s.count b := by
  refine count_map (List.ext_getElem? fun i => ?_) b
  unfold St.restuck
  rw [List.getElem?_map, List.getElem?_mapIdx, List.getElem?_map]
  cases s.objs[i]? with
  | none => rfl
  | some o =>
    simp only [Option.map_some]
    congr 1
    unfold stuckOb
    split <;> rfl
/-- a reachable object that no field has, a root has -/
theorem collect_root {s : St} {N : Nat} (g : s.Good N) (over : Int) {b : Nat} (hr : s.reachB b = true) (hc : (s.collect over).count b = 0) : s.rooted b = true := by
  have gc := g.collect over
  have sm := same_collect g over
  have := reach_least (s := s) (P := fun b => s.reachB b = true ∧ (s.rooted b = true ∨ 0 < (s.collect over).count b)) (fun b b1 b2 h => ⟨reach_rooted b1 b2 h, .inl h⟩) (fun a b ha a1 a2 b1 b2 h => ⟨reach_closed ha.1 b1 b2 h, .inr ?_⟩) hr
  · rcases this.2 with h | h
    · exact h
    · omega
  · obtain ⟨v, hv, h1, h2⟩ := refs_some h
    rw [← sm.fs a ha.1] at hv
    have := gc.counts hv h1
    rw [h2] at this; exact this
theorem countTo_first (p : Nat → Bool) (m : Nat) (k : Nat) : countTo (fun b => p b && decide (countTo p (b - 1) < m)) k = min (countTo p k) m := by
  induction k with
  | zero => simp [countTo]
  | succ k ih =>
    rw [countTo_succ, ih, countTo_succ]
    cases e : p (k + 1) with
    | false => simp
    | true =>
      by_cases h : countTo p k < m
      · simp [h]; omega
      · simp [h]; omega
theorem Bound.collected {c : Cf} {s : St} {N : Nat} (h : Bound c s) (g : s.Good N) (ho : 0 ≤ c.over) : Bound c (s.collect c.over) := by
  have gc := g.collect c.over
  have hz := h.slack
  have e1 : waitN (s.collect c.over) ≤ countTo (fun b => s.rooted b) N := by
    unfold waitN
    rw [gc.sN, countTo_congr (p := (s.collect c.over).waits) (q := fun b => (s.collect c.over).waits b && s.rooted b) (fun b b1 b2 => by
      cases e : (s.collect c.over).waits b with
      | false => rfl
      | true =>
        obtain ⟨a1, a2, a3⟩ := waits_iff.1 e
        have hr : s.reachB b = true := by rw [← collect_here g c.over]; exact a1.1
        rw [collect_root g c.over hr a3]; rfl)]
    exact countTo_mono (fun b hb => by simp only [Bool.and_eq_true] at hb; exact hb.2) _
  have e2 := countTo_rooted s N
  have e3 : (s.collect c.over).extras ≤ c.over.toNat := by
    unfold St.extras
    rw [gc.sN, countTo_congr (p := (s.collect c.over).extra) (q := fun b => (s.collect c.over).extra b && (s.swept.over7 b && decide (countTo s.swept.over7 (b - 1) < c.over.toNat))) (fun b b1 b2 => by
      cases e : (s.collect c.over).extra b with
      | false => rfl
      | true =>
        obtain ⟨a1, a2, a3⟩ := extra_iff.1 e
        have hl : b < s.swept.objs.length := by rw [g.swept.len]; omega
        have a3' : 7 < s.swept.count b := by
          have : (s.collect c.over).count b = s.swept.count b := count_restuck s.swept c.over b
          rw [this] at a3; exact a3
        have h7 : s.swept.over7 b = true := by unfold St.over7; simpa using a3'
        have hs : ((s.swept.restuck c.over).ob b).stuck = false := a2
        rw [ob_restuck, if_pos hl] at hs
        have hlt : countTo s.swept.over7 (b - 1) < c.over.toNat := by
          rcases Nat.lt_or_ge (countTo s.swept.over7 (b - 1)) c.over.toNat with hh | hh
          · exact hh
          · exfalso
            unfold stuckOb at hs
            rw [if_pos ⟨by omega, h7, by omega⟩] at hs
            cases hs
        rw [h7]; simp [hlt])]
    have := countTo_mono (p := fun b => (s.collect c.over).extra b && (s.swept.over7 b && decide (countTo s.swept.over7 (b - 1) < c.over.toNat))) (q := fun b => s.swept.over7 b && decide (countTo s.swept.over7 (b - 1) < c.over.toNat)) (fun b hb => by rw [Bool.and_eq_true] at hb; exact hb.2) N
    rw [countTo_first] at this
    omega
  exact ⟨by omega, by omega, h.roots, h.zero⟩

/-! ### The operations -/
theorem Bound.room {c : Cf} {s : St} {N : Nat} (h : Bound c s) (g : s.Good N) (ho : 0 ≤ c.over) : Bound c (roomS c s) := by
  unfold roomS
  split
  · exact h
  · split
    · exact h.freed g (by omega)
    · exact h.collected g ho
theorem room_stack (c : Cf) (s : St) : (roomS c s).stack = s.stack := by
  unfold roomS
  split
  · rfl
  · split
    · exact (letTo_same c.zero s.first s _).1
    · rfl
theorem Bound.lay {c : Cf} {s : St} {N : Nat} (h : Bound c s) (g : s.Good N) {b n : Nat} (hb : (s.ob b).here = false) (hl : b < s.objs.length) (h1 : 1 ≤ b) (hd : (s.stack.length : Int) < c.deep) : Bound c (layS c.zero s b n) := by
  have hz := h.slack
  have he := h.extras
  have w := waitN_enter c.zero b (s.put b ⟨true, List.replicate n (0, 0), false, false⟩) hz
  have x := extras_enter c.zero b (s.put b ⟨true, List.replicate n (0, 0), false, false⟩)
  have x2 : (s.put b ⟨true, List.replicate n (0, 0), false, false⟩).extras ≤ s.extras := extras_le (put_N s b _) fun y _ _ hy => by
    obtain ⟨a1, a2, a3⟩ := extra_iff.1 hy
    rw [count_lay g hb hl h1] at a3
    rw [ob_put _ y hl] at a1 a2
    by_cases e : y = b
    · subst e
      have : s.count y = 0 := g.count_gone fun ha => by have h0 := ha.1; rw [hb] at h0; cases h0
      omega
    · rw [if_neg e] at a1 a2
      exact extra_iff.2 ⟨a1, a2, a3⟩
  obtain ⟨r1, r2⟩ := enter_roots c.zero b (s.put b ⟨true, List.replicate n (0, 0), false, false⟩)
  refine ⟨w, ?_, ?_, ?_⟩
  · show (((s.put b ⟨true, List.replicate n (0, 0), false, false⟩).enter c.zero b).extras : Int) ≤ c.over
    omega
  · show ((s.stack ++ [(2, (b : Int))]).length : Int) ≤ c.deep
    simp; omega
  · show c.deep + (((s.put b ⟨true, List.replicate n (0, 0), false, false⟩).enter c.zero b).globals.length : Int) < c.zero
    rw [r2]; exact h.zero
theorem Bound.new {c : Cf} {s : St} {N : Nat} (h : Bound c s) (g : s.Good N) (ho : 0 ≤ c.over) (n : Int) : Bound c (newS c s n).1 := by
  unfold newS
  by_cases h1 : n < 0 ∨ 4 < n
  · rw [if_pos h1]; exact h
  rw [if_neg h1]
  by_cases h2 : c.deep ≤ s.stack.length
  · rw [if_pos h2]; exact h
  rw [if_neg h2]
  cases hk : free? (roomS c s) with
  | none => exact h.room g ho
  | some k =>
    obtain ⟨h3, h4⟩ := free_here hk
    exact (h.room g ho).lay (g.room c) h3 h4 (by omega) (by rw [room_stack]; omega)
theorem stick_ob {s : St} {o : Int} {x : Int × Int} (b : Nat) : ((stickS o s x).ob b).here = (s.ob b).here ∧ ((stickS o s x).ob b).fs = (s.ob b).fs ∧ ((stickS o s x).ob b).queued = (s.ob b).queued ∧ ((s.ob b).stuck = true → ((stickS o s x).ob b).stuck = true) := by
  unfold stickS
  split
  · unfold St.stick
    by_cases hi : x.2.toNat < s.objs.length
    · rw [ob_put _ b hi]
      by_cases e : b = x.2.toNat
      · rw [if_pos e, e]; exact ⟨rfl, rfl, rfl, fun _ => rfl⟩
      · rw [if_neg e]; exact ⟨rfl, rfl, rfl, fun h => h⟩
    · rw [put_out _ hi]; exact ⟨rfl, rfl, rfl, fun h => h⟩
  · exact ⟨rfl, rfl, rfl, fun h => h⟩
theorem count_stickS (s : St) (o : Int) (x : Int × Int) (b : Int) : (stickS o s x).count b = s.count b := by
  unfold stickS
  split
  · exact count_stick s _ b
  · rfl
theorem stickS_N (s : St) (o : Int) (x : Int × Int) : (stickS o s x).N = s.N := by
  unfold stickS
  split
  · exact put_N s _ _
  · rfl
theorem Bound.store {c : Cf} {s : St} {N : Nat} (h : Bound c s) (g : s.Good N) (n : Int) : Bound c (storeS c s n).1 := by
  unfold storeS
  split
  · exact h
  rename_i hl2
  split
  · exact h
  rename_i herr
  split
  · exact h
  rename_i hidx
  have hroots : (((s.pop 2).stack.length : Nat) : Int) ≤ c.deep := by
    have := h.roots
    show ((s.stack.take (s.stack.length - 2)).length : Int) ≤ c.deep
    rw [List.length_take]; omega
  have hp : Bound c (s.pop 2) := h.roots' rfl hroots rfl
  have gp := g.pop 2
  unfold putS
  split
  · exact hp
  rename_i hne
  have hx : (s.pop 2).leads (s.down 0) := g.down 0
  obtain ⟨g1, l1⟩ := gp.stickS c.over hx
  obtain ⟨A, hA⟩ : ∃ A, s.pop 2 = A := ⟨_, rfl⟩
  obtain ⟨x, hxe⟩ : ∃ x, s.down 0 = x := ⟨_, rfl⟩
  obtain ⟨i, hi⟩ : ∃ i, (s.down 1).2.toNat = i := ⟨_, rfl⟩
  have ey : (s.fields (s.down 1).2).getD n.toNat (0, 0) = (A.ob i).fs.getD n.toNat (0, 0) := by rw [← hA, ← hi]; rfl
  have hk : n.toNat < (A.ob i).fs.length := by
    have : (s.fields (s.down 1).2).length = (A.ob i).fs.length := by rw [← hA, ← hi]; rfl
    omega
  rw [hA] at hp gp hx g1 l1 ⊢
  rw [hxe] at hx g1 l1 hne ⊢
  rw [ey] at hne ⊢
  rw [hi]
  obtain ⟨y, hy⟩ : ∃ y, (A.ob i).fs.getD n.toNat (0, 0) = y := ⟨_, rfl⟩
  rw [hy] at hne ⊢
  obtain ⟨B, hB⟩ : ∃ B, stickS c.over A x = B := ⟨_, rfl⟩
  have sob : ∀ b, (B.ob b).here = (A.ob b).here ∧ (B.ob b).fs = (A.ob b).fs ∧ (B.ob b).queued = (A.ob b).queued ∧ ((A.ob b).stuck = true → (B.ob b).stuck = true) := fun b => by rw [← hB]; exact stick_ob b
  have sc : ∀ b, B.count b = A.count b := fun b => by rw [← hB]; exact count_stickS A c.over x b
  have sN : B.N = A.N := by rw [← hB]; exact stickS_N A c.over x
  rw [hB] at g1 l1 ⊢
  have hkB : n.toNat < (B.ob i).fs.length := by rw [(sob i).2.1]; exact hk
  have hyB : (B.ob i).fs.getD n.toNat (0, 0) = y := by rw [(sob i).2.1]; exact hy
  have hfc : ∀ b : Int, (B.field i n.toNat x).count b + isRef y b = A.count b + isRef x b := fun b => by
    have := count_field g1 hkB x b
    rw [hyB, sc] at this
    exact this
  have hz := hp.slack
  have hw := hp.waits
  have he := hp.extras
  -- the extras
  have EX : ((B.field i n.toNat x).extras : Int) ≤ c.over := by
    by_cases hc : x.1 = 2 ∧ A.count x.2 = 7 ∧ ¬ c.over ≤ A.extras
    · have := countTo_or (p := (B.field i n.toNat x).extra) (q := A.extra) (r := fun b => decide ((b : Int) = x.2)) (k := A.N) (fun b hb => by
        obtain ⟨a1, a2, a3⟩ := extra_iff.1 hb
        obtain ⟨f1, f2, _⟩ := field_ob (s := B) (i := i) (k := n.toNat) (v := x) b
        by_cases e : (b : Int) = x.2
        · right; simpa using e
        · left
          have e0 : isRef x b = 0 := if_neg fun hh => e hh.2.symm
          have := hfc b
          have st : (A.ob b).stuck = false := by
            cases e2 : (A.ob b).stuck with
            | false => rfl
            | true => have := (sob b).2.2.2 e2; rw [← f2, a2] at this; cases this
          exact extra_iff.2 ⟨by rw [← (sob b).1, ← f1]; exact a1, st, by omega⟩)
      have h2 := countTo_eq_le x.2 A.N
      have h3 := hc.2.2
      unfold St.extras at h3 ⊢
      rw [field_N, sN]
      omega
    · have : (B.field i n.toNat x).extras ≤ A.extras := extras_le ((field_N B i _ _).trans sN) fun b _ _ hb => by
        obtain ⟨a1, a2, a3⟩ := extra_iff.1 hb
        obtain ⟨f1, f2, _⟩ := field_ob (s := B) (i := i) (k := n.toNat) (v := x) b
        have st : (A.ob b).stuck = false := by
          cases e2 : (A.ob b).stuck with
          | false => rfl
          | true => have := (sob b).2.2.2 e2; rw [← f2, a2] at this; cases this
        have hf := hfc b
        refine extra_iff.2 ⟨by rw [← (sob b).1, ← f1]; exact a1, st, ?_⟩
        by_cases e : x.1 = 2 ∧ x.2 = b
        · -- the new value's object: it had more than seven already, or it is stuck
          have e1 : isRef x b = 1 := if_pos e
          rcases Nat.lt_or_ge 7 (A.count b) with h8 | h8
          · exact h8
          · exfalso
            have h7 : A.count b = 7 := by omega
            have hov : c.over ≤ A.extras := Classical.byContradiction fun hn => hc ⟨e.1, by rw [e.2]; exact h7, hn⟩
            have hst : B = A.stick b := by
              rw [← hB]
              unfold stickS
              rw [if_pos ⟨e.1, by rw [e.2]; exact h7, hov⟩, e.2, Int.toNat_natCast]
            have hl : b < A.objs.length := here_lt (by rw [← (sob b).1, ← f1]; exact a1)
            have : (B.ob b).stuck = true := by rw [hst]; unfold St.stick; rw [ob_put _ b hl, if_pos rfl]
            rw [← f2, a2] at this; cases this
        · have e1 : isRef x b = 0 := if_neg e
          omega
      omega
  -- what waits
  have WT : ((B.field i n.toNat x).waits y.2.toNat = true → y.1 = 2 → False) → waitN (B.field i n.toNat x) ≤ waitN A := fun hn => waitN_le ((field_N B i _ _).trans sN) fun b _ _ hb => by
    rcases field_waits g1 hkB x hb with e | ⟨e1, e2⟩
    · obtain ⟨a1, a2, a3⟩ := waits_iff.1 e
      rw [sc] at a3
      refine waits_iff.2 ⟨⟨by rw [← (sob b).1]; exact a1.1, by rw [← (sob b).2.2.1]; exact a1.2⟩, ?_, a3⟩
      cases e2 : (A.ob b).stuck with
      | false => rfl
      | true => have := (sob b).2.2.2 e2; rw [a2] at this; cases this
    · rw [hyB] at e1 e2
      exact absurd hb (fun hh => hn (by rw [e2, Int.toNat_natCast]; exact hh) e1)
  have gf : (B.field i n.toNat x).Good N := g1.setField i n.toNat (l1 _ hx)
  have hrB : (B.field i n.toNat x).stack = A.stack ∧ (B.field i n.toNat x).globals = A.globals := by
    rw [← hB]
    unfold stickS
    split <;> exact ⟨rfl, rfl⟩
  unfold dropS'
  split
  · have w := waitN_enter c.zero y.2 (B.field i n.toNat x) (by rw [hrB.1, hrB.2]; exact hz)
    have e := extras_enter c.zero y.2 (B.field i n.toNat x)
    obtain ⟨r1, r2⟩ := enter_roots c.zero y.2 (B.field i n.toNat x)
    show Bound c ((B.field i n.toNat x).enter c.zero y.2)
    exact ⟨w, by omega, by rw [r1, hrB.1]; exact hp.roots, by rw [r2, hrB.2]; exact hp.zero⟩
  · rename_i hcond
    have w := WT fun hw2 hy2 => by
      obtain ⟨a1, a2, a3⟩ := waits_iff.1 hw2
      refine hcond ⟨hy2, a2, ?_⟩
      have : (0 : Int) ≤ y.2 := by
        have hl := leads_getD (g1.fields i) n.toNat
        rw [hyB] at hl
        obtain ⟨j, hj, _⟩ := leads_ref hl hy2
        omega
      rw [Int.toNat_of_nonneg this] at a3
      exact a3
    show Bound c (B.field i n.toNat x)
    exact ⟨by omega, EX, by rw [hrB.1]; exact hp.roots, by rw [hrB.2]; exact hp.zero⟩
theorem Bound.did {c : Cf} {s : St} {N : Nat} (h : Bound c s) (g : s.Good N) (ho : 0 ≤ c.over) (op n : Int) : Bound c (doS c s op n).1 := by
  have hp : ∀ k, Bound c (s.pop k) := fun k => h.roots' rfl (by
    have := h.roots
    show ((s.stack.take (s.stack.length - k)).length : Int) ≤ c.deep
    rw [List.length_take]; omega) rfl
  refine doS_keeps c s op n (fun t => Bound c t) h (fun t v ht hts hv hd => ?_) hp (fun k hk => ?_) (h.new g ho n) (h.store g n)
  · exact ht.roots' rfl (by simp; omega) rfl
  · exact (hp 1).roots' rfl (hp 1).roots (by simp [St.pop])
theorem bound_new (c : Cf) (N G : Nat) (hd : 0 ≤ c.deep) (hz : c.deep + G < c.zero) (ho : 0 ≤ c.over) : Bound c ⟨[], List.replicate G (0, 0), List.replicate (N + 1) Ob.free, []⟩ := by
  have e : ∀ i, (⟨[], List.replicate G (0, 0), List.replicate (N + 1) Ob.free, []⟩ : St).ob i = Ob.free := fun i => by
    unfold St.ob
    rw [List.getD_eq_getElem?_getD, List.getElem?_replicate]
    split <;> rfl
  have e1 : waitN ⟨[], List.replicate G (0, 0), List.replicate (N + 1) Ob.free, []⟩ = 0 := by
    unfold waitN countTo
    refine List.countP_eq_zero.2 fun j _ => ?_
    unfold St.waits
    rw [e]; simp [Ob.free]
  have e2 : (⟨[], List.replicate G (0, 0), List.replicate (N + 1) Ob.free, []⟩ : St).extras = 0 := by
    unfold St.extras countTo
    refine List.countP_eq_zero.2 fun j _ => ?_
    unfold St.extra
    rw [e]; simp [Ob.free]
  exact ⟨by rw [e1]; simp; omega, by rw [e2]; simpa using ho, by simpa using hd, by simpa using hz⟩

end Go.Proofs.YteekoiljkklnmaaGreatDoor

/- OUR OWN. The document's heap without memory: a full heap; what an error leaves; a collection behind a collection. -/
namespace Go.Proofs.YteekoiljkklnmaaGreatDoor
set_option linter.unusedVariables false
set_option linter.unusedSimpArgs false

/-! ### A collection behind a collection -/
theorem ob_ext {s t : St} (hl : t.objs.length = s.objs.length) (h : ∀ i, t.ob i = s.ob i) : t.objs = s.objs := by
  refine List.ext_getElem? fun i => ?_
  by_cases hi : i < s.objs.length
  · rw [List.getElem?_eq_getElem hi, List.getElem?_eq_getElem (by omega : i < t.objs.length)]
    have := h i
    rw [ob_of (List.getElem?_eq_getElem hi), ob_of (List.getElem?_eq_getElem (by omega : i < t.objs.length))] at this
    rw [this]
  · rw [List.getElem?_eq_none (by omega), List.getElem?_eq_none (by omega)]
theorem collect_queue (s : St) (o : Int) : (s.collect o).queue = [] := rfl
theorem collect_swept {s : St} {N : Nat} (g : s.Good N) (o : Int) : (s.collect o).swept = s.swept := by
  have gc := g.collect o
  have sm := same_collect g o
  have e : ∀ i, (s.collect o).swept.ob i = s.swept.ob i := fun i => by
    rw [ob_swept gc, ob_swept g, sm.reach]
    by_cases hr : s.reachB i = true
    · rw [if_pos hr, if_pos hr]
      have hl : i < s.swept.objs.length := by rw [g.swept.len]; have := g.ne_zero (g.reach_alive hr).1; omega
      have e1 : (s.collect o).ob i = stuckOb o s.swept i (s.swept.ob i) := by
        show (s.swept.restuck o).ob i = _
        rw [ob_restuck, if_pos hl]
      have e2 : s.swept.ob i = { s.ob i with stuck := false, queued := false } := by rw [ob_swept g, if_pos hr]
      rw [e1, e2]
      unfold stuckOb
      split <;> rfl
    · rw [if_neg hr, if_neg hr]
  have eo : (s.collect o).swept.objs = s.swept.objs := ob_ext (by rw [gc.swept.len, g.swept.len]) e
  show (⟨s.stack, s.globals, (s.collect o).swept.objs, []⟩ : St) = ⟨s.stack, s.globals, s.swept.objs, []⟩
  rw [eo]
theorem collect_collect {s : St} {N : Nat} (g : s.Good N) (o : Int) : (s.collect o).collect o = s.collect o := by
  show (s.collect o).swept.restuck o = s.swept.restuck o
  rw [collect_swept g o]
theorem collect_gone {s : St} {N : Nat} (g : s.Good N) (o : Int) : (s.collect o).gone = 0 := by
  unfold St.gone countTo
  refine List.countP_eq_zero.2 fun j _ => ?_
  show ¬ (((s.collect o).ob (j + 1)).here && !(s.collect o).reachB (j + 1)) = true
  rw [collect_here g, (same_collect g o).reach]
  simp

/-! ### A full heap -/
theorem reach_le_here {s : St} {N : Nat} (g : s.Good N) {b : Nat} (h : (s.ob b).here = false) : s.reachB b = false := by
  cases e : s.reachB b with
  | false => rfl
  | true => have := (g.reach_alive e).1; rw [h] at this; cases this
theorem reachN_lt {s : St} {N : Nat} (g : s.Good N) {b : Nat} (h1 : 1 ≤ b) (h2 : b ≤ N) (h : s.reachB b = false) : reachN s < N := by
  have e : countTo (fun b => !s.reachB b) N + countTo s.reachB N = N := countTo_not _ _
  have : 0 < countTo (fun b => !s.reachB b) N := by
    have := countTo_lt (p := fun _ => false) (q := fun b => !s.reachB b) (k := N) (fun j hj => by cases hj) h1 h2 rfl (by rw [h]; rfl)
    omega
  unfold reachN
  rw [g.sN]
  omega
theorem free_exists' {s : St} {b : Nat} (h1 : 1 ≤ b) (h2 : b < s.objs.length) (hb : (s.ob b).here = false) : ∃ k, free? s = some k := by
  cases e : free? s with
  | some k => exact ⟨k, rfl⟩
  | none =>
    unfold free? at e
    rw [List.findIdx?_eq_none_iff] at e
    have := e (s.ob b) (ob_tail.2 ⟨b, h1, h2, rfl⟩)
    rw [hb] at this; cases this
theorem free_none_here {s : St} (h : free? s = none) {b : Nat} (h1 : 1 ≤ b) (h2 : b < s.objs.length) : (s.ob b).here = true := by
  cases e : (s.ob b).here with
  | true => rfl
  | false => obtain ⟨k, hk⟩ := free_exists' h1 h2 e; rw [h] at hk; cases hk
/-- a heap finds no room just if every block has a reachable object -/
theorem room_full {s : St} {N : Nat} (g : s.Good N) (c : Cf) : free? (roomS c s) = none ↔ reachN s = N := by
  have gr := g.room c
  constructor
  · intro h
    unfold roomS at h
    cases hf : free? s with
    | some k => rw [hf] at h; rw [hf] at h; cases h
    | none =>
      rw [hf] at h
      by_cases hq : 0 < s.queue.length
      · exfalso
        rw [show (if 0 < s.queue.length then s.free c.zero else s.collect c.over) = s.free c.zero from if_pos hq] at h
        have hq' : s.queue.length ≠ 0 := by omega
        have hqd := g.first_queued hq'
        have hz := g.ne_zero (g.queued_here hqd)
        have g1 := g.freed c.zero hq'
        have := free_none_here h hz.1 (by rw [g1.len]; omega)
        have hl : s.first < (letTo c.zero s.first s (s.ob s.first).fs.length).objs.length := by rw [(g.letTo c.zero s.first _).len]; omega
        have e : (s.free c.zero).ob s.first = if s.first = s.first then Ob.free else (letTo c.zero s.first s (s.ob s.first).fs.length).ob s.first := getD_set _ _ _ _ hl
        rw [e, if_pos rfl] at this
        cases this
      · rw [show (if 0 < s.queue.length then s.free c.zero else s.collect c.over) = s.collect c.over from if_neg hq] at h
        have gc := g.collect c.over
        unfold reachN
        rw [g.sN]
        have : countTo s.reachB N = countTo (fun _ => true) N := countTo_congr fun b h1 h2 => by
          rw [← collect_here g c.over]
          exact free_none_here h h1 (by rw [gc.len]; omega)
        rw [this]
        have h2 := countTo_not (fun _ => false) N
        have h3 : countTo (fun _ => false) N = 0 := by unfold countTo; exact List.countP_eq_zero.2 fun j _ => by simp
        simp only [Bool.not_false] at h2
        omega
  · intro h
    cases hf : free? (roomS c s) with
    | none => rfl
    | some k =>
      exfalso
      -- a free block, or one in the queue, or one that the collection freed, has no reachable object
      obtain ⟨h1, h2⟩ := free_here hf
      have hr : (roomS c s).reachB (k + 1) = false := reach_le_here gr h1
      have hsame : Same s (roomS c s) := by
        unfold roomS
        split
        · exact .refl s
        · split
          · exact same_free g c.zero (by omega)
          · exact same_collect g c.over
      rw [hsame.reach] at hr
      have := reachN_lt g (by omega : 1 ≤ k + 1) (by have := gr.len; omega) hr
      omega
/-- OpNew's answer -/
theorem new_answer {s : St} {N : Nat} (g : s.Good N) (c : Cf) (n : Int) : (newS c s n).2.2 = if n < 0 ∨ 4 < n then 6 else if c.deep ≤ s.stack.length then 7 else if reachN s = N then 8 else 0 := by
  unfold newS
  by_cases h1 : n < 0 ∨ 4 < n
  · rw [if_pos h1, if_pos h1]
  rw [if_neg h1, if_neg h1]
  by_cases h2 : c.deep ≤ s.stack.length
  · rw [if_pos h2, if_pos h2]
  rw [if_neg h2, if_neg h2]
  have := room_full g c
  cases hf : free? (roomS c s) with
  | none => rw [if_pos (this.1 hf)]
  | some k => rw [if_neg (fun e => by rw [this.2 e] at hf; cases hf)]
/-- OpNew's object -/
theorem new_object {s : St} {N : Nat} (g : s.Good N) (c : Cf) (n : Int) (h : (newS c s n).2.2 = 0) :
    ∃ b : Nat, 1 ≤ b ∧ b ≤ N ∧ (newS c s n).1.stack = s.stack ++ [(2, (b : Int))] ∧ (newS c s n).1.ob b = ⟨true, List.replicate n.toNat (0, 0), false, false⟩ ∧ (newS c s n).1.count b = 0 := by
  unfold newS at h ⊢
  by_cases h1 : n < 0 ∨ 4 < n
  · rw [if_pos h1] at h; cases h
  rw [if_neg h1] at h ⊢
  by_cases h2 : c.deep ≤ s.stack.length
  · rw [if_pos h2] at h; cases h
  rw [if_neg h2] at h ⊢
  cases hf : free? (roomS c s) with
  | none => rw [hf] at h; cases h
  | some k =>
    have gr := g.room c
    obtain ⟨h3, h4⟩ := free_here hf
    have hlen := gr.len
    refine ⟨k + 1, by omega, by omega, ?_, ?_, ?_⟩
    · show (roomS c s).stack ++ [(2, ((k + 1 : Nat) : Int))] = _
      rw [room_stack]
    · show (((roomS c s).put (k + 1) ⟨true, List.replicate n.toNat (0, 0), false, false⟩).enter c.zero ((k + 1 : Nat) : Int)).ob (k + 1) = _
      rw [enter_but rfl, ob_put _ _ h4, if_pos rfl]
    · show (((roomS c s).put (k + 1) ⟨true, List.replicate n.toNat (0, 0), false, false⟩).enter c.zero ((k + 1 : Nat) : Int)).count ((k + 1 : Nat) : Int) = 0
      rw [count_enter, count_lay gr h3 h4 (by omega)]
      exact gr.count_gone fun ha => by have h0 := ha.1; rw [h3] at h0; cases h0

/-! ### What an error leaves -/
theorem push_err {d : Int} {s : St} {v : Int × Int} (h : (pushA d s v).2.2 ≠ 0) : (pushA d s v).1 = s := by
  unfold pushA pushS at h ⊢
  by_cases e : d ≤ (s.stack.length : Int)
  · rw [if_pos e]
  · rw [if_neg e] at h; exact absurd rfl h
theorem do_err {c : Cf} {s : St} (hs : (s.stack.length : Int) ≤ c.deep) (op n : Int) (h0 : (doS c s op n).2.2 ≠ 0) (h8 : (doS c s op n).2.2 ≠ 8) : (doS c s op n).1 = s := by
  unfold doS at h0 h8 ⊢
  by_cases o0 : op = 0
  · rw [if_pos o0] at h0 ⊢; exact push_err h0
  rw [if_neg o0] at h0 h8 ⊢
  by_cases o1 : op = 1
  · rw [if_pos o1] at h0 ⊢; exact push_err h0
  rw [if_neg o1] at h0 h8 ⊢
  by_cases o2 : op = 2
  · rw [if_pos o2] at h0 h8 ⊢
    unfold newS at h0 h8 ⊢
    by_cases h1 : n < 0 ∨ 4 < n
    · rw [if_pos h1]
    rw [if_neg h1] at h0 h8 ⊢
    by_cases h2 : c.deep ≤ s.stack.length
    · rw [if_pos h2]
    rw [if_neg h2] at h0 h8 ⊢
    cases hf : free? (roomS c s) with
    | none => rw [hf] at h8; exact absurd rfl h8
    | some k => rw [hf] at h0; exact absurd rfl h0
  rw [if_neg o2] at h0 h8 ⊢
  by_cases o3 : op = 3
  · rw [if_pos o3] at h0 ⊢
    unfold dupS at h0 ⊢
    split
    · rfl
    · rename_i hc; rw [if_neg hc] at h0; exact push_err h0
  rw [if_neg o3] at h0 h8 ⊢
  by_cases o4 : op = 4
  · rw [if_pos o4] at h0 ⊢
    unfold dropS at h0 ⊢
    split
    · rfl
    · rename_i hc; rw [if_neg hc] at h0; exact absurd rfl h0
  rw [if_neg o4] at h0 h8 ⊢
  by_cases o5 : op = 5
  · rw [if_pos o5] at h0 ⊢
    unfold getS at h0 ⊢
    split
    · rfl
    · rename_i hc; rw [if_neg hc] at h0; exact push_err h0
  rw [if_neg o5] at h0 h8 ⊢
  by_cases o6 : op = 6
  · rw [if_pos o6] at h0 ⊢
    unfold setS at h0 ⊢
    split
    · rfl
    · rename_i hc
      rw [if_neg hc] at h0
      split
      · rfl
      · rename_i hc2; rw [if_neg hc2] at h0; exact absurd rfl h0
  rw [if_neg o6] at h0 h8 ⊢
  by_cases o7 : op = 7
  · rw [if_pos o7] at h0 ⊢
    unfold loadS at h0 ⊢
    split
    · rfl
    · rename_i hc
      rw [if_neg hc] at h0
      split
      · rfl
      · rename_i hc2
        rw [if_neg hc2] at h0
        split
        · rfl
        · rename_i hc3
          rw [if_neg hc3] at h0
          exfalso
          unfold pushA pushS at h0
          rw [if_neg (by
            show ¬ c.deep ≤ ((s.stack.take (s.stack.length - 1)).length : Int)
            rw [List.length_take]; omega)] at h0
          exact h0 rfl
  rw [if_neg o7] at h0 h8 ⊢
  by_cases o8 : op = 8
  · rw [if_pos o8] at h0 ⊢
    unfold storeS at h0 ⊢
    split
    · rfl
    · rename_i hc
      rw [if_neg hc] at h0
      split
      · rfl
      · rename_i hc2
        rw [if_neg hc2] at h0
        split
        · rfl
        · rename_i hc3; rw [if_neg hc3] at h0; exact absurd rfl h0
  rw [if_neg o8] at h0 h8 ⊢
  by_cases o9 : op = 9
  · rw [if_pos o9] at h0 ⊢
    unfold sameS at h0 ⊢
    split
    · rfl
    · rename_i hc
      rw [if_neg hc] at h0
      split at h0
      · exact absurd rfl h0
      · exact absurd rfl h0
  rw [if_neg o9] at h0 h8 ⊢
  by_cases o10 : op = 10
  · rw [if_pos o10] at h0 ⊢
    unfold takeS at h0 ⊢
    split
    · rfl
    · rename_i hc
      rw [if_neg hc] at h0
      split
      · rename_i hc2; rw [if_pos hc2] at h0; exact absurd rfl h0
      · rfl
  rw [if_neg o10] at h0 h8 ⊢
  by_cases o11 : op = 11
  · rw [if_pos o11] at h0 ⊢
    unfold sizeS
    split
    · rfl
    · split <;> rfl
  rw [if_neg o11] at h0 h8 ⊢
  by_cases o12 : op = 12
  · rw [if_pos o12] at h0 ⊢
    unfold kindS
    split <;> rfl
  rw [if_neg o12]

end Go.Proofs.YteekoiljkklnmaaGreatDoor

/- OUR OWN. The document's heap without memory: two heaps that the machine cannot tell apart. -/
namespace Go.Proofs.YteekoiljkklnmaaGreatDoor
set_option linter.unusedVariables false
set_option linter.unusedSimpArgs false

/-- values that are alike: m tells which block of the one stands for which of the other -/
def vr (m : Nat → Nat → Prop) (v w : Int × Int) : Prop := v.1 = w.1 ∧ ((v.1 ≠ 2 ∧ v.2 = w.2) ∨ (v.1 = 2 ∧ ∃ a b : Nat, v.2 = a ∧ w.2 = b ∧ m a b))
def All2 (m : Nat → Nat → Prop) (l l' : List (Int × Int)) : Prop := l.length = l'.length ∧ ∀ i, vr m (l.getD i (0, 0)) (l'.getD i (0, 0))
theorem vr_nil (m : Nat → Nat → Prop) : vr m (0, 0) (0, 0) := ⟨rfl, .inl ⟨by decide, rfl⟩⟩
theorem vr_int (m : Nat → Nat → Prop) (n : Int) : vr m (1, n) (1, n) := ⟨rfl, .inl ⟨by show (1 : Int) ≠ 2; decide, rfl⟩⟩
theorem vr_mono {m m' : Nat → Nat → Prop} {v w : Int × Int} (h : vr m v w) (hm : ∀ a b : Nat, v.1 = 2 → v.2 = a → w.2 = b → m a b → m' a b) : vr m' v w := by
  refine ⟨h.1, ?_⟩
  rcases h.2 with e | ⟨e, a, b, h1, h2, h3⟩
  · exact .inl e
  · exact .inr ⟨e, a, b, h1, h2, hm a b e h1 h2 h3⟩
theorem all2_nil (m : Nat → Nat → Prop) : All2 m [] [] := ⟨rfl, fun i => vr_nil m⟩
theorem All2.snoc {m : Nat → Nat → Prop} {l l' : List (Int × Int)} (h : All2 m l l') {v w : Int × Int} (hv : vr m v w) : All2 m (l ++ [v]) (l' ++ [w]) := by
  refine ⟨by simp [h.1], fun i => ?_⟩
  rw [List.getD_eq_getElem?_getD, List.getD_eq_getElem?_getD]
  rcases Nat.lt_trichotomy i l.length with e | e | e
  · rw [List.getElem?_append_left e, List.getElem?_append_left (by rw [← h.1]; exact e)]
    have := h.2 i
    rw [List.getD_eq_getElem?_getD, List.getD_eq_getElem?_getD] at this; exact this
  · subst e
    rw [List.getElem?_append_right (Nat.le_refl _), List.getElem?_append_right (by rw [h.1]; exact Nat.le_refl _)]
    rw [h.1]; simpa using hv
  · rw [List.getElem?_eq_none (by simp; omega), List.getElem?_eq_none (by simp; rw [← h.1]; omega)]
    exact vr_nil m
theorem getD_take (l : List (Int × Int)) (k i : Nat) : (l.take k).getD i (0, 0) = if i < k then l.getD i (0, 0) else (0, 0) := by
  rw [List.getD_eq_getElem?_getD, List.getElem?_take, List.getD_eq_getElem?_getD]
  split <;> rfl
theorem All2.take {m : Nat → Nat → Prop} {l l' : List (Int × Int)} (h : All2 m l l') (k : Nat) : All2 m (l.take k) (l'.take k) := by
  refine ⟨by simp [h.1], fun i => ?_⟩
  rw [getD_take, getD_take]
  split
  · exact h.2 i
  · exact vr_nil m
theorem getD_setv (l : List (Int × Int)) (k i : Nat) (v : Int × Int) : (l.set k v).getD i (0, 0) = if i = k ∧ k < l.length then v else l.getD i (0, 0) := by
  rw [List.getD_eq_getElem?_getD, List.getD_eq_getElem?_getD]
  by_cases e : i = k
  · subst e
    by_cases hk : i < l.length
    · rw [List.getElem?_set_self hk, if_pos ⟨rfl, hk⟩]; rfl
    · rw [if_neg (fun hh => hk hh.2), List.set_eq_of_length_le (by omega)]
  · rw [List.getElem?_set_ne (fun x => e x.symm), if_neg (fun hh => e hh.1)]
theorem All2.set {m : Nat → Nat → Prop} {l l' : List (Int × Int)} (h : All2 m l l') (k : Nat) {v w : Int × Int} (hv : vr m v w) : All2 m (l.set k v) (l'.set k w) := by
  refine ⟨by simp [h.1], fun i => ?_⟩
  rw [getD_setv, getD_setv, ← h.1]
  split
  · exact hv
  · exact h.2 i
theorem All2.rep (m : Nat → Nat → Prop) (n : Nat) : All2 m (List.replicate n (0, 0)) (List.replicate n (0, 0)) := by
  refine ⟨rfl, fun i => ?_⟩
  have : (List.replicate n ((0, 0) : Int × Int)).getD i (0, 0) = (0, 0) := by
    rw [List.getD_eq_getElem?_getD, List.getElem?_replicate]
    split <;> rfl
  rw [this]; exact vr_nil m
theorem mem_getD {l : List (Int × Int)} {v : Int × Int} (h : v ∈ l) : ∃ i, l.getD i (0, 0) = v := by
  obtain ⟨i, hi, e⟩ := List.getElem_of_mem h
  exact ⟨i, by rw [List.getD_eq_getElem?_getD, List.getElem?_eq_getElem hi, e]; rfl⟩
theorem All2.left {m : Nat → Nat → Prop} {l l' : List (Int × Int)} (h : All2 m l l') {a : Nat} (hr : ∃ v ∈ l, v.1 = 2 ∧ v.2 = (a : Int)) : ∃ b : Nat, m a b ∧ ∃ w ∈ l', w.1 = 2 ∧ w.2 = (b : Int) := by
  obtain ⟨v, hv, h1, h2⟩ := hr
  obtain ⟨i, hi, e⟩ := List.getElem_of_mem hv
  have := h.2 i
  rw [List.getD_eq_getElem?_getD, List.getElem?_eq_getElem hi, e, List.getD_eq_getElem?_getD, List.getElem?_eq_getElem (by rw [← h.1]; exact hi)] at this
  obtain ⟨k, hk⟩ := this
  rcases hk with hk | ⟨_, a', b, h3, h4, h5⟩
  · exact absurd h1 hk.1
  · have : a' = a := by simp at h3; omega
    subst this
    exact ⟨b, h5, _, List.getElem_mem (by rw [← h.1]; exact hi), by rw [← h1]; exact k.symm, h4⟩
theorem vr_swap {m : Nat → Nat → Prop} {v w : Int × Int} (h : vr m v w) : vr (fun b a => m a b) w v := by
  refine ⟨h.1.symm, ?_⟩
  rcases h.2 with e | ⟨e, a, b, h1, h2, h3⟩
  · exact .inl ⟨by rw [← h.1]; exact e.1, e.2.symm⟩
  · exact .inr ⟨by rw [← h.1]; exact e, b, a, h2, h1, h3⟩
theorem All2.swap {m : Nat → Nat → Prop} {l l' : List (Int × Int)} (h : All2 m l l') : All2 (fun b a => m a b) l' l := ⟨h.1.symm, fun i => vr_swap (h.2 i)⟩

/-- two heaps: the reachable objects of the one are those of the other, in other blocks -/
structure Bis (m : Nat → Nat → Prop) (s t : St) : Prop where
  stack : All2 m s.stack t.stack
  globals : All2 m s.globals t.globals
  fields : ∀ a b, m a b → All2 m (s.ob a).fs (t.ob b).fs
  left : ∀ a b b', m a b → m a b' → b = b'
  right : ∀ a a' b, m a b → m a' b → a = a'
  sr : ∀ a b, m a b → s.reachB a = true
  tr : ∀ a b, m a b → t.reachB b = true
theorem Bis.swap {m : Nat → Nat → Prop} {s t : St} (h : Bis m s t) : Bis (fun b a => m a b) t s :=
  ⟨h.stack.swap, h.globals.swap, fun b a hm => (h.fields a b hm).swap, fun b a a' h1 h2 => h.right a a' b h1 h2, fun b b' a h1 h2 => h.left a b b' h1 h2, fun b a hm => h.tr a b hm, fun b a hm => h.sr a b hm⟩
theorem all2_root {m : Nat → Nat → Prop} {s t : St} (h1 : All2 m s.stack t.stack) (h2 : All2 m s.globals t.globals) {a : Nat} (hr : s.rooted a = true) : ∃ b : Nat, m a b ∧ t.rooted b = true := by
  rcases rooted_true.1 hr with h | h
  · obtain ⟨b, hb, hw⟩ := h1.left h; exact ⟨b, hb, rooted_true.2 (.inl hw)⟩
  · obtain ⟨b, hb, hw⟩ := h2.left h; exact ⟨b, hb, rooted_true.2 (.inr hw)⟩
theorem Bis.total {m : Nat → Nat → Prop} {s t : St} (h : Bis m s t) {a : Nat} (hr : s.reachB a = true) : ∃ b, m a b := by
  refine reach_least (P := fun a => ∃ b, m a b) (fun a _ _ hroot => ?_) (fun a a2 ha _ _ _ _ href => ?_) hr
  · obtain ⟨b, hb, _⟩ := all2_root h.stack h.globals hroot
    exact ⟨b, hb⟩
  · obtain ⟨b, hb⟩ := ha
    obtain ⟨b2, hb2, _⟩ := (h.fields a b hb).left (refs_some href)
    exact ⟨b2, hb2⟩

/-! ### As many are reachable -/
theorem nodup_le {l l' : List Nat} (hn : l.Nodup) (h : ∀ x ∈ l, x ∈ l') : l.length ≤ l'.length := by
  induction l generalizing l' with
  | nil => simp
  | cons a l ih =>
    have ha := h a (by simp)
    obtain ⟨n1, n2⟩ := List.nodup_cons.1 hn
    have := ih (l' := l'.erase a) n2 (fun x hx => (List.mem_erase_of_ne (fun e => n1 (by rw [← e]; exact hx))).2 (h x (List.mem_cons_of_mem _ hx)))
    rw [List.length_erase_of_mem ha] at this
    have hp : 0 < l'.length := List.length_pos_of_mem ha
    simp
    omega
theorem countTo_filter (p : Nat → Bool) (k : Nat) : countTo p k = (((List.range k).map (· + 1)).filter p).length := by
  unfold countTo
  rw [List.countP_eq_length_filter, List.filter_map, List.length_map]
  rfl
theorem countTo_inj {p q : Nat → Bool} {k k' : Nat} {m : Nat → Nat → Prop} (ht : ∀ a, p a = true → ∃ b, m a b) (hr : ∀ a a' b, m a b → m a' b → a = a') (hq : ∀ a b, m a b → 1 ≤ b ∧ b ≤ k' ∧ q b = true) : countTo p k ≤ countTo q k' := by
  rw [countTo_filter, countTo_filter]
  have H : ∀ l : List Nat, l.Nodup → (∀ a ∈ l, p a = true) → ∃ l' : List Nat, l'.length = l.length ∧ l'.Nodup ∧ ∀ b ∈ l', ∃ a ∈ l, m a b := fun l => by
    induction l with
    | nil => intro _ _; exact ⟨[], rfl, List.nodup_nil, fun b hb => by cases hb⟩
    | cons a l ih =>
      intro hn hp
      obtain ⟨n1, n2⟩ := List.nodup_cons.1 hn
      obtain ⟨l', e1, e2, e3⟩ := ih n2 (fun x hx => hp x (List.mem_cons_of_mem _ hx))
      obtain ⟨b, hb⟩ := ht a (hp a (by simp))
      refine ⟨b :: l', by simp [e1], List.nodup_cons.2 ⟨fun hm => ?_, e2⟩, fun x hx => ?_⟩
      · obtain ⟨a', ha', hm'⟩ := e3 b hm
        have := hr a a' b hb hm'
        subst this; exact n1 ha'
      · rcases List.mem_cons.1 hx with rfl | hx
        · exact ⟨a, by simp, hb⟩
        · obtain ⟨a', h1, h2⟩ := e3 x hx
          exact ⟨a', List.mem_cons_of_mem _ h1, h2⟩
  have nd : ((List.range k).map (· + 1)).Nodup := by
    rw [List.nodup_iff_pairwise_ne, List.pairwise_map]
    exact List.nodup_range.imp fun hne e => hne (by omega)
  obtain ⟨l', e1, e2, e3⟩ := H (((List.range k).map (· + 1)).filter p) (nd.filter _) (fun a ha => (List.mem_filter.1 ha).2)
  rw [← e1]
  refine nodup_le e2 fun b hb => ?_
  obtain ⟨a, _, hm⟩ := e3 b hb
  obtain ⟨b1, b2, b3⟩ := hq a b hm
  exact List.mem_filter.2 ⟨List.mem_map.2 ⟨b - 1, by simp; omega, by omega⟩, b3⟩
theorem Bis.reachN {m : Nat → Nat → Prop} {s t : St} (h : Bis m s t) : reachN s = reachN t := by
  have h1 : ∀ {m : Nat → Nat → Prop} {s t : St}, Bis m s t → YteekoiljkklnmaaGreatDoor.reachN s ≤ YteekoiljkklnmaaGreatDoor.reachN t := fun {m s t} h => by
    unfold YteekoiljkklnmaaGreatDoor.reachN
    exact countTo_inj (fun a ha => h.total ha) h.right (fun a b hm => by have := reach_range t _ b (h.tr a b hm); exact ⟨this.1, this.2, h.tr a b hm⟩)
  exact Nat.le_antisymm (h1 h) (h1 h.swap)

/-! ### The reachable part of a likeness -/
theorem bis_cut {m : Nat → Nat → Prop} {s t : St} {N : Nat} (gs : s.Good N) (gt : t.Good N) (h1 : All2 m s.stack t.stack) (h2 : All2 m s.globals t.globals)
    (hf : ∀ a b, m a b → s.reachB a = true → t.reachB b = true → All2 m (s.ob a).fs (t.ob b).fs) (hl : ∀ a b b', m a b → m a b' → b = b') (hr : ∀ a a' b, m a b → m a' b → a = a') :
    Bis (fun a b => m a b ∧ s.reachB a = true ∧ t.reachB b = true) s t := by
  have hN : s.N = N := gs.sN
  have hN' : t.N = N := gt.sN
  -- a value that is alike, and leads to reachable objects on both sides
  have key : ∀ {l l' : List (Int × Int)}, All2 m l l' → (∀ v ∈ l, ∀ a : Nat, v.1 = 2 → v.2 = (a : Int) → s.reachB a = true) → (∀ v ∈ l', ∀ a : Nat, v.1 = 2 → v.2 = (a : Int) → t.reachB a = true) → All2 (fun a b => m a b ∧ s.reachB a = true ∧ t.reachB b = true) l l' := fun {l l'} hll hs ht => by
    refine ⟨hll.1, fun i => ?_⟩
    have := hll.2 i
    refine vr_mono this fun a b e ea eb hm => ⟨hm, ?_, ?_⟩
    · by_cases hi : i < l.length
      · exact hs _ (by rw [List.getD_eq_getElem?_getD, List.getElem?_eq_getElem hi]; exact List.getElem_mem hi) a e ea
      · exfalso
        rw [List.getD_eq_getElem?_getD, List.getElem?_eq_none (by omega)] at e; cases e
    · by_cases hi : i < l'.length
      · exact ht _ (by rw [List.getD_eq_getElem?_getD, List.getElem?_eq_getElem hi]; exact List.getElem_mem hi) b (by rw [← this.1]; exact e) eb
      · exfalso
        rw [List.getD_eq_getElem?_getD, List.getElem?_eq_none (by rw [hll.1]; omega)] at e; cases e
  have rs : ∀ {u : St}, u.Good N → ∀ v, v ∈ u.stack ∨ v ∈ u.globals → ∀ a : Nat, v.1 = 2 → v.2 = (a : Int) → u.reachB a = true := fun {u} gu v hv a e ea => by
    have hlead : u.leads v := by
      rcases hv with hv | hv
      · exact gu.stack v hv
      · exact gu.globals v hv
    obtain ⟨j, hj, ha⟩ := leads_ref hlead e
    have : j = a := by omega
    subst this
    have := gu.ne_zero ha.1
    refine reach_rooted this.1 (by rw [gu.sN]; exact this.2) (rooted_true.2 ?_)
    rcases hv with hv | hv
    · exact .inl ⟨v, hv, e, ea⟩
    · exact .inr ⟨v, hv, e, ea⟩
  have rf : ∀ {u : St}, u.Good N → ∀ x, u.reachB x = true → ∀ v ∈ (u.ob x).fs, ∀ a : Nat, v.1 = 2 → v.2 = (a : Int) → u.reachB a = true := fun {u} gu x hx v hv a e ea => by
    obtain ⟨j, hj, ha⟩ := leads_ref (gu.fields x v hv) e
    have : j = a := by omega
    subst this
    have := gu.ne_zero ha.1
    exact reach_closed hx this.1 (by rw [gu.sN]; exact this.2) (refs_pos hv e ea)
  exact ⟨key h1 (fun v hv => rs gs v (.inl hv)) (fun v hv => rs gt v (.inl hv)), key h2 (fun v hv => rs gs v (.inr hv)) (fun v hv => rs gt v (.inr hv)),
    fun a b hm => key (hf a b hm.1 hm.2.1 hm.2.2) (rf gs a hm.2.1) (rf gt b hm.2.2), fun a b b' x y => hl a b b' x.1 y.1, fun a a' b x y => hr a a' b x.1 y.1, fun a b hm => hm.2.1, fun a b hm => hm.2.2⟩

/-- what leaves the reachable objects as they are, of the one or of the other -/
theorem Bis.same {m : Nat → Nat → Prop} {s s' t t' : St} (h : Bis m s t) (hs : Same s s') (ht : Same t t') : Bis m s' t' :=
  ⟨by rw [hs.stack, ht.stack]; exact h.stack, by rw [hs.globals, ht.globals]; exact h.globals, fun a b hm => by rw [hs.fs a (h.sr a b hm), ht.fs b (h.tr a b hm)]; exact h.fields a b hm, h.left, h.right,
    fun a b hm => by rw [hs.reach]; exact h.sr a b hm, fun a b hm => by rw [ht.reach]; exact h.tr a b hm⟩

end Go.Proofs.YteekoiljkklnmaaGreatDoor

/- OUR OWN. The program's heap: enqueue, sortWaiting, makeRoomToWait. -/
namespace Go.Proofs.YteekoiljkklnmaaGreatDoor
open Go.RowKit
set_option linter.unusedVariables false
set_option linter.unusedSimpArgs false

/-- one cell of a block is turned -/
theorem HeapAt.flagged {w : World} {h : Nat} {m : HeapM} {N : Nat} (r : HeapAt w h m) (hlen : m.blks.length = N + 1) {g cap : Nat} (hv : m.vB = .slice (some ⟨g, 0, none⟩) (N + 1) cap) (i : Nat) {o : HObj} (hi : m.blks[i]? = some o) (o' : HObj) (j : Nat) (hj : j < 3) (u : Value)
    (hc : o'.cells = o.cells.set j u) (hr : o'.row = o.row) :
    HTurn h w m (w.setCell ⟨g, i * 3 + j, none⟩ u) { m with blks := m.blks.set i o' } := by
  have hob : m.vB.ownBlock = some g := by rw [hv]; rfl
  have hgh : g ≠ h := fun e => r.ne (x := ⟨88, 3, m.vB, m.blks.length, m.blks.flatMap HObj.cells⟩) (by simp [HeapM.rows]) (by rw [← e]; exact hob)
  refine r.turn 2 ⟨88, 3, m.vB, m.blks.length, m.blks.flatMap HObj.cells⟩ ⟨88, 3, m.vB, (m.blks.set i o').length, (m.blks.set i o').flatMap HObj.cells⟩ rfl ?_ ?_ ?_ ?_ ?_
  · simp only [HeapM.rows, List.set_cons_zero, List.set_cons_succ, map_set_same HObj.row m.blks i o o' hi hr]
  · rw [hso (fun e => hgh e.symm)]; exact r.head
  · have hb := r.blocks
    show (w.setCell _ u).ownsRow 0 _ 3 m.vB (m.blks.set i o').length _
    rw [List.length_set, flat_set HObj.cells 3 (fun _ => rfl) m.blks i j hj o u hi o' hc]
    rw [hv, hlen] at hb ⊢
    exact (hb.stored (i * 3 + j) u).1
  · intro x hx
    exact .inl hx
  · exact (off_setCell w g (i * 3 + j) u).mono (fun x hx => by simp at hx; subst hx; exact List.mem_cons_of_mem _ (by simp [SRow.ob, hob]))

theorem HeapAt.requeued {w w1 : World} {h : Nat} {m : HeapM} (r : HeapAt w h m) (v' : Value) (q' : List Int) (hown : ownsWin w1 3 v' q'.length (q'.map (Value.int .i64)))
    (hoff : Off m.vQ.ownBlock.toList w w1) (hlie : ∀ g, v'.ownBlock = some g → m.vQ.ownBlock = some g ∨ w.heap.size ≤ g) : HTurn h w m (w1.setCell ⟨h, 6, none⟩ v') { m with vQ := v', queue := q' } := by
  have hh := lt_of_heap r.head
  have hne : m.vQ.ownBlock ≠ some h := r.ne (x := ⟨3, 1, m.vQ, m.queue.length, m.queue.map (Value.int .i64)⟩) (by simp [HeapM.rows])
  have hgh : ∀ g, v'.ownBlock = some g → g ≠ h := fun g hg e => by
    rcases hlie g hg with e1 | e1
    · exact hne (by rw [e1, e])
    · omega
  have hh1 : w1.heap[h]? = some m.head := by rw [hoff.block h hh (fun e => hne (by simpa using e))]; exact r.head
  refine r.turn 3 ⟨3, 1, m.vQ, m.queue.length, m.queue.map (Value.int .i64)⟩ ⟨3, 1, v', q'.length, q'.map (Value.int .i64)⟩ rfl rfl ?_ ?_ hlie ?_
  · rw [heap_setCell_at hh1]; rfl
  · show ownsWin (w1.setCell ⟨h, 6, none⟩ _) 3 v' q'.length (q'.map (Value.int .i64))
    exact win_carry hown fun g hg => hso (k := g) (b := h) (hgh g hg)
  · exact (hoff.mono (fun y hy => List.mem_cons_of_mem _ hy)).trans ((off_setCell w1 h 6 _).mono (by simp))

def HeapM.put (m : HeapM) (i : Nat) (o : HObj) : HeapM := { m with blks := m.blks.set i o }
theorem hput_st (m : HeapM) (i : Nat) (o : HObj) : (m.put i o).st = m.st.put i o.ob := by
  simp [HeapM.st, HeapM.put, St.put, List.map_set]
def HeapM.enq (m : HeapM) (i : Nat) (o : HObj) (v : Value) : HeapM := { m with blks := m.blks.set i { o with state := 3 }, queue := m.queue ++ [(i : Int)], vQ := v }

theorem list_bound {l : List Int} (N : Nat) (hn : l.Nodup) (h : ∀ b ∈ l, 0 ≤ b ∧ b ≤ N) : l.length ≤ N + 1 := by
  have h2 : (l.map Int.toNat).Nodup := by
    refine List.nodup_iff_pairwise_ne.2 ?_
    rw [List.pairwise_map]
    exact List.Pairwise.imp_of_mem (fun {a b} ha hb hab e => hab (by have h1 := h a ha; have h2 := h b hb; omega)) (List.nodup_iff_pairwise_ne.1 hn)
  have := nodup_le (l' := List.range (N + 1)) h2 fun x hx => by
    obtain ⟨b, hb, rfl⟩ := List.mem_map.1 hx
    have := h b hb
    exact List.mem_range.2 (by omega)
  simpa using this
theorem St.Good.queue_len {s : St} {N : Nat} (g : s.Good N) : s.queue.length ≤ N + 1 := by
  refine list_bound N g.once fun b hb => ?_
  have h0 := g.nat b hb
  have hq := (g.inq b.toNat).1 (by rw [Int.toNat_of_nonneg h0]; exact hb)
  have := g.ne_zero (g.queued_here hq)
  omega

set_option maxHeartbeats 1600000 in
theorem enqueue_mem {w : World} {h : Nat} {m : HeapM} {N : Nat} (r : HeapAt w h m) (hlen : m.blks.length = N + 1) (hql : m.queue.length ≤ 100) (hN : N ≤ 99) (i : Nat) (hi : i ≤ N) {o : HObj} (hio : m.blks[i]? = some o) :
    Calls Tryz.prog 95 #[.pointer (some ⟨h, 0, none⟩), .int .i64 i] w fun e w' => e = .returned (.tuple #[]) ∧ ∃ v', HTurn h w m w' (m.enq i o v') := by
  obtain ⟨g, cap, hv, hg, hgh, hob, hfz, hobj⟩ := r.view hlen
  have hil : i < m.blks.length := by rw [hlen]; omega
  have c3 := (hobj i hil).1
  have cB : w.cell? ⟨h, 5, none⟩ = some (.slice (some ⟨g, 0, none⟩) (N + 1) cap) := by rw [r.cell.2.2.2.1, hv]
  have f3 := hfz (i * 3)
  have T1 := r.flagged hlen hv i hio { o with state := 3 } 0 (by decide) (.int .i64 3) rfl rfl
  rw [Nat.add_zero] at T1
  have r1 := T1.here
  have hsz : (w.setCell ⟨g, i * 3, none⟩ (.int .i64 3)).heap.size = w.heap.size := by simp [World.setCell]
  have hne : m.vQ.ownBlock ≠ some h := r.ne (x := ⟨3, 1, m.vQ, m.queue.length, m.queue.map (Value.int .i64)⟩) (by simp [HeapM.rows])
  have OWN : Hid (∀ W, Below w.heap.size (w.setCell ⟨g, i * 3, none⟩ (.int .i64 3)) W → ownsWin W 3 m.vQ m.queue.length (m.queue.map (Value.int .i64))) :=
    fun W hb => win_carry r1.queue fun j hj => hb.block j (by rw [← hsz]; exact win_lt r1.queue hj)
  have FIN : Hid (∀ W w1 v', Below w.heap.size (w.setCell ⟨g, i * 3, none⟩ (.int .i64 3)) W → ownsWin w1 3 v' (m.queue.length + 1) (m.queue.map (Value.int .i64) ++ [.int .i64 i]) → Off m.vQ.ownBlock.toList W w1 →
    (∀ b, v'.ownBlock = some b → m.vQ.ownBlock = some b ∨ W.heap.size ≤ b) → HTurn h w m (w1.setCell ⟨h, 6, none⟩ v') (m.enq i o v') ∧ w1.cell? ⟨h, 6, none⟩ = some m.vQ ∧ w1.frozen? ⟨h, 6, none⟩ = false) := by
    intro W w1 v' hb ho hgr hl
    have hb' : Below (w.setCell ⟨g, i * 3, none⟩ (.int .i64 3)).heap.size (w.setCell ⟨g, i * 3, none⟩ (.int .i64 3)) W := by rw [hsz]; exact hb
    have r2 : HeapAt W h _ := r1.carry fun y hy => hb'.block y (r1.lt y hy)
    have hh1 : w1.heap[h]? = some m.head := by rw [hgr.block h (lt_of_heap r2.head) (fun e => hne (by simpa using e))]; exact r2.head
    have T2 := (T1.after hb').trans (r2.requeued v' (m.queue ++ [(i : Int)]) (by simpa using ho) hgr hl)
    exact ⟨T2, cell_of_heap hh1 rfl, frozen_of_heap hh1⟩
  have cQ : (w.setCell ⟨g, i * 3, none⟩ (.int .i64 3)).cell? ⟨h, 6, none⟩ = some m.vQ := r1.cell.2.2.2.2.1
  obtain ⟨xs, hxs⟩ : ∃ xs, m.queue.map (Value.int .i64) = xs := ⟨_, rfl⟩
  rw [hxs] at FIN OWN
  obtain ⟨len, hlq⟩ : ∃ len, m.queue.length = len := ⟨_, rfl⟩
  rw [hlq] at hql FIN OWN
  have hxl : xs.length = len := by rw [← hxs, List.length_map, hlq]
  have hiI : (i : Int) < (N : Int) + 1 := by omega
  obtain ⟨qd, hqd⟩ : ∃ qd, (m.blks[i]).state = qd := ⟨_, rfl⟩
  rw [hqd] at c3
  have SHAPE := (OWN.out _ (Below.refl _ _)).2
  clear r r1 T1 hv hobj hob hfz hio hlq hne hqd hil hxs hlen
  obtain ⟨i1, hi1, hy0, hy1, hy2⟩ := info_parts infoInt
  rcases SHAPE with ⟨hvq, hl0⟩ | ⟨qg, off, qc, cur, hvq, q1, q2, q3, q4, q5⟩
  · rw [hvq] at FIN OWN cQ
    subst hl0
    clear hvq
    have HI : Hid _ := hi1
    have HY : Hid _ := And.intro hy0 (And.intro hy1 hy2)
    clear hi1 hy0 hy1 hy2
    go_enter Tryz.func95, Tryz.ntmps95
    go_wp2_with (at_builtin; refine wpList_append_grows _ rfl (.tmp 15) (.tmp 17) 42 rfl 3 i1 _ 1 8 Tryz.underlying42 HI.out HY.out.1 HY.out.2.1 HY.out.2.2 rfl (by decide) none 0 0 xs rfl (fun _ => ⟨rfl, rfl⟩) (by omega) (fun b hb => by cases hb) ⟨w.heap.size, 0, none⟩ 1 1 [.int .i64 i] rfl rfl ?c1 ?c2 (by decide) ?c3 ?c4 ?_)
    case c1 => have := news_new (w.setCell ⟨g, i * 3, none⟩ (.int .i64 3)) [.int .i64 i] 3; rw [hsz] at this; exact this
    case c2 => intro u hu; simp at hu; subst hu; rfl
    case c3 => unfold maxLen; omega
    case c4 => omega
    intro v' w1 hown hgr
    obtain ⟨ao', cp', rfl⟩ := win_slice (win_of_row hown)
    obtain ⟨T, hc, hf⟩ := FIN.out _ w1 _ ((Below.refl _ _).alloc (by rw [hsz]; exact Nat.le_refl _) _) (win_of_row hown) ((off_grown hgr).mono (by simp)) (fun b hb => .inr (by have := (own_lt hown hb).1; simp [hsz] at this ⊢; omega))
    have TT : Hid _ := T
    clear hown hgr FIN OWN T HI HY
    go_wp2
    go_end0
    exact ⟨rfl, _, TT.out⟩
  · rw [hvq] at FIN OWN cQ
    clear hvq q1 q2 q3 q4 q5
    have HI : Hid _ := hi1
    have HY : Hid _ := And.intro hy0 (And.intro hy1 hy2)
    clear hi1 hy0 hy1 hy2
    go_enter Tryz.func95, Tryz.ntmps95
    go_wp2_with (at_builtin; refine wpList_append_arg _ rfl (.tmp 15) (.tmp 17) 42 rfl 3 i1 _ 1 8 Tryz.underlying42 HI.out HY.out.1 HY.out.2.1 HY.out.2.2 rfl (by decide) qg off len qc xs rfl (by omega) ?c0 ⟨w.heap.size, 0, none⟩ 1 1 [.int .i64 i] rfl rfl ?c1 ?c2 ?c5 ?c3 ?c4 ?room ?grow)
    case c0 =>
      intro j u hu
      obtain ⟨_, hh⟩ := OWN.out _ ((Below.refl _ _).alloc (by rw [hsz]; exact Nat.le_refl _) (.cells #[.int .i64 (i : Int)] 3))
      rcases hh with ⟨hv, _⟩ | ⟨g', off', cap', cur', hv, h1, _, _, _, h5⟩
      · cases hv
      · simp at hv
        obtain ⟨⟨rfl, rfl⟩, rfl⟩ := hv
        exact cell_of_heap h1 (h5 j u hu)
    case c1 => have := news_new (w.setCell ⟨g, i * 3, none⟩ (.int .i64 3)) [.int .i64 i] 3; rw [hsz] at this; exact this
    case c2 => intro u hu; simp at hu; subst hu; rfl
    case c3 => unfold maxLen; omega
    case c4 => omega
    case c5 =>
      intro hr j hj
      simp at hj
      subst hj
      have := (win_room (OWN.out _ ((Below.refl _ _).alloc (by rw [hsz]; exact Nat.le_refl _) (.cells #[.int .i64 (i : Int)] 3))) (by omega) (.int .i64 (i : Int))).2
      rw [Nat.mul_one, Nat.add_zero]
      exact this
    case room =>
      intro hr
      have R := (win_room (OWN.out _ ((Below.refl _ _).alloc (by rw [hsz]; exact Nat.le_refl _) (.cells #[.int .i64 (i : Int)] 3))) (by omega) (.int .i64 (i : Int))).1
      obtain ⟨w1, hw1⟩ : ∃ w1, w1 = (((w.setCell ⟨g, i * 3, none⟩ (.int .i64 3)).alloc (.cells #[.int .i64 (i : Int)] 3)).setCells qg (off + len) [.int .i64 (i : Int)]) := ⟨_, rfl⟩
      have e1 : w1 = ((w.setCell ⟨g, i * 3, none⟩ (.int .i64 3)).alloc (.cells #[.int .i64 (i : Int)] 3)).setCell ⟨qg, off + len, none⟩ (.int .i64 (i : Int)) := by rw [hw1]; rfl
      rw [← e1] at R
      obtain ⟨T, hc, hf⟩ := FIN.out _ w1 _ ((Below.refl _ _).alloc (by rw [hsz]; exact Nat.le_refl _) _) R (by rw [e1]; exact (off_setCell _ qg _ _).mono (by simp [Value.ownBlock])) (fun b hb => .inl hb)
      have TT : Hid _ := T
      have HR : Hid _ := hr
      have e2 : (((w.setCell ⟨g, i * 3, none⟩ (.int .i64 3)).alloc (.cells #[.int .i64 (i : Int)] 3)).setCells qg (off + len) [.int .i64 (i : Int)]) = w1 := hw1.symm
      rw [e2]
      clear R FIN OWN T hr e1 e2 hw1 HI HY HR
      go_wp2
      go_end0
      exact ⟨rfl, _, TT.out⟩
    case grow =>
      intro hr v' w1 hown hgr
      obtain ⟨ao', cp', rfl⟩ := win_slice (win_of_row hown)
      obtain ⟨T, hc, hf⟩ := FIN.out _ w1 _ ((Below.refl _ _).alloc (by rw [hsz]; exact Nat.le_refl _) _) (win_of_row hown) ((off_grown hgr).mono (by simp)) (fun b hb => .inr (by have := (own_lt hown hb).1; simp [hsz] at this ⊢; omega))
      have TT : Hid _ := T
      clear hown hgr FIN OWN T hr HI HY
      go_wp2
      go_end0
      exact ⟨rfl, _, TT.out⟩

theorem set_get {α : Type} {l : List α} {i j : Nat} {x y : α} (h : (l.set i x)[j]? = some y) : (j = i ∧ y = x) ∨ (j ≠ i ∧ l[j]? = some y) := by
  rw [List.getElem?_set] at h
  by_cases e : i = j
  · rw [if_pos e] at h
    split at h
    · exact .inl ⟨e.symm, (Option.some.inj h).symm⟩
    · cases h
  · rw [if_neg e] at h; exact .inr ⟨fun x => e x.symm, h⟩

/-- what goes to the queue -/
theorem HSb.enq {but : Int} {m : HeapM} {s : St} {c : Cf} {N : Nat} (p : HSb but m s c N) {i : Nat} {o : HObj} (hi : m.blks[i]? = some o) (hst : o.state = 1) (v : Value) : HSb but (m.enq i o v) (s.enq i) c N := by
  have ho : s.ob i = o.ob := by rw [← p.st]; exact hst_ob hi
  refine ⟨?_, p.deep, p.zero, p.over, fun x hx => ?_, fun j x hx hs => ?_⟩
  · have e : ({ o with state := 3 } : HObj).ob = { s.ob i with queued := true } := by rw [ho]; simp [HObj.ob, hst]
    unfold St.enq
    rw [← e, ← p.st]
    simp [HeapM.enq, HeapM.st, List.map_set]
  · rcases List.mem_or_eq_of_mem_set hx with e | e
    · exact p.state x e
    · subst e; exact .inr (.inr (.inr rfl))
  · rw [count_enq]
    rcases set_get hx with ⟨rfl, rfl⟩ | ⟨_, e⟩
    · exact p.cnt j o hi (.inl hst)
    · exact p.cnt j x e hs

theorem enqueue_any {but : Int} {h : Nat} {w : World} {m : HeapM} {s : St} {c : Cf} {N : Nat} (p : HB but h w m s c N) (i : Nat) (hi : i ≤ N) (hw : s.sorts but i = true) :
    Calls Tryz.prog 95 #[.pointer (some ⟨h, 0, none⟩), .int .i64 i] w fun e w' => e = .returned (.tuple #[]) ∧ ∃ m', HTurn h w m w' m' ∧ HB but h w' m' (s.enq i) c N := by
  obtain ⟨o, hio⟩ : ∃ o, m.blks[i]? = some o := ⟨_, List.getElem?_eq_getElem (by rw [p.len]; omega)⟩
  obtain ⟨h1, h2, h3⟩ := sorts_iff.1 hw
  obtain ⟨w1, w2, w3⟩ := waits_iff.1 h1
  have hst : o.state = 1 := by
    have e := p.ob hio
    have a1 := w1.1; have a2 := w1.2
    rw [e] at a1 a2 w2
    rcases p.hs.state o (List.mem_of_getElem? hio) with e | e | e | e
    · simp [HObj.ob, e] at a1
    · exact e
    · simp [HObj.ob, e] at w2
    · simp [HObj.ob, e] at a2
  refine (enqueue_mem p.r p.len (by rw [p.mqueue]; have := p.good.queue_len; have := p.small; omega) p.small i hi hio).mono ?_
  rintro e w' ⟨he, v', t⟩
  exact ⟨he, _, t, t.here, p.hs.enq hio hst v', p.good.enq i w1 w2 w3 h2, p.cf, p.small, p.stack, p.globals⟩

end Go.Proofs.YteekoiljkklnmaaGreatDoor

/- OUR OWN. The program's heap: isRoot. -/
namespace Go.Proofs.YteekoiljkklnmaaGreatDoor
open Go.RowKit
set_option linter.unusedVariables false
set_option linter.unusedSimpArgs false

theorem mem_refs {l : List (Int × Int)} {b : Int} : (decide (((2, b) : Int × Int) ∈ l)) = decide (0 < refsN l b) := by
  have : ((2, b) : Int × Int) ∈ l ↔ 0 < refsN l b := by
    constructor
    · intro h; exact refs_pos h rfl rfl
    · intro h
      obtain ⟨⟨v1, v2⟩, hv, h1, h2⟩ := refs_some h
      simp only at h1 h2
      subst h1 h2; exact hv
  simp [this]

set_option maxRecDepth 20000 in
set_option maxHeartbeats 4000000 in
theorem isRoot_any {but : Int} {h : Nat} {w : World} {m : HeapM} {s : St} {c : Cf} {N : Nat} (p : HB but h w m s c N) (b : Int) :
    Calls Tryz.prog 94 #[.pointer (some ⟨h, 0, none⟩), .int .i64 b] w fun e w' => e = .returned (.bool (s.rooted b)) ∧ Below w.heap.size w w' := by
  have hh := lt_of_heap p.r.head
  have RR : Hid (s.rooted b = (decide (((2, b) : Int × Int) ∈ m.stack) || decide (((2, b) : Int × Int) ∈ m.globals))) := by
    show s.rooted b = _
    rw [mem_refs, mem_refs, p.mstack, p.mglobals]
    unfold St.rooted
    by_cases h1 : 0 < refsN s.stack b <;> by_cases h2 : 0 < refsN s.globals b <;> simp [h1, h2] <;> omega
  have cS := p.r.cell.2.1
  have cG := p.r.cell.2.2.1
  have K : Hid (∀ W, Below w.heap.size w W → W.cell? ⟨h, 3, none⟩ = some m.vS ∧ W.cell? ⟨h, 4, none⟩ = some m.vG ∧
      (Calls Tryz.prog 97 #[m.vS, .agg #[.int .i64 2, .int .i64 b]] W fun e w' => e = .returned (.bool (decide (((2, b) : Int × Int) ∈ m.stack))) ∧ Below W.heap.size W w') ∧
      (Calls Tryz.prog 97 #[m.vG, .agg #[.int .i64 2, .int .i64 b]] W fun e w' => e = .returned (.bool (decide (((2, b) : Int × Int) ∈ m.globals))) ∧ Below W.heap.size W w')) := fun W hb => by
    have pW := p.below hb
    exact ⟨(hb.cell (p := ⟨h, 3, none⟩) hh).trans cS, (hb.cell (p := ⟨h, 4, none⟩) hh).trans cG, hasValue_any m.vS m.stack (2, b) W pW.r.stack (by rw [p.mstack]; have := p.stack; omega), hasValue_any m.vG m.globals (2, b) W pW.r.globals (by rw [p.mglobals]; have := p.globals; omega)⟩
  obtain ⟨ra, hra⟩ : ∃ x, decide (((2, b) : Int × Int) ∈ m.stack) = x := ⟨_, rfl⟩
  obtain ⟨rb, hrb⟩ : ∃ x, decide (((2, b) : Int × Int) ∈ m.globals) = x := ⟨_, rfl⟩
  rw [hra, hrb] at RR K
  obtain ⟨s0, c0, hvS⟩ := own_slice p.r.stack
  obtain ⟨g0, d0, hvG⟩ := own_slice p.r.globals
  rw [hvS, hvG] at K
  obtain ⟨l1, hl1⟩ : ∃ x, m.stack.length = x := ⟨_, rfl⟩
  obtain ⟨l2, hl2⟩ : ∃ x, m.globals.length = x := ⟨_, rfl⟩
  rw [hl1, hl2] at K
  clear p cS cG hra hrb hvS hvG hl1 hl2
  have K2 : Hid (∀ W w1, Below w.heap.size w W → W.heap[w.heap.size]? = some (.cells #[.int .i64 2, .int .i64 b] 81) → Below W.heap.size W w1 → Below w.heap.size w w1 ∧ w1.cell? ⟨w.heap.size, 0, none⟩ = some (.int .i64 2) ∧ w1.cell? ⟨w.heap.size, 1, none⟩ = some (.int .i64 b) ∧ w1.cell? ⟨h, 3, none⟩ = some (.slice s0 l1 c0) ∧ w1.cell? ⟨h, 4, none⟩ = some (.slice g0 l2 d0)) := fun W w1 hb hx hb1 => by
    have hbb : Below w.heap.size w w1 := hb.trans (hb1.mono hb.size)
    have hx1 : w1.heap[w.heap.size]? = some (.cells #[.int .i64 2, .int .i64 b] 81) := by rw [hb1.block _ (lt_of_heap hx)]; exact hx
    exact ⟨hbb, cell_of_heap hx1 rfl, cell_of_heap hx1 rfl, (K.out w1 hbb).1, (K.out w1 hbb).2.1⟩
  have K3 : Hid (∀ W w1, Below w.heap.size w W → W.cell? ⟨w.heap.size, 0, none⟩ = some (.int .i64 2) → W.cell? ⟨w.heap.size, 1, none⟩ = some (.int .i64 b) → Below W.heap.size W w1 → Below w.heap.size w w1 ∧ w1.cell? ⟨w.heap.size, 0, none⟩ = some (.int .i64 2) ∧ w1.cell? ⟨w.heap.size, 1, none⟩ = some (.int .i64 b) ∧ w1.cell? ⟨h, 3, none⟩ = some (.slice s0 l1 c0) ∧ w1.cell? ⟨h, 4, none⟩ = some (.slice g0 l2 d0)) := fun W w1 hb hx hy hb1 => by
    have hbb : Below w.heap.size w w1 := hb.trans (hb1.mono hb.size)
    have hlt : w.heap.size < W.heap.size := World.block_lt_of_cell? W _ hx
    exact ⟨hbb, (hb1.cell (p := ⟨w.heap.size, 0, none⟩) hlt).trans hx, (hb1.cell (p := ⟨w.heap.size, 1, none⟩) hlt).trans hy, (K.out w1 hbb).1, (K.out w1 hbb).2.1⟩
  obtain ⟨a0, a1, _, _⟩ := K.out (w.alloc (.cells #[.int .i64 2, .int .i64 b] 81)) ((Below.refl _ _).alloc (Nat.le_refl _) _)
  cases ra with
  | true =>
    go_enter Tryz.func94, Tryz.ntmps94
    go_wp2_with fail
    first | go_region_with (go_at_call 97; refine Calls.mono (K.out _ ((Below.refl _ _).alloc (Nat.le_refl _) _).drew).2.2.1 ?_; rintro e w1 ⟨rfl, hb1⟩; obtain ⟨b1, x0, x1, x2, x3⟩ := K2.out _ w1 ((Below.refl _ _).alloc (Nat.le_refl _) _).drew (heap_alloc_new w _) hb1; have B1 : Hid _ := b1; clear b1 hb1) | fail "region"
    all_goals go_wp2
    all_goals go_ret
    all_goals exact ⟨ret_bool (by rw [RR.out]; rfl), by first | exact B1.out | exact B1.out.drew | exact below_drewN B1.out _⟩
  | false =>
    go_enter Tryz.func94, Tryz.ntmps94
    go_wp2_with fail
    first | go_region_with (first | (go_at_call 97; refine Calls.mono (K.out _ B1.out).2.2.2 ?_; rintro e w2 ⟨rfl, hb2⟩; obtain ⟨b2, y0, y1, y2, y3⟩ := K3.out _ w2 B1.out x0 x1 hb2; have B2 : Hid _ := b2; clear b2 hb2) | (go_at_call 97; refine Calls.mono (K.out _ ((Below.refl _ _).alloc (Nat.le_refl _) _).drew).2.2.1 ?_; rintro e w1 ⟨rfl, hb1⟩; obtain ⟨b1, x0, x1, x2, x3⟩ := K2.out _ w1 ((Below.refl _ _).alloc (Nat.le_refl _) _).drew (heap_alloc_new w _) hb1; have B1 : Hid _ := b1; clear b1 hb1)) | fail "region"
    all_goals go_wp2
    all_goals go_ret
    all_goals exact ⟨ret_bool (by rw [RR.out]; cases rb <;> rfl), by first | exact B2.out | exact B2.out.drew | exact below_drewN B2.out _⟩

end Go.Proofs.YteekoiljkklnmaaGreatDoor

/- OUR OWN. The program's heap: sortWaiting, makeRoomToWait. -/
namespace Go.Proofs.YteekoiljkklnmaaGreatDoor
open Go.RowKit
set_option linter.unusedVariables false
set_option linter.unusedSimpArgs false

set_option maxHeartbeats 1600000 in
theorem sortWaiting_any {but : Int} {h : Nat} {w : World} {m : HeapM} {s : St} {c : Cf} {N : Nat} (p : HB but h w m s c N) :
    Calls Tryz.prog 90 #[.pointer (some ⟨h, 0, none⟩)] w fun e w' => e = .returned (.tuple #[]) ∧ ∃ m', HTurn h w m w' m' ∧ HB but h w' m' (s.sort but) c N := by
  have hN := p.small
  have hsN : s.N = N := p.good.sN
  have START : Hid (HTurn h w m w m ∧ HB but h w m (sortTo but s 0) c N) := ⟨.refl p.r, p⟩
  -- a round: what is known at its start, what its calls do
  have ROUND : Hid (∀ wr mr (j : Nat), j < N → HTurn h w m wr mr → HB but h wr mr (sortTo but s j) c N → ∃ g cap st ct ao fl fc, wr.cell? ⟨h, 5, none⟩ = some (.slice (some ⟨g, 0, none⟩) (N + 1) cap) ∧
      wr.cell? ⟨g, (j + 1) * 3, none⟩ = some (.int .i64 st) ∧ wr.cell? ⟨g, (j + 1) * 3 + 1, none⟩ = some (.int .i64 ct) ∧ wr.cell? ⟨g, (j + 1) * 3 + 2, none⟩ = some (.slice ao fl fc) ∧
      ((decide (st = 1) && decide (ct = 0)) = false → ∀ W, Below wr.heap.size wr W → ∃ m', HTurn h w m W m' ∧ HB but h W m' (sortTo but s (j + 1)) c N) ∧
      ((decide (st = 1) && decide (ct = 0)) = true → ∀ W, Below wr.heap.size wr W → Calls Tryz.prog 94 #[.pointer (some ⟨h, 0, none⟩), .int .i64 ((j : Int) + 1)] W fun e w1 => ∃ b, e = .returned (.bool b) ∧
        (b = true → ∃ m', HTurn h w m w1 m' ∧ HB but h w1 m' (sortTo but s (j + 1)) c N) ∧
        (b = false → Calls Tryz.prog 95 #[.pointer (some ⟨h, 0, none⟩), .int .i64 ((j : Int) + 1)] w1 fun e w2 => e = .returned (.tuple #[]) ∧ ∃ m', HTurn h w m w2 m' ∧ HB but h w2 m' (sortTo but s (j + 1)) c N))) := by
    intro wr mr j hj t q
    obtain ⟨g, cap, cB, hg, hobj⟩ := q.cells
    obtain ⟨o, ao, fl, fc, ho, _, _, c0, c1, c2⟩ := hobj (j + 1) (by omega)
    have hw : (decide (o.state = 1) && decide (o.count = 0)) = (sortTo but s j).others but (j + 1) := q.hs.waits ho
    refine ⟨g, cap, o.state, o.count, ao, fl, fc, cB, c0, c1, c2, fun hx W hb => ?_, fun hx W hb => ?_⟩
    · have e : sortTo but s (j + 1) = sortTo but s j := by
        show (if _ then _ else _) = _
        rw [if_neg]
        intro hs
        obtain ⟨h1, h2, h3⟩ := sorts_iff.1 hs
        rw [hw] at hx
        unfold St.others at hx
        simp [h1] at hx
        exact h3 (by push_cast; exact hx)
      rw [e]
      exact ⟨mr, t.after hb, q.below hb⟩
    · rw [hw] at hx
      have hx2 : (sortTo but s j).waits (j + 1) = true ∧ ((j + 1 : Nat) : Int) ≠ but := by unfold St.others at hx; simpa using hx
      have q1 := q.below hb
      refine (isRoot_any q1 ((j : Int) + 1)).mono ?_
      rintro e w1 ⟨rfl, hb1⟩
      have q2 := q1.below hb1
      have t2 : HTurn h w m w1 mr := (t.after hb).after hb1
      refine ⟨_, rfl, fun hr => ?_, fun hr => ?_⟩
      · have e : sortTo but s (j + 1) = sortTo but s j := by
          show (if _ then _ else _) = _
          rw [if_neg]
          intro hs
          obtain ⟨h1, h2, h3⟩ := sorts_iff.1 hs
          have h2' : (sortTo but s j).rooted ((j : Int) + 1) = false := by have := h2; push_cast at this; exact this
          rw [hr] at h2'; cases h2'
        rw [e]
        exact ⟨mr, t2, q2⟩
      · have hs : (sortTo but s j).sorts but (j + 1) = true := sorts_iff.2 ⟨hx2.1, by push_cast; exact hr, hx2.2⟩
        have e : sortTo but s (j + 1) = (sortTo but s j).enq (j + 1) := by
          show (if _ then _ else _) = _
          rw [if_pos hs]
        rw [e]
        refine (enqueue_any q2 (j + 1) (by omega) hs).mono ?_
        rintro e w2 ⟨he, m', t3, q3⟩
        exact ⟨he, m', t2.trans t3, q3⟩
  have BLK : Hid (∀ wr mr s', HB but h wr mr s' c N → ∃ g cap, wr.cell? ⟨h, 5, none⟩ = some (.slice (some ⟨g, 0, none⟩) (N + 1) cap)) := fun wr mr s' q => by
    obtain ⟨g, cap, cB, _⟩ := q.cells
    exact ⟨g, cap, cB⟩
  have WF : Hid (∀ st ct v w, Calls Tryz.prog 84 #[.agg #[.int .i64 st, .int .i64 ct, v]] w fun e w' => e = .returned (.bool (decide (st = 1) && decide (ct = 0))) ∧ Below w.heap.size w w') := waits_fn
  have FIN : Hid (sortTo but s N = s.sort but) := by show _ = _; unfold St.sort; rw [hsN]
  clear p hsN
  go_enter Tryz.func90, Tryz.ntmps90
  go_wp2
  go_loopw [2] (fun i wr => ∃ j : Nat, j ≤ N ∧ i = .int .i64 (j + 1) ∧ ∃ mr, HTurn h w m wr mr ∧ HB but h wr mr (sortTo but s j) c N) (fun i _ => N + 1 - (intOf i).toNat)
  case atStart => exact ⟨0, Nat.zero_le _, rfl, m, START.out⟩
  case round =>
    obtain ⟨j, hj, rfl, mr, ht, hq⟩ := hrel
    by_cases hlt : j < N
    · obtain ⟨g, cap, st, ct, ao, fl, fc, cB, c0, c1, c2, hno, hyes⟩ := ROUND.out wr mr j hlt ht hq
      have NO : Hid _ := hno
      have YES : Hid _ := hyes
      have X : Hid _ := WF.out st ct
      clear hno hyes ht hq
      go_wp2_with fail
      refine Calls.mono (X.out _ _) ?_
      rintro e w1 ⟨rfl, hb1⟩
      have B1 : Hid (Below wr.heap.size wr w1) := hb1
      clear hb1 X c0 c1 c2 cB
      cases hx : (decide (st = 1) && decide (ct = 0)) with
      | false =>
        have F : Hid (∃ m', HTurn h w m w1 m' ∧ HB but h w1 m' (sortTo but s (j + 1)) c N) := NO.out hx w1 B1.out
        clear hx NO YES B1
        go_wp2
        go_roundw
        case rel => exact ⟨j + 1, by omega, by go_num, F.out⟩
        case measure => simp [intOf]; omega
      | true =>
        have Y : Hid _ := YES.out hx w1 B1.out
        clear hx NO YES B1
        go_wp2_with fail
        refine Calls.mono Y.out ?_
        rintro e w2 ⟨b, rfl, hbt, hbf⟩
        have BT : Hid _ := hbt
        have BF : Hid _ := hbf
        clear hbt hbf Y
        cases b with
        | true =>
          have F : Hid (∃ m', HTurn h w m w2 m' ∧ HB but h w2 m' (sortTo but s (j + 1)) c N) := BT.out rfl
          clear BT BF
          go_wp2
          go_roundw
          case rel => exact ⟨j + 1, by omega, by go_num, F.out⟩
          case measure => simp [intOf]; omega
        | false =>
          have F : Hid _ := BF.out rfl
          clear BT BF
          go_wp2_with fail
          refine Calls.mono F.out ?_
          rintro e w3 ⟨rfl, hm⟩
          have M : Hid _ := hm
          clear hm F
          go_wp2
          go_roundw
          case rel => exact ⟨j + 1, by omega, by go_num, M.out⟩
          case measure => simp [intOf]; omega
    · obtain rfl : j = N := by omega
      obtain ⟨g, cap, cB⟩ := BLK.out wr mr _ hq
      have F : Hid (∃ m', HTurn h w m wr m' ∧ HB but h wr m' (s.sort but) c j) := by rw [← FIN.out]; exact ⟨mr, ht, hq⟩
      clear ht hq
      go_wp2
      go_end0
      exact ⟨rfl, F.out⟩

set_option maxHeartbeats 800000 in
theorem makeRoom_any {but : Int} {h : Nat} {w : World} {m : HeapM} {s : St} {c : Cf} {N : Nat} (p : HB but h w m s c N) :
    Calls Tryz.prog 72 #[.pointer (some ⟨h, 0, none⟩)] w fun e w' => e = .returned (.tuple #[]) ∧ ∃ m', HTurn h w m w' m' ∧ HB but h w' m' (s.enter c.zero but) c N := by
  have hsN : s.N = N := p.good.sN
  have cZ : w.cell? ⟨h, 1, none⟩ = some (.int .i64 c.zero) := by rw [p.r.cell.2.2.2.2.2.1, p.hs.zero]
  have hh := lt_of_heap p.r.head
  have W0 : Hid _ := waiting_any p
  have K : Hid (∀ W, Below w.heap.size w W → W.cell? ⟨h, 1, none⟩ = some (.int .i64 c.zero) ∧ (¬ c.zero ≤ countTo (s.others but) N → ∃ m', HTurn h w m W m' ∧ HB but h W m' (s.enter c.zero but) c N) ∧
      (c.zero ≤ countTo (s.others but) N → Calls Tryz.prog 90 #[.pointer (some ⟨h, 0, none⟩)] W fun e w' => e = .returned (.tuple #[]) ∧ ∃ m', HTurn h w m w' m' ∧ HB but h w' m' (s.enter c.zero but) c N)) := fun W hb => by
    refine ⟨(hb.cell (p := ⟨h, 1, none⟩) hh).trans cZ, fun hz => ?_, fun hz => ?_⟩
    · have e : s.enter c.zero but = s := by unfold St.enter; rw [hsN, if_neg hz]
      rw [e]
      exact ⟨m, .of_below p.r hb, p.below hb⟩
    · have e : s.enter c.zero but = s.sort but := by unfold St.enter; rw [hsN, if_pos hz]
      rw [e]
      refine (sortWaiting_any (p.below hb)).mono ?_
      rintro e w' ⟨he, m', t, q⟩
      exact ⟨he, m', .pre p.r hb t, q⟩
  obtain ⟨n, hn⟩ : ∃ n, countTo (s.others but) N = n := ⟨_, rfl⟩
  rw [hn] at W0 K
  obtain ⟨z, hz⟩ : ∃ z, c.zero = z := ⟨_, rfl⟩
  rw [hz] at K ⊢
  clear p hsN cZ hn hz
  go_enter Tryz.func72, Tryz.ntmps72
  go_wp2_with fail
  refine Calls.mono W0.out ?_
  rintro e w1 ⟨rfl, hb⟩
  obtain ⟨c0, k1, k2⟩ := K.out w1 hb
  have K1 : Hid _ := k1
  have K2 : Hid _ := k2
  clear hb K W0 k1 k2
  by_cases hzn : z ≤ (n : Int)
  · have F : Hid _ := K2.out hzn
    clear K1 K2
    go_wp2_with fail
    refine Calls.mono F.out ?_
    rintro e w2 ⟨rfl, hm⟩
    have M : Hid _ := hm
    clear hm F
    go_wp2
    go_end0
    exact ⟨rfl, M.out⟩
  · have F : Hid _ := K1.out (by omega)
    have hz2 : decide (z ≤ (n : Int)) = false := by simpa using hzn
    clear K1 K2
    go_wp2
    go_end0
    exact ⟨rfl, F.out⟩

end Go.Proofs.YteekoiljkklnmaaGreatDoor

/- OUR OWN. The program's heap: countField, uncountField. -/
namespace Go.Proofs.YteekoiljkklnmaaGreatDoor
open Go.RowKit
set_option linter.unusedVariables false
set_option linter.unusedSimpArgs false

theorem refs_length (l : List (Int × Int)) (b : Int) : refsN l b ≤ l.length := List.countP_le_length
theorem St.Good.count_le {s : St} {N : Nat} (g : s.Good N) (b : Int) : s.count b ≤ 4 * N := by
  have key : ∀ l : List Ob, (∀ o ∈ l, o.fs.length ≤ 4) → (l.map (obCount b)).sum ≤ 4 * l.length := by
    intro l
    induction l with
    | nil => intro _; simp
    | cons o l ih =>
      intro h
      have h1 := ih fun o ho => h o (List.mem_cons_of_mem _ ho)
      have h2 := h o (by simp)
      have h3 : obCount b o ≤ o.fs.length := by
        unfold obCount
        split
        · exact refs_length _ _
        · omega
      simp only [List.map_cons, List.sum_cons, List.length_cons]
      omega
  have := key s.objs.tail fun o ho => by
    obtain ⟨i, _, _, rfl⟩ := ob_tail.1 ho
    exact g.four i
  rw [List.length_tail, g.len] at this
  unfold St.count
  simpa using this

/-- another one is counted too much -/
theorem HSb.but {b b' : Int} {m : HeapM} {s : St} {c : Cf} {N : Nat} (p : HSb b m s c N) (h : ∀ (i : Nat) (o : HObj), m.blks[i]? = some o → o.state = 1 ∨ o.state = 3 → ((i : Int) = b ↔ (i : Int) = b')) : HSb b' m s c N := by
  refine ⟨p.st, p.deep, p.zero, p.over, p.state, fun i o hi hs => ?_⟩
  have h1 := h i o hi hs
  rw [p.cnt i o hi hs]
  by_cases e : (i : Int) = b
  · rw [if_pos e, if_pos (h1.1 e)]
  · rw [if_neg e, if_neg (fun x => e (h1.2 x))]
theorem HSb.pos {b : Int} {m : HeapM} {s : St} {c : Cf} {N : Nat} (p : HSb b m s c N) (g : s.Good N) {i : Nat} {o : HObj} (hi : m.blks[i]? = some o) (hs : o.state = 1 ∨ o.state = 3) : ¬ (i : Int) = 0 := fun h0 => by
  have h0 : i = 0 := by omega
  have ho : s.ob i = o.ob := by rw [← p.st]; exact hst_ob hi
  have := g.zero
  rw [← h0, ho] at this
  have := congrArg Ob.here this
  rcases hs with e | e <;> simp [HObj.ob, e, Ob.free] at this

/-- the object's count alone is turned -/
theorem HSb.recount {b b' : Int} {m : HeapM} {s : St} {c : Cf} {N : Nat} (p : HSb b m s c N) {j : Nat} {o : HObj} (hj : m.blks[j]? = some o) (x : Int) (hx : o.state = 1 ∨ o.state = 3 → x = s.count j + if (j : Int) = b' then 1 else 0)
    (h : ∀ (i : Nat) (o : HObj), i ≠ j → m.blks[i]? = some o → o.state = 1 ∨ o.state = 3 → ((i : Int) = b ↔ (i : Int) = b')) : HSb b' (m.put j { o with count := x }) s c N := by
  have ho : s.ob j = o.ob := by rw [← p.st]; exact hst_ob hj
  refine ⟨?_, p.deep, p.zero, p.over, fun y hy => ?_, fun i y hy hs => ?_⟩
  · rw [hput_st, p.st]
    have : ({ o with count := x } : HObj).ob = s.ob j := ho.symm
    rw [this]
    unfold St.put
    have hl : j < s.objs.length := by rw [← p.st]; simpa [HeapM.st] using (List.getElem?_eq_some_iff.1 hj).1
    have e : s.objs.set j (s.ob j) = s.objs := by
      have : s.ob j = s.objs[j] := ob_of (List.getElem?_eq_getElem hl)
      rw [this]; exact List.set_getElem_self hl
    rw [e]
  · rcases List.mem_or_eq_of_mem_set hy with e | e
    · exact p.state y e
    · subst e; exact p.state o (List.mem_of_getElem? hj)
  · rcases set_get hy with ⟨rfl, rfl⟩ | ⟨hne, e⟩
    · exact hx hs
    · have h1 := h i y hne e hs
      rw [p.cnt i y e hs]
      by_cases e : (i : Int) = b
      · rw [if_pos e, if_pos (h1.1 e)]
      · rw [if_neg e, if_neg (fun x => e (h1.2 x))]

/-- the object is stuck from now on -/
theorem HSb.stick {m : HeapM} {s : St} {c : Cf} {N : Nat} (p : HSb 0 m s c N) (g : s.Good N) {j : Nat} {o : HObj} (hj : m.blks[j]? = some o) (h1 : o.state = 1) : HSb j (m.put j { o with state := 2 }) (s.stick j) c N := by
  have ho : s.ob j = o.ob := by rw [← p.st]; exact hst_ob hj
  refine ⟨?_, p.deep, p.zero, p.over, fun y hy => ?_, fun i y hy hs => ?_⟩
  · rw [hput_st, p.st]
    unfold St.stick
    have : ({ o with state := 2 } : HObj).ob = { s.ob j with stuck := true } := by rw [ho]; simp [HObj.ob, h1]
    rw [this]
  · rcases List.mem_or_eq_of_mem_set hy with e | e
    · exact p.state y e
    · subst e; exact .inr (.inr (.inl rfl))
  · rw [count_stick]
    rcases set_get hy with ⟨rfl, rfl⟩ | ⟨hne, e⟩
    · rcases hs with e | e <;> simp at e
    · have := p.cnt i y e hs
      rw [if_neg (p.pos g e hs)] at this
      rw [this, if_neg (by omega)]

theorem alive_state {b : Int} {m : HeapM} {s : St} {c : Cf} {N : Nat} (p : HSb b m s c N) {j : Nat} {o : HObj} (hj : m.blks[j]? = some o) (ha : s.alive j) : (o.state = 1 ∧ (s.ob j).stuck = false) ∨ (o.state = 2 ∧ (s.ob j).stuck = true) := by
  have ho : s.ob j = o.ob := by rw [← p.st]; exact hst_ob hj
  obtain ⟨a1, a2⟩ := ha
  rw [ho] at a1 a2 ⊢
  rcases p.state o (List.mem_of_getElem? hj) with e | e | e | e
  · simp [HObj.ob, e] at a1
  · exact .inl ⟨e, by simp [HObj.ob, e]⟩
  · exact .inr ⟨e, by simp [HObj.ob, e]⟩
  · simp [HObj.ob, e] at a2

theorem stick_stuck {s : St} {j : Nat} (hl : j < s.objs.length) (h : (s.ob j).stuck = true) : s.stick j = s := by
  unfold St.stick St.put
  have e : ({ s.ob j with stuck := true } : Ob) = s.objs[j] := by
    have e2 : s.ob j = s.objs[j] := ob_of (List.getElem?_eq_getElem hl)
    rw [← e2, ← h]
  rw [e, List.set_getElem_self hl]

set_option maxHeartbeats 1600000 in
theorem countField_any {h : Nat} {w : World} {m : HeapM} {s : St} {c : Cf} {N : Nat} (p : HB 0 h w m s c N) (j : Nat) (ha : s.alive j) :
    Calls Tryz.prog 91 #[.pointer (some ⟨h, 0, none⟩), .int .i64 j] w fun e w' => e = .returned (.tuple #[]) ∧ ∃ m', HTurn h w m w' m' ∧ HB j h w' m' (stickS c.over s (2, (j : Int))) c N := by
  obtain ⟨hj1, hjN⟩ := p.good.ne_zero ha.1
  obtain ⟨g, cap, hv, hg, hgh, hob, hfz, hobj⟩ := p.r.view p.len
  have hil : j < m.blks.length := by rw [p.len]; omega
  have cB : w.cell? ⟨h, 5, none⟩ = some (.slice (some ⟨g, 0, none⟩) (N + 1) cap) := by rw [p.r.cell.2.2.2.1, hv]
  have cO : w.cell? ⟨h, 2, none⟩ = some (.int .i64 c.over) := by rw [p.r.cell.2.2.2.2.2.2.1, p.hs.over]
  have hh := lt_of_heap p.r.head
  obtain ⟨o, hio⟩ : ∃ o, m.blks[j]? = some o := ⟨_, List.getElem?_eq_getElem hil⟩
  have hoe : m.blks[j] = o := (List.getElem?_eq_some_iff.1 hio).2
  obtain ⟨c0, c1, c2⟩ := hobj j hil
  rw [hoe] at c0 c1 c2
  have hN := p.small
  have hjI : (j : Int) < (N : Int) + 1 := by omega
  have hcl := p.good.count_le j
  have gst := (p.good.stickS c.over (x := (2, (j : Int))) (.inr (.inr ⟨rfl, j, rfl, ha⟩))).1
  have DONE : ∀ W m', HTurn h w m W m' → HSb j m' (stickS c.over s (2, (j : Int))) c N → ∃ m', HTurn h w m W m' ∧ HB j h W m' (stickS c.over s (2, (j : Int))) c N := fun W m' t q =>
    ⟨m', t, t.here, q, gst, p.cf, p.small, by
      have : (stickS c.over s (2, (j : Int))).stack = s.stack := by unfold stickS; split <;> rfl
      rw [this]; exact p.stack, by
      have : (stickS c.over s (2, (j : Int))).globals = s.globals := by unfold stickS; split <;> rfl
      rw [this]; exact p.globals⟩
  rcases alive_state p.hs hio ha with ⟨hst, hsk⟩ | ⟨hst, hsk⟩
  · have hct : o.count = s.count j := by have := p.hs.cnt j o hio (.inl hst); rw [if_neg (p.hs.pos p.good hio (.inl hst))] at this; omega
    -- one more is counted
    have INC : ∀ W, Below w.heap.size w W → stickS c.over s (2, (j : Int)) = s → ∃ m', HTurn h w m (W.setCell ⟨g, j * 3 + 1, none⟩ (.int .i64 (o.count + 1))) m' ∧ HB j h (W.setCell ⟨g, j * 3 + 1, none⟩ (.int .i64 (o.count + 1))) m' (stickS c.over s (2, (j : Int))) c N := fun W hb e => by
      have t := (p.below hb).r.flagged p.len hv j hio { o with count := o.count + 1 } 1 (by decide) (.int .i64 (o.count + 1)) rfl rfl
      refine DONE _ _ (.pre p.r hb t) ?_
      rw [e]
      refine p.hs.recount hio _ (fun _ => by rw [if_pos rfl, hct]) fun i y hne hy hs => ⟨fun e => absurd e (p.hs.pos p.good hy hs), fun e => absurd (by omega) hne⟩
    by_cases h7 : o.count = 7
    · have X : Hid _ := hextras_any p
      have hex : countTo s.extra N = s.extras := by unfold St.extras; rw [p.good.sN]
      rw [hex] at X
      by_cases hov : c.over ≤ s.extras
      · have e : stickS c.over s (2, (j : Int)) = s.stick j := by
          unfold stickS
          rw [if_pos ⟨rfl, by have : (s.count j : Int) = 7 := by omega
                              exact_mod_cast this, hov⟩]
          simp
        have FIN : Hid (∀ W, Below w.heap.size w W → W.cell? ⟨h, 2, none⟩ = some (.int .i64 c.over) ∧ W.cell? ⟨h, 5, none⟩ = some (.slice (some ⟨g, 0, none⟩) (N + 1) cap) ∧ W.cell? ⟨g, j * 3, none⟩ = some (.int .i64 1) ∧ W.frozen? ⟨g, j * 3, none⟩ = false ∧
            ∃ m', HTurn h w m (W.setCell ⟨g, j * 3, none⟩ (.int .i64 2)) m' ∧ HB j h (W.setCell ⟨g, j * 3, none⟩ (.int .i64 2)) m' (stickS c.over s (2, (j : Int))) c N) := fun W hb => by
          refine ⟨(hb.cell (p := ⟨h, 2, none⟩) hh).trans cO, (hb.cell (p := ⟨h, 5, none⟩) hh).trans cB, by rw [hb.cell (p := ⟨g, j * 3, none⟩) hg, c0, hst], (hb.frozen (p := ⟨g, j * 3, none⟩) hg).trans (hfz _), ?_⟩
          have t := (p.below hb).r.flagged p.len hv j hio { o with state := 2 } 0 (by decide) (.int .i64 2) rfl rfl
          rw [Nat.add_zero] at t
          refine DONE _ _ (.pre p.r hb t) ?_
          rw [e]
          exact p.hs.stick p.good hio hst
        rw [hst] at c0
        rw [h7] at c1
        obtain ⟨ex, hexx⟩ : ∃ ex, s.extras = ex := ⟨_, rfl⟩
        rw [hexx] at X hov
        obtain ⟨ov, hovv⟩ : ∃ ov, c.over = ov := ⟨_, rfl⟩
        rw [hovv] at FIN hov cO ⊢
        clear p hobj hv hob hfz hio hoe c2 hcl gst DONE INC hct e hex hexx hovv
        go_enter Tryz.func91, Tryz.ntmps91
        go_wp2_with fail
        refine Calls.mono X.out ?_
        rintro e w1 ⟨rfl, hb⟩
        obtain ⟨d0, d1, d2, d3, hm⟩ := FIN.out w1 hb
        have M : Hid _ := hm
        clear hm hb FIN X c0 c1 cB cO
        go_wp2
        first | go_end0 | refine bodyPost_ret (results_none rfl _ _ _) rfl ?_
        exact ⟨rfl, M.out⟩
      · have e : stickS c.over s (2, (j : Int)) = s := by
          unfold stickS
          rw [if_neg]
          rintro ⟨_, _, h3⟩; exact hov h3
        have FIN : Hid (∀ W, Below w.heap.size w W → W.cell? ⟨h, 2, none⟩ = some (.int .i64 c.over) ∧ W.cell? ⟨h, 5, none⟩ = some (.slice (some ⟨g, 0, none⟩) (N + 1) cap) ∧ W.cell? ⟨g, j * 3 + 1, none⟩ = some (.int .i64 7) ∧ W.frozen? ⟨g, j * 3 + 1, none⟩ = false ∧
            ∃ m', HTurn h w m (W.setCell ⟨g, j * 3 + 1, none⟩ (.int .i64 8)) m' ∧ HB j h (W.setCell ⟨g, j * 3 + 1, none⟩ (.int .i64 8)) m' (stickS c.over s (2, (j : Int))) c N) := fun W hb => by
          refine ⟨(hb.cell (p := ⟨h, 2, none⟩) hh).trans cO, (hb.cell (p := ⟨h, 5, none⟩) hh).trans cB, by rw [hb.cell (p := ⟨g, j * 3 + 1, none⟩) hg, c1, h7], (hb.frozen (p := ⟨g, j * 3 + 1, none⟩) hg).trans (hfz _), ?_⟩
          have := INC W hb e
          rw [h7] at this
          exact this
        rw [hst] at c0
        rw [h7] at c1
        obtain ⟨ex, hexx⟩ : ∃ ex, s.extras = ex := ⟨_, rfl⟩
        rw [hexx] at X hov
        obtain ⟨ov, hovv⟩ : ∃ ov, c.over = ov := ⟨_, rfl⟩
        rw [hovv] at FIN hov cO ⊢
        have hov2 : decide (ov ≤ (ex : Int)) = false := by simpa using hov
        clear p hobj hv hob hfz hio hoe c2 hcl gst DONE INC hct e hex hexx hovv
        go_enter Tryz.func91, Tryz.ntmps91
        go_wp2_with fail
        refine Calls.mono X.out ?_
        rintro e w1 ⟨rfl, hb⟩
        obtain ⟨d0, d1, d2, d3, hm⟩ := FIN.out w1 hb
        have M : Hid _ := hm
        clear hm hb FIN X c0 c1 cB cO
        go_wp2
        first | go_end0 | refine bodyPost_ret (results_none rfl _ _ _) rfl ?_
        exact ⟨rfl, M.out⟩
    · have e : stickS c.over s (2, (j : Int)) = s := by
        unfold stickS
        rw [if_neg]
        rintro ⟨_, h3, _⟩
        have h3 : s.count j = 7 := h3
        omega
      have M : Hid _ := INC w (Below.refl _ _) e
      have f1 := hfz (j * 3 + 1)
      have hcs : 0 ≤ o.count ∧ o.count ≤ 400 := by omega
      rw [hst] at c0
      obtain ⟨ct, hctt⟩ : ∃ ct, o.count = ct := ⟨_, rfl⟩
      rw [hctt] at c1 M h7 hcs
      have h72 : (ct == 7) = false := by simpa using h7
      clear p hobj hv hob hfz hio hoe c2 hcl gst DONE INC hct e hctt
      go_enter Tryz.func91, Tryz.ntmps91
      go_wp2
      first | go_end0 | refine bodyPost_ret (results_none rfl _ _ _) rfl ?_
      exact ⟨rfl, M.out⟩
  · have e : stickS c.over s (2, (j : Int)) = s := by
      unfold stickS
      split
      · simp; exact stick_stuck (here_lt ha.1) hsk
      · rfl
    have M : Hid (∃ m', HTurn h w m w m' ∧ HB j h w m' (stickS c.over s (2, (j : Int))) c N) := by
      refine DONE w m (.refl p.r) ?_
      rw [e]
      refine p.hs.but fun i y hy hs => ⟨fun e => absurd e (p.hs.pos p.good hy hs), fun e => ?_⟩
      have : i = j := by omega
      subst this
      rw [hio] at hy; cases hy
      rcases hs with e | e <;> omega
    rw [hst] at c0
    clear p hobj hv hob hfz hio hoe c2 hcl gst DONE e
    go_enter Tryz.func91, Tryz.ntmps91
    go_wp2
    first | go_end0 | refine bodyPost_ret (results_none rfl _ _ _) rfl ?_
    exact ⟨rfl, M.out⟩

set_option maxHeartbeats 1600000 in
theorem uncountField_any {h : Nat} {w : World} {m : HeapM} {s : St} {c : Cf} {N : Nat} (j : Nat) (p : HB j h w m s c N) (ha : s.alive j) :
    Calls Tryz.prog 92 #[.pointer (some ⟨h, 0, none⟩), .int .i64 j] w fun e w' => e = .returned (.tuple #[]) ∧ ∃ m', HTurn h w m w' m' ∧ HB 0 h w' m' (dropS' c.zero s (2, (j : Int))) c N := by
  obtain ⟨hj1, hjN⟩ := p.good.ne_zero ha.1
  obtain ⟨g, cap, hv, hg, hgh, hob, hfz, hobj⟩ := p.r.view p.len
  have hil : j < m.blks.length := by rw [p.len]; omega
  have cB : w.cell? ⟨h, 5, none⟩ = some (.slice (some ⟨g, 0, none⟩) (N + 1) cap) := by rw [p.r.cell.2.2.2.1, hv]
  have hh := lt_of_heap p.r.head
  obtain ⟨o, hio⟩ : ∃ o, m.blks[j]? = some o := ⟨_, List.getElem?_eq_getElem hil⟩
  have hoe : m.blks[j] = o := (List.getElem?_eq_some_iff.1 hio).2
  obtain ⟨c0, c1, c2⟩ := hobj j hil
  rw [hoe] at c0 c1 c2
  have hN := p.small
  have hjI : (j : Int) < (N : Int) + 1 := by omega
  have hcl := p.good.count_le j
  -- one less is counted, whatever the world
  have DEC : ∀ {W : World} {m' : HeapM} {s' : St}, HB j h W m' s' c N → ∀ o', m'.blks[j]? = some o' → o'.state = 1 → ∀ g' cap', m'.vB = .slice (some ⟨g', 0, none⟩) (N + 1) cap' →
      ∃ m'', HTurn h W m' (W.setCell ⟨g', j * 3 + 1, none⟩ (.int .i64 (o'.count - 1))) m'' ∧ HB 0 h (W.setCell ⟨g', j * 3 + 1, none⟩ (.int .i64 (o'.count - 1))) m'' s' c N := fun {W m' s'} q o' ho' hs' g' cap' hv' => by
    have t := q.r.flagged q.len hv' j ho' { o' with count := o'.count - 1 } 1 (by decide) (.int .i64 (o'.count - 1)) rfl rfl
    refine ⟨_, t, t.here, ?_, q.good, q.cf, q.small, q.stack, q.globals⟩
    refine q.hs.recount ho' _ (fun _ => ?_) fun i y hne hy hs => ⟨fun e => absurd (by omega) hne, fun e => absurd e (q.hs.pos q.good hy hs)⟩
    have := q.hs.cnt j o' ho' (.inl hs')
    rw [if_pos rfl] at this
    rw [if_neg (q.hs.pos q.good ho' (.inl hs')), this]
    omega
  rcases alive_state p.hs hio ha with ⟨hst, hsk⟩ | ⟨hst, hsk⟩
  · have hct : o.count = s.count j + 1 := by have := p.hs.cnt j o hio (.inl hst); rw [if_pos rfl] at this; exact this
    by_cases h1 : o.count = 1
    · have e : dropS' c.zero s (2, (j : Int)) = s.enter c.zero j := by
        unfold dropS'
        rw [if_pos ⟨rfl, by simpa using hsk, by show s.count j = 0; omega⟩]
      have MR : Hid (Calls Tryz.prog 72 #[.pointer (some ⟨h, 0, none⟩)] w fun e w' => e = .returned (.tuple #[]) ∧ ∃ g' cap', w'.cell? ⟨h, 5, none⟩ = some (.slice (some ⟨g', 0, none⟩) (N + 1) cap') ∧
          w'.cell? ⟨g', j * 3 + 1, none⟩ = some (.int .i64 1) ∧ w'.frozen? ⟨g', j * 3 + 1, none⟩ = false ∧ ∃ m', HTurn h w m (w'.setCell ⟨g', j * 3 + 1, none⟩ (.int .i64 0)) m' ∧ HB 0 h (w'.setCell ⟨g', j * 3 + 1, none⟩ (.int .i64 0)) m' (dropS' c.zero s (2, (j : Int))) c N) := by
        refine (makeRoom_any p).mono ?_
        rintro e' w' ⟨he, m', t, q⟩
        refine ⟨he, ?_⟩
        obtain ⟨g', cap', hv', hg', _, _, hfz', hobj'⟩ := q.r.view q.len
        have hil' : j < m'.blks.length := by rw [q.len]; omega
        have hio' : m'.blks[j]? = some m'.blks[j] := List.getElem?_eq_getElem hil'
        have hob' : (s.enter c.zero j).ob j = (m'.blks[j]).ob := q.ob hio'
        rw [enter_but rfl, p.ob hio] at hob'
        have hst' : (m'.blks[j]).state = 1 := by
          have a1 := congrArg Ob.here hob'
          have a2 := congrArg Ob.stuck hob'
          have a3 := congrArg Ob.queued hob'
          rcases q.hs.state _ (List.getElem_mem hil') with e | e | e | e
          · simp [HObj.ob, hst, e] at a1
          · exact e
          · simp [HObj.ob, hst, e] at a2
          · simp [HObj.ob, hst, e] at a3
        have hct' : (m'.blks[j]).count = 1 := by
          have := q.hs.cnt j _ hio' (.inl hst')
          rw [if_pos rfl, count_enter] at this
          omega
        obtain ⟨m'', t2, q2⟩ := DEC q _ hio' hst' g' cap' hv'
        rw [hct'] at t2 q2
        refine ⟨g', cap', by rw [q.r.cell.2.2.2.1, hv'], by rw [(hobj' j hil').2.1, hct'], hfz' _, m'', t.trans t2, ?_⟩
        rw [e]; exact q2
      rw [hst] at c0
      rw [h1] at c1
      clear p hobj hv hob hfz hio hoe c2 hcl DEC hct e
      go_enter Tryz.func92, Tryz.ntmps92
      go_wp2_with fail
      refine Calls.mono MR.out ?_
      rintro e w1 ⟨rfl, g', cap', d0, d1, d2, hm⟩
      have M : Hid _ := hm
      clear hm MR c0 c1 cB
      go_wp2
      first | go_end0 | refine bodyPost_ret (results_none rfl _ _ _) rfl ?_
      exact ⟨rfl, M.out⟩
    · have e : dropS' c.zero s (2, (j : Int)) = s := by
        unfold dropS'
        rw [if_neg]
        rintro ⟨_, _, h3⟩
        have h3 : s.count j = 0 := h3
        omega
      obtain ⟨m'', t2, q2⟩ := DEC p o hio hst g cap hv
      have M : Hid (∃ m', HTurn h w m (w.setCell ⟨g, j * 3 + 1, none⟩ (.int .i64 (o.count - 1))) m' ∧ HB 0 h (w.setCell ⟨g, j * 3 + 1, none⟩ (.int .i64 (o.count - 1))) m' (dropS' c.zero s (2, (j : Int))) c N) := ⟨m'', t2, by rw [e]; exact q2⟩
      have f1 := hfz (j * 3 + 1)
      have hcs : 1 ≤ o.count ∧ o.count ≤ 401 := by omega
      rw [hst] at c0
      obtain ⟨ct, hctt⟩ : ∃ ct, o.count = ct := ⟨_, rfl⟩
      rw [hctt] at c1 M h1 hcs
      have h72 : (ct == 1) = false := by simpa using h1
      clear p hobj hv hob hfz hio hoe c2 hcl DEC hct e hctt t2 q2
      go_enter Tryz.func92, Tryz.ntmps92
      go_wp2
      first | go_end0 | refine bodyPost_ret (results_none rfl _ _ _) rfl ?_
      exact ⟨rfl, M.out⟩
  · have e : dropS' c.zero s (2, (j : Int)) = s := by
      unfold dropS'
      rw [if_neg]
      rintro ⟨_, h2, _⟩
      rw [Int.toNat_natCast, hsk] at h2; cases h2
    have M : Hid (∃ m', HTurn h w m w m' ∧ HB 0 h w m' (dropS' c.zero s (2, (j : Int))) c N) := by
      rw [e]
      refine ⟨m, .refl p.r, p.r, ?_, p.good, p.cf, p.small, p.stack, p.globals⟩
      refine p.hs.but fun i y hy hs => ⟨fun e => ?_, fun e => absurd e (p.hs.pos p.good hy hs)⟩
      have : i = j := by omega
      subst this
      rw [hio] at hy; cases hy
      rcases hs with e | e <;> omega
    rw [hst] at c0
    clear p hobj hv hob hfz hio hoe c2 hcl DEC e
    go_enter Tryz.func92, Tryz.ntmps92
    go_wp2
    first | go_end0 | refine bodyPost_ret (results_none rfl _ _ _) rfl ?_
    exact ⟨rfl, M.out⟩

end Go.Proofs.YteekoiljkklnmaaGreatDoor

/- OUR OWN. The program's heap: freeBlock, makeObject. -/
namespace Go.Proofs.YteekoiljkklnmaaGreatDoor
open Go.RowKit
set_option linter.unusedVariables false
set_option linter.unusedSimpArgs false

def HRoom (m : HeapM) (N : Nat) (v : Int) : Prop :=
  (v = 0 ∧ ∀ j, j < N → ∃ o, m.blks[j + 1]? = some o ∧ o.state ≠ 0) ∨
  ∃ k : Nat, k < N ∧ v = (k : Int) + 1 ∧ (∃ o, m.blks[k + 1]? = some o ∧ o.state = 0) ∧ ∀ j, j < k → ∃ o, m.blks[j + 1]? = some o ∧ o.state ≠ 0

set_option maxHeartbeats 800000 in
theorem freeBlock_any {w : World} {h : Nat} {m : HeapM} {N : Nat} (r : HeapAt w h m) (hlen : m.blks.length = N + 1) (hN : N ≤ 99) :
    Calls Tryz.prog 71 #[.pointer (some ⟨h, 0, none⟩)] w fun e w' => ∃ v, e = .returned (.int .i64 v) ∧ HRoom m N v ∧ w' = w := by
  obtain ⟨g, cap, hv, _, _, _, _, hobj⟩ := r.view hlen
  have cB : w.cell? ⟨h, 5, none⟩ = some (.slice (some ⟨g, 0, none⟩) (N + 1) cap) := by rw [r.cell.2.2.2.1, hv]
  have OBJ : Hid (∀ j, j < N → ∃ o : HObj, m.blks[j + 1]? = some o ∧ w.cell? ⟨g, (j + 1) * 3, none⟩ = some (.int .i64 o.state)) := fun j hj => by
    have hi : j + 1 < m.blks.length := by rw [hlen]; omega
    exact ⟨m.blks[j + 1], List.getElem?_eq_getElem hi, (hobj (j + 1) hi).1⟩
  clear hobj r hlen hv
  go_enter Tryz.func71, Tryz.ntmps71
  go_wp2
  go_loop [3] (fun i => ∃ j : Nat, j ≤ N ∧ i = .int .i64 (j + 1) ∧ ∀ k, k < j → ∃ o, m.blks[k + 1]? = some o ∧ o.state ≠ 0) (fun i => N + 1 - (intOf i).toNat)
  case atStart => exact ⟨0, Nat.zero_le _, rfl, fun k hk => absurd hk (Nat.not_lt_zero _)⟩
  case round =>
    obtain ⟨j, hj, rfl, hall⟩ := hrel
    have A : Hid (∀ k, k < j → ∃ o, m.blks[k + 1]? = some o ∧ o.state ≠ 0) := hall
    clear hall
    by_cases hlt : j < N
    · obtain ⟨o, ho, c0⟩ := OBJ.out j hlt
      obtain ⟨st, ct, vF, fs⟩ := o
      simp only at c0
      have HO : Hid (m.blks[j + 1]? = some ⟨st, ct, vF, fs⟩) := ho
      clear ho
      by_cases h0 : st = 0
      · subst h0
        go_wp2
        go_ret
        exact ⟨_, rfl, .inr ⟨j, hlt, rfl, ⟨_, HO.out, rfl⟩, A.out⟩, rfl⟩
      · have h1 : (st == 0) = false := by simpa using h0
        go_wp2
        go_round
        case rel =>
          refine ⟨j + 1, by omega, by go_num, fun k hk => ?_⟩
          by_cases hkj : k = j
          · subst hkj; exact ⟨_, HO.out, h0⟩
          · exact A.out k (by omega)
        case measure => simp [intOf]; omega
    · obtain rfl : j = N := by omega
      go_wp2
      go_ret
      exact ⟨_, rfl, .inl ⟨rfl, A.out⟩, rfl⟩

theorem free_iff {s : St} {k : Nat} (h : free? s = some k) : k + 1 < s.objs.length ∧ (s.ob (k + 1)).here = false ∧ ∀ j, j < k → (s.ob (j + 1)).here = true := by
  unfold free? at h
  obtain ⟨hk, h1, h2⟩ := List.findIdx?_eq_some_iff_getElem.1 h
  rw [List.length_tail] at hk
  refine ⟨by omega, ?_, fun j hj => ?_⟩
  · rw [ob_of (List.getElem?_eq_getElem (by omega))]
    simpa using h1
  · have := h2 j hj
    rw [ob_of (List.getElem?_eq_getElem (by omega))]
    simpa using this

/-- The three cells of a block that gets an object. -/
def layBlk (w : World) (g i : Nat) (o : HObj) : World := ((w.setCell ⟨g, i * 3, none⟩ (.int .i64 o.state)).setCell ⟨g, i * 3 + 1, none⟩ (.int .i64 o.count)).setCell ⟨g, i * 3 + 2, none⟩ o.vF

theorem hflat_set3 (l : List HObj) (i : Nat) (o o' : HObj) (h : l[i]? = some o) :
    (l.set i o').flatMap HObj.cells = (((l.flatMap HObj.cells).set (i * 3) (.int .i64 o'.state)).set (i * 3 + 1) (.int .i64 o'.count)).set (i * 3 + 2) o'.vF := by
  have hl : i < l.length := (List.getElem?_eq_some_iff.1 h).1
  have e1 := flat_set HObj.cells 3 (fun _ => rfl) l i 0 (by decide) o (.int .i64 o'.state) h { o with state := o'.state } rfl
  have h1 : (l.set i { o with state := o'.state })[i]? = some { o with state := o'.state } := by simp [hl]
  have e2 := flat_set HObj.cells 3 (fun _ => rfl) _ i 1 (by decide) _ (.int .i64 o'.count) h1 { o with state := o'.state, count := o'.count } rfl
  rw [List.set_set] at e2
  have h2 : (l.set i { o with state := o'.state, count := o'.count })[i]? = some { o with state := o'.state, count := o'.count } := by simp [hl]
  have e3 := flat_set HObj.cells 3 (fun _ => rfl) _ i 2 (by decide) _ o'.vF h2 o' rfl
  rw [List.set_set] at e3
  rw [e3, e2, e1, Nat.add_zero]

theorem hput_rows (m : HeapM) (i : Nat) (o : HObj) : (m.put i o).rows = (m.rows.set (4 + i) o.row).set 2 ⟨88, 3, m.vB, (m.blks.set i o).length, (m.blks.set i o).flatMap HObj.cells⟩ := by
  simp only [HeapM.rows, HeapM.put, show 4 + i = i + 1 + 1 + 1 + 1 by omega, List.set_cons_succ, List.set_cons_zero, List.map_set]
theorem hrow_at (m : HeapM) (i : Nat) {o : HObj} (hi : m.blks[i]? = some o) : m.rows[4 + i]? = some o.row := by
  simp only [HeapM.rows, show 4 + i = i + 1 + 1 + 1 + 1 by omega, List.getElem?_cons_succ, List.getElem?_map, hi]; rfl

theorem HeapAt.placed {w w1 : World} {h : Nat} {m : HeapM} {N : Nat} (r : HeapAt w h m) (hlen : m.blks.length = N + 1) (hb : Below w.heap.size w w1) {g cap : Nat} (hv : m.vB = .slice (some ⟨g, 0, none⟩) (N + 1) cap) (i : Nat) {o0 : HObj} (hi : m.blks[i]? = some o0) (o : HObj)
    (ho : o.row.At w1) (hg : ∀ b, o.vF.ownBlock = some b → w.heap.size ≤ b) : HTurn h w m (layBlk w1 g i o) (m.put i o) := by
  have hob : m.vB.ownBlock = some g := by rw [hv]; rfl
  have hmem0 : (⟨88, 3, m.vB, m.blks.length, m.blks.flatMap HObj.cells⟩ : SRow) ∈ m.rows := by simp [HeapM.rows]
  have hgh : g ≠ h := fun e => r.ne hmem0 (by rw [← e]; exact hob)
  obtain ⟨R1, F1⟩ := r.rowsAt.set (hrow_at m i hi) o.row ho (fun b hbb => .inr (hg b hbb)) (fun k hk _ _ => hb.block k hk) hb.size
  have hlay : ∀ k, k ≠ g → (layBlk w1 g i o).heap[k]? = w1.heap[k]? := fun k hk => by unfold layBlk; rw [hso hk, hso hk, hso hk]
  have hsz : (layBlk w1 g i o).heap.size = w1.heap.size := by unfold layBlk; simp [World.setCell]
  have h0 : (m.rows.set (4 + i) o.row)[2]? = some ⟨88, 3, m.vB, m.blks.length, m.blks.flatMap HObj.cells⟩ := by
    simp [HeapM.rows, show 4 + i = i + 1 + 1 + 1 + 1 by omega]
  have hblk : (⟨88, 3, m.vB, (m.blks.set i o).length, (m.blks.set i o).flatMap HObj.cells⟩ : SRow).At (layBlk w1 g i o) := by
    show (layBlk w1 g i o).ownsRow 0 _ 3 m.vB (m.blks.set i o).length _
    rw [List.length_set, hflat_set3 m.blks i o0 o hi]
    have hb0 : w1.ownsRow 0 88 3 m.vB m.blks.length (m.blks.flatMap HObj.cells) := own_carry r.blocks fun j hj => hb.block j (own_lt r.blocks hj).2
    rw [hv, hlen] at hb0 ⊢
    unfold layBlk
    exact (((hb0.stored _ _).1.stored _ _).1.stored _ _).1
  obtain ⟨R2, F2⟩ := R1.set h0 _ hblk (fun b hbb => .inl hbb) (fun k _ _ h2 => hlay k (fun e => h2 (by rw [e]; exact hob))) (by rw [hsz]; exact Nat.le_refl _)
  rw [← hput_rows] at R2 F2
  refine ⟨R2.heapAt ?_, fun b hbb => ?_, ⟨?_, ?_, ?_, ?_, ?_⟩⟩
  · rw [hlay h (fun e => hgh e.symm), hb.block h (lt_of_heap r.head)]; exact r.head
  · rw [← hrows_foot] at hbb ⊢
    rcases F2 b hbb with e | e
    · exact F1 b e
    · have := hb.size; exact .inr (by omega)
  · exact hb.os
  · exact hb.tape
  · exact hb.output
  · rw [hsz]; exact hb.size
  · intro k hk hF
    have hkg : k ≠ g := fun e => hF (by rw [e, ← hrows_foot]; exact List.mem_cons_of_mem _ (List.mem_filterMap.2 ⟨_, hmem0, hob⟩))
    rw [hlay k hkg, hb.block k hk]

set_option maxHeartbeats 400000 in
theorem hnew_index {w : World} {h : Nat} (n : Int) (hn : n < 0 ∨ 4 < n) :
    Calls Tryz.prog 40 #[.pointer (some ⟨h, 0, none⟩), .int .i64 n] w fun e w' => e = .returned (.int .i64 6) ∧ w' = w := by
  rcases hn with hn | hn
  · go_enter Tryz.func40, Tryz.ntmps40
    go_wp2
    go_ret
    exact ⟨rfl, rfl⟩
  · have h0 : ¬ n < 0 := by omega
    go_enter Tryz.func40, Tryz.ntmps40
    go_wp2
    go_ret
    exact ⟨rfl, rfl⟩

set_option maxHeartbeats 400000 in
theorem hnew_deep {w : World} {h : Nat} {m : HeapM} (r : HeapAt w h m) (n : Int) (h0 : 0 ≤ n) (h4 : n ≤ 4) (hd : m.room ≤ m.stack.length) :
    Calls Tryz.prog 40 #[.pointer (some ⟨h, 0, none⟩), .int .i64 n] w fun e w' => e = .returned (.int .i64 7) ∧ Below w.heap.size w w' := by
  have D : Hid (Calls Tryz.prog 70 #[.pointer (some ⟨h, 0, none⟩)] w fun e w' => e = .returned (.bool true) ∧ Below w.heap.size w w') := (isDeep_any r).mono fun e w' ⟨h1, h2⟩ => ⟨h1.trans (ret_bool (by simpa using hd)), h2⟩
  clear r hd
  go_enter Tryz.func40, Tryz.ntmps40
  go_wp2_with fail
  refine Calls.mono D.out ?_
  rintro e w1 ⟨rfl, hb⟩
  have B : Hid (Below w.heap.size w w1) := hb
  clear hb D
  go_wp2
  go_ret
  exact ⟨rfl, B.out⟩

theorem alloc_setCell {w : World} {ob : Obj} {g i : Nat} {v : Value} (h : g < w.heap.size) : (w.alloc ob).setCell ⟨g, i, none⟩ v = (w.setCell ⟨g, i, none⟩ v).alloc ob := by
  have e : ((w.alloc ob).setCell ⟨g, i, none⟩ v).heap = ((w.setCell ⟨g, i, none⟩ v).alloc ob).heap := by
    apply Array.ext_getElem?
    intro k
    by_cases hk : k < w.heap.size
    · rw [hao (by simpa [World.setCell] using hk)]
      by_cases hg : k = g
      · subst hg
        simp only [World.setCell, Array.getElem?_modify]
        rw [show (w.alloc ob).heap[k]? = w.heap[k]? from hao hk]
      · rw [hso hg, hso hg, hao hk]
    · rw [hso (by omega)]
      have e1 : (w.alloc ob).heap = w.heap.push ob := rfl
      have e2 : ((w.setCell ⟨g, i, none⟩ v).alloc ob).heap = (w.setCell ⟨g, i, none⟩ v).heap.push ob := rfl
      have e3 : (w.setCell ⟨g, i, none⟩ v).heap.size = w.heap.size := by simp [World.setCell]
      rw [e1, e2, Array.getElem?_push, Array.getElem?_push, e3]
      split
      · rfl
      · rw [Array.getElem?_eq_none (by omega), Array.getElem?_eq_none (by rw [e3]; omega)]
  have key : ∀ a b : World, a.heap = b.heap → a.tape = b.tape → a.drawn = b.drawn → a.os = b.os → a.output = b.output → a = b := fun a b h1 h2 h3 h4 h5 => by
    cases a; cases b
    simp only at h1 h2 h3 h4 h5
    subst h1 h2 h3 h4 h5
    rfl
  exact key _ _ e rfl rfl rfl rfl

/-- a new object is laid into the free block b -/
theorem HSb.lay {m : HeapM} {s : St} {c : Cf} {N : Nat} (p : HSb 0 m s c N) (g : s.Good N) {b n : Nat} {o0 : HObj} (hi : m.blks[b]? = some o0) (h0 : o0.state = 0) (h1 : 1 ≤ b) (v : Value) : HSb 0 (m.put b ⟨1, 0, v, List.replicate n (0, 0)⟩) (s.put b (newOb n)) c N := by
  have ho : s.ob b = o0.ob := by rw [← p.st]; exact hst_ob hi
  have hb : (s.ob b).here = false := by rw [ho]; simp [HObj.ob, h0]
  have hl : b < s.objs.length := by rw [← p.st]; simpa [HeapM.st] using (List.getElem?_eq_some_iff.1 hi).1
  refine ⟨?_, p.deep, p.zero, p.over, fun y hy => ?_, fun i y hy hs => ?_⟩
  · rw [hput_st, p.st]; rfl
  · rcases List.mem_or_eq_of_mem_set hy with e | e
    · exact p.state y e
    · subst e; exact .inr (.inl rfl)
  · have hc : (s.put b (newOb n)).count i = s.count i := count_lay g hb hl h1 i
    rw [hc]
    rcases set_get hy with ⟨rfl, rfl⟩ | ⟨_, e⟩
    · have : s.count i = 0 := g.count_gone fun ha => by have := ha.1; rw [hb] at this; cases this
      rw [this, if_neg (by omega)]; rfl
    · exact p.cnt i y e hs

set_option maxHeartbeats 1600000 in
theorem hnew_room {h N : Nat} {w : World} {m : HeapM} {s : St} {c : Cf} (p : HB 0 h w m s c N) (n : Nat) (hn : n ≤ 4) (hd : (s.stack.length : Int) < c.deep) (k : Nat) (hk : free? s = some k) :
    Calls Tryz.prog 40 #[.pointer (some ⟨h, 0, none⟩), .int .i64 n] w
      fun e w' => e = .returned (.int .i64 0) ∧ ∃ m', HTurn h w m w' m' ∧ HS m' (layS c.zero s (k + 1) n) c N := by
  obtain ⟨hkl, hkf, hkt⟩ := free_iff hk
  have hkN : k < N := by rw [p.good.len] at hkl; omega
  have hN := p.small
  have hdm : (m.stack.length : Int) < m.room := by rw [p.mstack, p.hs.deep]; exact hd
  have stOf : ∀ {W : World} {mm : HeapM} {ss : St} {j : Nat} {o : HObj}, HB 0 h W mm ss c N → mm.blks[j]? = some o → (ss.ob j).here = decide (o.state ≠ 0) := fun q ho => by rw [q.ob ho]; rfl
  have D : Hid (Calls Tryz.prog 70 #[.pointer (some ⟨h, 0, none⟩)] w fun e w' => e = .returned (.bool false) ∧ Below w.heap.size w w') := (isDeep_any p.r).mono fun e w' ⟨h1, h2⟩ => ⟨h1.trans (ret_bool (by simp; omega)), h2⟩
  have ROOM : Hid (∀ W, Below w.heap.size w W → Calls Tryz.prog 71 #[.pointer (some ⟨h, 0, none⟩)] W fun e w' => e = .returned (.int .i64 ((k : Int) + 1)) ∧ w' = W) := by
    intro W hb
    refine (freeBlock_any (p.below hb).r p.len hN).mono ?_
    rintro e w' ⟨v, rfl, hs, rfl⟩
    refine ⟨?_, rfl⟩
    rcases hs with ⟨_, hs⟩ | ⟨k', hk', rfl, ⟨o1, ho1, hf1⟩, hs⟩
    · obtain ⟨o, ho, ht⟩ := hs k hkN
      rw [stOf p ho] at hkf; simp at hkf; exact absurd hkf ht
    · have : k' = k := by
        rcases Nat.lt_trichotomy k' k with e | e | e
        · have := hkt k' e
          rw [stOf p ho1] at this; simp at this; exact absurd hf1 this
        · exact e
        · obtain ⟨o, ho, ht⟩ := hs k e
          rw [stOf p ho] at hkf; simp at hkf; exact absurd hkf ht
      rw [this]
  have MR : Hid (∀ W, Below w.heap.size w W → Calls Tryz.prog 72 #[.pointer (some ⟨h, 0, none⟩)] W fun e w2 => e = .returned (.tuple #[]) ∧ ∃ g cap u0 u1 u2, h < w2.heap.size ∧ g < w2.heap.size ∧
      w2.cell? ⟨h, 5, none⟩ = some (.slice (some ⟨g, 0, none⟩) (N + 1) cap) ∧ w2.cell? ⟨g, (k + 1) * 3, none⟩ = some u0 ∧ w2.cell? ⟨g, (k + 1) * 3 + 1, none⟩ = some u1 ∧ w2.cell? ⟨g, (k + 1) * 3 + 2, none⟩ = some u2 ∧
      w2.frozen? ⟨g, (k + 1) * 3, none⟩ = false ∧ w2.frozen? ⟨g, (k + 1) * 3 + 1, none⟩ = false ∧ w2.frozen? ⟨g, (k + 1) * 3 + 2, none⟩ = false ∧
      Calls Tryz.prog 39 #[.pointer (some ⟨h, 0, none⟩), .agg #[.int .i64 2, .int .i64 ((k : Int) + 1)]] ((((w2.setCell ⟨g, (k + 1) * 3, none⟩ (.int .i64 1)).setCell ⟨g, (k + 1) * 3 + 1, none⟩ (.int .i64 0)).setCell ⟨g, (k + 1) * 3 + 2, none⟩ (.slice (some ⟨w2.heap.size, 0, none⟩) n n)).alloc (.cells (madeCells #[.int .i64 0, .int .i64 0] (n * 2)) 81)).drew
        fun e w' => e = .returned (.int .i64 0) ∧ ∃ m', HTurn h w m w' m' ∧ HS m' (layS c.zero s (k + 1) n) c N) := by
    intro W hb
    refine (makeRoom_any (p.below hb)).mono ?_
    rintro e w2 ⟨he, m2, t, q⟩
    refine ⟨he, ?_⟩
    obtain ⟨g, cap, hv, hg, _, _, hfz, hobj⟩ := q.r.view q.len
    have hil : k + 1 < m2.blks.length := by rw [q.len]; omega
    have hio : m2.blks[k + 1]? = some m2.blks[k + 1] := List.getElem?_eq_getElem hil
    obtain ⟨c0, c1, c2⟩ := hobj (k + 1) hil
    have hst0 : (m2.blks[k + 1]).state = 0 := by
      have h1 := stOf q hio
      rw [(sh_enter c.zero 0 s).2 (k + 1), hkf] at h1
      simpa using h1.symm
    refine ⟨g, cap, _, _, _, lt_of_heap q.r.head, hg, by rw [q.r.cell.2.2.2.1, hv], c0, c1, c2, hfz _, hfz _, hfz _, ?_⟩
    have hb1 : Below w2.heap.size w2 (w2.alloc (.cells (madeCells #[.int .i64 0, .int .i64 0] (n * 2)) 81)) := (Below.refl _ _).alloc (Nat.le_refl _) _
    have t3 := q.r.placed q.len hb1 hv (k + 1) hio ⟨1, 0, .slice (some ⟨w2.heap.size, 0, none⟩) n n, List.replicate n (0, 0)⟩ (by
      show (World.alloc _ _).ownsRow 0 _ 2 _ (List.replicate n ((0, 0) : Int × Int)).length _
      have := own_made_two w2 81 (.int .i64 0) (.int .i64 0) n (by omega)
      simpa [HObj.row, hrow, flat_rep, valCells] using this) (fun b hbb => by
      have : b = w2.heap.size := by simpa [Value.ownBlock, eq_comm] using hbb
      omega)
    have hs3 := q.hs.lay (n := n) q.good hio hst0 (by omega) (.slice (some ⟨w2.heap.size, 0, none⟩) n n)
    have g3 := q.good.laid (n := n) (by rw [stOf q hio, hst0]; simp) (by rw [q.good.len]; omega) (by omega : 1 ≤ k + 1) hn
    have hes := enter_same c.zero 0 s
    have q3 : HB 0 h _ _ ((s.enter c.zero 0).put (k + 1) (newOb n)) c N := ⟨t3.drew.here, hs3, g3, p.cf, p.small, q.stack, q.globals⟩
    have hms : (m2.put (k + 1) ⟨1, 0, .slice (some ⟨w2.heap.size, 0, none⟩) n n, List.replicate n (0, 0)⟩).stack = s.stack := q3.mstack.trans hes.1
    have ew : layBlk (w2.alloc (.cells (madeCells #[.int .i64 0, .int .i64 0] (n * 2)) 81)) g (k + 1) ⟨1, 0, .slice (some ⟨w2.heap.size, 0, none⟩) n n, List.replicate n (0, 0)⟩ =
        ((((w2.setCell ⟨g, (k + 1) * 3, none⟩ (.int .i64 1)).setCell ⟨g, (k + 1) * 3 + 1, none⟩ (.int .i64 0)).setCell ⟨g, (k + 1) * 3 + 2, none⟩ (.slice (some ⟨w2.heap.size, 0, none⟩) n n)).alloc (.cells (madeCells #[.int .i64 0, .int .i64 0] (n * 2)) 81)) := by
      unfold layBlk
      simp only
      rw [alloc_setCell hg, alloc_setCell (by simpa [World.setCell] using hg), alloc_setCell (by simpa [World.setCell] using hg)]
    rw [ew] at t3 q3
    refine (hpush_room q3.r (by rw [hms]; exact p.stack) (2, (k : Int) + 1) (by rw [hms, q3.hs.deep]; exact hd)).mono ?_
    rintro e w' ⟨he, v', t4⟩
    refine ⟨he, _, (HTurn.pre p.r hb (t.trans t3.drew)).trans t4, ?_⟩
    have hs4 := q3.hs
    refine ⟨?_, hs4.deep, hs4.zero, hs4.over, hs4.state, fun i o hio hst => ?_⟩
    · unfold layS
      rw [show (⟨true, List.replicate n (0, 0), false, false⟩ : Ob) = newOb n from rfl, lay_enter p.good c.zero hkf hkl (by omega), ← hs4.st]
      show (⟨_, _, _, _⟩ : St) = ⟨_, _, _, _⟩
      rw [hms]
      rfl
    · have := hs4.cnt i o hio hst
      have ec : (layS c.zero s (k + 1) n).count i = ((s.enter c.zero 0).put (k + 1) (newOb n)).count i := by
        unfold layS
        rw [show (⟨true, List.replicate n (0, 0), false, false⟩ : Ob) = newOb n from rfl, lay_enter p.good c.zero hkf hkl (by omega)]
        rfl
      rw [ec]; exact this
  have hnI : ¬ (n : Int) < 0 := by omega
  have hn4 : ¬ (4 : Int) < n := by omega
  have hk0 : ((k : Int) + 1 == 0) = false := by simp; omega
  have hk1 : ¬ ((k : Int) + 1 = 0) := by omega
  have hkI : (k : Int) + 1 < (N : Int) + 1 := by omega
  have mk1 := run_make_two (P := Tryz.prog) 73 81 (.int .i64 0) (.int .i64 0) 16 Tryz.underlying73 infoValue .i64 .i64 n (by omega) (by omega)
  obtain ⟨tgt, htgt⟩ : ∃ t : St, layS c.zero s (k + 1) n = t := ⟨_, rfl⟩
  rw [htgt] at MR ⊢
  clear p stOf hk hkl hkf hkt htgt hd hdm
  go_enter Tryz.func40, Tryz.ntmps40
  go_wp2_with fail
  refine Calls.mono D.out ?_
  rintro e w1 ⟨rfl, hb⟩
  have B : Hid (Below w.heap.size w w1) := hb
  clear hb D
  go_wp2_with fail
  refine Calls.mono (ROOM.out _ B.out) ?_
  rintro e w2 ⟨rfl, hw2⟩
  subst hw2
  clear ROOM
  go_wp2_with fail
  refine Calls.mono (MR.out _ B.out) ?_
  rintro e w3 ⟨rfl, g, cap, u0, u1, u2, hh, hg, a0, a1, a2, a3, f1, f2, f3, hpush⟩
  have PU : Hid _ := hpush
  clear hpush MR B
  have al : ∀ (ob : Obj) (b o : Nat), b < w3.heap.size → (w3.alloc ob).cell? ⟨b, o, none⟩ = w3.cell? ⟨b, o, none⟩ := fun ob b o hlt => World.cell?_of_block (hao hlt)
  have t0 : ∀ ob, (w3.alloc ob).cell? ⟨h, 5, none⟩ = w3.cell? ⟨h, 5, none⟩ := fun ob => al ob h 5 hh
  have t1 : ∀ ob, (w3.alloc ob).cell? ⟨g, (k + 1) * 3, none⟩ = w3.cell? ⟨g, (k + 1) * 3, none⟩ := fun ob => al ob g _ hg
  have t2 : ∀ ob, (w3.alloc ob).cell? ⟨g, (k + 1) * 3 + 1, none⟩ = w3.cell? ⟨g, (k + 1) * 3 + 1, none⟩ := fun ob => al ob g _ hg
  have t3 : ∀ ob, (w3.alloc ob).cell? ⟨g, (k + 1) * 3 + 2, none⟩ = w3.cell? ⟨g, (k + 1) * 3 + 2, none⟩ := fun ob => al ob g _ hg
  have z1 : ∀ ob, (w3.alloc ob).frozen? ⟨g, (k + 1) * 3, none⟩ = w3.frozen? ⟨g, (k + 1) * 3, none⟩ := fun ob => World.frozen?_of_block (hao hg)
  have z2 : ∀ ob, (w3.alloc ob).frozen? ⟨g, (k + 1) * 3 + 1, none⟩ = w3.frozen? ⟨g, (k + 1) * 3 + 1, none⟩ := fun ob => World.frozen?_of_block (hao hg)
  have z3 : ∀ ob, (w3.alloc ob).frozen? ⟨g, (k + 1) * 3 + 2, none⟩ = w3.frozen? ⟨g, (k + 1) * 3 + 2, none⟩ := fun ob => World.frozen?_of_block (hao hg)
  clear al
  go_wp2_with fail
  go_region
  all_goals go_wp2_with fail
  all_goals refine Calls.mono PU.out ?_
  all_goals rintro e w4 ⟨rfl, hm⟩
  all_goals have M : Hid _ := hm
  all_goals clear hm
  all_goals go_wp2
  all_goals go_ret
  all_goals exact ⟨rfl, M.out⟩

end Go.Proofs.YteekoiljkklnmaaGreatDoor

/- OUR OWN. The program's heap: setField, store. -/
namespace Go.Proofs.YteekoiljkklnmaaGreatDoor
open Go.RowKit
set_option linter.unusedVariables false
set_option linter.unusedSimpArgs false

theorem HeapAt.fieldSet {w : World} {h : Nat} {m : HeapM} (r : HeapAt w h m) (i : Nat) {o : HObj} (hi : m.blks[i]? = some o) {g cap : Nat} (hv : o.vF = .slice (some ⟨g, 0, none⟩) o.fs.length cap) (k : Nat) (hk : k < o.fs.length) (x : Int × Int) :
    HTurn h w m ((w.setCell ⟨g, k * 2, none⟩ (.int .i64 x.1)).setCell ⟨g, k * 2 + 1, none⟩ (.int .i64 x.2)) (m.put i { o with fs := o.fs.set k x }) := by
  have hob : o.vF.ownBlock = some g := by rw [hv]; rfl
  have hmem : o.row ∈ m.rows := by simp only [HeapM.rows, List.mem_cons, List.mem_map]; exact .inr (.inr (.inr (.inr ⟨o, List.mem_of_getElem? hi, rfl⟩)))
  have hgh : g ≠ h := fun e => r.ne hmem (by rw [← e]; exact hob)
  refine r.turn (4 + i) o.row ({ o with fs := o.fs.set k x } : HObj).row (hrow_at m i hi) ?_ ?_ ?_ ?_ ?_
  · rw [hput_rows, flat_same HObj.cells m.blks i o { o with fs := o.fs.set k x } hi rfl, List.length_set]
    simp only [HeapM.rows, show 4 + i = i + 1 + 1 + 1 + 1 by omega, List.set_cons_succ, List.set_cons_zero]
  · rw [hso (fun e => hgh e.symm), hso (fun e => hgh e.symm)]; exact r.head
  · show (World.setCell _ _ _).ownsRow 0 _ 2 o.vF (o.fs.set k x).length ((o.fs.set k x).flatMap valCells)
    have hik : o.fs[k]? = some o.fs[k] := List.getElem?_eq_getElem hk
    have e1 := flat_set valCells 2 (fun _ => rfl) o.fs k 0 (by decide) _ (.int .i64 x.1) hik (x.1, (o.fs[k]).2) rfl
    have h1 : (o.fs.set k (x.1, (o.fs[k]).2))[k]? = some (x.1, (o.fs[k]).2) := by simp [hk]
    have e2 := flat_set valCells 2 (fun _ => rfl) _ k 1 (by decide) _ (.int .i64 x.2) h1 x rfl
    rw [List.set_set, e1] at e2
    rw [List.length_set, e2, Nat.add_zero]
    have hb := r.fields o (List.mem_of_getElem? hi)
    rw [hv] at hb ⊢
    exact ((hb.stored _ _).1.stored _ _).1
  · intro j hj
    exact .inl hj
  · have hm : ∀ y ∈ [g], y ∈ h :: o.row.ob.toList := fun y hy => by simp at hy; subst hy; exact List.mem_cons_of_mem _ (by simp [SRow.ob, HObj.row, hrow, hob])
    exact ((off_setCell w g _ _).mono hm).trans ((off_setCell _ g _ _).mono hm)

def refTo (v : Int × Int) : Int := if v.1 = 2 then v.2 else 0
theorem getD_of {l : List (Int × Int)} {k : Nat} (hk : k < l.length) : l.getD k (0, 0) = l[k] := by rw [List.getD_eq_getElem?_getD, List.getElem?_eq_getElem hk]; rfl

/-- the field has the new value; the old one is still counted -/
theorem HSb.field {m : HeapM} {s1 : St} {c : Cf} {N : Nat} {x : Int × Int} (g1 : s1.Good N) (p : HSb (refTo x) m s1 c N) {i k : Nat} {o : HObj} (hi : m.blks[i]? = some o) (hk : k < o.fs.length) :
    HSb (refTo ((s1.ob i).fs.getD k (0, 0))) (m.put i { o with fs := o.fs.set k x }) (s1.field i k x) c N := by
  have ho : s1.ob i = o.ob := by rw [← p.st]; exact hst_ob hi
  have hk1 : k < (s1.ob i).fs.length := by rw [ho]; exact hk
  refine ⟨?_, p.deep, p.zero, p.over, fun y hy => ?_, fun j y hy hs => ?_⟩
  · rw [hput_st, p.st]
    unfold St.field
    have : ({ o with fs := o.fs.set k x } : HObj).ob = { s1.ob i with fs := (s1.ob i).fs.set k x } := by rw [ho]; rfl
    rw [this]
  · rcases List.mem_or_eq_of_mem_set hy with e | e
    · exact p.state y e
    · subst e; exact p.state o (List.mem_of_getElem? hi)
  · have hcf := count_field g1 hk1 x (j : Int)
    have key : ∀ (ob : HObj), m.blks[j]? = some ob → ob.state = 1 ∨ ob.state = 3 → ob.count = (s1.field i k x).count j + if (j : Int) = refTo ((s1.ob i).fs.getD k (0, 0)) then 1 else 0 := fun ob hob hst => by
      have h0 := p.pos g1 hob hst
      have h1 := p.cnt j ob hob hst
      have ex : (if (j : Int) = refTo x then (1 : Int) else 0) = (isRef x j : Int) := by
        unfold refTo isRef
        by_cases e : x.1 = 2
        · rw [if_pos e]
          by_cases e2 : x.2 = j
          · rw [if_pos e2.symm, if_pos ⟨e, e2⟩]; rfl
          · rw [if_neg (fun h => e2 h.symm), if_neg (fun h => e2 h.2)]; rfl
        · rw [if_neg e, if_neg h0, if_neg (fun h => e h.1)]; rfl
      have ey : (if (j : Int) = refTo ((s1.ob i).fs.getD k (0, 0)) then (1 : Int) else 0) = (isRef ((s1.ob i).fs.getD k (0, 0)) j : Int) := by
        unfold refTo isRef
        by_cases e : ((s1.ob i).fs.getD k (0, 0)).1 = 2
        · rw [if_pos e]
          by_cases e2 : ((s1.ob i).fs.getD k (0, 0)).2 = j
          · rw [if_pos e2.symm, if_pos ⟨e, e2⟩]; rfl
          · rw [if_neg (fun h => e2 h.symm), if_neg (fun h => e2 h.2)]; rfl
        · rw [if_neg e, if_neg h0, if_neg (fun h => e h.1)]; rfl
      rw [h1, ex, ey]
      omega
    rcases set_get hy with ⟨rfl, rfl⟩ | ⟨_, e⟩
    · exact key o hi hs
    · exact key y e hs

theorem leads_alive {s : St} {v : Int × Int} (h : s.leads v) (h1 : v.1 = 2) : ∃ j : Nat, v = (2, (j : Int)) ∧ s.alive j := by
  obtain ⟨j, hj, ha⟩ := leads_ref h h1
  exact ⟨j, by rw [← hj, ← h1], ha⟩
theorem hobj_ref {h : Nat} {w : World} {m m' : HeapM} {W w' : World} {but : Int} {s : St} {c : Cf} {N : Nat} (p : HB but h w m s c N) (hb : Below w.heap.size w W) (t : HTurn h W m w' m') (L : Nat) (ob : Obj) (hL : w.heap.size ≤ L) (hW : W.heap[L]? = some ob) : w'.heap[L]? = some ob := hturn_local p.pre hb hW hL t

/-- what is known ahead of the field's store -/
def StoreAt (h i k N : Nat) (w : World) (x : Int × Int) (W w2 : World) (P : World → Prop) : Prop :=
  ∃ g capB fg fl fc u v, w2.cell? ⟨h, 5, none⟩ = some (.slice (some ⟨g, 0, none⟩) (N + 1) capB) ∧ w2.cell? ⟨g, i * 3 + 2, none⟩ = some (.slice (some ⟨fg, 0, none⟩) fl fc) ∧ k < fl ∧ w2.cell? ⟨fg, k * 2, none⟩ = some (.int .i64 u) ∧ w2.cell? ⟨fg, k * 2 + 1, none⟩ = some (.int .i64 v) ∧
    w2.frozen? ⟨fg, k * 2, none⟩ = false ∧ w2.frozen? ⟨fg, k * 2 + 1, none⟩ = false ∧
    (∀ L ob, w.heap.size ≤ L → W.heap[L]? = some ob → w2.heap[L]? = some ob) ∧
    ∀ w3, w3 = (w2.setCell ⟨fg, k * 2, none⟩ (.int .i64 x.1)).setCell ⟨fg, k * 2 + 1, none⟩ (.int .i64 x.2) → (∀ L ob, w.heap.size ≤ L → W.heap[L]? = some ob → w3.heap[L]? = some ob) ∧ P w3

/-- what setField's calls do -/
structure SetEnv (h i k N : Nat) (w : World) (x y : Int × Int) (Done : World → Prop) : Prop where
  same : y = x → ∀ W, Below w.heap.size w W → Done W
  count : ¬ y = x → x.1 = 2 → ∀ W, Below w.heap.size w W → Calls Tryz.prog 91 #[.pointer (some ⟨h, 0, none⟩), .int .i64 x.2] W fun e w2 => e = .returned (.tuple #[]) ∧
    StoreAt h i k N w x W w2 fun w3 => ∀ W3, Below w3.heap.size w3 W3 → (¬ y.1 = 2 → Done W3) ∧ (y.1 = 2 → Calls Tryz.prog 92 #[.pointer (some ⟨h, 0, none⟩), .int .i64 y.2] W3 fun e w4 => e = .returned (.tuple #[]) ∧ Done w4)
  plain : ¬ y = x → ¬ x.1 = 2 → ∀ W, Below w.heap.size w W → StoreAt h i k N w x W W fun w3 => ∀ W3, Below w3.heap.size w3 W3 → (¬ y.1 = 2 → Done W3) ∧ (y.1 = 2 → Calls Tryz.prog 92 #[.pointer (some ⟨h, 0, none⟩), .int .i64 y.2] W3 fun e w4 => e = .returned (.tuple #[]) ∧ Done w4)

theorem set_env {h : Nat} {w : World} {m : HeapM} {s : St} {c : Cf} {N : Nat} (p : HB 0 h w m s c N) (i k : Nat) (x : Int × Int) (hk : k < (s.ob i).fs.length) (hx : s.leads x) :
    SetEnv h i k N w x ((s.ob i).fs.getD k (0, 0)) fun W => ∃ m', HTurn h w m W m' ∧ HB 0 h W m' (putS c s i k x ((s.ob i).fs.getD k (0, 0))) c N := by
  have hh : (s.ob i).here = true := by
    cases e : (s.ob i).here with
    | true => rfl
    | false => rw [p.good.gone i e] at hk; simp [Ob.free] at hk
  obtain ⟨hi1, hiN⟩ := p.good.ne_zero hh
  obtain ⟨y, hy⟩ : ∃ y, (s.ob i).fs.getD k (0, 0) = y := ⟨_, rfl⟩
  have hyl : s.leads y := by rw [← hy]; exact leads_getD (p.good.fields i) k
  -- behind the count: the field, then the old value's
  have MID : ¬ y = x → ∀ W w2 m2, Below w.heap.size w W → HTurn h W m w2 m2 → HB (refTo x) h w2 m2 (stickS c.over s x) c N →
      StoreAt h i k N w x W w2 fun w3 => ∀ W3, Below w3.heap.size w3 W3 → (¬ y.1 = 2 → ∃ m', HTurn h w m W3 m' ∧ HB 0 h W3 m' (putS c s i k x y) c N) ∧ (y.1 = 2 → Calls Tryz.prog 92 #[.pointer (some ⟨h, 0, none⟩), .int .i64 y.2] W3 fun e w4 => e = .returned (.tuple #[]) ∧ ∃ m', HTurn h w m w4 m' ∧ HB 0 h w4 m' (putS c s i k x y) c N) := by
    intro hne W w2 m2 hb t q
    have ho1 : ((stickS c.over s x).ob i).fs = (s.ob i).fs := by
      unfold stickS
      split
      · rename_i hc
        obtain ⟨j, hj, ha⟩ := leads_alive hx hc.1
        rw [hj]
        unfold St.stick
        rw [Int.toNat_natCast, ob_put _ i (here_lt ha.1)]
        split
        · rename_i e; rw [e]
        · rfl
      · rfl
    obtain ⟨o, hio⟩ : ∃ o, m2.blks[i]? = some o := ⟨_, List.getElem?_eq_getElem (by rw [q.len]; omega)⟩
    have hof : o.fs = (s.ob i).fs := by rw [← ho1, q.ob hio]; rfl
    have hko : k < o.fs.length := by rw [hof]; exact hk
    obtain ⟨g, capB, fg, fc, hvB, hvF, hg, hfg, cB, c1, y0, y1, f0, f1⟩ := q.pre.facts i o hio k hko
    refine ⟨g, capB, fg, _, fc, _, _, cB, c1, hko, y0, y1, f0, f1, fun L ob hL hW => hobj_ref p hb t L ob hL hW, ?_⟩
    rintro w3 rfl
    have t3 := q.r.fieldSet i hio hvF k hko x
    have t23 := t.trans t3
    refine ⟨fun L ob hL hW => hobj_ref p hb t23 L ob hL hW, fun W3 hb3 => ?_⟩
    have hs3 := q.hs.field q.good hio hko
    rw [ho1, hy] at hs3
    obtain ⟨gs, ls⟩ := p.good.stickS c.over hx
    have g3 : ((stickS c.over s x).field i k x).Good N := gs.setField i k (ls x hx)
    have q3 : HB (refTo y) h W3 _ ((stickS c.over s x).field i k x) c N := ⟨(t3.after hb3).here, hs3, g3, p.cf, p.small, q.stack, q.globals⟩
    have T3 : HTurn h w m W3 _ := (HTurn.pre p.r hb t23).after hb3
    have e : putS c s i k x y = dropS' c.zero ((stickS c.over s x).field i k x) y := by
      unfold putS
      rw [if_neg (fun h => hne h.2)]
    rw [e]
    refine ⟨fun h2 => ?_, fun h2 => ?_⟩
    · have e2 : dropS' c.zero ((stickS c.over s x).field i k x) y = (stickS c.over s x).field i k x := by
        unfold dropS'
        rw [if_neg (fun h => h2 h.1)]
      rw [e2]
      have e3 : refTo y = 0 := by unfold refTo; rw [if_neg h2]
      rw [e3] at q3
      exact ⟨_, T3, q3⟩
    · obtain ⟨j, hj, ha⟩ := leads_alive hyl h2
      have e3 : refTo y = (j : Int) := by rw [hj]; rfl
      rw [e3] at q3
      have ha3 : ((stickS c.over s x).field i k x).alive j := by
        have a1 : (stickS c.over s x).alive j := by
          unfold stickS
          split
          · exact (alive_put (s := s) (i := x.2.toNat) (o := { s.ob x.2.toNat with stuck := true }) rfl rfl j).2 ha
          · exact ha
        exact (alive_put (s := stickS c.over s x) (i := i) (o := { (stickS c.over s x).ob i with fs := ((stickS c.over s x).ob i).fs.set k x }) rfl rfl j).2 a1
      rw [hj]
      refine (uncountField_any j q3 ha3).mono ?_
      rintro e w4 ⟨he, m4, t4, q4⟩
      exact ⟨he, m4, T3.trans t4, q4⟩
  rw [hy]
  refine ⟨fun e W hb => ?_, fun hne h2 W hb => ?_, fun hne h2 W hb => ?_⟩
  · have e2 : putS c s i k x y = s := by
      unfold putS
      by_cases hx2 : x.1 = 2
      · rw [if_pos ⟨hx2, e⟩]
      · rw [if_neg (fun h => hx2 h.1)]
        have s1 : stickS c.over s x = s := by unfold stickS; rw [if_neg (fun h => hx2 h.1)]
        have s2 : s.field i k x = s := by
          unfold St.field St.put
          have hl := here_lt hh
          have e3 : (s.ob i).fs.set k x = (s.ob i).fs := by
            rw [← e, ← hy, getD_of hk]; exact List.set_getElem_self hk
          rw [e3]
          have e4 : s.objs.set i (s.ob i) = s.objs := by
            have : s.ob i = s.objs[i] := ob_of (List.getElem?_eq_getElem hl)
            rw [this]; exact List.set_getElem_self hl
          rw [show ({ s.ob i with fs := (s.ob i).fs } : Ob) = s.ob i from rfl, e4]
        rw [s1, s2]
        unfold dropS'
        rw [if_neg (fun h => hx2 (by rw [← e]; exact h.1))]
    rw [e2]
    exact ⟨m, .of_below p.r hb, p.below hb⟩
  · obtain ⟨j, hj, ha⟩ := leads_alive hx h2
    have pW := p.below hb
    rw [show x.2 = (j : Int) by rw [hj]]
    refine (countField_any pW j ha).mono ?_
    rintro e w2 ⟨he, m2, t, q⟩
    rw [← hj] at q
    exact ⟨he, MID hne W w2 m2 hb t (by rw [show refTo x = (j : Int) by rw [hj]; rfl]; exact q)⟩
  · have s1 : stickS c.over s x = s := by unfold stickS; rw [if_neg (fun h => h2 h.1)]
    have e3 : refTo x = 0 := by unfold refTo; rw [if_neg h2]
    exact MID hne W W m hb (.refl (p.below hb).r) (by rw [s1, e3]; exact p.below hb)

/-- what setField's loads find -/
structure SetCells (h i k N : Nat) (w : World) (y : Int × Int) (g capB fg fl fc : Nat) : Prop where
  cB : w.cell? ⟨h, 5, none⟩ = some (.slice (some ⟨g, 0, none⟩) (N + 1) capB)
  c1 : w.cell? ⟨g, i * 3 + 2, none⟩ = some (.slice (some ⟨fg, 0, none⟩) fl fc)
  y0 : w.cell? ⟨fg, k * 2, none⟩ = some (.int .i64 y.1)
  y1 : w.cell? ⟨fg, k * 2 + 1, none⟩ = some (.int .i64 y.2)
  hh : h < w.heap.size
  hg : g < w.heap.size
  hf : fg < w.heap.size
  hi : i ≤ N
  hN : N ≤ 99
  hk : k < fl
  hfl : fl ≤ 4

set_option maxHeartbeats 4000000 in
theorem setField_core (h i k N : Nat) (w : World) (x y : Int × Int) (g capB fg fl fc : Nat) (C : SetCells h i k N w y g capB fg fl fc) (Done : World → Prop) (E : SetEnv h i k N w x y Done) :
    Calls Tryz.prog 76 #[.pointer (some ⟨h, 0, none⟩), .int .i64 i, .int .i64 k, .agg #[.int .i64 x.1, .int .i64 x.2]] w fun e w' => e = .returned (.tuple #[]) ∧ Done w' := by
  obtain ⟨cB, c1, y0, y1, hh, hg, hf, hi, hN, hk, hfl⟩ := C
  have SV : Hid (∀ W, Calls Tryz.prog 77 #[.agg #[.int .i64 y.1, .int .i64 y.2], .agg #[.int .i64 x.1, .int .i64 x.2]] W fun e w' => e = .returned (.bool (decide (y = x))) ∧ Below W.heap.size W w') := sameValue_any y x
  have EE : Hid _ := E
  have hiI : (i : Int) < (N : Int) + 1 := by omega
  have hkI : (k : Int) < fl := by omega
  clear E
  obtain ⟨x1, x2⟩ := x
  obtain ⟨y1', y2'⟩ := y
  simp only at y0 y1
  have al : ∀ (ob : Obj) (b o : Nat), b < w.heap.size → (w.alloc ob).cell? ⟨b, o, none⟩ = w.cell? ⟨b, o, none⟩ := fun ob b o hlt => World.cell?_of_block (hao hlt)
  have t0 : ∀ ob, (w.alloc ob).cell? ⟨h, 5, none⟩ = w.cell? ⟨h, 5, none⟩ := fun ob => al ob h 5 hh
  have t1 : ∀ ob, (w.alloc ob).cell? ⟨g, i * 3 + 2, none⟩ = w.cell? ⟨g, i * 3 + 2, none⟩ := fun ob => al ob g _ hg
  have t2 : ∀ ob, (w.alloc ob).cell? ⟨fg, k * 2, none⟩ = w.cell? ⟨fg, k * 2, none⟩ := fun ob => al ob fg _ hf
  have t3 : ∀ ob, (w.alloc ob).cell? ⟨fg, k * 2 + 1, none⟩ = w.cell? ⟨fg, k * 2 + 1, none⟩ := fun ob => al ob fg _ hf
  clear al
  go_enter Tryz.func76, Tryz.ntmps76
  go_wp2_with fail
  refine Calls.mono (SV.out _) ?_
  rintro e w1 ⟨rfl, hb⟩
  have B1 : Hid (Below w.heap.size w w1 ∧ w1.heap[w.heap.size]? = some (.cells #[.int .i64 x1, .int .i64 x2] 81) ∧ w1.heap[w.heap.size + 1]? = some (.cells #[.int .i64 y1', .int .i64 y2'] 81)) := by
    refine ⟨(((Below.refl _ _).alloc (Nat.le_refl _) _).alloc (by simp) _).trans (hb.mono (by simp; omega)), ?_, ?_⟩
    · rw [hb.block _ (by simp; omega), hao (by simp)]; exact heap_alloc_new w _
    · have := boxed' hb
      simpa using this
  have p0 : w1.cell? ⟨w.heap.size, 0, none⟩ = some (.int .i64 x1) := cell_of_heap B1.out.2.1 rfl
  have p1 : w1.cell? ⟨w.heap.size, 1, none⟩ = some (.int .i64 x2) := cell_of_heap B1.out.2.1 rfl
  have o0' : w1.cell? ⟨w.heap.size + 1, 0, none⟩ = some (.int .i64 y1') := cell_of_heap B1.out.2.2 rfl
  clear hb SV t0 t1 t2 t3 cB c1 y0 y1
  by_cases hxy : ((y1', y2') : Int × Int) = (x1, x2)
  · have F : Hid (Done w1) := EE.out.same hxy w1 B1.out.1
    have hd : decide (((y1', y2') : Int × Int) = (x1, x2)) = true := by simpa using hxy
    rw [hd]
    clear hxy hd
    go_wp2
    first | go_end0 | refine bodyPost_ret (results_none rfl _ _ _) rfl ?_
    exact ⟨rfl, F.out⟩
  · have hd : decide (((y1', y2') : Int × Int) = (x1, x2)) = false := by simpa using hxy
    rw [hd]
    clear hd
    by_cases hx : x1 = 2
    · subst hx
      have C : Hid _ := EE.out.count hxy rfl w1 B1.out.1
      clear EE
      by_cases hy : y1' = 2
      · subst hy
        clear hxy
        go_wp2_with fail
        refine Calls.mono C.out ?_
        rintro e w2 ⟨rfl, ST⟩
        clear C p0 p1 o0'
        obtain ⟨g', capB', fg', fl', fc', u', v', d0, d1, hk', d2, d3, f0, f1, hloc, h3⟩ := ST
        have hkI' : (k : Int) < fl' := by omega
        have l0 := hloc _ _ (Nat.le_refl _) B1.out.2.1
        have v0 : w2.cell? ⟨w.heap.size, 0, none⟩ = some (.int .i64 2) := cell_of_heap l0 rfl
        have v1 : w2.cell? ⟨w.heap.size, 1, none⟩ = some (.int .i64 x2) := cell_of_heap l0 rfl
        obtain ⟨w3, hw3⟩ : ∃ w3, (w2.setCell ⟨fg', k * 2, none⟩ (.int .i64 2)).setCell ⟨fg', k * 2 + 1, none⟩ (.int .i64 x2) = w3 := ⟨_, rfl⟩
        obtain ⟨hloc3, h4⟩ := h3 w3 hw3.symm
        have l3 := hloc3 _ _ (Nat.le_succ _) B1.out.2.2
        have o0 : w3.cell? ⟨w.heap.size + 1, 0, none⟩ = some (.int .i64 2) := cell_of_heap l3 rfl
        have o1 : w3.cell? ⟨w.heap.size + 1, 1, none⟩ = some (.int .i64 y2') := cell_of_heap l3 rfl
        have H4 : Hid _ := h4
        have E3 : Hid _ := hw3
        clear hloc h3 hloc3 h4 l0 l3 hw3
        go_wp2_with fail
        go_region
        all_goals rw [E3.out]
        all_goals go_wp2_with fail
        all_goals refine Calls.mono ((H4.out _ (Below.refl _ _).drew).2 (by first | rfl | trivial)) ?_
        all_goals rintro e w4 ⟨rfl, hd⟩
        all_goals have D : Hid _ := hd
        all_goals clear hd
        all_goals go_wp2
        all_goals (first | go_end0 | refine bodyPost_ret (results_none rfl _ _ _) rfl ?_)
        all_goals exact ⟨rfl, D.out⟩
      · have hy2 : (y1' == 2) = false := by simpa using hy
        clear hxy
        go_wp2_with fail
        refine Calls.mono C.out ?_
        rintro e w2 ⟨rfl, ST⟩
        clear C p0 p1 o0'
        obtain ⟨g', capB', fg', fl', fc', u', v', d0, d1, hk', d2, d3, f0, f1, hloc, h3⟩ := ST
        have hkI' : (k : Int) < fl' := by omega
        have l0 := hloc _ _ (Nat.le_refl _) B1.out.2.1
        have v0 : w2.cell? ⟨w.heap.size, 0, none⟩ = some (.int .i64 2) := cell_of_heap l0 rfl
        have v1 : w2.cell? ⟨w.heap.size, 1, none⟩ = some (.int .i64 x2) := cell_of_heap l0 rfl
        obtain ⟨w3, hw3⟩ : ∃ w3, (w2.setCell ⟨fg', k * 2, none⟩ (.int .i64 2)).setCell ⟨fg', k * 2 + 1, none⟩ (.int .i64 x2) = w3 := ⟨_, rfl⟩
        obtain ⟨hloc3, h4⟩ := h3 w3 hw3.symm
        have l3 := hloc3 _ _ (Nat.le_succ _) B1.out.2.2
        have o0 : w3.cell? ⟨w.heap.size + 1, 0, none⟩ = some (.int .i64 y1') := cell_of_heap l3 rfl
        have o1 : w3.cell? ⟨w.heap.size + 1, 1, none⟩ = some (.int .i64 y2') := cell_of_heap l3 rfl
        have H4 : Hid _ := h4
        have E3 : Hid _ := hw3
        clear hloc h3 hloc3 h4 l0 l3 hw3
        go_wp2_with fail
        go_region
        all_goals rw [E3.out]
        all_goals have D : Hid _ := (H4.out _ (Below.refl _ _).drew).1 hy
        all_goals go_wp2
        all_goals (first | go_end0 | refine bodyPost_ret (results_none rfl _ _ _) rfl ?_)
        all_goals exact ⟨rfl, D.out⟩
    · have hx2 : (x1 == 2) = false := by simpa using hx
      have ST := EE.out.plain hxy hx w1 B1.out.1
      clear EE
      by_cases hy : y1' = 2
      · subst hy
        clear hxy hx p0 p1 o0'
        obtain ⟨g', capB', fg', fl', fc', u', v', d0, d1, hk', d2, d3, f0, f1, hloc, h3⟩ := ST
        have hkI' : (k : Int) < fl' := by omega
        have l0 := hloc _ _ (Nat.le_refl _) B1.out.2.1
        have v0 : w1.cell? ⟨w.heap.size, 0, none⟩ = some (.int .i64 x1) := cell_of_heap l0 rfl
        have v1 : w1.cell? ⟨w.heap.size, 1, none⟩ = some (.int .i64 x2) := cell_of_heap l0 rfl
        obtain ⟨w3, hw3⟩ : ∃ w3, (w1.setCell ⟨fg', k * 2, none⟩ (.int .i64 x1)).setCell ⟨fg', k * 2 + 1, none⟩ (.int .i64 x2) = w3 := ⟨_, rfl⟩
        obtain ⟨hloc3, h4⟩ := h3 w3 hw3.symm
        have l3 := hloc3 _ _ (Nat.le_succ _) B1.out.2.2
        have o0 : w3.cell? ⟨w.heap.size + 1, 0, none⟩ = some (.int .i64 2) := cell_of_heap l3 rfl
        have o1 : w3.cell? ⟨w.heap.size + 1, 1, none⟩ = some (.int .i64 y2') := cell_of_heap l3 rfl
        have H4 : Hid _ := h4
        have E3 : Hid _ := hw3
        clear hloc h3 hloc3 h4 l0 l3 hw3
        go_wp2_with fail
        go_region
        all_goals rw [E3.out]
        all_goals go_wp2_with fail
        all_goals refine Calls.mono ((H4.out _ (Below.refl _ _).drew).2 (by first | rfl | trivial)) ?_
        all_goals rintro e w4 ⟨rfl, hd⟩
        all_goals have D : Hid _ := hd
        all_goals clear hd
        all_goals go_wp2
        all_goals (first | go_end0 | refine bodyPost_ret (results_none rfl _ _ _) rfl ?_)
        all_goals exact ⟨rfl, D.out⟩
      · have hy2 : (y1' == 2) = false := by simpa using hy
        clear hxy hx p0 p1 o0'
        obtain ⟨g', capB', fg', fl', fc', u', v', d0, d1, hk', d2, d3, f0, f1, hloc, h3⟩ := ST
        have hkI' : (k : Int) < fl' := by omega
        have l0 := hloc _ _ (Nat.le_refl _) B1.out.2.1
        have v0 : w1.cell? ⟨w.heap.size, 0, none⟩ = some (.int .i64 x1) := cell_of_heap l0 rfl
        have v1 : w1.cell? ⟨w.heap.size, 1, none⟩ = some (.int .i64 x2) := cell_of_heap l0 rfl
        obtain ⟨w3, hw3⟩ : ∃ w3, (w1.setCell ⟨fg', k * 2, none⟩ (.int .i64 x1)).setCell ⟨fg', k * 2 + 1, none⟩ (.int .i64 x2) = w3 := ⟨_, rfl⟩
        obtain ⟨hloc3, h4⟩ := h3 w3 hw3.symm
        have l3 := hloc3 _ _ (Nat.le_succ _) B1.out.2.2
        have o0 : w3.cell? ⟨w.heap.size + 1, 0, none⟩ = some (.int .i64 y1') := cell_of_heap l3 rfl
        have o1 : w3.cell? ⟨w.heap.size + 1, 1, none⟩ = some (.int .i64 y2') := cell_of_heap l3 rfl
        have H4 : Hid _ := h4
        have E3 : Hid _ := hw3
        clear hloc h3 hloc3 h4 l0 l3 hw3
        go_wp2_with fail
        go_region
        all_goals rw [E3.out]
        all_goals have D : Hid _ := (H4.out _ (Below.refl _ _).drew).1 hy
        all_goals go_wp2
        all_goals (first | go_end0 | refine bodyPost_ret (results_none rfl _ _ _) rfl ?_)
        all_goals exact ⟨rfl, D.out⟩

theorem setField_any {h : Nat} {w : World} {m : HeapM} {s : St} {c : Cf} {N : Nat} (p : HB 0 h w m s c N) (i k : Nat) (x : Int × Int) (hk : k < (s.ob i).fs.length) (hx : s.leads x) :
    Calls Tryz.prog 76 #[.pointer (some ⟨h, 0, none⟩), .int .i64 i, .int .i64 k, .agg #[.int .i64 x.1, .int .i64 x.2]] w fun e w' => e = .returned (.tuple #[]) ∧
      ∃ m', HTurn h w m w' m' ∧ HB 0 h w' m' (putS c s i k x ((s.ob i).fs.getD k (0, 0))) c N := by
  have hh : (s.ob i).here = true := by
    cases e : (s.ob i).here with
    | true => rfl
    | false => rw [p.good.gone i e] at hk; simp [Ob.free] at hk
  obtain ⟨hi1, hiN⟩ := p.good.ne_zero hh
  obtain ⟨o, hio⟩ : ∃ o, m.blks[i]? = some o := ⟨_, List.getElem?_eq_getElem (by rw [p.len]; omega)⟩
  have hof : o.fs = (s.ob i).fs := by rw [p.ob hio]; rfl
  have hko : k < o.fs.length := by rw [hof]; exact hk
  obtain ⟨g, capB, fg, fc, hvB, hvF, hg, hfg, cB, c1, y0, y1, f0, f1⟩ := p.pre.facts i o hio k hko
  have hy : o.fs[k] = (s.ob i).fs.getD k (0, 0) := by
    rw [← hof, getD_of hko]
  have h4 := p.good.four i
  exact setField_core h i k N w x _ g capB fg o.fs.length fc ⟨cB, c1, by rw [y0, hy], by rw [y1, hy], lt_of_heap p.r.head, hg, hfg, hiN, p.small, hko, by rw [hof]; exact h4⟩ _ (set_env p i k x hk hx)

end Go.Proofs.YteekoiljkklnmaaGreatDoor

/- OUR OWN. The document's heap: stored. -/
namespace Go.Proofs.YteekoiljkklnmaaGreatDoor
open Go.RowKit
set_option linter.unusedVariables false
set_option linter.unusedSimpArgs false

def StoreSays : Prop := ∀ (h N : Nat) (w : World) (m : RefM) (n : Int), RPre h N w m →
  Calls Tryz.prog 53 #[.pointer (some ⟨h, 0, none⟩), .int .i64 n] w (RDid h N w m (storeS m.cf m.st n))

/-- what the walk wants of a heap, in the world as it stands there: the head's cells, the object i, its field k -/
theorem RPre.facts {h N : Nat} {w : World} {m : RefM} (p : RPre h N w m) (i : Nat) (o : RObj) (hi : m.objs[i]? = some o) (k : Nat) (hk : k < o.fs.length) :
    ∃ g capB fg fc, m.vB = .slice (some ⟨g, 0, none⟩) (N + 1) capB ∧ o.vF = .slice (some ⟨fg, 0, none⟩) o.fs.length fc ∧ g < w.heap.size ∧ fg < w.heap.size ∧ w.cell? ⟨h, 5, none⟩ = some (.slice (some ⟨g, 0, none⟩) (N + 1) capB) ∧
      w.cell? ⟨g, i * 4 + 1, none⟩ = some (.slice (some ⟨fg, 0, none⟩) o.fs.length fc) ∧ w.cell? ⟨fg, k * 2, none⟩ = some (.int .i64 (o.fs[k]).1) ∧ w.cell? ⟨fg, k * 2 + 1, none⟩ = some (.int .i64 (o.fs[k]).2) ∧
      w.frozen? ⟨fg, k * 2, none⟩ = false ∧ w.frozen? ⟨fg, k * 2 + 1, none⟩ = false := by
  obtain ⟨g, capB, hvB, hg, _, _, _, hobj⟩ := p.r.view p.ok
  have hil : i < m.objs.length := (List.getElem?_eq_some_iff.1 hi).1
  have hio : m.objs[i] = o := (List.getElem?_eq_some_iff.1 hi).2
  obtain ⟨fg, fc, hvF, hfg, _, _, hfz, hfc⟩ := p.r.fieldView i hil (by rw [hio]; omega)
  have c1 := (hobj i hil).2.1
  rw [hvF] at c1
  simp only [hio] at *
  exact ⟨g, capB, fg, fc, hvB, hvF, hg, hfg, by rw [p.r.cell.2.2.2.2.2.1, hvB], c1, (hfc k hk).1, (hfc k hk).2, hfz _, hfz _⟩

theorem RPre.stuckCell {h N : Nat} {w : World} {m : RefM} (p : RPre h N w m) {g cap : Nat} (hv : m.vB = .slice (some ⟨g, 0, none⟩) (N + 1) cap) (i : Nat) (hi : i ≤ N) :
    ∃ o, m.objs[i]? = some o ∧ w.cell? ⟨g, i * 4 + 2, none⟩ = some (.bool o.stuck) ∧ w.frozen? ⟨g, i * 4 + 2, none⟩ = false := by
  obtain ⟨g', capB, hvB, hg, _, _, hfz, hobj⟩ := p.r.view p.ok
  have e : (Value.slice (some ⟨g', 0, none⟩) (N + 1) capB) = .slice (some ⟨g, 0, none⟩) (N + 1) cap := hvB.symm.trans hv
  simp at e
  obtain ⟨rfl, rfl⟩ := e
  have hil : i < m.objs.length := by rw [p.ok.len]; omega
  exact ⟨m.objs[i], List.getElem?_eq_getElem hil, (hobj i hil).2.2.1, hfz _⟩

/-- behind the store: the old value's object is let go -/
structure Tail (h N : Nat) (w : World) (m : RefM) (s' : St) (W : World) (m3 : RefM) : Prop where
  pre : RPre h N W m3
  step : RStep h N w m W m3
  st : m3.st = s'

theorem Tail.below {h N : Nat} {w W W' : World} {m m3 : RefM} {s' : St} (t : Tail h N w m s' W m3) (hb : Below W.heap.size W W') : Tail h N w m s' W' m3 := ⟨t.pre.below hb, t.step.after hb, t.st⟩

end Go.Proofs.YteekoiljkklnmaaGreatDoor

/- OUR OWN. The document's heap: stored, where nothing is stored. -/
namespace Go.Proofs.YteekoiljkklnmaaGreatDoor
open Go.RowKit
set_option linter.unusedVariables false
set_option linter.unusedSimpArgs false

set_option maxHeartbeats 1600000 in
theorem stored_not (h N : Nat) (w : World) (m : RefM) (n : Int) (p : RPre h N w m)
    (hbad : m.stack.length < 2 ∨ objErr (m.st.down 1) ≠ 0 ∨ n < 0 ∨ ((m.st.fields (m.st.down 1).2).length : Int) ≤ n) :
    Calls Tryz.prog 53 #[.pointer (some ⟨h, 0, none⟩), .int .i64 n] w (RDid h N w m (storeS m.cf m.st n)) := by
  obtain ⟨ao, cap, cS⟩ := p.stackCell
  by_cases hc : m.stack.length < 2
  · have e : storeS m.cf m.st n = (m.st, 0, 3) := by unfold storeS; exact if_pos hc
    rw [e]
    have K : Hid (∃ m', RStep h N w m w m' ∧ m'.st = m.st) := ⟨m, .refl p, rfl⟩
    obtain ⟨len, hlen⟩ : ∃ len, m.stack.length = len := ⟨_, rfl⟩
    rw [hlen] at hc cS
    clear p hlen e hbad
    have hcI : (len : Int) < 2 := by omega
    go_enter Tryz.func53, Tryz.ntmps53
    go_wp2
    go_ret
    exact ⟨rfl, K.out⟩
  have D0 : Hid _ := down_do p 0 (by omega)
  have D1 : Hid (∀ W, Below w.heap.size w W → Calls Tryz.prog 81 #[.pointer (some ⟨h, 0, none⟩), .int .i64 1] W fun e w' => e = .returned (.agg #[.int .i64 (m.st.down 1).1, .int .i64 (m.st.down 1).2]) ∧ Below W.heap.size W w') := fun W hb => down_do (p.below hb) 1 (by show 1 < m.stack.length; omega)
  have K : Hid (∀ W, Below w.heap.size w W → ∃ m', RStep h N w m W m' ∧ m'.st = m.st) := fun W hb => ⟨m, .of_below p hb, rfl⟩
  have hv := p.inv.down 1
  have hcI0 : ¬ (m.stack.length : Int) < 2 := by omega
  obtain ⟨x, hx⟩ : ∃ x, m.st.down 0 = x := ⟨_, rfl⟩
  rw [hx] at D0
  obtain ⟨x1, x2⟩ := x
  by_cases he : objErr (m.st.down 1) ≠ 0
  · have e : storeS m.cf m.st n = (m.st, 0, objErr (m.st.down 1)) := by unfold storeS; exact (if_neg hc).trans (if_pos he)
    rw [e]
    obtain ⟨len, hlen⟩ : ∃ len, m.stack.length = len := ⟨_, rfl⟩
    rw [hlen] at hc cS hcI0
    obtain ⟨q, hq⟩ : ∃ q, m.st.down 1 = q := ⟨_, rfl⟩
    rw [hq] at D1 he ⊢
    obtain ⟨q1, q2⟩ := q
    have O : Hid (∀ W, Calls Tryz.prog 82 #[.agg #[.int .i64 q1, .int .i64 q2]] W fun e w' => e = .returned (.int .i64 (objErr (q1, q2))) ∧ Below W.heap.size W w') := object_any (q1, q2)
    obtain ⟨er, her⟩ : ∃ er, objErr (q1, q2) = er := ⟨_, rfl⟩
    rw [her] at he O ⊢
    have he2 : (er == 0) = false := by simpa using he
    clear p hlen e hx hv her hbad hq
    go_enter Tryz.func53, Tryz.ntmps53
    go_wp2_with fail
    refine Calls.mono D0.out ?_
    rintro e w1 ⟨rfl, hb⟩
    have B : Hid (Below w.heap.size w w1) := hb
    clear hb D0
    go_wp2_with fail
    refine Calls.mono (D1.out _ (B.out.alloc B.out.size _)) ?_
    rintro e w2 ⟨rfl, hb⟩
    have B2 : Hid (Below w.heap.size w w2) := (B.out.alloc B.out.size _).trans (hb.mono (by simp; have := B.out.size; omega))
    clear hb D1
    go_wp2_with fail
    refine Calls.mono (O.out _) ?_
    rintro e w3 ⟨rfl, hb⟩
    have B3 : Hid (Below w.heap.size w w3) := (B2.out.alloc B2.out.size _).trans (hb.mono (by simp; have := B2.out.size; omega))
    clear hb O
    go_wp2
    go_ret
    exact ⟨rfl, K.out _ B3.out⟩
  have he : objErr (m.st.down 1) = 0 := by omega
  obtain ⟨i, hi, hbi, hiN, hfs⟩ := p.obj _ (ref_of hv he)
  obtain ⟨g, capB, hvB, hg, _, _, _, hobj⟩ := p.r.view p.ok
  have cB : w.cell? ⟨h, 5, none⟩ = some (.slice (some ⟨g, 0, none⟩) (N + 1) capB) := by rw [p.r.cell.2.2.2.2.2.1, hvB]
  have c1 := (hobj i hi).2.1
  have hh := lt_of_heap p.r.head
  have hN := p.ok.small
  have hiI : (i : Int) < (N : Int) + 1 := by omega
  have hr : n < 0 ∨ ((m.objs[i]).fs.length : Int) ≤ n := by
    rcases hbad with hb | hb | hb | hb
    · exact absurd hb hc
    · exact absurd he hb
    · exact .inl hb
    · rw [hfs] at hb; exact .inr hb
  have e : storeS m.cf m.st n = (m.st, 0, 6) := by unfold storeS; exact (if_neg hc).trans ((if_neg (by omega)).trans (if_pos (by rw [hfs]; exact hr)))
  rw [e]
  obtain ⟨fo, fc, hvF⟩ := own_slice (p.r.fields _ (List.getElem_mem hi))
  rw [hvF] at c1
  obtain ⟨fl, hfl⟩ : ∃ fl, (m.objs[i]).fs.length = fl := ⟨_, rfl⟩
  rw [hfl] at c1 hr
  obtain ⟨len, hlen⟩ : ∃ len, m.stack.length = len := ⟨_, rfl⟩
  rw [hlen] at hc cS hcI0
  obtain ⟨q, hq⟩ : ∃ q, m.st.down 1 = q := ⟨_, rfl⟩
  rw [hq] at D1 he hbi
  obtain ⟨q1, q2⟩ := q
  simp only at hbi
  subst hbi
  have O : Hid (∀ W, Calls Tryz.prog 82 #[.agg #[.int .i64 q1, .int .i64 i]] W fun e w' => e = .returned (.int .i64 0) ∧ Below W.heap.size W w') := fun W => (object_any (q1, (i : Int)) W).mono fun e w' ⟨h1, h2⟩ => ⟨h1.trans (ret_int he), h2⟩
  have OLD : Hid (∀ W, Below w.heap.size w W → W.cell? ⟨h, 5, none⟩ = some (.slice (some ⟨g, 0, none⟩) (N + 1) capB) ∧ W.cell? ⟨g, i * 4 + 1, none⟩ = some (.slice fo fl fc)) := fun W hb =>
    ⟨(hb.cell (p := ⟨h, 5, none⟩) hh).trans cB, (hb.cell (p := ⟨g, i * 4 + 1, none⟩) hg).trans c1⟩
  clear p hlen e hx hv he hfs hobj hvB hvF hfl cB c1 hq hbad
  rcases hr with hr | hr
  · have hd : decide (n < 0) = true := by simpa using hr
    go_enter Tryz.func53, Tryz.ntmps53
    go_wp2_with fail
    refine Calls.mono D0.out ?_
    rintro e w1 ⟨rfl, hb⟩
    have B : Hid (Below w.heap.size w w1) := hb
    clear hb D0
    go_wp2_with fail
    refine Calls.mono (D1.out _ (B.out.alloc B.out.size _)) ?_
    rintro e w2 ⟨rfl, hb⟩
    have B2 : Hid (Below w.heap.size w w2) := (B.out.alloc B.out.size _).trans (hb.mono (by simp; have := B.out.size; omega))
    clear hb D1
    go_wp2_with fail
    refine Calls.mono (O.out _) ?_
    rintro e w3 ⟨rfl, hb⟩
    have B3 : Hid (Below w.heap.size w w3) := (B2.out.alloc B2.out.size _).trans (hb.mono (by simp; have := B2.out.size; omega))
    have l1 : w3.cell? ⟨w2.heap.size, 1, none⟩ = some (.int .i64 i) := cell_of_heap (boxed' hb) rfl
    obtain ⟨d0, d1⟩ := OLD.out w3 B3.out
    clear hb O
    go_wp2_with fail
    go_quiet (fail)
    go_wp2
    go_ret
    exact ⟨rfl, K.out _ (below_drewN B3.out _)⟩
  · have hn0 : ¬ n < 0 := by omega
    have hd : decide (n < 0) = false := by simpa using hn0
    go_enter Tryz.func53, Tryz.ntmps53
    go_wp2_with fail
    refine Calls.mono D0.out ?_
    rintro e w1 ⟨rfl, hb⟩
    have B : Hid (Below w.heap.size w w1) := hb
    clear hb D0
    go_wp2_with fail
    refine Calls.mono (D1.out _ (B.out.alloc B.out.size _)) ?_
    rintro e w2 ⟨rfl, hb⟩
    have B2 : Hid (Below w.heap.size w w2) := (B.out.alloc B.out.size _).trans (hb.mono (by simp; have := B.out.size; omega))
    clear hb D1
    go_wp2_with fail
    refine Calls.mono (O.out _) ?_
    rintro e w3 ⟨rfl, hb⟩
    have B3 : Hid (Below w.heap.size w w3) := (B2.out.alloc B2.out.size _).trans (hb.mono (by simp; have := B2.out.size; omega))
    have l1 : w3.cell? ⟨w2.heap.size, 1, none⟩ = some (.int .i64 i) := cell_of_heap (boxed' hb) rfl
    obtain ⟨d0, d1⟩ := OLD.out w3 B3.out
    clear hb O
    go_wp2_with fail
    go_quiet (fail)
    go_wp2
    go_ret
    exact ⟨rfl, K.out _ (below_drewN B3.out _)⟩

end Go.Proofs.YteekoiljkklnmaaGreatDoor

/- OUR OWN. The document's heap: stored, where a field is turned: the walk over what the callees leave. -/
namespace Go.Proofs.YteekoiljkklnmaaGreatDoor
open Go.RowKit
set_option linter.unusedVariables false
set_option linter.unusedSimpArgs false

/-- What is known of the heap at each place of the walk, and what each callee does to it. -/
structure StoreEnv (h N g capB fg fl fc i k : Nat) (x1 x2 y1 y2 q1 over : Int) (cx ex : Nat) (ys : Nat → Bool) (cy : Int → Nat) (w : World) (Mid1 MidP TailP Done : World → Prop) : Prop where
  d0 : Calls Tryz.prog 81 #[.pointer (some ⟨h, 0, none⟩), .int .i64 0] w fun e w' => e = .returned (.agg #[.int .i64 x1, .int .i64 x2]) ∧ Below w.heap.size w w'
  d1 : ∀ W, Below w.heap.size w W → Calls Tryz.prog 81 #[.pointer (some ⟨h, 0, none⟩), .int .i64 1] W fun e w' => e = .returned (.agg #[.int .i64 q1, .int .i64 i]) ∧ Below W.heap.size W w'
  obj : ∀ W, Calls Tryz.prog 82 #[.agg #[.int .i64 q1, .int .i64 i]] W fun e w' => e = .returned (.int .i64 0) ∧ Below W.heap.size W w'
  old : ∀ W, Below w.heap.size w W → W.cell? ⟨h, 5, none⟩ = some (.slice (some ⟨g, 0, none⟩) (N + 1) capB) ∧ W.cell? ⟨g, i * 4 + 1, none⟩ = some (.slice (some ⟨fg, 0, none⟩) fl fc)
  pop : ∀ W, Below w.heap.size w W → Calls Tryz.prog 83 #[.pointer (some ⟨h, 0, none⟩), .int .i64 2] W fun e w' => e = .returned (.tuple #[]) ∧ Mid1 w' ∧ W.heap.size ≤ w'.heap.size ∧ ∀ L ob, w.heap.size ≤ L → W.heap[L]? = some ob → w'.heap[L]? = some ob
  mid : ∀ W, MidP W → W.cell? ⟨h, 5, none⟩ = some (.slice (some ⟨g, 0, none⟩) (N + 1) capB) ∧ W.cell? ⟨g, i * 4 + 1, none⟩ = some (.slice (some ⟨fg, 0, none⟩) fl fc) ∧ W.cell? ⟨fg, k * 2, none⟩ = some (.int .i64 y1) ∧ W.cell? ⟨fg, k * 2 + 1, none⟩ = some (.int .i64 y2) ∧
    W.frozen? ⟨fg, k * 2, none⟩ = false ∧ W.frozen? ⟨fg, k * 2 + 1, none⟩ = false ∧ W.cell? ⟨h, 4, none⟩ = some (.int .i64 over)
  midA : ∀ W, Mid1 W → W.cell? ⟨h, 5, none⟩ = some (.slice (some ⟨g, 0, none⟩) (N + 1) capB) ∧ W.cell? ⟨g, i * 4 + 1, none⟩ = some (.slice (some ⟨fg, 0, none⟩) fl fc) ∧ W.cell? ⟨fg, k * 2, none⟩ = some (.int .i64 y1) ∧ W.cell? ⟨fg, k * 2 + 1, none⟩ = some (.int .i64 y2) ∧
    W.frozen? ⟨fg, k * 2, none⟩ = false ∧ W.frozen? ⟨fg, k * 2 + 1, none⟩ = false ∧ W.cell? ⟨h, 4, none⟩ = some (.int .i64 over)
  mid1 : ∀ W, Mid1 W → ¬ (x1 = 2 ∧ (cx : Int) = 7 ∧ over ≤ (ex : Int)) → MidP W
  mid1B : ∀ W W', Mid1 W → Below W.heap.size W W' → Mid1 W'
  midB : ∀ W W', MidP W → Below W.heap.size W W' → MidP W'
  same : ∀ W, Mid1 W → x1 = 2 → y1 = x1 → y2 = x2 → Done W
  count : ∀ W, Mid1 W → Calls Tryz.prog 36 #[.pointer (some ⟨h, 0, none⟩), .int .i64 x2] W fun e w' => e = .returned (.int .i64 cx) ∧ w' = W
  extras : ∀ W, Mid1 W → Calls Tryz.prog 23 #[.pointer (some ⟨h, 0, none⟩)] W fun e w' => e = .returned (.int .i64 ex) ∧ Below W.heap.size W w'
  stuck : ∀ W (j : Nat), Mid1 W → x2 = j → x1 = 2 → (cx : Int) = 7 → over ≤ (ex : Int) → j ≤ N ∧ (∃ u, W.cell? ⟨g, j * 4 + 2, none⟩ = some (.bool u)) ∧ W.frozen? ⟨g, j * 4 + 2, none⟩ = false ∧ MidP (W.setCell ⟨g, j * 4 + 2, none⟩ (.bool true))
  store : ∀ W, MidP W → TailP ((W.setCell ⟨fg, k * 2, none⟩ (.int .i64 x1)).setCell ⟨fg, k * 2 + 1, none⟩ (.int .i64 x2))
  tailB : ∀ W W', TailP W → Below W.heap.size W W' → TailP W'
  tail : ∀ W, TailP W → W.cell? ⟨h, 5, none⟩ = some (.slice (some ⟨g, 0, none⟩) (N + 1) capB) ∧ ∀ j : Nat, j ≤ N → W.cell? ⟨g, j * 4 + 2, none⟩ = some (.bool (ys j))
  done : ∀ W, TailP W → ¬ (x1 = 2 ∧ y1 = x1 ∧ y2 = x2) → (∀ j : Nat, y1 = 2 → y2 = j → ys j = false → cy j = 0 → False) → Done W
  tcount : ∀ W b, TailP W → Calls Tryz.prog 36 #[.pointer (some ⟨h, 0, none⟩), .int .i64 b] W fun e w' => e = .returned (.int .i64 (cy b)) ∧ w' = W
  enter : ∀ W (j : Nat), TailP W → ¬ (x1 = 2 ∧ y1 = x1 ∧ y2 = x2) → y1 = 2 → y2 = j → ys j = false → cy j = 0 → Calls Tryz.prog 67 #[.pointer (some ⟨h, 0, none⟩), .int .i64 (j : Int)] W fun e w' => e = .returned (.tuple #[]) ∧ Done w'
  xref : x1 = 2 → ∃ j : Nat, x2 = j ∧ j ≤ N
  yref : y1 = 2 → ∃ j : Nat, y2 = j ∧ j ≤ N


end Go.Proofs.YteekoiljkklnmaaGreatDoor

/- OUR OWN. The document's heap: stored, by cases. -/
namespace Go.Proofs.YteekoiljkklnmaaGreatDoor
open Go.RowKit
set_option linter.unusedVariables false
set_option linter.unusedSimpArgs false

set_option maxHeartbeats 1600000 in
theorem stored_same (h N g capB fg fl fc i k len cap : Nat) (ao : Option Addr) (jx : Nat) (q1 over : Int) (cx ex : Nat) (ys : Nat → Bool) (cy : Int → Nat) (w : World) (Mid1 MidP TailP Done : World → Prop) (E : Hid (StoreEnv h N g capB fg fl fc i k 2 (jx : Int) 2 (jx : Int) q1 over cx ex ys cy w Mid1 MidP TailP Done))
    (cS : w.cell? ⟨h, 7, none⟩ = some (.slice ao len cap)) (hc : ¬ (len : Int) < 2) (hl : len ≤ 16) (hN : N ≤ 99) (hi : i ≤ N) (hk : k < fl) (hfl : fl ≤ 4) (hh : h < w.heap.size) (hg : g < w.heap.size) (hfg : fg < w.heap.size) (hgf : ¬ g = fg) :
    Calls Tryz.prog 53 #[.pointer (some ⟨h, 0, none⟩), .int .i64 k] w fun e w' => e = .returned (.int .i64 0) ∧ Done w' := by
  have hiI : (i : Int) < (N : Int) + 1 := by omega
  have hkI : (k : Int) < fl := by omega
  have hk0 : ¬ (k : Int) < 0 := by omega
  have hkd : decide ((k : Int) < 0) = false := by simp
  go_enter Tryz.func53, Tryz.ntmps53
  go_wp2_with fail
  refine Calls.mono E.out.d0 ?_
  rintro e w1 ⟨rfl, hb⟩
  have B : Hid (Below w.heap.size w w1) := hb
  clear hb
  go_wp2_with fail
  refine Calls.mono (E.out.d1 _ (B.out.alloc B.out.size _)) ?_
  rintro e w2 ⟨rfl, hb⟩
  have B2 : Hid (Below w.heap.size w w2 ∧ w1.heap.size + 1 ≤ w2.heap.size ∧ w2.heap[w1.heap.size]? = some (.cells #[.int .i64 2, .int .i64 (jx : Int)] 78)) := ⟨(B.out.alloc B.out.size _).trans (hb.mono (by simp; have := B.out.size; omega)), by have := hb.size; simpa using this, boxed' hb⟩
  clear hb
  go_wp2_with fail
  refine Calls.mono (E.out.obj _) ?_
  rintro e w3 ⟨rfl, hb⟩
  have B3 : Hid (Below w.heap.size w w3 ∧ w2.heap.size + 1 ≤ w3.heap.size ∧ w3.heap[w2.heap.size]? = some (.cells #[.int .i64 q1, .int .i64 i] 78) ∧ w3.heap[w1.heap.size]? = some (.cells #[.int .i64 2, .int .i64 (jx : Int)] 78)) :=
    ⟨(B2.out.1.alloc B2.out.1.size _).trans (hb.mono (by simp; have := B2.out.1.size; omega)), by have := hb.size; simpa using this, boxed' hb, by
      have h1 := B2.out.2.1
      rw [hb.block _ (by simp; omega), hao (by omega)]; exact B2.out.2.2⟩
  have l1 : w3.cell? ⟨w2.heap.size, 1, none⟩ = some (.int .i64 i) := cell_of_heap B3.out.2.2.1 rfl
  obtain ⟨d0, d1⟩ := E.out.old w3 B3.out.1
  clear hb
  go_wp2_with fail
  go_quiet (fail)
  go_wp2_with fail
  refine Calls.mono (E.out.pop _ (below_drewN B3.out.1 _)) ?_
  rintro e w4 ⟨rfl, hm, hsz, hloc⟩
  have a0 := hloc w1.heap.size _ B.out.size B3.out.2.2.2
  have b0 := hloc w2.heap.size _ B2.out.1.size B3.out.2.2.1
  have hsz' : w3.heap.size ≤ w4.heap.size := hsz
  have LOC : Hid (w4.heap[w1.heap.size]? = some (.cells #[.int .i64 2, .int .i64 (jx : Int)] 78) ∧ w4.heap[w2.heap.size]? = some (.cells #[.int .i64 q1, .int .i64 i] 78)) := ⟨a0, b0⟩
  have v0 : w4.cell? ⟨w1.heap.size, 0, none⟩ = some (.int .i64 2) := cell_of_heap a0 rfl
  have v1 : w4.cell? ⟨w1.heap.size, 1, none⟩ = some (.int .i64 (jx : Int)) := cell_of_heap a0 rfl
  have u1 : w4.cell? ⟨w2.heap.size, 1, none⟩ = some (.int .i64 i) := cell_of_heap b0 rfl
  have s1 := B.out.size
  have s2 := B2.out.2.1
  have s3 := B3.out.2.1
  have M4 : Hid (Mid1 w4) := hm
  obtain ⟨m0, m1, m2, m3, m4, m5, m6⟩ := E.out.midA w4 hm
  have al : ∀ (ob : Obj) (b o : Nat), b < w4.heap.size → (w4.alloc ob).cell? ⟨b, o, none⟩ = w4.cell? ⟨b, o, none⟩ := fun ob b o hlt => World.cell?_of_block (hao hlt)
  have t0 : ∀ ob, (w4.alloc ob).cell? ⟨h, 5, none⟩ = w4.cell? ⟨h, 5, none⟩ := fun ob => al ob h 5 (by omega)
  have t1 : ∀ ob, (w4.alloc ob).cell? ⟨g, i * 4 + 1, none⟩ = w4.cell? ⟨g, i * 4 + 1, none⟩ := fun ob => al ob g _ (by omega)
  have t2 : ∀ ob, (w4.alloc ob).cell? ⟨fg, k * 2, none⟩ = w4.cell? ⟨fg, k * 2, none⟩ := fun ob => al ob fg _ (by omega)
  have t3 : ∀ ob, (w4.alloc ob).cell? ⟨fg, k * 2 + 1, none⟩ = w4.cell? ⟨fg, k * 2 + 1, none⟩ := fun ob => al ob fg _ (by omega)
  have t4 : ∀ ob, (w4.alloc ob).cell? ⟨w2.heap.size, 1, none⟩ = w4.cell? ⟨w2.heap.size, 1, none⟩ := fun ob => al ob w2.heap.size _ (by omega)
  clear hm hsz hloc a0 b0 d0 d1 l1 B B2 B3 al
  go_wp2_with fail
  go_region
  obtain ⟨w5, hw5⟩ : ∃ w5, w5 = (w4.alloc (.cells #[.int .i64 2, .int .i64 (jx : Int)] 78)).drew := ⟨_, rfl⟩
  rw [← hw5]
  have M5 : Hid (Mid1 w5) := by rw [hw5]; exact E.out.mid1B _ _ M4.out ((Below.refl _ _).alloc (Nat.le_refl _) _).drew
  have L5 : Hid (w5.heap[w1.heap.size]? = some (.cells #[.int .i64 2, .int .i64 (jx : Int)] 78) ∧ w5.heap[w2.heap.size]? = some (.cells #[.int .i64 q1, .int .i64 i] 78) ∧ w5.heap[w4.heap.size]? = some (.cells #[.int .i64 2, .int .i64 (jx : Int)] 78)) := by
    rw [hw5]
    refine ⟨?_, ?_, heap_alloc_new w4 _⟩
    · show (w4.alloc _).heap[w1.heap.size]? = _
      rw [hao (by omega)]; exact LOC.out.1
    · show (w4.alloc _).heap[w2.heap.size]? = _
      rw [hao (by omega)]; exact LOC.out.2
  have s5 : w5.heap.size = w4.heap.size + 1 := by rw [hw5]; simp
  clear hw5 t0 t1 t2 t3 t4 m0 m1 m2 m3 m4 m5 m6 v0 v1 u1 LOC M4
  have lv0 : w5.cell? ⟨w1.heap.size, 0, none⟩ = some (.int .i64 2) := cell_of_heap L5.out.1 rfl
  have lv1 : w5.cell? ⟨w1.heap.size, 1, none⟩ = some (.int .i64 (jx : Int)) := cell_of_heap L5.out.1 rfl
  have ly0 : w5.cell? ⟨w4.heap.size, 0, none⟩ = some (.int .i64 2) := cell_of_heap L5.out.2.2 rfl
  have ly1 : w5.cell? ⟨w4.heap.size, 1, none⟩ = some (.int .i64 (jx : Int)) := cell_of_heap L5.out.2.2 rfl
  have DD : Hid (Done w5) := E.out.same _ M5.out rfl rfl rfl
  go_wp2
  go_ret
  exact ⟨rfl, DD.out⟩

set_option maxHeartbeats 1600000 in
theorem stored_nn (h N g capB fg fl fc i k len cap : Nat) (ao : Option Addr) (x1 x2 : Int) (xk : ¬ x1 = 2) (y1 y2 : Int) (yk : ¬ y1 = 2) (q1 over : Int) (cx ex : Nat) (ys : Nat → Bool) (cy : Int → Nat)  (w : World) (Mid1 MidP TailP Done : World → Prop) (E : Hid (StoreEnv h N g capB fg fl fc i k x1 x2 y1 y2 q1 over cx ex ys cy w Mid1 MidP TailP Done))
    (cS : w.cell? ⟨h, 7, none⟩ = some (.slice ao len cap)) (hc : ¬ (len : Int) < 2) (hl : len ≤ 16) (hN : N ≤ 99) (hi : i ≤ N) (hk : k < fl) (hfl : fl ≤ 4) (hh : h < w.heap.size) (hg : g < w.heap.size) (hfg : fg < w.heap.size) (hgf : ¬ g = fg) :
    Calls Tryz.prog 53 #[.pointer (some ⟨h, 0, none⟩), .int .i64 k] w fun e w' => e = .returned (.int .i64 0) ∧ Done w' := by
  have hiI : (i : Int) < (N : Int) + 1 := by omega
  have hkI : (k : Int) < fl := by omega
  have hk0 : ¬ (k : Int) < 0 := by omega
  have hkd : decide ((k : Int) < 0) = false := by simp
  go_enter Tryz.func53, Tryz.ntmps53
  go_wp2_with fail
  refine Calls.mono E.out.d0 ?_
  rintro e w1 ⟨rfl, hb⟩
  have B : Hid (Below w.heap.size w w1) := hb
  clear hb
  go_wp2_with fail
  refine Calls.mono (E.out.d1 _ (B.out.alloc B.out.size _)) ?_
  rintro e w2 ⟨rfl, hb⟩
  have B2 : Hid (Below w.heap.size w w2 ∧ w1.heap.size + 1 ≤ w2.heap.size ∧ w2.heap[w1.heap.size]? = some (.cells #[.int .i64 x1, .int .i64 x2] 78)) := ⟨(B.out.alloc B.out.size _).trans (hb.mono (by simp; have := B.out.size; omega)), by have := hb.size; simpa using this, boxed' hb⟩
  clear hb
  go_wp2_with fail
  refine Calls.mono (E.out.obj _) ?_
  rintro e w3 ⟨rfl, hb⟩
  have B3 : Hid (Below w.heap.size w w3 ∧ w2.heap.size + 1 ≤ w3.heap.size ∧ w3.heap[w2.heap.size]? = some (.cells #[.int .i64 q1, .int .i64 i] 78) ∧ w3.heap[w1.heap.size]? = some (.cells #[.int .i64 x1, .int .i64 x2] 78)) :=
    ⟨(B2.out.1.alloc B2.out.1.size _).trans (hb.mono (by simp; have := B2.out.1.size; omega)), by have := hb.size; simpa using this, boxed' hb, by
      have h1 := B2.out.2.1
      rw [hb.block _ (by simp; omega), hao (by omega)]; exact B2.out.2.2⟩
  have l1 : w3.cell? ⟨w2.heap.size, 1, none⟩ = some (.int .i64 i) := cell_of_heap B3.out.2.2.1 rfl
  obtain ⟨d0, d1⟩ := E.out.old w3 B3.out.1
  clear hb
  go_wp2_with fail
  go_quiet (fail)
  go_wp2_with fail
  refine Calls.mono (E.out.pop _ (below_drewN B3.out.1 _)) ?_
  rintro e w4 ⟨rfl, hm, hsz, hloc⟩
  have a0 := hloc w1.heap.size _ B.out.size B3.out.2.2.2
  have b0 := hloc w2.heap.size _ B2.out.1.size B3.out.2.2.1
  have hsz' : w3.heap.size ≤ w4.heap.size := hsz
  have LOC : Hid (w4.heap[w1.heap.size]? = some (.cells #[.int .i64 x1, .int .i64 x2] 78) ∧ w4.heap[w2.heap.size]? = some (.cells #[.int .i64 q1, .int .i64 i] 78)) := ⟨a0, b0⟩
  have v0 : w4.cell? ⟨w1.heap.size, 0, none⟩ = some (.int .i64 x1) := cell_of_heap a0 rfl
  have v1 : w4.cell? ⟨w1.heap.size, 1, none⟩ = some (.int .i64 x2) := cell_of_heap a0 rfl
  have u1 : w4.cell? ⟨w2.heap.size, 1, none⟩ = some (.int .i64 i) := cell_of_heap b0 rfl
  have s1 := B.out.size
  have s2 := B2.out.2.1
  have s3 := B3.out.2.1
  have M4 : Hid (Mid1 w4) := hm
  obtain ⟨m0, m1, m2, m3, m4, m5, m6⟩ := E.out.midA w4 hm
  have al : ∀ (ob : Obj) (b o : Nat), b < w4.heap.size → (w4.alloc ob).cell? ⟨b, o, none⟩ = w4.cell? ⟨b, o, none⟩ := fun ob b o hlt => World.cell?_of_block (hao hlt)
  have t0 : ∀ ob, (w4.alloc ob).cell? ⟨h, 5, none⟩ = w4.cell? ⟨h, 5, none⟩ := fun ob => al ob h 5 (by omega)
  have t1 : ∀ ob, (w4.alloc ob).cell? ⟨g, i * 4 + 1, none⟩ = w4.cell? ⟨g, i * 4 + 1, none⟩ := fun ob => al ob g _ (by omega)
  have t2 : ∀ ob, (w4.alloc ob).cell? ⟨fg, k * 2, none⟩ = w4.cell? ⟨fg, k * 2, none⟩ := fun ob => al ob fg _ (by omega)
  have t3 : ∀ ob, (w4.alloc ob).cell? ⟨fg, k * 2 + 1, none⟩ = w4.cell? ⟨fg, k * 2 + 1, none⟩ := fun ob => al ob fg _ (by omega)
  have t4 : ∀ ob, (w4.alloc ob).cell? ⟨w2.heap.size, 1, none⟩ = w4.cell? ⟨w2.heap.size, 1, none⟩ := fun ob => al ob w2.heap.size _ (by omega)
  clear hm hsz hloc a0 b0 d0 d1 l1 B B2 B3 al
  go_wp2_with fail
  go_region
  obtain ⟨w5, hw5⟩ : ∃ w5, w5 = (w4.alloc (.cells #[.int .i64 y1, .int .i64 y2] 78)).drew := ⟨_, rfl⟩
  rw [← hw5]
  have M5 : Hid (Mid1 w5) := by rw [hw5]; exact E.out.mid1B _ _ M4.out ((Below.refl _ _).alloc (Nat.le_refl _) _).drew
  have L5 : Hid (w5.heap[w1.heap.size]? = some (.cells #[.int .i64 x1, .int .i64 x2] 78) ∧ w5.heap[w2.heap.size]? = some (.cells #[.int .i64 q1, .int .i64 i] 78) ∧ w5.heap[w4.heap.size]? = some (.cells #[.int .i64 y1, .int .i64 y2] 78)) := by
    rw [hw5]
    refine ⟨?_, ?_, heap_alloc_new w4 _⟩
    · show (w4.alloc _).heap[w1.heap.size]? = _
      rw [hao (by omega)]; exact LOC.out.1
    · show (w4.alloc _).heap[w2.heap.size]? = _
      rw [hao (by omega)]; exact LOC.out.2
  have s5 : w5.heap.size = w4.heap.size + 1 := by rw [hw5]; simp
  clear hw5 t0 t1 t2 t3 t4 m0 m1 m2 m3 m4 m5 m6 v0 v1 u1 LOC M4
  have lv0 : w5.cell? ⟨w1.heap.size, 0, none⟩ = some (.int .i64 x1) := cell_of_heap L5.out.1 rfl
  have lv1 : w5.cell? ⟨w1.heap.size, 1, none⟩ = some (.int .i64 x2) := cell_of_heap L5.out.1 rfl
  have ly0 : w5.cell? ⟨w4.heap.size, 0, none⟩ = some (.int .i64 y1) := cell_of_heap L5.out.2.2 rfl
  have ly1 : w5.cell? ⟨w4.heap.size, 1, none⟩ = some (.int .i64 y2) := cell_of_heap L5.out.2.2 rfl
  have yk2 : (y1 == 2) = false := by simpa using yk
  have xk2 : (x1 == 2) = false := by simpa using xk
  have M : Hid (MidP w5) := E.out.mid1 _ M5.out (fun q => xk q.1)
  have L : Hid _ := L5.out
  clear lv0 lv1 ly0 ly1 M5 L5
  have lv0 : w5.cell? ⟨w1.heap.size, 0, none⟩ = some (.int .i64 x1) := cell_of_heap L.out.1 rfl
  have lv1 : w5.cell? ⟨w1.heap.size, 1, none⟩ = some (.int .i64 x2) := cell_of_heap L.out.1 rfl
  have lu1 : w5.cell? ⟨w2.heap.size, 1, none⟩ = some (.int .i64 i) := cell_of_heap L.out.2.1 rfl
  have ly0 : w5.cell? ⟨w4.heap.size, 0, none⟩ = some (.int .i64 y1) := cell_of_heap L.out.2.2 rfl
  have ly1 : w5.cell? ⟨w4.heap.size, 1, none⟩ = some (.int .i64 y2) := cell_of_heap L.out.2.2 rfl
  obtain ⟨n0, n1, n2, n3, n4, n5, n6⟩ := E.out.mid w5 M.out
  have TP : Hid (TailP ((w5.setCell ⟨fg, k * 2, none⟩ (.int .i64 x1)).setCell ⟨fg, k * 2 + 1, none⟩ (.int .i64 x2))) := E.out.store w5 M.out
  go_wp2_with fail
  go_region
  obtain ⟨w8, hw8⟩ : ∃ w8, w8 = ((w5.setCell ⟨fg, k * 2, none⟩ (.int .i64 x1)).setCell ⟨fg, k * 2 + 1, none⟩ (.int .i64 x2)).drew := ⟨_, rfl⟩
  rw [← hw8]
  have T8 : Hid (TailP w8) := by rw [hw8]; exact E.out.tailB _ _ TP.out ⟨rfl, rfl, rfl, Nat.le_refl _, fun _ _ => rfl⟩
  have h8 : w8.heap[w4.heap.size]? = some (.cells #[.int .i64 y1, .int .i64 y2] 78) := by
    rw [hw8]
    show ((w5.setCell ⟨fg, k * 2, none⟩ (.int .i64 x1)).setCell ⟨fg, k * 2 + 1, none⟩ (.int .i64 x2)).heap[w4.heap.size]? = _
    rw [hso (by omega), hso (by omega)]; exact L.out.2.2
  have z0 : w8.cell? ⟨w4.heap.size, 0, none⟩ = some (.int .i64 y1) := cell_of_heap h8 rfl
  have z1 : w8.cell? ⟨w4.heap.size, 1, none⟩ = some (.int .i64 y2) := cell_of_heap h8 rfl
  obtain ⟨c5, cst⟩ := E.out.tail w8 T8.out
  have ST : Hid (∀ j : Nat, j ≤ N → w8.cell? ⟨g, j * 4 + 2, none⟩ = some (.bool (ys j))) := cst
  clear lv0 lv1 lu1 ly0 ly1 n0 n1 n2 n3 n4 n5 n6 TP hw8 h8 M L cst
  go_wp2_with fail
  go_quiet (fail)
  go_wp2
  go_ret
  exact ⟨rfl, E.out.done _ (E.out.tailB _ _ T8.out ⟨rfl, rfl, rfl, Nat.le_refl _, fun _ _ => rfl⟩) (fun q => xk q.1) fun j h2 _ _ _ => yk h2⟩

set_option maxHeartbeats 1600000 in
theorem stored_nr (h N g capB fg fl fc i k len cap : Nat) (ao : Option Addr) (x1 x2 : Int) (xk : ¬ x1 = 2) (jy : Nat) (hjy : jy ≤ N) (q1 over : Int) (cx ex : Nat) (ys : Nat → Bool) (cy : Int → Nat)  (w : World) (Mid1 MidP TailP Done : World → Prop) (E : Hid (StoreEnv h N g capB fg fl fc i k x1 x2 2 (jy : Int) q1 over cx ex ys cy w Mid1 MidP TailP Done))
    (cS : w.cell? ⟨h, 7, none⟩ = some (.slice ao len cap)) (hc : ¬ (len : Int) < 2) (hl : len ≤ 16) (hN : N ≤ 99) (hi : i ≤ N) (hk : k < fl) (hfl : fl ≤ 4) (hh : h < w.heap.size) (hg : g < w.heap.size) (hfg : fg < w.heap.size) (hgf : ¬ g = fg) :
    Calls Tryz.prog 53 #[.pointer (some ⟨h, 0, none⟩), .int .i64 k] w fun e w' => e = .returned (.int .i64 0) ∧ Done w' := by
  have hiI : (i : Int) < (N : Int) + 1 := by omega
  have hkI : (k : Int) < fl := by omega
  have hk0 : ¬ (k : Int) < 0 := by omega
  have hkd : decide ((k : Int) < 0) = false := by simp
  go_enter Tryz.func53, Tryz.ntmps53
  go_wp2_with fail
  refine Calls.mono E.out.d0 ?_
  rintro e w1 ⟨rfl, hb⟩
  have B : Hid (Below w.heap.size w w1) := hb
  clear hb
  go_wp2_with fail
  refine Calls.mono (E.out.d1 _ (B.out.alloc B.out.size _)) ?_
  rintro e w2 ⟨rfl, hb⟩
  have B2 : Hid (Below w.heap.size w w2 ∧ w1.heap.size + 1 ≤ w2.heap.size ∧ w2.heap[w1.heap.size]? = some (.cells #[.int .i64 x1, .int .i64 x2] 78)) := ⟨(B.out.alloc B.out.size _).trans (hb.mono (by simp; have := B.out.size; omega)), by have := hb.size; simpa using this, boxed' hb⟩
  clear hb
  go_wp2_with fail
  refine Calls.mono (E.out.obj _) ?_
  rintro e w3 ⟨rfl, hb⟩
  have B3 : Hid (Below w.heap.size w w3 ∧ w2.heap.size + 1 ≤ w3.heap.size ∧ w3.heap[w2.heap.size]? = some (.cells #[.int .i64 q1, .int .i64 i] 78) ∧ w3.heap[w1.heap.size]? = some (.cells #[.int .i64 x1, .int .i64 x2] 78)) :=
    ⟨(B2.out.1.alloc B2.out.1.size _).trans (hb.mono (by simp; have := B2.out.1.size; omega)), by have := hb.size; simpa using this, boxed' hb, by
      have h1 := B2.out.2.1
      rw [hb.block _ (by simp; omega), hao (by omega)]; exact B2.out.2.2⟩
  have l1 : w3.cell? ⟨w2.heap.size, 1, none⟩ = some (.int .i64 i) := cell_of_heap B3.out.2.2.1 rfl
  obtain ⟨d0, d1⟩ := E.out.old w3 B3.out.1
  clear hb
  go_wp2_with fail
  go_quiet (fail)
  go_wp2_with fail
  refine Calls.mono (E.out.pop _ (below_drewN B3.out.1 _)) ?_
  rintro e w4 ⟨rfl, hm, hsz, hloc⟩
  have a0 := hloc w1.heap.size _ B.out.size B3.out.2.2.2
  have b0 := hloc w2.heap.size _ B2.out.1.size B3.out.2.2.1
  have hsz' : w3.heap.size ≤ w4.heap.size := hsz
  have LOC : Hid (w4.heap[w1.heap.size]? = some (.cells #[.int .i64 x1, .int .i64 x2] 78) ∧ w4.heap[w2.heap.size]? = some (.cells #[.int .i64 q1, .int .i64 i] 78)) := ⟨a0, b0⟩
  have v0 : w4.cell? ⟨w1.heap.size, 0, none⟩ = some (.int .i64 x1) := cell_of_heap a0 rfl
  have v1 : w4.cell? ⟨w1.heap.size, 1, none⟩ = some (.int .i64 x2) := cell_of_heap a0 rfl
  have u1 : w4.cell? ⟨w2.heap.size, 1, none⟩ = some (.int .i64 i) := cell_of_heap b0 rfl
  have s1 := B.out.size
  have s2 := B2.out.2.1
  have s3 := B3.out.2.1
  have M4 : Hid (Mid1 w4) := hm
  obtain ⟨m0, m1, m2, m3, m4, m5, m6⟩ := E.out.midA w4 hm
  have al : ∀ (ob : Obj) (b o : Nat), b < w4.heap.size → (w4.alloc ob).cell? ⟨b, o, none⟩ = w4.cell? ⟨b, o, none⟩ := fun ob b o hlt => World.cell?_of_block (hao hlt)
  have t0 : ∀ ob, (w4.alloc ob).cell? ⟨h, 5, none⟩ = w4.cell? ⟨h, 5, none⟩ := fun ob => al ob h 5 (by omega)
  have t1 : ∀ ob, (w4.alloc ob).cell? ⟨g, i * 4 + 1, none⟩ = w4.cell? ⟨g, i * 4 + 1, none⟩ := fun ob => al ob g _ (by omega)
  have t2 : ∀ ob, (w4.alloc ob).cell? ⟨fg, k * 2, none⟩ = w4.cell? ⟨fg, k * 2, none⟩ := fun ob => al ob fg _ (by omega)
  have t3 : ∀ ob, (w4.alloc ob).cell? ⟨fg, k * 2 + 1, none⟩ = w4.cell? ⟨fg, k * 2 + 1, none⟩ := fun ob => al ob fg _ (by omega)
  have t4 : ∀ ob, (w4.alloc ob).cell? ⟨w2.heap.size, 1, none⟩ = w4.cell? ⟨w2.heap.size, 1, none⟩ := fun ob => al ob w2.heap.size _ (by omega)
  clear hm hsz hloc a0 b0 d0 d1 l1 B B2 B3 al
  go_wp2_with fail
  go_region
  obtain ⟨w5, hw5⟩ : ∃ w5, w5 = (w4.alloc (.cells #[.int .i64 2, .int .i64 (jy : Int)] 78)).drew := ⟨_, rfl⟩
  rw [← hw5]
  have M5 : Hid (Mid1 w5) := by rw [hw5]; exact E.out.mid1B _ _ M4.out ((Below.refl _ _).alloc (Nat.le_refl _) _).drew
  have L5 : Hid (w5.heap[w1.heap.size]? = some (.cells #[.int .i64 x1, .int .i64 x2] 78) ∧ w5.heap[w2.heap.size]? = some (.cells #[.int .i64 q1, .int .i64 i] 78) ∧ w5.heap[w4.heap.size]? = some (.cells #[.int .i64 2, .int .i64 (jy : Int)] 78)) := by
    rw [hw5]
    refine ⟨?_, ?_, heap_alloc_new w4 _⟩
    · show (w4.alloc _).heap[w1.heap.size]? = _
      rw [hao (by omega)]; exact LOC.out.1
    · show (w4.alloc _).heap[w2.heap.size]? = _
      rw [hao (by omega)]; exact LOC.out.2
  have s5 : w5.heap.size = w4.heap.size + 1 := by rw [hw5]; simp
  clear hw5 t0 t1 t2 t3 t4 m0 m1 m2 m3 m4 m5 m6 v0 v1 u1 LOC M4
  have lv0 : w5.cell? ⟨w1.heap.size, 0, none⟩ = some (.int .i64 x1) := cell_of_heap L5.out.1 rfl
  have lv1 : w5.cell? ⟨w1.heap.size, 1, none⟩ = some (.int .i64 x2) := cell_of_heap L5.out.1 rfl
  have ly0 : w5.cell? ⟨w4.heap.size, 0, none⟩ = some (.int .i64 2) := cell_of_heap L5.out.2.2 rfl
  have ly1 : w5.cell? ⟨w4.heap.size, 1, none⟩ = some (.int .i64 (jy : Int)) := cell_of_heap L5.out.2.2 rfl
  have xk2 : (x1 == 2) = false := by simpa using xk
  have M : Hid (MidP w5) := E.out.mid1 _ M5.out (fun q => xk q.1)
  have L : Hid _ := L5.out
  clear lv0 lv1 ly0 ly1 M5 L5
  have lv0 : w5.cell? ⟨w1.heap.size, 0, none⟩ = some (.int .i64 x1) := cell_of_heap L.out.1 rfl
  have lv1 : w5.cell? ⟨w1.heap.size, 1, none⟩ = some (.int .i64 x2) := cell_of_heap L.out.1 rfl
  have lu1 : w5.cell? ⟨w2.heap.size, 1, none⟩ = some (.int .i64 i) := cell_of_heap L.out.2.1 rfl
  have ly0 : w5.cell? ⟨w4.heap.size, 0, none⟩ = some (.int .i64 2) := cell_of_heap L.out.2.2 rfl
  have ly1 : w5.cell? ⟨w4.heap.size, 1, none⟩ = some (.int .i64 (jy : Int)) := cell_of_heap L.out.2.2 rfl
  obtain ⟨n0, n1, n2, n3, n4, n5, n6⟩ := E.out.mid w5 M.out
  have TP : Hid (TailP ((w5.setCell ⟨fg, k * 2, none⟩ (.int .i64 x1)).setCell ⟨fg, k * 2 + 1, none⟩ (.int .i64 x2))) := E.out.store w5 M.out
  go_wp2_with fail
  go_region
  obtain ⟨w8, hw8⟩ : ∃ w8, w8 = ((w5.setCell ⟨fg, k * 2, none⟩ (.int .i64 x1)).setCell ⟨fg, k * 2 + 1, none⟩ (.int .i64 x2)).drew := ⟨_, rfl⟩
  rw [← hw8]
  have T8 : Hid (TailP w8) := by rw [hw8]; exact E.out.tailB _ _ TP.out ⟨rfl, rfl, rfl, Nat.le_refl _, fun _ _ => rfl⟩
  have h8 : w8.heap[w4.heap.size]? = some (.cells #[.int .i64 2, .int .i64 (jy : Int)] 78) := by
    rw [hw8]
    show ((w5.setCell ⟨fg, k * 2, none⟩ (.int .i64 x1)).setCell ⟨fg, k * 2 + 1, none⟩ (.int .i64 x2)).heap[w4.heap.size]? = _
    rw [hso (by omega), hso (by omega)]; exact L.out.2.2
  have z0 : w8.cell? ⟨w4.heap.size, 0, none⟩ = some (.int .i64 2) := cell_of_heap h8 rfl
  have z1 : w8.cell? ⟨w4.heap.size, 1, none⟩ = some (.int .i64 (jy : Int)) := cell_of_heap h8 rfl
  obtain ⟨c5, cst⟩ := E.out.tail w8 T8.out
  have ST : Hid (∀ j : Nat, j ≤ N → w8.cell? ⟨g, j * 4 + 2, none⟩ = some (.bool (ys j))) := cst
  clear lv0 lv1 lu1 ly0 ly1 n0 n1 n2 n3 n4 n5 n6 TP hw8 h8 M L cst
  have hu := ST.out jy hjy
  obtain ⟨u, hys⟩ : ∃ u, ys jy = u := ⟨_, rfl⟩
  rw [hys] at hu
  have HY : Hid (ys jy = u) := hys
  clear hys ST
  have hjI : (jy : Int) < (N : Int) + 1 := by omega
  cases u with
  | true =>
    go_wp2_with fail
    go_quiet (fail)
    go_wp2
    go_ret
    exact ⟨rfl, E.out.done _ (E.out.tailB _ _ T8.out ⟨rfl, rfl, rfl, Nat.le_refl _, fun _ _ => rfl⟩) (fun q => xk q.1) fun j _ hj hf _ => by
      have : j = jy := by omega
      rw [this, HY.out] at hf; cases hf⟩
  | false =>
    go_wp2_with fail
    go_quiet (fail)
    have T9 : Hid (TailP (w8.drewN nq)) := E.out.tailB _ _ T8.out ⟨rfl, rfl, rfl, Nat.le_refl _, fun _ _ => rfl⟩
    go_wp2_with fail
    have hcnt := E.out.tcount _ (jy : Int) T9.out
    obtain ⟨c, hcy⟩ : ∃ c, cy (jy : Int) = c := ⟨_, rfl⟩
    rw [hcy] at hcnt
    have HC : Hid (cy (jy : Int) = c) := hcy
    clear hcy
    refine Calls.mono hcnt ?_
    rintro e w9 ⟨rfl, hw9⟩
    have T10 : Hid (TailP w9) := by rw [hw9]; exact T9.out
    have z2 : w9.cell? ⟨w4.heap.size, 1, none⟩ = some (.int .i64 jy) := by rw [hw9]; exact z1
    clear hw9 hcnt T9
    by_cases c0 : c = 0
    · subst c0
      go_wp2_with fail
      refine Calls.mono (E.out.enter _ jy T10.out (fun q => xk q.1) rfl rfl HY.out HC.out) ?_
      rintro e w11 ⟨rfl, hd⟩
      have DD : Hid (Done w11) := hd
      clear hd
      go_wp2
      go_ret
      exact ⟨rfl, DD.out⟩
    · have c1 : ((c : Int) == 0) = false := by simp; omega
      have c2 : ¬ (c : Int) = 0 := by omega
      go_wp2
      go_ret
      exact ⟨rfl, E.out.done _ T10.out (fun q => xk q.1) fun j _ hj _ h0 => by
        have : j = jy := by omega
        rw [this, HC.out] at h0; omega⟩

end Go.Proofs.YteekoiljkklnmaaGreatDoor

