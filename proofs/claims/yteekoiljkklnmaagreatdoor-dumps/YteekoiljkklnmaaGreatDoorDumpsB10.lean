import Derived.Test.YteekoiljkklnmaaGreatDoorDumpsB9
import Derived.Deep.RegionHeld3
/- OUR OWN. The program's heap: how many wait, have an extra, are in a state; isRoot. -/
namespace Go.Proofs.YteekoiljkklnmaaGreatDoor
open Go.RowKit
set_option linter.unusedVariables false
set_option linter.unusedSimpArgs false

set_option maxHeartbeats 800000 in
theorem waiting_any {but : Int} {h : Nat} {w : World} {m : HeapM} {s : St} {c : Cf} {N : Nat} (p : HB but h w m s c N) :
    Calls Tryz.prog 57 #[.pointer (some ⟨h, 0, none⟩)] w fun e w' => e = .returned (.int .i64 (countTo (s.others but) N)) ∧ Below w.heap.size w w' := by
  obtain ⟨g, cap, cB, hg, hobj⟩ := p.cells
  have hh := lt_of_heap p.r.head
  have hN := p.small
  have C : Hid (∀ wr, Below w.heap.size w wr → wr.cell? ⟨h, 5, none⟩ = some (.slice (some ⟨g, 0, none⟩) (N + 1) cap) ∧ ∀ i, i ≤ N → ∃ st ct ao fl fc, (decide (st = 1) && decide (ct = 0)) = s.others but i ∧ wr.cell? ⟨g, i * 3, none⟩ = some (.int .i64 st) ∧ wr.cell? ⟨g, i * 3 + 1, none⟩ = some (.int .i64 ct) ∧ wr.cell? ⟨g, i * 3 + 2, none⟩ = some (.slice ao fl fc)) := fun wr hb => by
    refine ⟨(hb.cell (p := ⟨h, 5, none⟩) hh).trans cB, fun i hi => ?_⟩
    obtain ⟨o, ao, fl, fc, ho, _, _, c0, c1, c2⟩ := hobj i hi
    exact ⟨o.state, o.count, ao, fl, fc, p.hs.waits ho, (hb.cell (p := ⟨g, _, none⟩) hg).trans c0, (hb.cell (p := ⟨g, _, none⟩) hg).trans c1, (hb.cell (p := ⟨g, _, none⟩) hg).trans c2⟩
  have WF : Hid (∀ st ct v w, Calls Tryz.prog 84 #[.agg #[.int .i64 st, .int .i64 ct, v]] w fun e w' => e = .returned (.bool (decide (st = 1) && decide (ct = 0))) ∧ Below w.heap.size w w') := waits_fn
  clear p hobj cB
  go_enter Tryz.func57, Tryz.ntmps57
  go_wp2
  go_loopw [3, 4] (fun n i wr => ∃ j : Nat, j ≤ N ∧ i = .int .i64 (j + 1) ∧ n = .int .i64 (countTo (s.others but) j) ∧ Below w.heap.size w wr) (fun _ i _ => N + 1 - (intOf i).toNat)
  case atStart => exact ⟨0, Nat.zero_le _, rfl, rfl, Below.refl _ _⟩
  case round =>
    obtain ⟨j, hj, rfl, rfl, hb⟩ := hrel
    obtain ⟨cB, hobj⟩ := C.out wr hb
    have hle := countTo_le (s.others but) j
    have HB : Hid (Below w.heap.size w wr) := hb
    have hsz := hb.size
    clear hb
    obtain ⟨k, hk⟩ : ∃ k, k = countTo (s.others but) j := ⟨_, rfl⟩
    rw [← hk] at hle ⊢
    by_cases hlt : j < N
    · obtain ⟨st, ct, ao, fl, fc, ho, c0, c1, c2⟩ := hobj (j + 1) (by omega)
      have S : Hid (countTo (s.others but) (j + 1) = k + if (decide (st = 1) && decide (ct = 0)) then 1 else 0) := by rw [hk, ho]; exact countTo_succ _ _
      clear hk hobj ho
      have X := WF.out st ct
      have X1 : Hid _ := X
      clear X
      go_wp2_with fail
      refine Calls.mono (X1.out _ _) ?_
      rintro e w1 ⟨rfl, hb1⟩
      have HB1 : Hid (Below w.heap.size w w1) := HB.out.trans (hb1.mono hsz)
      clear hb1 X1 c0 c1 c2 cB
      cases hx : (decide (st = 1) && decide (ct = 0)) with
      | true =>
        rw [hx] at S
        clear hx
        go_wp2
        go_roundw
        case rel => exact ⟨j + 1, by omega, by go_num, by rw [S.out]; go_num, HB1.out⟩
        case measure => simp [intOf]; omega
      | false =>
        rw [hx] at S
        clear hx
        go_wp2
        go_roundw
        case rel => exact ⟨j + 1, by omega, by go_num, by rw [S.out]; go_num, HB1.out⟩
        case measure => simp [intOf]; omega
    · obtain rfl : j = N := by omega
      have HC : Hid (k = countTo (s.others but) j) := hk
      clear hk hobj
      go_wp2
      go_ret
      exact ⟨ret_int (by rw [HC.out]), HB.out⟩

set_option maxHeartbeats 800000 in
theorem hextras_any {h : Nat} {w : World} {m : HeapM} {s : St} {c : Cf} {N : Nat} (p : HB 0 h w m s c N) :
    Calls Tryz.prog 58 #[.pointer (some ⟨h, 0, none⟩)] w fun e w' => e = .returned (.int .i64 (countTo s.extra N)) ∧ Below w.heap.size w w' := by
  obtain ⟨g, cap, cB, hg, hobj⟩ := p.cells
  have hh := lt_of_heap p.r.head
  have hN := p.small
  have C : Hid (∀ wr, Below w.heap.size w wr → wr.cell? ⟨h, 5, none⟩ = some (.slice (some ⟨g, 0, none⟩) (N + 1) cap) ∧ ∀ i, i ≤ N → ∃ st ct ao fl fc, (decide (st = 1) && decide (7 < ct)) = s.extra i ∧ wr.cell? ⟨g, i * 3, none⟩ = some (.int .i64 st) ∧ wr.cell? ⟨g, i * 3 + 1, none⟩ = some (.int .i64 ct) ∧ wr.cell? ⟨g, i * 3 + 2, none⟩ = some (.slice ao fl fc)) := fun wr hb => by
    refine ⟨(hb.cell (p := ⟨h, 5, none⟩) hh).trans cB, fun i hi => ?_⟩
    obtain ⟨o, ao, fl, fc, ho, _, _, c0, c1, c2⟩ := hobj i hi
    exact ⟨o.state, o.count, ao, fl, fc, p.hs.extra p.good ho, (hb.cell (p := ⟨g, _, none⟩) hg).trans c0, (hb.cell (p := ⟨g, _, none⟩) hg).trans c1, (hb.cell (p := ⟨g, _, none⟩) hg).trans c2⟩
  have WF : Hid (∀ st ct v w, Calls Tryz.prog 85 #[.agg #[.int .i64 st, .int .i64 ct, v]] w fun e w' => e = .returned (.bool (decide (st = 1) && decide (7 < ct))) ∧ Below w.heap.size w w') := hasExtra_fn
  clear p hobj cB
  go_enter Tryz.func58, Tryz.ntmps58
  go_wp2
  go_loopw [3, 4] (fun n i wr => ∃ j : Nat, j ≤ N ∧ i = .int .i64 (j + 1) ∧ n = .int .i64 (countTo s.extra j) ∧ Below w.heap.size w wr) (fun _ i _ => N + 1 - (intOf i).toNat)
  case atStart => exact ⟨0, Nat.zero_le _, rfl, rfl, Below.refl _ _⟩
  case round =>
    obtain ⟨j, hj, rfl, rfl, hb⟩ := hrel
    obtain ⟨cB, hobj⟩ := C.out wr hb
    have hle := countTo_le s.extra j
    have HB : Hid (Below w.heap.size w wr) := hb
    have hsz := hb.size
    clear hb
    obtain ⟨k, hk⟩ : ∃ k, k = countTo s.extra j := ⟨_, rfl⟩
    rw [← hk] at hle ⊢
    by_cases hlt : j < N
    · obtain ⟨st, ct, ao, fl, fc, ho, c0, c1, c2⟩ := hobj (j + 1) (by omega)
      have S : Hid (countTo s.extra (j + 1) = k + if (decide (st = 1) && decide (7 < ct)) then 1 else 0) := by rw [hk, ho]; exact countTo_succ _ _
      clear hk hobj ho
      have X := WF.out st ct
      have X1 : Hid _ := X
      clear X
      go_wp2_with fail
      refine Calls.mono (X1.out _ _) ?_
      rintro e w1 ⟨rfl, hb1⟩
      have HB1 : Hid (Below w.heap.size w w1) := HB.out.trans (hb1.mono hsz)
      clear hb1 X1 c0 c1 c2 cB
      cases hx : (decide (st = 1) && decide (7 < ct)) with
      | true =>
        rw [hx] at S
        clear hx
        go_wp2
        go_roundw
        case rel => exact ⟨j + 1, by omega, by go_num, by rw [S.out]; go_num, HB1.out⟩
        case measure => simp [intOf]; omega
      | false =>
        rw [hx] at S
        clear hx
        go_wp2
        go_roundw
        case rel => exact ⟨j + 1, by omega, by go_num, by rw [S.out]; go_num, HB1.out⟩
        case measure => simp [intOf]; omega
    · obtain rfl : j = N := by omega
      have HC : Hid (k = countTo s.extra j) := hk
      clear hk hobj
      go_wp2
      go_ret
      exact ⟨ret_int (by rw [HC.out]), HB.out⟩

/-- of the blocks: in that state -/
def HeapM.inB (m : HeapM) (st : Int) (i : Nat) : Bool := match m.blks[i]? with
  | some o => decide (o.state = st)
  | none => false

set_option maxHeartbeats 800000 in
theorem inState_any {but : Int} {h : Nat} {w : World} {m : HeapM} {s : St} {c : Cf} {N : Nat} (p : HB but h w m s c N) (x : Int) :
    Calls Tryz.prog 56 #[.pointer (some ⟨h, 0, none⟩), .int .i64 x] w fun e w' => e = .returned (.int .i64 (countTo (m.inB x) N)) ∧ w' = w := by
  obtain ⟨g, cap, cB, hg, hobj⟩ := p.cells
  have hN := p.small
  have C : Hid (∀ i, i ≤ N → ∃ st, decide (st = x) = m.inB x i ∧ w.cell? ⟨g, i * 3, none⟩ = some (.int .i64 st)) := fun i hi => by
    obtain ⟨o, ao, fl, fc, ho, _, _, c0, c1, c2⟩ := hobj i hi
    exact ⟨o.state, by unfold HeapM.inB; rw [ho], c0⟩
  clear p hobj
  go_enter Tryz.func56, Tryz.ntmps56
  go_wp2
  go_loop [5, 6] (fun n i => ∃ j : Nat, j ≤ N ∧ i = .int .i64 (j + 1) ∧ n = .int .i64 (countTo (m.inB x) j)) (fun _ i => N + 1 - (intOf i).toNat)
  case atStart => exact ⟨0, Nat.zero_le _, rfl, rfl⟩
  case round =>
    obtain ⟨j, hj, rfl, rfl⟩ := hrel
    have hle := countTo_le (m.inB x) j
    obtain ⟨k, hk⟩ : ∃ k, k = countTo (m.inB x) j := ⟨_, rfl⟩
    rw [← hk] at hle ⊢
    by_cases hlt : j < N
    · obtain ⟨st, ho, c0⟩ := C.out (j + 1) (by omega)
      have S : Hid (countTo (m.inB x) (j + 1) = k + if decide (st = x) then 1 else 0) := by rw [hk, ho]; exact countTo_succ _ _
      clear hk ho
      by_cases hx : st = x
      · subst hx
        have S2 : Hid (countTo (m.inB st) (j + 1) = k + 1) := by have := S.out; simp at this; exact this
        clear S
        go_wp2
        go_round
        case rel => exact ⟨j + 1, by omega, by go_num, by rw [S2.out]; go_num⟩
        case measure => simp [intOf]; omega
      · have S2 : Hid (countTo (m.inB x) (j + 1) = k) := by have := S.out; simp [hx] at this; exact this
        have hx2 : (st == x) = false := by simpa using hx
        clear S
        go_wp2
        go_round
        case rel => exact ⟨j + 1, by omega, by go_num, by rw [S2.out]⟩
        case measure => simp [intOf]; omega
    · obtain rfl : j = N := by omega
      have HC : Hid (k = countTo (m.inB x) j) := hk
      clear hk
      go_wp2
      go_ret
      exact ⟨ret_int (by rw [HC.out]), rfl⟩

set_option maxHeartbeats 800000 in
theorem hasValue_any (v : Value) (l : List (Int × Int)) (x : Int × Int) (w : World) (ho : w.ownsRow 0 81 2 v l.length (l.flatMap valCells)) (hn : l.length ≤ 1000) :
    Calls Tryz.prog 97 #[v, .agg #[.int .i64 x.1, .int .i64 x.2]] w fun e w' => e = .returned (.bool (decide (x ∈ l))) ∧ Below w.heap.size w w' := by
  obtain ⟨ao, cap, hv⟩ := own_slice ho
  have C : Hid (∀ k (hk : k < l.length), ∃ g, ao = some ⟨g, 0, none⟩ ∧ ∀ wr, Below w.heap.size w wr → wr.cell? ⟨g, k * 2, none⟩ = some (.int .i64 (l[k]).1) ∧ wr.cell? ⟨g, k * 2 + 1, none⟩ = some (.int .i64 (l[k]).2)) := fun k hk => by
    obtain ⟨g, cap', hv', hg, _, _, hcell, _⟩ := own_view ho (by omega)
    rw [hv] at hv'
    simp at hv'
    refine ⟨g, hv'.1, fun wr hb => ⟨(hb.cell (p := ⟨g, _, none⟩) hg).trans (hcell _ _ ?_), (hb.cell (p := ⟨g, _, none⟩) hg).trans (hcell _ _ ?_)⟩⟩
    · have := flat_get valCells 2 (fun _ => rfl) l k 0 (by decide); simpa [hk, valCells] using this
    · have := flat_get valCells 2 (fun _ => rfl) l k 1 (by decide); simpa [hk, valCells] using this
  have SV : Hid (∀ (a b : Int × Int) W, Calls Tryz.prog 77 #[.agg #[.int .i64 a.1, .int .i64 a.2], .agg #[.int .i64 b.1, .int .i64 b.2]] W fun e w' => e = .returned (.bool (decide (a = b))) ∧ Below W.heap.size W w') := sameValue_any
  subst hv
  obtain ⟨len, hlen⟩ : ∃ len, l.length = len := ⟨_, rfl⟩
  rw [hlen] at hn ⊢
  have L : Hid (l.length = len) := hlen
  obtain ⟨x1, x2⟩ := x
  clear hlen ho
  simp only
  go_enter Tryz.func97, Tryz.ntmps97
  go_wp2
  go_loopw [5] (fun i wr => ∃ k : Nat, k ≤ len ∧ i = .int .i64 k ∧ (∀ y ∈ l.take k, y ≠ (x1, x2)) ∧ Below w.heap.size w wr ∧ wr.heap[w.heap.size]? = some (.cells #[.int .i64 x1, .int .i64 x2] 81)) (fun i _ => len - (intOf i).toNat)
  case atStart => exact ⟨0, Nat.zero_le _, rfl, fun y hy => by simp at hy, (Below.refl _ _).alloc (Nat.le_refl _) _, heap_alloc_new w _⟩
  case round =>
    obtain ⟨k, hk, rfl, hno, hb, hbox⟩ := hrel
    have NO : Hid (∀ y ∈ l.take k, y ≠ (x1, x2)) := hno
    have B : Hid (Below w.heap.size w wr ∧ wr.heap[w.heap.size]? = some (.cells #[.int .i64 x1, .int .i64 x2] 81)) := ⟨hb, hbox⟩
    have b0 : wr.cell? ⟨w.heap.size, 0, none⟩ = some (.int .i64 x1) := cell_of_heap hbox rfl
    have b1 : wr.cell? ⟨w.heap.size, 1, none⟩ = some (.int .i64 x2) := cell_of_heap hbox rfl
    have hsz := hb.size
    have hsz1 := lt_of_heap hbox
    clear hno hbox
    by_cases hlt : k < len
    · have hk' : k < l.length := by rw [L.out]; exact hlt
      obtain ⟨g, rfl, hc⟩ := C.out k hk'
      obtain ⟨c0, c1⟩ := hc wr hb
      obtain ⟨y, hy⟩ : ∃ y, y = l[k] := ⟨_, rfl⟩
      rw [← hy] at c0 c1
      have Y : Hid (l.take (k + 1) = l.take k ++ [y]) := by show l.take (k + 1) = _; rw [hy]; exact take_snoc l k hk'
      have YM : Hid (y ∈ l) := by show y ∈ l; rw [hy]; exact List.getElem_mem hk'
      obtain ⟨y1, y2⟩ := y
      simp only at c0 c1
      have S1 : Hid (∀ W, Calls Tryz.prog 77 #[.agg #[.int .i64 y1, .int .i64 y2], .agg #[.int .i64 x1, .int .i64 x2]] W fun e w' => e = .returned (.bool (decide ((y1, y2) = (x1, x2)))) ∧ Below W.heap.size W w') := SV.out (y1, y2) (x1, x2)
      clear hc hb hy
      have YN : Hid (¬ ((y1, y2) : Int × Int) = (x1, x2) → ∀ y ∈ l.take (k + 1), y ≠ (x1, x2)) := fun hx y hy => by
        rw [Y.out] at hy
        rcases List.mem_append.1 hy with e | e
        · exact NO.out y e
        · rw [List.mem_singleton.1 e]; exact hx
      have YY : Hid (((y1, y2) : Int × Int) = (x1, x2) → decide ((x1, x2) ∈ l) = true) := fun hx => by have := YM.out; rw [hx] at this; simpa using this
      have BB : Hid (∀ w1, Below wr.heap.size wr w1 → Below w.heap.size w w1 ∧ w1.heap[w.heap.size]? = some (.cells #[.int .i64 x1, .int .i64 x2] 81)) := fun w1 hb1 => ⟨B.out.1.trans (hb1.mono hsz), by rw [hb1.block _ hsz1]; exact B.out.2⟩
      obtain ⟨sv, hsv⟩ : ∃ sv, decide (((y1, y2) : Int × Int) = (x1, x2)) = sv := ⟨_, rfl⟩
      rw [hsv] at S1
      cases sv with
      | true =>
        have FF : Hid (decide ((x1, x2) ∈ l) = true) := YY.out (by simpa using hsv)
        clear hsv YY YN NO Y YM
        go_wp2_with fail
        go_region_with (go_at_call 77; refine Calls.mono (S1.out _) ?_; rintro e w1 ⟨rfl, hb1⟩; have B1 : Hid _ := BB.out w1 ((Below.refl _ _).drew.trans hb1); clear hb1)
        all_goals go_wp2
        all_goals go_ret
        all_goals exact ⟨ret_bool FF.out.symm, B1.out.1⟩
      | false =>
        have FF : Hid _ := YN.out (by simpa using hsv)
        clear hsv YY YN NO Y YM
        go_wp2_with fail
        go_region_with (go_at_call 77; refine Calls.mono (S1.out _) ?_; rintro e w1 ⟨rfl, hb1⟩; have B1 : Hid _ := BB.out w1 ((Below.refl _ _).drew.trans hb1); clear hb1)
        all_goals go_wp2
        all_goals go_roundw
        all_goals first
          | exact ⟨k + 1, by omega, by go_num, FF.out, B1.out.1, B1.out.2⟩
          | (simp [intOf]; omega)
    · obtain rfl : k = len := by omega
      have FF : Hid (decide ((x1, x2) ∈ l) = false) := by
        have := NO.out
        rw [List.take_of_length_le (by rw [L.out]; exact Nat.le_refl _)] at this
        simp
        intro e; exact this _ e rfl
      clear hb
      go_wp2
      go_ret
      exact ⟨ret_bool FF.out.symm, B.out.1⟩

end Go.Proofs.YteekoiljkklnmaaGreatDoor

/- OUR OWN. The program's heap: isRoot. -/
namespace Go.Proofs.YteekoiljkklnmaaGreatDoor
open Go.RowKit
set_option linter.unusedVariables false
set_option linter.unusedSimpArgs false

theorem mem_refs {l : List (Int × Int)} {b : Int} : (decide (((2, b) : Int × Int) ∈ l)) = decide (0 < refsN l b) := by
  have : ((2, b) : Int × Int) ∈ l ↔ 0 < refsN l b := by
    constructor
    · intro h; exact refs_pos h rfl rfl
    · intro h
      obtain ⟨⟨v1, v2⟩, hv, h1, h2⟩ := refs_some h
      simp only at h1 h2
      subst h1 h2; exact hv
  simp [this]

set_option maxRecDepth 20000 in
set_option maxHeartbeats 4000000 in
theorem isRoot_any {but : Int} {h : Nat} {w : World} {m : HeapM} {s : St} {c : Cf} {N : Nat} (p : HB but h w m s c N) (b : Int) :
    Calls Tryz.prog 94 #[.pointer (some ⟨h, 0, none⟩), .int .i64 b] w fun e w' => e = .returned (.bool (s.rooted b)) ∧ Below w.heap.size w w' := by
  have hh := lt_of_heap p.r.head
  have RR : Hid (s.rooted b = (decide (((2, b) : Int × Int) ∈ m.stack) || decide (((2, b) : Int × Int) ∈ m.globals))) := by
    show s.rooted b = _
    rw [mem_refs, mem_refs, p.mstack, p.mglobals]
    unfold St.rooted
    by_cases h1 : 0 < refsN s.stack b <;> by_cases h2 : 0 < refsN s.globals b <;> simp [h1, h2] <;> omega
  have cS := p.r.cell.2.1
  have cG := p.r.cell.2.2.1
  have K : Hid (∀ W, Below w.heap.size w W → W.cell? ⟨h, 3, none⟩ = some m.vS ∧ W.cell? ⟨h, 4, none⟩ = some m.vG ∧
      (Calls Tryz.prog 97 #[m.vS, .agg #[.int .i64 2, .int .i64 b]] W fun e w' => e = .returned (.bool (decide (((2, b) : Int × Int) ∈ m.stack))) ∧ Below W.heap.size W w') ∧
      (Calls Tryz.prog 97 #[m.vG, .agg #[.int .i64 2, .int .i64 b]] W fun e w' => e = .returned (.bool (decide (((2, b) : Int × Int) ∈ m.globals))) ∧ Below W.heap.size W w')) := fun W hb => by
    have pW := p.below hb
    exact ⟨(hb.cell (p := ⟨h, 3, none⟩) hh).trans cS, (hb.cell (p := ⟨h, 4, none⟩) hh).trans cG, hasValue_any m.vS m.stack (2, b) W pW.r.stack (by rw [p.mstack]; have := p.stack; omega), hasValue_any m.vG m.globals (2, b) W pW.r.globals (by rw [p.mglobals]; have := p.globals; omega)⟩
  obtain ⟨ra, hra⟩ : ∃ x, decide (((2, b) : Int × Int) ∈ m.stack) = x := ⟨_, rfl⟩
  obtain ⟨rb, hrb⟩ : ∃ x, decide (((2, b) : Int × Int) ∈ m.globals) = x := ⟨_, rfl⟩
  rw [hra, hrb] at RR K
  obtain ⟨s0, c0, hvS⟩ := own_slice p.r.stack
  obtain ⟨g0, d0, hvG⟩ := own_slice p.r.globals
  rw [hvS, hvG] at K
  obtain ⟨l1, hl1⟩ : ∃ x, m.stack.length = x := ⟨_, rfl⟩
  obtain ⟨l2, hl2⟩ : ∃ x, m.globals.length = x := ⟨_, rfl⟩
  rw [hl1, hl2] at K
  clear p cS cG hra hrb hvS hvG hl1 hl2
  have K2 : Hid (∀ W w1, Below w.heap.size w W → W.heap[w.heap.size]? = some (.cells #[.int .i64 2, .int .i64 b] 81) → Below W.heap.size W w1 → Below w.heap.size w w1 ∧ w1.cell? ⟨w.heap.size, 0, none⟩ = some (.int .i64 2) ∧ w1.cell? ⟨w.heap.size, 1, none⟩ = some (.int .i64 b) ∧ w1.cell? ⟨h, 3, none⟩ = some (.slice s0 l1 c0) ∧ w1.cell? ⟨h, 4, none⟩ = some (.slice g0 l2 d0)) := fun W w1 hb hx hb1 => by
    have hbb : Below w.heap.size w w1 := hb.trans (hb1.mono hb.size)
    have hx1 : w1.heap[w.heap.size]? = some (.cells #[.int .i64 2, .int .i64 b] 81) := by rw [hb1.block _ (lt_of_heap hx)]; exact hx
    exact ⟨hbb, cell_of_heap hx1 rfl, cell_of_heap hx1 rfl, (K.out w1 hbb).1, (K.out w1 hbb).2.1⟩
  have K3 : Hid (∀ W w1, Below w.heap.size w W → W.cell? ⟨w.heap.size, 0, none⟩ = some (.int .i64 2) → W.cell? ⟨w.heap.size, 1, none⟩ = some (.int .i64 b) → Below W.heap.size W w1 → Below w.heap.size w w1 ∧ w1.cell? ⟨w.heap.size, 0, none⟩ = some (.int .i64 2) ∧ w1.cell? ⟨w.heap.size, 1, none⟩ = some (.int .i64 b) ∧ w1.cell? ⟨h, 3, none⟩ = some (.slice s0 l1 c0) ∧ w1.cell? ⟨h, 4, none⟩ = some (.slice g0 l2 d0)) := fun W w1 hb hx hy hb1 => by
    have hbb : Below w.heap.size w w1 := hb.trans (hb1.mono hb.size)
    have hlt : w.heap.size < W.heap.size := World.block_lt_of_cell? W _ hx
    exact ⟨hbb, (hb1.cell (p := ⟨w.heap.size, 0, none⟩) hlt).trans hx, (hb1.cell (p := ⟨w.heap.size, 1, none⟩) hlt).trans hy, (K.out w1 hbb).1, (K.out w1 hbb).2.1⟩
  obtain ⟨a0, a1, _, _⟩ := K.out (w.alloc (.cells #[.int .i64 2, .int .i64 b] 81)) ((Below.refl _ _).alloc (Nat.le_refl _) _)
  cases ra with
  | true =>
    go_enter Tryz.func94, Tryz.ntmps94
    go_wp2_with fail
    first | go_region_with (go_at_call 97; refine Calls.mono (K.out _ ((Below.refl _ _).alloc (Nat.le_refl _) _).drew).2.2.1 ?_; rintro e w1 ⟨rfl, hb1⟩; obtain ⟨b1, x0, x1, x2, x3⟩ := K2.out _ w1 ((Below.refl _ _).alloc (Nat.le_refl _) _).drew (heap_alloc_new w _) hb1; have B1 : Hid _ := b1; clear b1 hb1) | fail "region"
    all_goals go_wp2
    all_goals go_ret
    all_goals exact ⟨ret_bool (by rw [RR.out]; rfl), by first | exact B1.out | exact B1.out.drew | exact below_drewN B1.out _⟩
  | false =>
    go_enter Tryz.func94, Tryz.ntmps94
    go_wp2_with fail
    first | go_region_with (first | (go_at_call 97; refine Calls.mono (K.out _ B1.out).2.2.2 ?_; rintro e w2 ⟨rfl, hb2⟩; obtain ⟨b2, y0, y1, y2, y3⟩ := K3.out _ w2 B1.out x0 x1 hb2; have B2 : Hid _ := b2; clear b2 hb2) | (go_at_call 97; refine Calls.mono (K.out _ ((Below.refl _ _).alloc (Nat.le_refl _) _).drew).2.2.1 ?_; rintro e w1 ⟨rfl, hb1⟩; obtain ⟨b1, x0, x1, x2, x3⟩ := K2.out _ w1 ((Below.refl _ _).alloc (Nat.le_refl _) _).drew (heap_alloc_new w _) hb1; have B1 : Hid _ := b1; clear b1 hb1)) | fail "region"
    all_goals go_wp2
    all_goals go_ret
    all_goals exact ⟨ret_bool (by rw [RR.out]; cases rb <;> rfl), by first | exact B2.out | exact B2.out.drew | exact below_drewN B2.out _⟩

end Go.Proofs.YteekoiljkklnmaaGreatDoor

/- OUR OWN. The program's heap: enqueue, sortWaiting, makeRoomToWait. -/
namespace Go.Proofs.YteekoiljkklnmaaGreatDoor
open Go.RowKit
set_option linter.unusedVariables false
set_option linter.unusedSimpArgs false

/-- one cell of a block is turned -/
theorem HeapAt.flagged {w : World} {h : Nat} {m : HeapM} {N : Nat} (r : HeapAt w h m) (hlen : m.blks.length = N + 1) {g cap : Nat} (hv : m.vB = .slice (some ⟨g, 0, none⟩) (N + 1) cap) (i : Nat) {o : HObj} (hi : m.blks[i]? = some o) (o' : HObj) (j : Nat) (hj : j < 3) (u : Value)
    (hc : o'.cells = o.cells.set j u) (hr : o'.row = o.row) :
    HTurn h w m (w.setCell ⟨g, i * 3 + j, none⟩ u) { m with blks := m.blks.set i o' } := by
  have hob : m.vB.ownBlock = some g := by rw [hv]; rfl
  have hgh : g ≠ h := fun e => r.ne (x := ⟨88, 3, m.vB, m.blks.length, m.blks.flatMap HObj.cells⟩) (by simp [HeapM.rows]) (by rw [← e]; exact hob)
  refine r.turn 2 ⟨88, 3, m.vB, m.blks.length, m.blks.flatMap HObj.cells⟩ ⟨88, 3, m.vB, (m.blks.set i o').length, (m.blks.set i o').flatMap HObj.cells⟩ rfl ?_ ?_ ?_ ?_ ?_
  · simp only [HeapM.rows, List.set_cons_zero, List.set_cons_succ, map_set_same HObj.row m.blks i o o' hi hr]
  · rw [hso (fun e => hgh e.symm)]; exact r.head
  · have hb := r.blocks
    show (w.setCell _ u).ownsRow 0 _ 3 m.vB (m.blks.set i o').length _
    rw [List.length_set, flat_set HObj.cells 3 (fun _ => rfl) m.blks i j hj o u hi o' hc]
    rw [hv, hlen] at hb ⊢
    exact (hb.stored (i * 3 + j) u).1
  · intro x hx
    exact .inl hx
  · exact (off_setCell w g (i * 3 + j) u).mono (fun x hx => by simp at hx; subst hx; exact List.mem_cons_of_mem _ (by simp [SRow.ob, hob]))

theorem HeapAt.requeued {w w1 : World} {h : Nat} {m : HeapM} (r : HeapAt w h m) (v' : Value) (q' : List Int) (hown : ownsWin w1 3 v' q'.length (q'.map (Value.int .i64)))
    (hoff : Off m.vQ.ownBlock.toList w w1) (hlie : ∀ g, v'.ownBlock = some g → m.vQ.ownBlock = some g ∨ w.heap.size ≤ g) : HTurn h w m (w1.setCell ⟨h, 6, none⟩ v') { m with vQ := v', queue := q' } := by
  have hh := lt_of_heap r.head
  have hne : m.vQ.ownBlock ≠ some h := r.ne (x := ⟨3, 1, m.vQ, m.queue.length, m.queue.map (Value.int .i64)⟩) (by simp [HeapM.rows])
  have hgh : ∀ g, v'.ownBlock = some g → g ≠ h := fun g hg e => by
    rcases hlie g hg with e1 | e1
    · exact hne (by rw [e1, e])
    · omega
  have hh1 : w1.heap[h]? = some m.head := by rw [hoff.block h hh (fun e => hne (by simpa using e))]; exact r.head
  refine r.turn 3 ⟨3, 1, m.vQ, m.queue.length, m.queue.map (Value.int .i64)⟩ ⟨3, 1, v', q'.length, q'.map (Value.int .i64)⟩ rfl rfl ?_ ?_ hlie ?_
  · rw [heap_setCell_at hh1]; rfl
  · show ownsWin (w1.setCell ⟨h, 6, none⟩ _) 3 v' q'.length (q'.map (Value.int .i64))
    exact win_carry hown fun g hg => hso (k := g) (b := h) (hgh g hg)
  · exact (hoff.mono (fun y hy => List.mem_cons_of_mem _ hy)).trans ((off_setCell w1 h 6 _).mono (by simp))

def HeapM.put (m : HeapM) (i : Nat) (o : HObj) : HeapM := { m with blks := m.blks.set i o }
theorem hput_st (m : HeapM) (i : Nat) (o : HObj) : (m.put i o).st = m.st.put i o.ob := by
  simp [HeapM.st, HeapM.put, St.put, List.map_set]
def HeapM.enq (m : HeapM) (i : Nat) (o : HObj) (v : Value) : HeapM := { m with blks := m.blks.set i { o with state := 3 }, queue := m.queue ++ [(i : Int)], vQ := v }

theorem list_bound {l : List Int} (N : Nat) (hn : l.Nodup) (h : ∀ b ∈ l, 0 ≤ b ∧ b ≤ N) : l.length ≤ N + 1 := by
  have h2 : (l.map Int.toNat).Nodup := by
    refine List.nodup_iff_pairwise_ne.2 ?_
    rw [List.pairwise_map]
    exact List.Pairwise.imp_of_mem (fun {a b} ha hb hab e => hab (by have h1 := h a ha; have h2 := h b hb; omega)) (List.nodup_iff_pairwise_ne.1 hn)
  have := nodup_le (l' := List.range (N + 1)) h2 fun x hx => by
    obtain ⟨b, hb, rfl⟩ := List.mem_map.1 hx
    have := h b hb
    exact List.mem_range.2 (by omega)
  simpa using this
theorem St.Good.queue_len {s : St} {N : Nat} (g : s.Good N) : s.queue.length ≤ N + 1 := by
  refine list_bound N g.once fun b hb => ?_
  have h0 := g.nat b hb
  have hq := (g.inq b.toNat).1 (by rw [Int.toNat_of_nonneg h0]; exact hb)
  have := g.ne_zero (g.queued_here hq)
  omega

set_option maxHeartbeats 1600000 in
theorem enqueue_mem {w : World} {h : Nat} {m : HeapM} {N : Nat} (r : HeapAt w h m) (hlen : m.blks.length = N + 1) (hql : m.queue.length ≤ 100) (hN : N ≤ 99) (i : Nat) (hi : i ≤ N) {o : HObj} (hio : m.blks[i]? = some o) :
    Calls Tryz.prog 95 #[.pointer (some ⟨h, 0, none⟩), .int .i64 i] w fun e w' => e = .returned (.tuple #[]) ∧ ∃ v', HTurn h w m w' (m.enq i o v') := by
  obtain ⟨g, cap, hv, hg, hgh, hob, hfz, hobj⟩ := r.view hlen
  have hil : i < m.blks.length := by rw [hlen]; omega
  have c3 := (hobj i hil).1
  have cB : w.cell? ⟨h, 5, none⟩ = some (.slice (some ⟨g, 0, none⟩) (N + 1) cap) := by rw [r.cell.2.2.2.1, hv]
  have f3 := hfz (i * 3)
  have T1 := r.flagged hlen hv i hio { o with state := 3 } 0 (by decide) (.int .i64 3) rfl rfl
  rw [Nat.add_zero] at T1
  have r1 := T1.here
  have hsz : (w.setCell ⟨g, i * 3, none⟩ (.int .i64 3)).heap.size = w.heap.size := by simp [World.setCell]
  have hne : m.vQ.ownBlock ≠ some h := r.ne (x := ⟨3, 1, m.vQ, m.queue.length, m.queue.map (Value.int .i64)⟩) (by simp [HeapM.rows])
  have OWN : Hid (∀ W, Below w.heap.size (w.setCell ⟨g, i * 3, none⟩ (.int .i64 3)) W → ownsWin W 3 m.vQ m.queue.length (m.queue.map (Value.int .i64))) :=
    fun W hb => win_carry r1.queue fun j hj => hb.block j (by rw [← hsz]; exact win_lt r1.queue hj)
  have FIN : Hid (∀ W w1 v', Below w.heap.size (w.setCell ⟨g, i * 3, none⟩ (.int .i64 3)) W → ownsWin w1 3 v' (m.queue.length + 1) (m.queue.map (Value.int .i64) ++ [.int .i64 i]) → Off m.vQ.ownBlock.toList W w1 →
    (∀ b, v'.ownBlock = some b → m.vQ.ownBlock = some b ∨ W.heap.size ≤ b) → HTurn h w m (w1.setCell ⟨h, 6, none⟩ v') (m.enq i o v') ∧ w1.cell? ⟨h, 6, none⟩ = some m.vQ ∧ w1.frozen? ⟨h, 6, none⟩ = false) := by
    intro W w1 v' hb ho hgr hl
    have hb' : Below (w.setCell ⟨g, i * 3, none⟩ (.int .i64 3)).heap.size (w.setCell ⟨g, i * 3, none⟩ (.int .i64 3)) W := by rw [hsz]; exact hb
    have r2 : HeapAt W h _ := r1.carry fun y hy => hb'.block y (r1.lt y hy)
    have hh1 : w1.heap[h]? = some m.head := by rw [hgr.block h (lt_of_heap r2.head) (fun e => hne (by simpa using e))]; exact r2.head
    have T2 := (T1.after hb').trans (r2.requeued v' (m.queue ++ [(i : Int)]) (by simpa using ho) hgr hl)
    exact ⟨T2, cell_of_heap hh1 rfl, frozen_of_heap hh1⟩
  have cQ : (w.setCell ⟨g, i * 3, none⟩ (.int .i64 3)).cell? ⟨h, 6, none⟩ = some m.vQ := r1.cell.2.2.2.2.1
  obtain ⟨xs, hxs⟩ : ∃ xs, m.queue.map (Value.int .i64) = xs := ⟨_, rfl⟩
  rw [hxs] at FIN OWN
  obtain ⟨len, hlq⟩ : ∃ len, m.queue.length = len := ⟨_, rfl⟩
  rw [hlq] at hql FIN OWN
  have hxl : xs.length = len := by rw [← hxs, List.length_map, hlq]
  have hiI : (i : Int) < (N : Int) + 1 := by omega
  obtain ⟨qd, hqd⟩ : ∃ qd, (m.blks[i]).state = qd := ⟨_, rfl⟩
  rw [hqd] at c3
  have SHAPE := (OWN.out _ (Below.refl _ _)).2
  clear r r1 T1 hv hobj hob hfz hio hlq hne hqd hil hxs hlen
  obtain ⟨i1, hi1, hy0, hy1, hy2⟩ := info_parts infoInt
  rcases SHAPE with ⟨hvq, hl0⟩ | ⟨qg, off, qc, cur, hvq, q1, q2, q3, q4, q5⟩
  · rw [hvq] at FIN OWN cQ
    subst hl0
    clear hvq
    have HI : Hid _ := hi1
    have HY : Hid _ := And.intro hy0 (And.intro hy1 hy2)
    clear hi1 hy0 hy1 hy2
    go_enter Tryz.func95, Tryz.ntmps95
    go_wp2_with (at_builtin; refine wpList_append_grows _ rfl (.tmp 15) (.tmp 17) 42 rfl 3 i1 _ 1 8 Tryz.underlying42 HI.out HY.out.1 HY.out.2.1 HY.out.2.2 rfl (by decide) none 0 0 xs rfl (fun _ => ⟨rfl, rfl⟩) (by omega) (fun b hb => by cases hb) ⟨w.heap.size, 0, none⟩ 1 1 [.int .i64 i] rfl rfl ?c1 ?c2 (by decide) ?c3 ?c4 ?_)
    case c1 => have := news_new (w.setCell ⟨g, i * 3, none⟩ (.int .i64 3)) [.int .i64 i] 3; rw [hsz] at this; exact this
    case c2 => intro u hu; simp at hu; subst hu; rfl
    case c3 => unfold maxLen; omega
    case c4 => omega
    intro v' w1 hown hgr
    obtain ⟨ao', cp', rfl⟩ := win_slice (win_of_row hown)
    obtain ⟨T, hc, hf⟩ := FIN.out _ w1 _ ((Below.refl _ _).alloc (by rw [hsz]; exact Nat.le_refl _) _) (win_of_row hown) ((off_grown hgr).mono (by simp)) (fun b hb => .inr (by have := (own_lt hown hb).1; simp [hsz] at this ⊢; omega))
    have TT : Hid _ := T
    clear hown hgr FIN OWN T HI HY
    go_wp2
    go_end0
    exact ⟨rfl, _, TT.out⟩
  · rw [hvq] at FIN OWN cQ
    clear hvq q1 q2 q3 q4 q5
    have HI : Hid _ := hi1
    have HY : Hid _ := And.intro hy0 (And.intro hy1 hy2)
    clear hi1 hy0 hy1 hy2
    go_enter Tryz.func95, Tryz.ntmps95
    go_wp2_with (at_builtin; refine wpList_append_arg _ rfl (.tmp 15) (.tmp 17) 42 rfl 3 i1 _ 1 8 Tryz.underlying42 HI.out HY.out.1 HY.out.2.1 HY.out.2.2 rfl (by decide) qg off len qc xs rfl (by omega) ?c0 ⟨w.heap.size, 0, none⟩ 1 1 [.int .i64 i] rfl rfl ?c1 ?c2 ?c5 ?c3 ?c4 ?room ?grow)
    case c0 =>
      intro j u hu
      obtain ⟨_, hh⟩ := OWN.out _ ((Below.refl _ _).alloc (by rw [hsz]; exact Nat.le_refl _) (.cells #[.int .i64 (i : Int)] 3))
      rcases hh with ⟨hv, _⟩ | ⟨g', off', cap', cur', hv, h1, _, _, _, h5⟩
      · cases hv
      · simp at hv
        obtain ⟨⟨rfl, rfl⟩, rfl⟩ := hv
        exact cell_of_heap h1 (h5 j u hu)
    case c1 => have := news_new (w.setCell ⟨g, i * 3, none⟩ (.int .i64 3)) [.int .i64 i] 3; rw [hsz] at this; exact this
    case c2 => intro u hu; simp at hu; subst hu; rfl
    case c3 => unfold maxLen; omega
    case c4 => omega
    case c5 =>
      intro hr j hj
      simp at hj
      subst hj
      have := (win_room (OWN.out _ ((Below.refl _ _).alloc (by rw [hsz]; exact Nat.le_refl _) (.cells #[.int .i64 (i : Int)] 3))) (by omega) (.int .i64 (i : Int))).2
      rw [Nat.mul_one, Nat.add_zero]
      exact this
    case room =>
      intro hr
      have R := (win_room (OWN.out _ ((Below.refl _ _).alloc (by rw [hsz]; exact Nat.le_refl _) (.cells #[.int .i64 (i : Int)] 3))) (by omega) (.int .i64 (i : Int))).1
      obtain ⟨w1, hw1⟩ : ∃ w1, w1 = (((w.setCell ⟨g, i * 3, none⟩ (.int .i64 3)).alloc (.cells #[.int .i64 (i : Int)] 3)).setCells qg (off + len) [.int .i64 (i : Int)]) := ⟨_, rfl⟩
      have e1 : w1 = ((w.setCell ⟨g, i * 3, none⟩ (.int .i64 3)).alloc (.cells #[.int .i64 (i : Int)] 3)).setCell ⟨qg, off + len, none⟩ (.int .i64 (i : Int)) := by rw [hw1]; rfl
      rw [← e1] at R
      obtain ⟨T, hc, hf⟩ := FIN.out _ w1 _ ((Below.refl _ _).alloc (by rw [hsz]; exact Nat.le_refl _) _) R (by rw [e1]; exact (off_setCell _ qg _ _).mono (by simp [Value.ownBlock])) (fun b hb => .inl hb)
      have TT : Hid _ := T
      have HR : Hid _ := hr
      have e2 : (((w.setCell ⟨g, i * 3, none⟩ (.int .i64 3)).alloc (.cells #[.int .i64 (i : Int)] 3)).setCells qg (off + len) [.int .i64 (i : Int)]) = w1 := hw1.symm
      rw [e2]
      clear R FIN OWN T hr e1 e2 hw1 HI HY HR
      go_wp2
      go_end0
      exact ⟨rfl, _, TT.out⟩
    case grow =>
      intro hr v' w1 hown hgr
      obtain ⟨ao', cp', rfl⟩ := win_slice (win_of_row hown)
      obtain ⟨T, hc, hf⟩ := FIN.out _ w1 _ ((Below.refl _ _).alloc (by rw [hsz]; exact Nat.le_refl _) _) (win_of_row hown) ((off_grown hgr).mono (by simp)) (fun b hb => .inr (by have := (own_lt hown hb).1; simp [hsz] at this ⊢; omega))
      have TT : Hid _ := T
      clear hown hgr FIN OWN T hr HI HY
      go_wp2
      go_end0
      exact ⟨rfl, _, TT.out⟩

theorem set_get {α : Type} {l : List α} {i j : Nat} {x y : α} (h : (l.set i x)[j]? = some y) : (j = i ∧ y = x) ∨ (j ≠ i ∧ l[j]? = some y) := by
  rw [List.getElem?_set] at h
  by_cases e : i = j
  · rw [if_pos e] at h
    split at h
    · exact .inl ⟨e.symm, (Option.some.inj h).symm⟩
    · cases h
  · rw [if_neg e] at h; exact .inr ⟨fun x => e x.symm, h⟩

/-- what goes to the queue -/
theorem HSb.enq {but : Int} {m : HeapM} {s : St} {c : Cf} {N : Nat} (p : HSb but m s c N) {i : Nat} {o : HObj} (hi : m.blks[i]? = some o) (hst : o.state = 1) (v : Value) : HSb but (m.enq i o v) (s.enq i) c N := by
  have ho : s.ob i = o.ob := by rw [← p.st]; exact hst_ob hi
  refine ⟨?_, p.deep, p.zero, p.over, fun x hx => ?_, fun j x hx hs => ?_⟩
  · have e : ({ o with state := 3 } : HObj).ob = { s.ob i with queued := true } := by rw [ho]; simp [HObj.ob, hst]
    unfold St.enq
    rw [← e, ← p.st]
    simp [HeapM.enq, HeapM.st, List.map_set]
  · rcases List.mem_or_eq_of_mem_set hx with e | e
    · exact p.state x e
    · subst e; exact .inr (.inr (.inr rfl))
  · rw [count_enq]
    rcases set_get hx with ⟨rfl, rfl⟩ | ⟨_, e⟩
    · exact p.cnt j o hi (.inl hst)
    · exact p.cnt j x e hs

theorem enqueue_any {but : Int} {h : Nat} {w : World} {m : HeapM} {s : St} {c : Cf} {N : Nat} (p : HB but h w m s c N) (i : Nat) (hi : i ≤ N) (hw : s.sorts but i = true) :
    Calls Tryz.prog 95 #[.pointer (some ⟨h, 0, none⟩), .int .i64 i] w fun e w' => e = .returned (.tuple #[]) ∧ ∃ m', HTurn h w m w' m' ∧ HB but h w' m' (s.enq i) c N := by
  obtain ⟨o, hio⟩ : ∃ o, m.blks[i]? = some o := ⟨_, List.getElem?_eq_getElem (by rw [p.len]; omega)⟩
  obtain ⟨h1, h2, h3⟩ := sorts_iff.1 hw
  obtain ⟨w1, w2, w3⟩ := waits_iff.1 h1
  have hst : o.state = 1 := by
    have e := p.ob hio
    have a1 := w1.1; have a2 := w1.2
    rw [e] at a1 a2 w2
    rcases p.hs.state o (List.mem_of_getElem? hio) with e | e | e | e
    · simp [HObj.ob, e] at a1
    · exact e
    · simp [HObj.ob, e] at w2
    · simp [HObj.ob, e] at a2
  refine (enqueue_mem p.r p.len (by rw [p.mqueue]; have := p.good.queue_len; have := p.small; omega) p.small i hi hio).mono ?_
  rintro e w' ⟨he, v', t⟩
  exact ⟨he, _, t, t.here, p.hs.enq hio hst v', p.good.enq i w1 w2 w3 h2, p.cf, p.small, p.stack, p.globals⟩

end Go.Proofs.YteekoiljkklnmaaGreatDoor

/- OUR OWN. The program's heap: sortWaiting, makeRoomToWait. -/
namespace Go.Proofs.YteekoiljkklnmaaGreatDoor
open Go.RowKit
set_option linter.unusedVariables false
set_option linter.unusedSimpArgs false

set_option maxHeartbeats 1600000 in
theorem sortWaiting_any {but : Int} {h : Nat} {w : World} {m : HeapM} {s : St} {c : Cf} {N : Nat} (p : HB but h w m s c N) :
    Calls Tryz.prog 90 #[.pointer (some ⟨h, 0, none⟩)] w fun e w' => e = .returned (.tuple #[]) ∧ ∃ m', HTurn h w m w' m' ∧ HB but h w' m' (s.sort but) c N := by
  have hN := p.small
  have hsN : s.N = N := p.good.sN
  have START : Hid (HTurn h w m w m ∧ HB but h w m (sortTo but s 0) c N) := ⟨.refl p.r, p⟩
  -- a round: what is known at its start, what its calls do
  have ROUND : Hid (∀ wr mr (j : Nat), j < N → HTurn h w m wr mr → HB but h wr mr (sortTo but s j) c N → ∃ g cap st ct ao fl fc, wr.cell? ⟨h, 5, none⟩ = some (.slice (some ⟨g, 0, none⟩) (N + 1) cap) ∧
      wr.cell? ⟨g, (j + 1) * 3, none⟩ = some (.int .i64 st) ∧ wr.cell? ⟨g, (j + 1) * 3 + 1, none⟩ = some (.int .i64 ct) ∧ wr.cell? ⟨g, (j + 1) * 3 + 2, none⟩ = some (.slice ao fl fc) ∧
      ((decide (st = 1) && decide (ct = 0)) = false → ∀ W, Below wr.heap.size wr W → ∃ m', HTurn h w m W m' ∧ HB but h W m' (sortTo but s (j + 1)) c N) ∧
      ((decide (st = 1) && decide (ct = 0)) = true → ∀ W, Below wr.heap.size wr W → Calls Tryz.prog 94 #[.pointer (some ⟨h, 0, none⟩), .int .i64 ((j : Int) + 1)] W fun e w1 => ∃ b, e = .returned (.bool b) ∧
        (b = true → ∃ m', HTurn h w m w1 m' ∧ HB but h w1 m' (sortTo but s (j + 1)) c N) ∧
        (b = false → Calls Tryz.prog 95 #[.pointer (some ⟨h, 0, none⟩), .int .i64 ((j : Int) + 1)] w1 fun e w2 => e = .returned (.tuple #[]) ∧ ∃ m', HTurn h w m w2 m' ∧ HB but h w2 m' (sortTo but s (j + 1)) c N))) := by
    intro wr mr j hj t q
    obtain ⟨g, cap, cB, hg, hobj⟩ := q.cells
    obtain ⟨o, ao, fl, fc, ho, _, _, c0, c1, c2⟩ := hobj (j + 1) (by omega)
    have hw : (decide (o.state = 1) && decide (o.count = 0)) = (sortTo but s j).others but (j + 1) := q.hs.waits ho
    refine ⟨g, cap, o.state, o.count, ao, fl, fc, cB, c0, c1, c2, fun hx W hb => ?_, fun hx W hb => ?_⟩
    · have e : sortTo but s (j + 1) = sortTo but s j := by
        show (if _ then _ else _) = _
        rw [if_neg]
        intro hs
        obtain ⟨h1, h2, h3⟩ := sorts_iff.1 hs
        rw [hw] at hx
        unfold St.others at hx
        simp [h1] at hx
        exact h3 (by push_cast; exact hx)
      rw [e]
      exact ⟨mr, t.after hb, q.below hb⟩
    · rw [hw] at hx
      have hx2 : (sortTo but s j).waits (j + 1) = true ∧ ((j + 1 : Nat) : Int) ≠ but := by unfold St.others at hx; simpa using hx
      have q1 := q.below hb
      refine (isRoot_any q1 ((j : Int) + 1)).mono ?_
      rintro e w1 ⟨rfl, hb1⟩
      have q2 := q1.below hb1
      have t2 : HTurn h w m w1 mr := (t.after hb).after hb1
      refine ⟨_, rfl, fun hr => ?_, fun hr => ?_⟩
      · have e : sortTo but s (j + 1) = sortTo but s j := by
          show (if _ then _ else _) = _
          rw [if_neg]
          intro hs
          obtain ⟨h1, h2, h3⟩ := sorts_iff.1 hs
          have h2' : (sortTo but s j).rooted ((j : Int) + 1) = false := by have := h2; push_cast at this; exact this
          rw [hr] at h2'; cases h2'
        rw [e]
        exact ⟨mr, t2, q2⟩
      · have hs : (sortTo but s j).sorts but (j + 1) = true := sorts_iff.2 ⟨hx2.1, by push_cast; exact hr, hx2.2⟩
        have e : sortTo but s (j + 1) = (sortTo but s j).enq (j + 1) := by
          show (if _ then _ else _) = _
          rw [if_pos hs]
        rw [e]
        refine (enqueue_any q2 (j + 1) (by omega) hs).mono ?_
        rintro e w2 ⟨he, m', t3, q3⟩
        exact ⟨he, m', t2.trans t3, q3⟩
  have BLK : Hid (∀ wr mr s', HB but h wr mr s' c N → ∃ g cap, wr.cell? ⟨h, 5, none⟩ = some (.slice (some ⟨g, 0, none⟩) (N + 1) cap)) := fun wr mr s' q => by
    obtain ⟨g, cap, cB, _⟩ := q.cells
    exact ⟨g, cap, cB⟩
  have WF : Hid (∀ st ct v w, Calls Tryz.prog 84 #[.agg #[.int .i64 st, .int .i64 ct, v]] w fun e w' => e = .returned (.bool (decide (st = 1) && decide (ct = 0))) ∧ Below w.heap.size w w') := waits_fn
  have FIN : Hid (sortTo but s N = s.sort but) := by show _ = _; unfold St.sort; rw [hsN]
  clear p hsN
  go_enter Tryz.func90, Tryz.ntmps90
  go_wp2
  go_loopw [2] (fun i wr => ∃ j : Nat, j ≤ N ∧ i = .int .i64 (j + 1) ∧ ∃ mr, HTurn h w m wr mr ∧ HB but h wr mr (sortTo but s j) c N) (fun i _ => N + 1 - (intOf i).toNat)
  case atStart => exact ⟨0, Nat.zero_le _, rfl, m, START.out⟩
  case round =>
    obtain ⟨j, hj, rfl, mr, ht, hq⟩ := hrel
    by_cases hlt : j < N
    · obtain ⟨g, cap, st, ct, ao, fl, fc, cB, c0, c1, c2, hno, hyes⟩ := ROUND.out wr mr j hlt ht hq
      have NO : Hid _ := hno
      have YES : Hid _ := hyes
      have X : Hid _ := WF.out st ct
      clear hno hyes ht hq
      go_wp2_with fail
      refine Calls.mono (X.out _ _) ?_
      rintro e w1 ⟨rfl, hb1⟩
      have B1 : Hid (Below wr.heap.size wr w1) := hb1
      clear hb1 X c0 c1 c2 cB
      cases hx : (decide (st = 1) && decide (ct = 0)) with
      | false =>
        have F : Hid (∃ m', HTurn h w m w1 m' ∧ HB but h w1 m' (sortTo but s (j + 1)) c N) := NO.out hx w1 B1.out
        clear hx NO YES B1
        go_wp2
        go_roundw
        case rel => exact ⟨j + 1, by omega, by go_num, F.out⟩
        case measure => simp [intOf]; omega
      | true =>
        have Y : Hid _ := YES.out hx w1 B1.out
        clear hx NO YES B1
        go_wp2_with fail
        refine Calls.mono Y.out ?_
        rintro e w2 ⟨b, rfl, hbt, hbf⟩
        have BT : Hid _ := hbt
        have BF : Hid _ := hbf
        clear hbt hbf Y
        cases b with
        | true =>
          have F : Hid (∃ m', HTurn h w m w2 m' ∧ HB but h w2 m' (sortTo but s (j + 1)) c N) := BT.out rfl
          clear BT BF
          go_wp2
          go_roundw
          case rel => exact ⟨j + 1, by omega, by go_num, F.out⟩
          case measure => simp [intOf]; omega
        | false =>
          have F : Hid _ := BF.out rfl
          clear BT BF
          go_wp2_with fail
          refine Calls.mono F.out ?_
          rintro e w3 ⟨rfl, hm⟩
          have M : Hid _ := hm
          clear hm F
          go_wp2
          go_roundw
          case rel => exact ⟨j + 1, by omega, by go_num, M.out⟩
          case measure => simp [intOf]; omega
    · obtain rfl : j = N := by omega
      obtain ⟨g, cap, cB⟩ := BLK.out wr mr _ hq
      have F : Hid (∃ m', HTurn h w m wr m' ∧ HB but h wr m' (s.sort but) c j) := by rw [← FIN.out]; exact ⟨mr, ht, hq⟩
      clear ht hq
      go_wp2
      go_end0
      exact ⟨rfl, F.out⟩

set_option maxHeartbeats 800000 in
theorem makeRoom_any {but : Int} {h : Nat} {w : World} {m : HeapM} {s : St} {c : Cf} {N : Nat} (p : HB but h w m s c N) :
    Calls Tryz.prog 72 #[.pointer (some ⟨h, 0, none⟩)] w fun e w' => e = .returned (.tuple #[]) ∧ ∃ m', HTurn h w m w' m' ∧ HB but h w' m' (s.enter c.zero but) c N := by
  have hsN : s.N = N := p.good.sN
  have cZ : w.cell? ⟨h, 1, none⟩ = some (.int .i64 c.zero) := by rw [p.r.cell.2.2.2.2.2.1, p.hs.zero]
  have hh := lt_of_heap p.r.head
  have W0 : Hid _ := waiting_any p
  have K : Hid (∀ W, Below w.heap.size w W → W.cell? ⟨h, 1, none⟩ = some (.int .i64 c.zero) ∧ (¬ c.zero ≤ countTo (s.others but) N → ∃ m', HTurn h w m W m' ∧ HB but h W m' (s.enter c.zero but) c N) ∧
      (c.zero ≤ countTo (s.others but) N → Calls Tryz.prog 90 #[.pointer (some ⟨h, 0, none⟩)] W fun e w' => e = .returned (.tuple #[]) ∧ ∃ m', HTurn h w m w' m' ∧ HB but h w' m' (s.enter c.zero but) c N)) := fun W hb => by
    refine ⟨(hb.cell (p := ⟨h, 1, none⟩) hh).trans cZ, fun hz => ?_, fun hz => ?_⟩
    · have e : s.enter c.zero but = s := by unfold St.enter; rw [hsN, if_neg hz]
      rw [e]
      exact ⟨m, .of_below p.r hb, p.below hb⟩
    · have e : s.enter c.zero but = s.sort but := by unfold St.enter; rw [hsN, if_pos hz]
      rw [e]
      refine (sortWaiting_any (p.below hb)).mono ?_
      rintro e w' ⟨he, m', t, q⟩
      exact ⟨he, m', .pre p.r hb t, q⟩
  obtain ⟨n, hn⟩ : ∃ n, countTo (s.others but) N = n := ⟨_, rfl⟩
  rw [hn] at W0 K
  obtain ⟨z, hz⟩ : ∃ z, c.zero = z := ⟨_, rfl⟩
  rw [hz] at K ⊢
  clear p hsN cZ hn hz
  go_enter Tryz.func72, Tryz.ntmps72
  go_wp2_with fail
  refine Calls.mono W0.out ?_
  rintro e w1 ⟨rfl, hb⟩
  obtain ⟨c0, k1, k2⟩ := K.out w1 hb
  have K1 : Hid _ := k1
  have K2 : Hid _ := k2
  clear hb K W0 k1 k2
  by_cases hzn : z ≤ (n : Int)
  · have F : Hid _ := K2.out hzn
    clear K1 K2
    go_wp2_with fail
    refine Calls.mono F.out ?_
    rintro e w2 ⟨rfl, hm⟩
    have M : Hid _ := hm
    clear hm F
    go_wp2
    go_end0
    exact ⟨rfl, M.out⟩
  · have F : Hid _ := K1.out (by omega)
    have hz2 : decide (z ≤ (n : Int)) = false := by simpa using hzn
    clear K1 K2
    go_wp2
    go_end0
    exact ⟨rfl, F.out⟩

end Go.Proofs.YteekoiljkklnmaaGreatDoor

/- OUR OWN. The program's heap: countField, uncountField. -/
namespace Go.Proofs.YteekoiljkklnmaaGreatDoor
open Go.RowKit
set_option linter.unusedVariables false
set_option linter.unusedSimpArgs false

theorem refs_length (l : List (Int × Int)) (b : Int) : refsN l b ≤ l.length := List.countP_le_length
theorem St.Good.count_le {s : St} {N : Nat} (g : s.Good N) (b : Int) : s.count b ≤ 4 * N := by
  have key : ∀ l : List Ob, (∀ o ∈ l, o.fs.length ≤ 4) → (l.map (obCount b)).sum ≤ 4 * l.length := by
    intro l
    induction l with
    | nil => intro _; simp
    | cons o l ih =>
      intro h
      have h1 := ih fun o ho => h o (List.mem_cons_of_mem _ ho)
      have h2 := h o (by simp)
      have h3 : obCount b o ≤ o.fs.length := by
        unfold obCount
        split
        · exact refs_length _ _
        · omega
      simp only [List.map_cons, List.sum_cons, List.length_cons]
      omega
  have := key s.objs.tail fun o ho => by
    obtain ⟨i, _, _, rfl⟩ := ob_tail.1 ho
    exact g.four i
  rw [List.length_tail, g.len] at this
  unfold St.count
  simpa using this

/-- another one is counted too much -/
theorem HSb.but {b b' : Int} {m : HeapM} {s : St} {c : Cf} {N : Nat} (p : HSb b m s c N) (h : ∀ (i : Nat) (o : HObj), m.blks[i]? = some o → o.state = 1 ∨ o.state = 3 → ((i : Int) = b ↔ (i : Int) = b')) : HSb b' m s c N := by
  refine ⟨p.st, p.deep, p.zero, p.over, p.state, fun i o hi hs => ?_⟩
  have h1 := h i o hi hs
  rw [p.cnt i o hi hs]
  by_cases e : (i : Int) = b
  · rw [if_pos e, if_pos (h1.1 e)]
  · rw [if_neg e, if_neg (fun x => e (h1.2 x))]
theorem HSb.pos {b : Int} {m : HeapM} {s : St} {c : Cf} {N : Nat} (p : HSb b m s c N) (g : s.Good N) {i : Nat} {o : HObj} (hi : m.blks[i]? = some o) (hs : o.state = 1 ∨ o.state = 3) : ¬ (i : Int) = 0 := fun h0 => by
  have h0 : i = 0 := by omega
  have ho : s.ob i = o.ob := by rw [← p.st]; exact hst_ob hi
  have := g.zero
  rw [← h0, ho] at this
  have := congrArg Ob.here this
  rcases hs with e | e <;> simp [HObj.ob, e, Ob.free] at this

/-- the object's count alone is turned -/
theorem HSb.recount {b b' : Int} {m : HeapM} {s : St} {c : Cf} {N : Nat} (p : HSb b m s c N) {j : Nat} {o : HObj} (hj : m.blks[j]? = some o) (x : Int) (hx : o.state = 1 ∨ o.state = 3 → x = s.count j + if (j : Int) = b' then 1 else 0)
    (h : ∀ (i : Nat) (o : HObj), i ≠ j → m.blks[i]? = some o → o.state = 1 ∨ o.state = 3 → ((i : Int) = b ↔ (i : Int) = b')) : HSb b' (m.put j { o with count := x }) s c N := by
  have ho : s.ob j = o.ob := by rw [← p.st]; exact hst_ob hj
  refine ⟨?_, p.deep, p.zero, p.over, fun y hy => ?_, fun i y hy hs => ?_⟩
  · rw [hput_st, p.st]
    have : ({ o with count := x } : HObj).ob = s.ob j := ho.symm
    rw [this]
    unfold St.put
    have hl : j < s.objs.length := by rw [← p.st]; simpa [HeapM.st] using (List.getElem?_eq_some_iff.1 hj).1
    have e : s.objs.set j (s.ob j) = s.objs := by
      have : s.ob j = s.objs[j] := ob_of (List.getElem?_eq_getElem hl)
      rw [this]; exact List.set_getElem_self hl
    rw [e]
  · rcases List.mem_or_eq_of_mem_set hy with e | e
    · exact p.state y e
    · subst e; exact p.state o (List.mem_of_getElem? hj)
  · rcases set_get hy with ⟨rfl, rfl⟩ | ⟨hne, e⟩
    · exact hx hs
    · have h1 := h i y hne e hs
      rw [p.cnt i y e hs]
      by_cases e : (i : Int) = b
      · rw [if_pos e, if_pos (h1.1 e)]
      · rw [if_neg e, if_neg (fun x => e (h1.2 x))]

/-- the object is stuck from now on -/
theorem HSb.stick {m : HeapM} {s : St} {c : Cf} {N : Nat} (p : HSb 0 m s c N) (g : s.Good N) {j : Nat} {o : HObj} (hj : m.blks[j]? = some o) (h1 : o.state = 1) : HSb j (m.put j { o with state := 2 }) (s.stick j) c N := by
  have ho : s.ob j = o.ob := by rw [← p.st]; exact hst_ob hj
  refine ⟨?_, p.deep, p.zero, p.over, fun y hy => ?_, fun i y hy hs => ?_⟩
  · rw [hput_st, p.st]
    unfold St.stick
    have : ({ o with state := 2 } : HObj).ob = { s.ob j with stuck := true } := by rw [ho]; simp [HObj.ob, h1]
    rw [this]
  · rcases List.mem_or_eq_of_mem_set hy with e | e
    · exact p.state y e
    · subst e; exact .inr (.inr (.inl rfl))
  · rw [count_stick]
    rcases set_get hy with ⟨rfl, rfl⟩ | ⟨hne, e⟩
    · rcases hs with e | e <;> simp at e
    · have := p.cnt i y e hs
      rw [if_neg (p.pos g e hs)] at this
      rw [this, if_neg (by omega)]

theorem alive_state {b : Int} {m : HeapM} {s : St} {c : Cf} {N : Nat} (p : HSb b m s c N) {j : Nat} {o : HObj} (hj : m.blks[j]? = some o) (ha : s.alive j) : (o.state = 1 ∧ (s.ob j).stuck = false) ∨ (o.state = 2 ∧ (s.ob j).stuck = true) := by
  have ho : s.ob j = o.ob := by rw [← p.st]; exact hst_ob hj
  obtain ⟨a1, a2⟩ := ha
  rw [ho] at a1 a2 ⊢
  rcases p.state o (List.mem_of_getElem? hj) with e | e | e | e
  · simp [HObj.ob, e] at a1
  · exact .inl ⟨e, by simp [HObj.ob, e]⟩
  · exact .inr ⟨e, by simp [HObj.ob, e]⟩
  · simp [HObj.ob, e] at a2

theorem stick_stuck {s : St} {j : Nat} (hl : j < s.objs.length) (h : (s.ob j).stuck = true) : s.stick j = s := by
  unfold St.stick St.put
  have e : ({ s.ob j with stuck := true } : Ob) = s.objs[j] := by
    have e2 : s.ob j = s.objs[j] := ob_of (List.getElem?_eq_getElem hl)
    rw [← e2, ← h]
  rw [e, List.set_getElem_self hl]

set_option maxHeartbeats 1600000 in
theorem countField_any {h : Nat} {w : World} {m : HeapM} {s : St} {c : Cf} {N : Nat} (p : HB 0 h w m s c N) (j : Nat) (ha : s.alive j) :
    Calls Tryz.prog 91 #[.pointer (some ⟨h, 0, none⟩), .int .i64 j] w fun e w' => e = .returned (.tuple #[]) ∧ ∃ m', HTurn h w m w' m' ∧ HB j h w' m' (stickS c.over s (2, (j : Int))) c N := by
  obtain ⟨hj1, hjN⟩ := p.good.ne_zero ha.1
  obtain ⟨g, cap, hv, hg, hgh, hob, hfz, hobj⟩ := p.r.view p.len
  have hil : j < m.blks.length := by rw [p.len]; omega
  have cB : w.cell? ⟨h, 5, none⟩ = some (.slice (some ⟨g, 0, none⟩) (N + 1) cap) := by rw [p.r.cell.2.2.2.1, hv]
  have cO : w.cell? ⟨h, 2, none⟩ = some (.int .i64 c.over) := by rw [p.r.cell.2.2.2.2.2.2.1, p.hs.over]
  have hh := lt_of_heap p.r.head
  obtain ⟨o, hio⟩ : ∃ o, m.blks[j]? = some o := ⟨_, List.getElem?_eq_getElem hil⟩
  have hoe : m.blks[j] = o := (List.getElem?_eq_some_iff.1 hio).2
  obtain ⟨c0, c1, c2⟩ := hobj j hil
  rw [hoe] at c0 c1 c2
  have hN := p.small
  have hjI : (j : Int) < (N : Int) + 1 := by omega
  have hcl := p.good.count_le j
  have gst := (p.good.stickS c.over (x := (2, (j : Int))) (.inr (.inr ⟨rfl, j, rfl, ha⟩))).1
  have DONE : ∀ W m', HTurn h w m W m' → HSb j m' (stickS c.over s (2, (j : Int))) c N → ∃ m', HTurn h w m W m' ∧ HB j h W m' (stickS c.over s (2, (j : Int))) c N := fun W m' t q =>
    ⟨m', t, t.here, q, gst, p.cf, p.small, by
      have : (stickS c.over s (2, (j : Int))).stack = s.stack := by unfold stickS; split <;> rfl
      rw [this]; exact p.stack, by
      have : (stickS c.over s (2, (j : Int))).globals = s.globals := by unfold stickS; split <;> rfl
      rw [this]; exact p.globals⟩
  rcases alive_state p.hs hio ha with ⟨hst, hsk⟩ | ⟨hst, hsk⟩
  · have hct : o.count = s.count j := by have := p.hs.cnt j o hio (.inl hst); rw [if_neg (p.hs.pos p.good hio (.inl hst))] at this; omega
    -- one more is counted
    have INC : ∀ W, Below w.heap.size w W → stickS c.over s (2, (j : Int)) = s → ∃ m', HTurn h w m (W.setCell ⟨g, j * 3 + 1, none⟩ (.int .i64 (o.count + 1))) m' ∧ HB j h (W.setCell ⟨g, j * 3 + 1, none⟩ (.int .i64 (o.count + 1))) m' (stickS c.over s (2, (j : Int))) c N := fun W hb e => by
      have t := (p.below hb).r.flagged p.len hv j hio { o with count := o.count + 1 } 1 (by decide) (.int .i64 (o.count + 1)) rfl rfl
      refine DONE _ _ (.pre p.r hb t) ?_
      rw [e]
      refine p.hs.recount hio _ (fun _ => by rw [if_pos rfl, hct]) fun i y hne hy hs => ⟨fun e => absurd e (p.hs.pos p.good hy hs), fun e => absurd (by omega) hne⟩
    by_cases h7 : o.count = 7
    · have X : Hid _ := hextras_any p
      have hex : countTo s.extra N = s.extras := by unfold St.extras; rw [p.good.sN]
      rw [hex] at X
      by_cases hov : c.over ≤ s.extras
      · have e : stickS c.over s (2, (j : Int)) = s.stick j := by
          unfold stickS
          rw [if_pos ⟨rfl, by have : (s.count j : Int) = 7 := by omega
                              exact_mod_cast this, hov⟩]
          simp
        have FIN : Hid (∀ W, Below w.heap.size w W → W.cell? ⟨h, 2, none⟩ = some (.int .i64 c.over) ∧ W.cell? ⟨h, 5, none⟩ = some (.slice (some ⟨g, 0, none⟩) (N + 1) cap) ∧ W.cell? ⟨g, j * 3, none⟩ = some (.int .i64 1) ∧ W.frozen? ⟨g, j * 3, none⟩ = false ∧
            ∃ m', HTurn h w m (W.setCell ⟨g, j * 3, none⟩ (.int .i64 2)) m' ∧ HB j h (W.setCell ⟨g, j * 3, none⟩ (.int .i64 2)) m' (stickS c.over s (2, (j : Int))) c N) := fun W hb => by
          refine ⟨(hb.cell (p := ⟨h, 2, none⟩) hh).trans cO, (hb.cell (p := ⟨h, 5, none⟩) hh).trans cB, by rw [hb.cell (p := ⟨g, j * 3, none⟩) hg, c0, hst], (hb.frozen (p := ⟨g, j * 3, none⟩) hg).trans (hfz _), ?_⟩
          have t := (p.below hb).r.flagged p.len hv j hio { o with state := 2 } 0 (by decide) (.int .i64 2) rfl rfl
          rw [Nat.add_zero] at t
          refine DONE _ _ (.pre p.r hb t) ?_
          rw [e]
          exact p.hs.stick p.good hio hst
        rw [hst] at c0
        rw [h7] at c1
        obtain ⟨ex, hexx⟩ : ∃ ex, s.extras = ex := ⟨_, rfl⟩
        rw [hexx] at X hov
        obtain ⟨ov, hovv⟩ : ∃ ov, c.over = ov := ⟨_, rfl⟩
        rw [hovv] at FIN hov cO ⊢
        clear p hobj hv hob hfz hio hoe c2 hcl gst DONE INC hct e hex hexx hovv
        go_enter Tryz.func91, Tryz.ntmps91
        go_wp2_with fail
        refine Calls.mono X.out ?_
        rintro e w1 ⟨rfl, hb⟩
        obtain ⟨d0, d1, d2, d3, hm⟩ := FIN.out w1 hb
        have M : Hid _ := hm
        clear hm hb FIN X c0 c1 cB cO
        go_wp2
        first | go_end0 | refine bodyPost_ret (results_none rfl _ _ _) rfl ?_
        exact ⟨rfl, M.out⟩
      · have e : stickS c.over s (2, (j : Int)) = s := by
          unfold stickS
          rw [if_neg]
          rintro ⟨_, _, h3⟩; exact hov h3
        have FIN : Hid (∀ W, Below w.heap.size w W → W.cell? ⟨h, 2, none⟩ = some (.int .i64 c.over) ∧ W.cell? ⟨h, 5, none⟩ = some (.slice (some ⟨g, 0, none⟩) (N + 1) cap) ∧ W.cell? ⟨g, j * 3 + 1, none⟩ = some (.int .i64 7) ∧ W.frozen? ⟨g, j * 3 + 1, none⟩ = false ∧
            ∃ m', HTurn h w m (W.setCell ⟨g, j * 3 + 1, none⟩ (.int .i64 8)) m' ∧ HB j h (W.setCell ⟨g, j * 3 + 1, none⟩ (.int .i64 8)) m' (stickS c.over s (2, (j : Int))) c N) := fun W hb => by
          refine ⟨(hb.cell (p := ⟨h, 2, none⟩) hh).trans cO, (hb.cell (p := ⟨h, 5, none⟩) hh).trans cB, by rw [hb.cell (p := ⟨g, j * 3 + 1, none⟩) hg, c1, h7], (hb.frozen (p := ⟨g, j * 3 + 1, none⟩) hg).trans (hfz _), ?_⟩
          have := INC W hb e
          rw [h7] at this
          exact this
        rw [hst] at c0
        rw [h7] at c1
        obtain ⟨ex, hexx⟩ : ∃ ex, s.extras = ex := ⟨_, rfl⟩
        rw [hexx] at X hov
        obtain ⟨ov, hovv⟩ : ∃ ov, c.over = ov := ⟨_, rfl⟩
        rw [hovv] at FIN hov cO ⊢
        have hov2 : decide (ov ≤ (ex : Int)) = false := by simpa using hov
        clear p hobj hv hob hfz hio hoe c2 hcl gst DONE INC hct e hex hexx hovv
        go_enter Tryz.func91, Tryz.ntmps91
        go_wp2_with fail
        refine Calls.mono X.out ?_
        rintro e w1 ⟨rfl, hb⟩
        obtain ⟨d0, d1, d2, d3, hm⟩ := FIN.out w1 hb
        have M : Hid _ := hm
        clear hm hb FIN X c0 c1 cB cO
        go_wp2
        first | go_end0 | refine bodyPost_ret (results_none rfl _ _ _) rfl ?_
        exact ⟨rfl, M.out⟩
    · have e : stickS c.over s (2, (j : Int)) = s := by
        unfold stickS
        rw [if_neg]
        rintro ⟨_, h3, _⟩
        have h3 : s.count j = 7 := h3
        omega
      have M : Hid _ := INC w (Below.refl _ _) e
      have f1 := hfz (j * 3 + 1)
      have hcs : 0 ≤ o.count ∧ o.count ≤ 400 := by omega
      rw [hst] at c0
      obtain ⟨ct, hctt⟩ : ∃ ct, o.count = ct := ⟨_, rfl⟩
      rw [hctt] at c1 M h7 hcs
      have h72 : (ct == 7) = false := by simpa using h7
      clear p hobj hv hob hfz hio hoe c2 hcl gst DONE INC hct e hctt
      go_enter Tryz.func91, Tryz.ntmps91
      go_wp2
      first | go_end0 | refine bodyPost_ret (results_none rfl _ _ _) rfl ?_
      exact ⟨rfl, M.out⟩
  · have e : stickS c.over s (2, (j : Int)) = s := by
      unfold stickS
      split
      · simp; exact stick_stuck (here_lt ha.1) hsk
      · rfl
    have M : Hid (∃ m', HTurn h w m w m' ∧ HB j h w m' (stickS c.over s (2, (j : Int))) c N) := by
      refine DONE w m (.refl p.r) ?_
      rw [e]
      refine p.hs.but fun i y hy hs => ⟨fun e => absurd e (p.hs.pos p.good hy hs), fun e => ?_⟩
      have : i = j := by omega
      subst this
      rw [hio] at hy; cases hy
      rcases hs with e | e <;> omega
    rw [hst] at c0
    clear p hobj hv hob hfz hio hoe c2 hcl gst DONE e
    go_enter Tryz.func91, Tryz.ntmps91
    go_wp2
    first | go_end0 | refine bodyPost_ret (results_none rfl _ _ _) rfl ?_
    exact ⟨rfl, M.out⟩

set_option maxHeartbeats 1600000 in
theorem uncountField_any {h : Nat} {w : World} {m : HeapM} {s : St} {c : Cf} {N : Nat} (j : Nat) (p : HB j h w m s c N) (ha : s.alive j) :
    Calls Tryz.prog 92 #[.pointer (some ⟨h, 0, none⟩), .int .i64 j] w fun e w' => e = .returned (.tuple #[]) ∧ ∃ m', HTurn h w m w' m' ∧ HB 0 h w' m' (dropS' c.zero s (2, (j : Int))) c N := by
  obtain ⟨hj1, hjN⟩ := p.good.ne_zero ha.1
  obtain ⟨g, cap, hv, hg, hgh, hob, hfz, hobj⟩ := p.r.view p.len
  have hil : j < m.blks.length := by rw [p.len]; omega
  have cB : w.cell? ⟨h, 5, none⟩ = some (.slice (some ⟨g, 0, none⟩) (N + 1) cap) := by rw [p.r.cell.2.2.2.1, hv]
  have hh := lt_of_heap p.r.head
  obtain ⟨o, hio⟩ : ∃ o, m.blks[j]? = some o := ⟨_, List.getElem?_eq_getElem hil⟩
  have hoe : m.blks[j] = o := (List.getElem?_eq_some_iff.1 hio).2
  obtain ⟨c0, c1, c2⟩ := hobj j hil
  rw [hoe] at c0 c1 c2
  have hN := p.small
  have hjI : (j : Int) < (N : Int) + 1 := by omega
  have hcl := p.good.count_le j
  -- one less is counted, whatever the world
  have DEC : ∀ {W : World} {m' : HeapM} {s' : St}, HB j h W m' s' c N → ∀ o', m'.blks[j]? = some o' → o'.state = 1 → ∀ g' cap', m'.vB = .slice (some ⟨g', 0, none⟩) (N + 1) cap' →
      ∃ m'', HTurn h W m' (W.setCell ⟨g', j * 3 + 1, none⟩ (.int .i64 (o'.count - 1))) m'' ∧ HB 0 h (W.setCell ⟨g', j * 3 + 1, none⟩ (.int .i64 (o'.count - 1))) m'' s' c N := fun {W m' s'} q o' ho' hs' g' cap' hv' => by
    have t := q.r.flagged q.len hv' j ho' { o' with count := o'.count - 1 } 1 (by decide) (.int .i64 (o'.count - 1)) rfl rfl
    refine ⟨_, t, t.here, ?_, q.good, q.cf, q.small, q.stack, q.globals⟩
    refine q.hs.recount ho' _ (fun _ => ?_) fun i y hne hy hs => ⟨fun e => absurd (by omega) hne, fun e => absurd e (q.hs.pos q.good hy hs)⟩
    have := q.hs.cnt j o' ho' (.inl hs')
    rw [if_pos rfl] at this
    rw [if_neg (q.hs.pos q.good ho' (.inl hs')), this]
    omega
  rcases alive_state p.hs hio ha with ⟨hst, hsk⟩ | ⟨hst, hsk⟩
  · have hct : o.count = s.count j + 1 := by have := p.hs.cnt j o hio (.inl hst); rw [if_pos rfl] at this; exact this
    by_cases h1 : o.count = 1
    · have e : dropS' c.zero s (2, (j : Int)) = s.enter c.zero j := by
        unfold dropS'
        rw [if_pos ⟨rfl, by simpa using hsk, by show s.count j = 0; omega⟩]
      have MR : Hid (Calls Tryz.prog 72 #[.pointer (some ⟨h, 0, none⟩)] w fun e w' => e = .returned (.tuple #[]) ∧ ∃ g' cap', w'.cell? ⟨h, 5, none⟩ = some (.slice (some ⟨g', 0, none⟩) (N + 1) cap') ∧
          w'.cell? ⟨g', j * 3 + 1, none⟩ = some (.int .i64 1) ∧ w'.frozen? ⟨g', j * 3 + 1, none⟩ = false ∧ ∃ m', HTurn h w m (w'.setCell ⟨g', j * 3 + 1, none⟩ (.int .i64 0)) m' ∧ HB 0 h (w'.setCell ⟨g', j * 3 + 1, none⟩ (.int .i64 0)) m' (dropS' c.zero s (2, (j : Int))) c N) := by
        refine (makeRoom_any p).mono ?_
        rintro e' w' ⟨he, m', t, q⟩
        refine ⟨he, ?_⟩
        obtain ⟨g', cap', hv', hg', _, _, hfz', hobj'⟩ := q.r.view q.len
        have hil' : j < m'.blks.length := by rw [q.len]; omega
        have hio' : m'.blks[j]? = some m'.blks[j] := List.getElem?_eq_getElem hil'
        have hob' : (s.enter c.zero j).ob j = (m'.blks[j]).ob := q.ob hio'
        rw [enter_but rfl, p.ob hio] at hob'
        have hst' : (m'.blks[j]).state = 1 := by
          have a1 := congrArg Ob.here hob'
          have a2 := congrArg Ob.stuck hob'
          have a3 := congrArg Ob.queued hob'
          rcases q.hs.state _ (List.getElem_mem hil') with e | e | e | e
          · simp [HObj.ob, hst, e] at a1
          · exact e
          · simp [HObj.ob, hst, e] at a2
          · simp [HObj.ob, hst, e] at a3
        have hct' : (m'.blks[j]).count = 1 := by
          have := q.hs.cnt j _ hio' (.inl hst')
          rw [if_pos rfl, count_enter] at this
          omega
        obtain ⟨m'', t2, q2⟩ := DEC q _ hio' hst' g' cap' hv'
        rw [hct'] at t2 q2
        refine ⟨g', cap', by rw [q.r.cell.2.2.2.1, hv'], by rw [(hobj' j hil').2.1, hct'], hfz' _, m'', t.trans t2, ?_⟩
        rw [e]; exact q2
      rw [hst] at c0
      rw [h1] at c1
      clear p hobj hv hob hfz hio hoe c2 hcl DEC hct e
      go_enter Tryz.func92, Tryz.ntmps92
      go_wp2_with fail
      refine Calls.mono MR.out ?_
      rintro e w1 ⟨rfl, g', cap', d0, d1, d2, hm⟩
      have M : Hid _ := hm
      clear hm MR c0 c1 cB
      go_wp2
      first | go_end0 | refine bodyPost_ret (results_none rfl _ _ _) rfl ?_
      exact ⟨rfl, M.out⟩
    · have e : dropS' c.zero s (2, (j : Int)) = s := by
        unfold dropS'
        rw [if_neg]
        rintro ⟨_, _, h3⟩
        have h3 : s.count j = 0 := h3
        omega
      obtain ⟨m'', t2, q2⟩ := DEC p o hio hst g cap hv
      have M : Hid (∃ m', HTurn h w m (w.setCell ⟨g, j * 3 + 1, none⟩ (.int .i64 (o.count - 1))) m' ∧ HB 0 h (w.setCell ⟨g, j * 3 + 1, none⟩ (.int .i64 (o.count - 1))) m' (dropS' c.zero s (2, (j : Int))) c N) := ⟨m'', t2, by rw [e]; exact q2⟩
      have f1 := hfz (j * 3 + 1)
      have hcs : 1 ≤ o.count ∧ o.count ≤ 401 := by omega
      rw [hst] at c0
      obtain ⟨ct, hctt⟩ : ∃ ct, o.count = ct := ⟨_, rfl⟩
      rw [hctt] at c1 M h1 hcs
      have h72 : (ct == 1) = false := by simpa using h1
      clear p hobj hv hob hfz hio hoe c2 hcl DEC hct e hctt t2 q2
      go_enter Tryz.func92, Tryz.ntmps92
      go_wp2
      first | go_end0 | refine bodyPost_ret (results_none rfl _ _ _) rfl ?_
      exact ⟨rfl, M.out⟩
  · have e : dropS' c.zero s (2, (j : Int)) = s := by
      unfold dropS'
      rw [if_neg]
      rintro ⟨_, h2, _⟩
      rw [Int.toNat_natCast, hsk] at h2; cases h2
    have M : Hid (∃ m', HTurn h w m w m' ∧ HB 0 h w m' (dropS' c.zero s (2, (j : Int))) c N) := by
      rw [e]
      refine ⟨m, .refl p.r, p.r, ?_, p.good, p.cf, p.small, p.stack, p.globals⟩
      refine p.hs.but fun i y hy hs => ⟨fun e => ?_, fun e => absurd e (p.hs.pos p.good hy hs)⟩
      have : i = j := by omega
      subst this
      rw [hio] at hy; cases hy
      rcases hs with e | e <;> omega
    rw [hst] at c0
    clear p hobj hv hob hfz hio hoe c2 hcl DEC e
    go_enter Tryz.func92, Tryz.ntmps92
    go_wp2
    first | go_end0 | refine bodyPost_ret (results_none rfl _ _ _) rfl ?_
    exact ⟨rfl, M.out⟩

end Go.Proofs.YteekoiljkklnmaaGreatDoor

/- OUR OWN. The program's heap: freeBlock, makeObject. -/
namespace Go.Proofs.YteekoiljkklnmaaGreatDoor
open Go.RowKit
set_option linter.unusedVariables false
set_option linter.unusedSimpArgs false

def HRoom (m : HeapM) (N : Nat) (v : Int) : Prop :=
  (v = 0 ∧ ∀ j, j < N → ∃ o, m.blks[j + 1]? = some o ∧ o.state ≠ 0) ∨
  ∃ k : Nat, k < N ∧ v = (k : Int) + 1 ∧ (∃ o, m.blks[k + 1]? = some o ∧ o.state = 0) ∧ ∀ j, j < k → ∃ o, m.blks[j + 1]? = some o ∧ o.state ≠ 0

set_option maxHeartbeats 800000 in
theorem freeBlock_any {w : World} {h : Nat} {m : HeapM} {N : Nat} (r : HeapAt w h m) (hlen : m.blks.length = N + 1) (hN : N ≤ 99) :
    Calls Tryz.prog 71 #[.pointer (some ⟨h, 0, none⟩)] w fun e w' => ∃ v, e = .returned (.int .i64 v) ∧ HRoom m N v ∧ w' = w := by
  obtain ⟨g, cap, hv, _, _, _, _, hobj⟩ := r.view hlen
  have cB : w.cell? ⟨h, 5, none⟩ = some (.slice (some ⟨g, 0, none⟩) (N + 1) cap) := by rw [r.cell.2.2.2.1, hv]
  have OBJ : Hid (∀ j, j < N → ∃ o : HObj, m.blks[j + 1]? = some o ∧ w.cell? ⟨g, (j + 1) * 3, none⟩ = some (.int .i64 o.state)) := fun j hj => by
    have hi : j + 1 < m.blks.length := by rw [hlen]; omega
    exact ⟨m.blks[j + 1], List.getElem?_eq_getElem hi, (hobj (j + 1) hi).1⟩
  clear hobj r hlen hv
  go_enter Tryz.func71, Tryz.ntmps71
  go_wp2
  go_loop [3] (fun i => ∃ j : Nat, j ≤ N ∧ i = .int .i64 (j + 1) ∧ ∀ k, k < j → ∃ o, m.blks[k + 1]? = some o ∧ o.state ≠ 0) (fun i => N + 1 - (intOf i).toNat)
  case atStart => exact ⟨0, Nat.zero_le _, rfl, fun k hk => absurd hk (Nat.not_lt_zero _)⟩
  case round =>
    obtain ⟨j, hj, rfl, hall⟩ := hrel
    have A : Hid (∀ k, k < j → ∃ o, m.blks[k + 1]? = some o ∧ o.state ≠ 0) := hall
    clear hall
    by_cases hlt : j < N
    · obtain ⟨o, ho, c0⟩ := OBJ.out j hlt
      obtain ⟨st, ct, vF, fs⟩ := o
      simp only at c0
      have HO : Hid (m.blks[j + 1]? = some ⟨st, ct, vF, fs⟩) := ho
      clear ho
      by_cases h0 : st = 0
      · subst h0
        go_wp2
        go_ret
        exact ⟨_, rfl, .inr ⟨j, hlt, rfl, ⟨_, HO.out, rfl⟩, A.out⟩, rfl⟩
      · have h1 : (st == 0) = false := by simpa using h0
        go_wp2
        go_round
        case rel =>
          refine ⟨j + 1, by omega, by go_num, fun k hk => ?_⟩
          by_cases hkj : k = j
          · subst hkj; exact ⟨_, HO.out, h0⟩
          · exact A.out k (by omega)
        case measure => simp [intOf]; omega
    · obtain rfl : j = N := by omega
      go_wp2
      go_ret
      exact ⟨_, rfl, .inl ⟨rfl, A.out⟩, rfl⟩

theorem free_iff {s : St} {k : Nat} (h : free? s = some k) : k + 1 < s.objs.length ∧ (s.ob (k + 1)).here = false ∧ ∀ j, j < k → (s.ob (j + 1)).here = true := by
  unfold free? at h
  obtain ⟨hk, h1, h2⟩ := List.findIdx?_eq_some_iff_getElem.1 h
  rw [List.length_tail] at hk
  refine ⟨by omega, ?_, fun j hj => ?_⟩
  · rw [ob_of (List.getElem?_eq_getElem (by omega))]
    simpa using h1
  · have := h2 j hj
    rw [ob_of (List.getElem?_eq_getElem (by omega))]
    simpa using this

/-- The three cells of a block that gets an object. -/
def layBlk (w : World) (g i : Nat) (o : HObj) : World := ((w.setCell ⟨g, i * 3, none⟩ (.int .i64 o.state)).setCell ⟨g, i * 3 + 1, none⟩ (.int .i64 o.count)).setCell ⟨g, i * 3 + 2, none⟩ o.vF

theorem hflat_set3 (l : List HObj) (i : Nat) (o o' : HObj) (h : l[i]? = some o) :
    (l.set i o').flatMap HObj.cells = (((l.flatMap HObj.cells).set (i * 3) (.int .i64 o'.state)).set (i * 3 + 1) (.int .i64 o'.count)).set (i * 3 + 2) o'.vF := by
  have hl : i < l.length := (List.getElem?_eq_some_iff.1 h).1
  have e1 := flat_set HObj.cells 3 (fun _ => rfl) l i 0 (by decide) o (.int .i64 o'.state) h { o with state := o'.state } rfl
  have h1 : (l.set i { o with state := o'.state })[i]? = some { o with state := o'.state } := by simp [hl]
  have e2 := flat_set HObj.cells 3 (fun _ => rfl) _ i 1 (by decide) _ (.int .i64 o'.count) h1 { o with state := o'.state, count := o'.count } rfl
  rw [List.set_set] at e2
  have h2 : (l.set i { o with state := o'.state, count := o'.count })[i]? = some { o with state := o'.state, count := o'.count } := by simp [hl]
  have e3 := flat_set HObj.cells 3 (fun _ => rfl) _ i 2 (by decide) _ o'.vF h2 o' rfl
  rw [List.set_set] at e3
  rw [e3, e2, e1, Nat.add_zero]

theorem hput_rows (m : HeapM) (i : Nat) (o : HObj) : (m.put i o).rows = (m.rows.set (4 + i) o.row).set 2 ⟨88, 3, m.vB, (m.blks.set i o).length, (m.blks.set i o).flatMap HObj.cells⟩ := by
  simp only [HeapM.rows, HeapM.put, show 4 + i = i + 1 + 1 + 1 + 1 by omega, List.set_cons_succ, List.set_cons_zero, List.map_set]
theorem hrow_at (m : HeapM) (i : Nat) {o : HObj} (hi : m.blks[i]? = some o) : m.rows[4 + i]? = some o.row := by
  simp only [HeapM.rows, show 4 + i = i + 1 + 1 + 1 + 1 by omega, List.getElem?_cons_succ, List.getElem?_map, hi]; rfl

theorem HeapAt.placed {w w1 : World} {h : Nat} {m : HeapM} {N : Nat} (r : HeapAt w h m) (hlen : m.blks.length = N + 1) (hb : Below w.heap.size w w1) {g cap : Nat} (hv : m.vB = .slice (some ⟨g, 0, none⟩) (N + 1) cap) (i : Nat) {o0 : HObj} (hi : m.blks[i]? = some o0) (o : HObj)
    (ho : o.row.At w1) (hg : ∀ b, o.vF.ownBlock = some b → w.heap.size ≤ b) : HTurn h w m (layBlk w1 g i o) (m.put i o) := by
  have hob : m.vB.ownBlock = some g := by rw [hv]; rfl
  have hmem0 : (⟨88, 3, m.vB, m.blks.length, m.blks.flatMap HObj.cells⟩ : SRow) ∈ m.rows := by simp [HeapM.rows]
  have hgh : g ≠ h := fun e => r.ne hmem0 (by rw [← e]; exact hob)
  obtain ⟨R1, F1⟩ := r.rowsAt.set (hrow_at m i hi) o.row ho (fun b hbb => .inr (hg b hbb)) (fun k hk _ _ => hb.block k hk) hb.size
  have hlay : ∀ k, k ≠ g → (layBlk w1 g i o).heap[k]? = w1.heap[k]? := fun k hk => by unfold layBlk; rw [hso hk, hso hk, hso hk]
  have hsz : (layBlk w1 g i o).heap.size = w1.heap.size := by unfold layBlk; simp [World.setCell]
  have h0 : (m.rows.set (4 + i) o.row)[2]? = some ⟨88, 3, m.vB, m.blks.length, m.blks.flatMap HObj.cells⟩ := by
    simp [HeapM.rows, show 4 + i = i + 1 + 1 + 1 + 1 by omega]
  have hblk : (⟨88, 3, m.vB, (m.blks.set i o).length, (m.blks.set i o).flatMap HObj.cells⟩ : SRow).At (layBlk w1 g i o) := by
    show (layBlk w1 g i o).ownsRow 0 _ 3 m.vB (m.blks.set i o).length _
    rw [List.length_set, hflat_set3 m.blks i o0 o hi]
    have hb0 : w1.ownsRow 0 88 3 m.vB m.blks.length (m.blks.flatMap HObj.cells) := own_carry r.blocks fun j hj => hb.block j (own_lt r.blocks hj).2
    rw [hv, hlen] at hb0 ⊢
    unfold layBlk
    exact (((hb0.stored _ _).1.stored _ _).1.stored _ _).1
  obtain ⟨R2, F2⟩ := R1.set h0 _ hblk (fun b hbb => .inl hbb) (fun k _ _ h2 => hlay k (fun e => h2 (by rw [e]; exact hob))) (by rw [hsz]; exact Nat.le_refl _)
  rw [← hput_rows] at R2 F2
  refine ⟨R2.heapAt ?_, fun b hbb => ?_, ⟨?_, ?_, ?_, ?_, ?_⟩⟩
  · rw [hlay h (fun e => hgh e.symm), hb.block h (lt_of_heap r.head)]; exact r.head
  · rw [← hrows_foot] at hbb ⊢
    rcases F2 b hbb with e | e
    · exact F1 b e
    · have := hb.size; exact .inr (by omega)
  · exact hb.os
  · exact hb.tape
  · exact hb.output
  · rw [hsz]; exact hb.size
  · intro k hk hF
    have hkg : k ≠ g := fun e => hF (by rw [e, ← hrows_foot]; exact List.mem_cons_of_mem _ (List.mem_filterMap.2 ⟨_, hmem0, hob⟩))
    rw [hlay k hkg, hb.block k hk]

set_option maxHeartbeats 400000 in
theorem hnew_index {w : World} {h : Nat} (n : Int) (hn : n < 0 ∨ 4 < n) :
    Calls Tryz.prog 40 #[.pointer (some ⟨h, 0, none⟩), .int .i64 n] w fun e w' => e = .returned (.int .i64 6) ∧ w' = w := by
  rcases hn with hn | hn
  · go_enter Tryz.func40, Tryz.ntmps40
    go_wp2
    go_ret
    exact ⟨rfl, rfl⟩
  · have h0 : ¬ n < 0 := by omega
    go_enter Tryz.func40, Tryz.ntmps40
    go_wp2
    go_ret
    exact ⟨rfl, rfl⟩

set_option maxHeartbeats 400000 in
theorem hnew_deep {w : World} {h : Nat} {m : HeapM} (r : HeapAt w h m) (n : Int) (h0 : 0 ≤ n) (h4 : n ≤ 4) (hd : m.room ≤ m.stack.length) :
    Calls Tryz.prog 40 #[.pointer (some ⟨h, 0, none⟩), .int .i64 n] w fun e w' => e = .returned (.int .i64 7) ∧ Below w.heap.size w w' := by
  have D : Hid (Calls Tryz.prog 70 #[.pointer (some ⟨h, 0, none⟩)] w fun e w' => e = .returned (.bool true) ∧ Below w.heap.size w w') := (isDeep_any r).mono fun e w' ⟨h1, h2⟩ => ⟨h1.trans (ret_bool (by simpa using hd)), h2⟩
  clear r hd
  go_enter Tryz.func40, Tryz.ntmps40
  go_wp2_with fail
  refine Calls.mono D.out ?_
  rintro e w1 ⟨rfl, hb⟩
  have B : Hid (Below w.heap.size w w1) := hb
  clear hb D
  go_wp2
  go_ret
  exact ⟨rfl, B.out⟩

theorem alloc_setCell {w : World} {ob : Obj} {g i : Nat} {v : Value} (h : g < w.heap.size) : (w.alloc ob).setCell ⟨g, i, none⟩ v = (w.setCell ⟨g, i, none⟩ v).alloc ob := by
  have e : ((w.alloc ob).setCell ⟨g, i, none⟩ v).heap = ((w.setCell ⟨g, i, none⟩ v).alloc ob).heap := by
    apply Array.ext_getElem?
    intro k
    by_cases hk : k < w.heap.size
    · rw [hao (by simpa [World.setCell] using hk)]
      by_cases hg : k = g
      · subst hg
        simp only [World.setCell, Array.getElem?_modify]
        rw [show (w.alloc ob).heap[k]? = w.heap[k]? from hao hk]
      · rw [hso hg, hso hg, hao hk]
    · rw [hso (by omega)]
      have e1 : (w.alloc ob).heap = w.heap.push ob := rfl
      have e2 : ((w.setCell ⟨g, i, none⟩ v).alloc ob).heap = (w.setCell ⟨g, i, none⟩ v).heap.push ob := rfl
      have e3 : (w.setCell ⟨g, i, none⟩ v).heap.size = w.heap.size := by simp [World.setCell]
      rw [e1, e2, Array.getElem?_push, Array.getElem?_push, e3]
      split
      · rfl
      · rw [Array.getElem?_eq_none (by omega), Array.getElem?_eq_none (by rw [e3]; omega)]
  have key : ∀ a b : World, a.heap = b.heap → a.tape = b.tape → a.drawn = b.drawn → a.os = b.os → a.output = b.output → a = b := fun a b h1 h2 h3 h4 h5 => by
    cases a; cases b
    simp only at h1 h2 h3 h4 h5
    subst h1 h2 h3 h4 h5
    rfl
  exact key _ _ e rfl rfl rfl rfl

/-- a new object is laid into the free block b -/
theorem HSb.lay {m : HeapM} {s : St} {c : Cf} {N : Nat} (p : HSb 0 m s c N) (g : s.Good N) {b n : Nat} {o0 : HObj} (hi : m.blks[b]? = some o0) (h0 : o0.state = 0) (h1 : 1 ≤ b) (v : Value) : HSb 0 (m.put b ⟨1, 0, v, List.replicate n (0, 0)⟩) (s.put b (newOb n)) c N := by
  have ho : s.ob b = o0.ob := by rw [← p.st]; exact hst_ob hi
  have hb : (s.ob b).here = false := by rw [ho]; simp [HObj.ob, h0]
  have hl : b < s.objs.length := by rw [← p.st]; simpa [HeapM.st] using (List.getElem?_eq_some_iff.1 hi).1
  refine ⟨?_, p.deep, p.zero, p.over, fun y hy => ?_, fun i y hy hs => ?_⟩
  · rw [hput_st, p.st]; rfl
  · rcases List.mem_or_eq_of_mem_set hy with e | e
    · exact p.state y e
    · subst e; exact .inr (.inl rfl)
  · have hc : (s.put b (newOb n)).count i = s.count i := count_lay g hb hl h1 i
    rw [hc]
    rcases set_get hy with ⟨rfl, rfl⟩ | ⟨_, e⟩
    · have : s.count i = 0 := g.count_gone fun ha => by have := ha.1; rw [hb] at this; cases this
      rw [this, if_neg (by omega)]; rfl
    · exact p.cnt i y e hs

set_option maxHeartbeats 1600000 in
theorem hnew_room {h N : Nat} {w : World} {m : HeapM} {s : St} {c : Cf} (p : HB 0 h w m s c N) (n : Nat) (hn : n ≤ 4) (hd : (s.stack.length : Int) < c.deep) (k : Nat) (hk : free? s = some k) :
    Calls Tryz.prog 40 #[.pointer (some ⟨h, 0, none⟩), .int .i64 n] w
      fun e w' => e = .returned (.int .i64 0) ∧ ∃ m', HTurn h w m w' m' ∧ HS m' (layS c.zero s (k + 1) n) c N := by
  obtain ⟨hkl, hkf, hkt⟩ := free_iff hk
  have hkN : k < N := by rw [p.good.len] at hkl; omega
  have hN := p.small
  have hdm : (m.stack.length : Int) < m.room := by rw [p.mstack, p.hs.deep]; exact hd
  have stOf : ∀ {W : World} {mm : HeapM} {ss : St} {j : Nat} {o : HObj}, HB 0 h W mm ss c N → mm.blks[j]? = some o → (ss.ob j).here = decide (o.state ≠ 0) := fun q ho => by rw [q.ob ho]; rfl
  have D : Hid (Calls Tryz.prog 70 #[.pointer (some ⟨h, 0, none⟩)] w fun e w' => e = .returned (.bool false) ∧ Below w.heap.size w w') := (isDeep_any p.r).mono fun e w' ⟨h1, h2⟩ => ⟨h1.trans (ret_bool (by simp; omega)), h2⟩
  have ROOM : Hid (∀ W, Below w.heap.size w W → Calls Tryz.prog 71 #[.pointer (some ⟨h, 0, none⟩)] W fun e w' => e = .returned (.int .i64 ((k : Int) + 1)) ∧ w' = W) := by
    intro W hb
    refine (freeBlock_any (p.below hb).r p.len hN).mono ?_
    rintro e w' ⟨v, rfl, hs, rfl⟩
    refine ⟨?_, rfl⟩
    rcases hs with ⟨_, hs⟩ | ⟨k', hk', rfl, ⟨o1, ho1, hf1⟩, hs⟩
    · obtain ⟨o, ho, ht⟩ := hs k hkN
      rw [stOf p ho] at hkf; simp at hkf; exact absurd hkf ht
    · have : k' = k := by
        rcases Nat.lt_trichotomy k' k with e | e | e
        · have := hkt k' e
          rw [stOf p ho1] at this; simp at this; exact absurd hf1 this
        · exact e
        · obtain ⟨o, ho, ht⟩ := hs k e
          rw [stOf p ho] at hkf; simp at hkf; exact absurd hkf ht
      rw [this]
  have MR : Hid (∀ W, Below w.heap.size w W → Calls Tryz.prog 72 #[.pointer (some ⟨h, 0, none⟩)] W fun e w2 => e = .returned (.tuple #[]) ∧ ∃ g cap u0 u1 u2, h < w2.heap.size ∧ g < w2.heap.size ∧
      w2.cell? ⟨h, 5, none⟩ = some (.slice (some ⟨g, 0, none⟩) (N + 1) cap) ∧ w2.cell? ⟨g, (k + 1) * 3, none⟩ = some u0 ∧ w2.cell? ⟨g, (k + 1) * 3 + 1, none⟩ = some u1 ∧ w2.cell? ⟨g, (k + 1) * 3 + 2, none⟩ = some u2 ∧
      w2.frozen? ⟨g, (k + 1) * 3, none⟩ = false ∧ w2.frozen? ⟨g, (k + 1) * 3 + 1, none⟩ = false ∧ w2.frozen? ⟨g, (k + 1) * 3 + 2, none⟩ = false ∧
      Calls Tryz.prog 39 #[.pointer (some ⟨h, 0, none⟩), .agg #[.int .i64 2, .int .i64 ((k : Int) + 1)]] ((((w2.setCell ⟨g, (k + 1) * 3, none⟩ (.int .i64 1)).setCell ⟨g, (k + 1) * 3 + 1, none⟩ (.int .i64 0)).setCell ⟨g, (k + 1) * 3 + 2, none⟩ (.slice (some ⟨w2.heap.size, 0, none⟩) n n)).alloc (.cells (madeCells #[.int .i64 0, .int .i64 0] (n * 2)) 81)).drew
        fun e w' => e = .returned (.int .i64 0) ∧ ∃ m', HTurn h w m w' m' ∧ HS m' (layS c.zero s (k + 1) n) c N) := by
    intro W hb
    refine (makeRoom_any (p.below hb)).mono ?_
    rintro e w2 ⟨he, m2, t, q⟩
    refine ⟨he, ?_⟩
    obtain ⟨g, cap, hv, hg, _, _, hfz, hobj⟩ := q.r.view q.len
    have hil : k + 1 < m2.blks.length := by rw [q.len]; omega
    have hio : m2.blks[k + 1]? = some m2.blks[k + 1] := List.getElem?_eq_getElem hil
    obtain ⟨c0, c1, c2⟩ := hobj (k + 1) hil
    have hst0 : (m2.blks[k + 1]).state = 0 := by
      have h1 := stOf q hio
      rw [(sh_enter c.zero 0 s).2 (k + 1), hkf] at h1
      simpa using h1.symm
    refine ⟨g, cap, _, _, _, lt_of_heap q.r.head, hg, by rw [q.r.cell.2.2.2.1, hv], c0, c1, c2, hfz _, hfz _, hfz _, ?_⟩
    have hb1 : Below w2.heap.size w2 (w2.alloc (.cells (madeCells #[.int .i64 0, .int .i64 0] (n * 2)) 81)) := (Below.refl _ _).alloc (Nat.le_refl _) _
    have t3 := q.r.placed q.len hb1 hv (k + 1) hio ⟨1, 0, .slice (some ⟨w2.heap.size, 0, none⟩) n n, List.replicate n (0, 0)⟩ (by
      show (World.alloc _ _).ownsRow 0 _ 2 _ (List.replicate n ((0, 0) : Int × Int)).length _
      have := own_made_two w2 81 (.int .i64 0) (.int .i64 0) n (by omega)
      simpa [HObj.row, hrow, flat_rep, valCells] using this) (fun b hbb => by
      have : b = w2.heap.size := by simpa [Value.ownBlock, eq_comm] using hbb
      omega)
    have hs3 := q.hs.lay (n := n) q.good hio hst0 (by omega) (.slice (some ⟨w2.heap.size, 0, none⟩) n n)
    have g3 := q.good.laid (n := n) (by rw [stOf q hio, hst0]; simp) (by rw [q.good.len]; omega) (by omega : 1 ≤ k + 1) hn
    have hes := enter_same c.zero 0 s
    have q3 : HB 0 h _ _ ((s.enter c.zero 0).put (k + 1) (newOb n)) c N := ⟨t3.drew.here, hs3, g3, p.cf, p.small, q.stack, q.globals⟩
    have hms : (m2.put (k + 1) ⟨1, 0, .slice (some ⟨w2.heap.size, 0, none⟩) n n, List.replicate n (0, 0)⟩).stack = s.stack := q3.mstack.trans hes.1
    have ew : layBlk (w2.alloc (.cells (madeCells #[.int .i64 0, .int .i64 0] (n * 2)) 81)) g (k + 1) ⟨1, 0, .slice (some ⟨w2.heap.size, 0, none⟩) n n, List.replicate n (0, 0)⟩ =
        ((((w2.setCell ⟨g, (k + 1) * 3, none⟩ (.int .i64 1)).setCell ⟨g, (k + 1) * 3 + 1, none⟩ (.int .i64 0)).setCell ⟨g, (k + 1) * 3 + 2, none⟩ (.slice (some ⟨w2.heap.size, 0, none⟩) n n)).alloc (.cells (madeCells #[.int .i64 0, .int .i64 0] (n * 2)) 81)) := by
      unfold layBlk
      simp only
      rw [alloc_setCell hg, alloc_setCell (by simpa [World.setCell] using hg), alloc_setCell (by simpa [World.setCell] using hg)]
    rw [ew] at t3 q3
    refine (hpush_room q3.r (by rw [hms]; exact p.stack) (2, (k : Int) + 1) (by rw [hms, q3.hs.deep]; exact hd)).mono ?_
    rintro e w' ⟨he, v', t4⟩
    refine ⟨he, _, (HTurn.pre p.r hb (t.trans t3.drew)).trans t4, ?_⟩
    have hs4 := q3.hs
    refine ⟨?_, hs4.deep, hs4.zero, hs4.over, hs4.state, fun i o hio hst => ?_⟩
    · unfold layS
      rw [show (⟨true, List.replicate n (0, 0), false, false⟩ : Ob) = newOb n from rfl, lay_enter p.good c.zero hkf hkl (by omega), ← hs4.st]
      show (⟨_, _, _, _⟩ : St) = ⟨_, _, _, _⟩
      rw [hms]
      rfl
    · have := hs4.cnt i o hio hst
      have ec : (layS c.zero s (k + 1) n).count i = ((s.enter c.zero 0).put (k + 1) (newOb n)).count i := by
        unfold layS
        rw [show (⟨true, List.replicate n (0, 0), false, false⟩ : Ob) = newOb n from rfl, lay_enter p.good c.zero hkf hkl (by omega)]
        rfl
      rw [ec]; exact this
  have hnI : ¬ (n : Int) < 0 := by omega
  have hn4 : ¬ (4 : Int) < n := by omega
  have hk0 : ((k : Int) + 1 == 0) = false := by simp; omega
  have hk1 : ¬ ((k : Int) + 1 = 0) := by omega
  have hkI : (k : Int) + 1 < (N : Int) + 1 := by omega
  have mk1 := run_make_two (P := Tryz.prog) 73 81 (.int .i64 0) (.int .i64 0) 16 Tryz.underlying73 infoValue .i64 .i64 n (by omega) (by omega)
  obtain ⟨tgt, htgt⟩ : ∃ t : St, layS c.zero s (k + 1) n = t := ⟨_, rfl⟩
  rw [htgt] at MR ⊢
  clear p stOf hk hkl hkf hkt htgt hd hdm
  go_enter Tryz.func40, Tryz.ntmps40
  go_wp2_with fail
  refine Calls.mono D.out ?_
  rintro e w1 ⟨rfl, hb⟩
  have B : Hid (Below w.heap.size w w1) := hb
  clear hb D
  go_wp2_with fail
  refine Calls.mono (ROOM.out _ B.out) ?_
  rintro e w2 ⟨rfl, hw2⟩
  subst hw2
  clear ROOM
  go_wp2_with fail
  refine Calls.mono (MR.out _ B.out) ?_
  rintro e w3 ⟨rfl, g, cap, u0, u1, u2, hh, hg, a0, a1, a2, a3, f1, f2, f3, hpush⟩
  have PU : Hid _ := hpush
  clear hpush MR B
  have al : ∀ (ob : Obj) (b o : Nat), b < w3.heap.size → (w3.alloc ob).cell? ⟨b, o, none⟩ = w3.cell? ⟨b, o, none⟩ := fun ob b o hlt => World.cell?_of_block (hao hlt)
  have t0 : ∀ ob, (w3.alloc ob).cell? ⟨h, 5, none⟩ = w3.cell? ⟨h, 5, none⟩ := fun ob => al ob h 5 hh
  have t1 : ∀ ob, (w3.alloc ob).cell? ⟨g, (k + 1) * 3, none⟩ = w3.cell? ⟨g, (k + 1) * 3, none⟩ := fun ob => al ob g _ hg
  have t2 : ∀ ob, (w3.alloc ob).cell? ⟨g, (k + 1) * 3 + 1, none⟩ = w3.cell? ⟨g, (k + 1) * 3 + 1, none⟩ := fun ob => al ob g _ hg
  have t3 : ∀ ob, (w3.alloc ob).cell? ⟨g, (k + 1) * 3 + 2, none⟩ = w3.cell? ⟨g, (k + 1) * 3 + 2, none⟩ := fun ob => al ob g _ hg
  have z1 : ∀ ob, (w3.alloc ob).frozen? ⟨g, (k + 1) * 3, none⟩ = w3.frozen? ⟨g, (k + 1) * 3, none⟩ := fun ob => World.frozen?_of_block (hao hg)
  have z2 : ∀ ob, (w3.alloc ob).frozen? ⟨g, (k + 1) * 3 + 1, none⟩ = w3.frozen? ⟨g, (k + 1) * 3 + 1, none⟩ := fun ob => World.frozen?_of_block (hao hg)
  have z3 : ∀ ob, (w3.alloc ob).frozen? ⟨g, (k + 1) * 3 + 2, none⟩ = w3.frozen? ⟨g, (k + 1) * 3 + 2, none⟩ := fun ob => World.frozen?_of_block (hao hg)
  clear al
  go_wp2_with fail
  go_region
  all_goals go_wp2_with fail
  all_goals refine Calls.mono PU.out ?_
  all_goals rintro e w4 ⟨rfl, hm⟩
  all_goals have M : Hid _ := hm
  all_goals clear hm
  all_goals go_wp2
  all_goals go_ret
  all_goals exact ⟨rfl, M.out⟩

end Go.Proofs.YteekoiljkklnmaaGreatDoor

/- OUR OWN. The program's heap: setField, store. -/
namespace Go.Proofs.YteekoiljkklnmaaGreatDoor
open Go.RowKit
set_option linter.unusedVariables false
set_option linter.unusedSimpArgs false

theorem HeapAt.fieldSet {w : World} {h : Nat} {m : HeapM} (r : HeapAt w h m) (i : Nat) {o : HObj} (hi : m.blks[i]? = some o) {g cap : Nat} (hv : o.vF = .slice (some ⟨g, 0, none⟩) o.fs.length cap) (k : Nat) (hk : k < o.fs.length) (x : Int × Int) :
    HTurn h w m ((w.setCell ⟨g, k * 2, none⟩ (.int .i64 x.1)).setCell ⟨g, k * 2 + 1, none⟩ (.int .i64 x.2)) (m.put i { o with fs := o.fs.set k x }) := by
  have hob : o.vF.ownBlock = some g := by rw [hv]; rfl
  have hmem : o.row ∈ m.rows := by simp only [HeapM.rows, List.mem_cons, List.mem_map]; exact .inr (.inr (.inr (.inr ⟨o, List.mem_of_getElem? hi, rfl⟩)))
  have hgh : g ≠ h := fun e => r.ne hmem (by rw [← e]; exact hob)
  refine r.turn (4 + i) o.row ({ o with fs := o.fs.set k x } : HObj).row (hrow_at m i hi) ?_ ?_ ?_ ?_ ?_
  · rw [hput_rows, flat_same HObj.cells m.blks i o { o with fs := o.fs.set k x } hi rfl, List.length_set]
    simp only [HeapM.rows, show 4 + i = i + 1 + 1 + 1 + 1 by omega, List.set_cons_succ, List.set_cons_zero]
  · rw [hso (fun e => hgh e.symm), hso (fun e => hgh e.symm)]; exact r.head
  · show (World.setCell _ _ _).ownsRow 0 _ 2 o.vF (o.fs.set k x).length ((o.fs.set k x).flatMap valCells)
    have hik : o.fs[k]? = some o.fs[k] := List.getElem?_eq_getElem hk
    have e1 := flat_set valCells 2 (fun _ => rfl) o.fs k 0 (by decide) _ (.int .i64 x.1) hik (x.1, (o.fs[k]).2) rfl
    have h1 : (o.fs.set k (x.1, (o.fs[k]).2))[k]? = some (x.1, (o.fs[k]).2) := by simp [hk]
    have e2 := flat_set valCells 2 (fun _ => rfl) _ k 1 (by decide) _ (.int .i64 x.2) h1 x rfl
    rw [List.set_set, e1] at e2
    rw [List.length_set, e2, Nat.add_zero]
    have hb := r.fields o (List.mem_of_getElem? hi)
    rw [hv] at hb ⊢
    exact ((hb.stored _ _).1.stored _ _).1
  · intro j hj
    exact .inl hj
  · have hm : ∀ y ∈ [g], y ∈ h :: o.row.ob.toList := fun y hy => by simp at hy; subst hy; exact List.mem_cons_of_mem _ (by simp [SRow.ob, HObj.row, hrow, hob])
    exact ((off_setCell w g _ _).mono hm).trans ((off_setCell _ g _ _).mono hm)

def refTo (v : Int × Int) : Int := if v.1 = 2 then v.2 else 0
theorem getD_of {l : List (Int × Int)} {k : Nat} (hk : k < l.length) : l.getD k (0, 0) = l[k] := by rw [List.getD_eq_getElem?_getD, List.getElem?_eq_getElem hk]; rfl

/-- the field has the new value; the old one is still counted -/
theorem HSb.field {m : HeapM} {s1 : St} {c : Cf} {N : Nat} {x : Int × Int} (g1 : s1.Good N) (p : HSb (refTo x) m s1 c N) {i k : Nat} {o : HObj} (hi : m.blks[i]? = some o) (hk : k < o.fs.length) :
    HSb (refTo ((s1.ob i).fs.getD k (0, 0))) (m.put i { o with fs := o.fs.set k x }) (s1.field i k x) c N := by
  have ho : s1.ob i = o.ob := by rw [← p.st]; exact hst_ob hi
  have hk1 : k < (s1.ob i).fs.length := by rw [ho]; exact hk
  refine ⟨?_, p.deep, p.zero, p.over, fun y hy => ?_, fun j y hy hs => ?_⟩
  · rw [hput_st, p.st]
    unfold St.field
    have : ({ o with fs := o.fs.set k x } : HObj).ob = { s1.ob i with fs := (s1.ob i).fs.set k x } := by rw [ho]; rfl
    rw [this]
  · rcases List.mem_or_eq_of_mem_set hy with e | e
    · exact p.state y e
    · subst e; exact p.state o (List.mem_of_getElem? hi)
  · have hcf := count_field g1 hk1 x (j : Int)
    have key : ∀ (ob : HObj), m.blks[j]? = some ob → ob.state = 1 ∨ ob.state = 3 → ob.count = (s1.field i k x).count j + if (j : Int) = refTo ((s1.ob i).fs.getD k (0, 0)) then 1 else 0 := fun ob hob hst => by
      have h0 := p.pos g1 hob hst
      have h1 := p.cnt j ob hob hst
      have ex : (if (j : Int) = refTo x then (1 : Int) else 0) = (isRef x j : Int) := by
        unfold refTo isRef
        by_cases e : x.1 = 2
        · rw [if_pos e]
          by_cases e2 : x.2 = j
          · rw [if_pos e2.symm, if_pos ⟨e, e2⟩]; rfl
          · rw [if_neg (fun h => e2 h.symm), if_neg (fun h => e2 h.2)]; rfl
        · rw [if_neg e, if_neg h0, if_neg (fun h => e h.1)]; rfl
      have ey : (if (j : Int) = refTo ((s1.ob i).fs.getD k (0, 0)) then (1 : Int) else 0) = (isRef ((s1.ob i).fs.getD k (0, 0)) j : Int) := by
        unfold refTo isRef
        by_cases e : ((s1.ob i).fs.getD k (0, 0)).1 = 2
        · rw [if_pos e]
          by_cases e2 : ((s1.ob i).fs.getD k (0, 0)).2 = j
          · rw [if_pos e2.symm, if_pos ⟨e, e2⟩]; rfl
          · rw [if_neg (fun h => e2 h.symm), if_neg (fun h => e2 h.2)]; rfl
        · rw [if_neg e, if_neg h0, if_neg (fun h => e h.1)]; rfl
      rw [h1, ex, ey]
      omega
    rcases set_get hy with ⟨rfl, rfl⟩ | ⟨_, e⟩
    · exact key o hi hs
    · exact key y e hs

theorem leads_alive {s : St} {v : Int × Int} (h : s.leads v) (h1 : v.1 = 2) : ∃ j : Nat, v = (2, (j : Int)) ∧ s.alive j := by
  obtain ⟨j, hj, ha⟩ := leads_ref h h1
  exact ⟨j, by rw [← hj, ← h1], ha⟩
theorem hobj_ref {h : Nat} {w : World} {m m' : HeapM} {W w' : World} {but : Int} {s : St} {c : Cf} {N : Nat} (p : HB but h w m s c N) (hb : Below w.heap.size w W) (t : HTurn h W m w' m') (L : Nat) (ob : Obj) (hL : w.heap.size ≤ L) (hW : W.heap[L]? = some ob) : w'.heap[L]? = some ob := hturn_local p.pre hb hW hL t

/-- what is known ahead of the field's store -/
def StoreAt (h i k N : Nat) (w : World) (x : Int × Int) (W w2 : World) (P : World → Prop) : Prop :=
  ∃ g capB fg fl fc u v, w2.cell? ⟨h, 5, none⟩ = some (.slice (some ⟨g, 0, none⟩) (N + 1) capB) ∧ w2.cell? ⟨g, i * 3 + 2, none⟩ = some (.slice (some ⟨fg, 0, none⟩) fl fc) ∧ k < fl ∧ w2.cell? ⟨fg, k * 2, none⟩ = some (.int .i64 u) ∧ w2.cell? ⟨fg, k * 2 + 1, none⟩ = some (.int .i64 v) ∧
    w2.frozen? ⟨fg, k * 2, none⟩ = false ∧ w2.frozen? ⟨fg, k * 2 + 1, none⟩ = false ∧
    (∀ L ob, w.heap.size ≤ L → W.heap[L]? = some ob → w2.heap[L]? = some ob) ∧
    ∀ w3, w3 = (w2.setCell ⟨fg, k * 2, none⟩ (.int .i64 x.1)).setCell ⟨fg, k * 2 + 1, none⟩ (.int .i64 x.2) → (∀ L ob, w.heap.size ≤ L → W.heap[L]? = some ob → w3.heap[L]? = some ob) ∧ P w3

/-- what setField's calls do -/
structure SetEnv (h i k N : Nat) (w : World) (x y : Int × Int) (Done : World → Prop) : Prop where
  same : y = x → ∀ W, Below w.heap.size w W → Done W
  count : ¬ y = x → x.1 = 2 → ∀ W, Below w.heap.size w W → Calls Tryz.prog 91 #[.pointer (some ⟨h, 0, none⟩), .int .i64 x.2] W fun e w2 => e = .returned (.tuple #[]) ∧
    StoreAt h i k N w x W w2 fun w3 => ∀ W3, Below w3.heap.size w3 W3 → (¬ y.1 = 2 → Done W3) ∧ (y.1 = 2 → Calls Tryz.prog 92 #[.pointer (some ⟨h, 0, none⟩), .int .i64 y.2] W3 fun e w4 => e = .returned (.tuple #[]) ∧ Done w4)
  plain : ¬ y = x → ¬ x.1 = 2 → ∀ W, Below w.heap.size w W → StoreAt h i k N w x W W fun w3 => ∀ W3, Below w3.heap.size w3 W3 → (¬ y.1 = 2 → Done W3) ∧ (y.1 = 2 → Calls Tryz.prog 92 #[.pointer (some ⟨h, 0, none⟩), .int .i64 y.2] W3 fun e w4 => e = .returned (.tuple #[]) ∧ Done w4)

theorem set_env {h : Nat} {w : World} {m : HeapM} {s : St} {c : Cf} {N : Nat} (p : HB 0 h w m s c N) (i k : Nat) (x : Int × Int) (hk : k < (s.ob i).fs.length) (hx : s.leads x) :
    SetEnv h i k N w x ((s.ob i).fs.getD k (0, 0)) fun W => ∃ m', HTurn h w m W m' ∧ HB 0 h W m' (putS c s i k x ((s.ob i).fs.getD k (0, 0))) c N := by
  have hh : (s.ob i).here = true := by
    cases e : (s.ob i).here with
    | true => rfl
    | false => rw [p.good.gone i e] at hk; simp [Ob.free] at hk
  obtain ⟨hi1, hiN⟩ := p.good.ne_zero hh
  obtain ⟨y, hy⟩ : ∃ y, (s.ob i).fs.getD k (0, 0) = y := ⟨_, rfl⟩
  have hyl : s.leads y := by rw [← hy]; exact leads_getD (p.good.fields i) k
  -- behind the count: the field, then the old value's
  have MID : ¬ y = x → ∀ W w2 m2, Below w.heap.size w W → HTurn h W m w2 m2 → HB (refTo x) h w2 m2 (stickS c.over s x) c N →
      StoreAt h i k N w x W w2 fun w3 => ∀ W3, Below w3.heap.size w3 W3 → (¬ y.1 = 2 → ∃ m', HTurn h w m W3 m' ∧ HB 0 h W3 m' (putS c s i k x y) c N) ∧ (y.1 = 2 → Calls Tryz.prog 92 #[.pointer (some ⟨h, 0, none⟩), .int .i64 y.2] W3 fun e w4 => e = .returned (.tuple #[]) ∧ ∃ m', HTurn h w m w4 m' ∧ HB 0 h w4 m' (putS c s i k x y) c N) := by
    intro hne W w2 m2 hb t q
    have ho1 : ((stickS c.over s x).ob i).fs = (s.ob i).fs := by
      unfold stickS
      split
      · rename_i hc
        obtain ⟨j, hj, ha⟩ := leads_alive hx hc.1
        rw [hj]
        unfold St.stick
        rw [Int.toNat_natCast, ob_put _ i (here_lt ha.1)]
        split
        · rename_i e; rw [e]
        · rfl
      · rfl
    obtain ⟨o, hio⟩ : ∃ o, m2.blks[i]? = some o := ⟨_, List.getElem?_eq_getElem (by rw [q.len]; omega)⟩
    have hof : o.fs = (s.ob i).fs := by rw [← ho1, q.ob hio]; rfl
    have hko : k < o.fs.length := by rw [hof]; exact hk
    obtain ⟨g, capB, fg, fc, hvB, hvF, hg, hfg, cB, c1, y0, y1, f0, f1⟩ := q.pre.facts i o hio k hko
    refine ⟨g, capB, fg, _, fc, _, _, cB, c1, hko, y0, y1, f0, f1, fun L ob hL hW => hobj_ref p hb t L ob hL hW, ?_⟩
    rintro w3 rfl
    have t3 := q.r.fieldSet i hio hvF k hko x
    have t23 := t.trans t3
    refine ⟨fun L ob hL hW => hobj_ref p hb t23 L ob hL hW, fun W3 hb3 => ?_⟩
    have hs3 := q.hs.field q.good hio hko
    rw [ho1, hy] at hs3
    obtain ⟨gs, ls⟩ := p.good.stickS c.over hx
    have g3 : ((stickS c.over s x).field i k x).Good N := gs.setField i k (ls x hx)
    have q3 : HB (refTo y) h W3 _ ((stickS c.over s x).field i k x) c N := ⟨(t3.after hb3).here, hs3, g3, p.cf, p.small, q.stack, q.globals⟩
    have T3 : HTurn h w m W3 _ := (HTurn.pre p.r hb t23).after hb3
    have e : putS c s i k x y = dropS' c.zero ((stickS c.over s x).field i k x) y := by
      unfold putS
      rw [if_neg (fun h => hne h.2)]
    rw [e]
    refine ⟨fun h2 => ?_, fun h2 => ?_⟩
    · have e2 : dropS' c.zero ((stickS c.over s x).field i k x) y = (stickS c.over s x).field i k x := by
        unfold dropS'
        rw [if_neg (fun h => h2 h.1)]
      rw [e2]
      have e3 : refTo y = 0 := by unfold refTo; rw [if_neg h2]
      rw [e3] at q3
      exact ⟨_, T3, q3⟩
    · obtain ⟨j, hj, ha⟩ := leads_alive hyl h2
      have e3 : refTo y = (j : Int) := by rw [hj]; rfl
      rw [e3] at q3
      have ha3 : ((stickS c.over s x).field i k x).alive j := by
        have a1 : (stickS c.over s x).alive j := by
          unfold stickS
          split
          · exact (alive_put (s := s) (i := x.2.toNat) (o := { s.ob x.2.toNat with stuck := true }) rfl rfl j).2 ha
          · exact ha
        exact (alive_put (s := stickS c.over s x) (i := i) (o := { (stickS c.over s x).ob i with fs := ((stickS c.over s x).ob i).fs.set k x }) rfl rfl j).2 a1
      rw [hj]
      refine (uncountField_any j q3 ha3).mono ?_
      rintro e w4 ⟨he, m4, t4, q4⟩
      exact ⟨he, m4, T3.trans t4, q4⟩
  rw [hy]
  refine ⟨fun e W hb => ?_, fun hne h2 W hb => ?_, fun hne h2 W hb => ?_⟩
  · have e2 : putS c s i k x y = s := by
      unfold putS
      by_cases hx2 : x.1 = 2
      · rw [if_pos ⟨hx2, e⟩]
      · rw [if_neg (fun h => hx2 h.1)]
        have s1 : stickS c.over s x = s := by unfold stickS; rw [if_neg (fun h => hx2 h.1)]
        have s2 : s.field i k x = s := by
          unfold St.field St.put
          have hl := here_lt hh
          have e3 : (s.ob i).fs.set k x = (s.ob i).fs := by
            rw [← e, ← hy, getD_of hk]; exact List.set_getElem_self hk
          rw [e3]
          have e4 : s.objs.set i (s.ob i) = s.objs := by
            have : s.ob i = s.objs[i] := ob_of (List.getElem?_eq_getElem hl)
            rw [this]; exact List.set_getElem_self hl
          rw [show ({ s.ob i with fs := (s.ob i).fs } : Ob) = s.ob i from rfl, e4]
        rw [s1, s2]
        unfold dropS'
        rw [if_neg (fun h => hx2 (by rw [← e]; exact h.1))]
    rw [e2]
    exact ⟨m, .of_below p.r hb, p.below hb⟩
  · obtain ⟨j, hj, ha⟩ := leads_alive hx h2
    have pW := p.below hb
    rw [show x.2 = (j : Int) by rw [hj]]
    refine (countField_any pW j ha).mono ?_
    rintro e w2 ⟨he, m2, t, q⟩
    rw [← hj] at q
    exact ⟨he, MID hne W w2 m2 hb t (by rw [show refTo x = (j : Int) by rw [hj]; rfl]; exact q)⟩
  · have s1 : stickS c.over s x = s := by unfold stickS; rw [if_neg (fun h => h2 h.1)]
    have e3 : refTo x = 0 := by unfold refTo; rw [if_neg h2]
    exact MID hne W W m hb (.refl (p.below hb).r) (by rw [s1, e3]; exact p.below hb)

/-- what setField's loads find -/
structure SetCells (h i k N : Nat) (w : World) (y : Int × Int) (g capB fg fl fc : Nat) : Prop where
  cB : w.cell? ⟨h, 5, none⟩ = some (.slice (some ⟨g, 0, none⟩) (N + 1) capB)
  c1 : w.cell? ⟨g, i * 3 + 2, none⟩ = some (.slice (some ⟨fg, 0, none⟩) fl fc)
  y0 : w.cell? ⟨fg, k * 2, none⟩ = some (.int .i64 y.1)
  y1 : w.cell? ⟨fg, k * 2 + 1, none⟩ = some (.int .i64 y.2)
  hh : h < w.heap.size
  hg : g < w.heap.size
  hf : fg < w.heap.size
  hi : i ≤ N
  hN : N ≤ 99
  hk : k < fl
  hfl : fl ≤ 4

set_option maxHeartbeats 4000000 in
theorem setField_core (h i k N : Nat) (w : World) (x y : Int × Int) (g capB fg fl fc : Nat) (C : SetCells h i k N w y g capB fg fl fc) (Done : World → Prop) (E : SetEnv h i k N w x y Done) :
    Calls Tryz.prog 76 #[.pointer (some ⟨h, 0, none⟩), .int .i64 i, .int .i64 k, .agg #[.int .i64 x.1, .int .i64 x.2]] w fun e w' => e = .returned (.tuple #[]) ∧ Done w' := by
  obtain ⟨cB, c1, y0, y1, hh, hg, hf, hi, hN, hk, hfl⟩ := C
  have SV : Hid (∀ W, Calls Tryz.prog 77 #[.agg #[.int .i64 y.1, .int .i64 y.2], .agg #[.int .i64 x.1, .int .i64 x.2]] W fun e w' => e = .returned (.bool (decide (y = x))) ∧ Below W.heap.size W w') := sameValue_any y x
  have EE : Hid _ := E
  have hiI : (i : Int) < (N : Int) + 1 := by omega
  have hkI : (k : Int) < fl := by omega
  clear E
  obtain ⟨x1, x2⟩ := x
  obtain ⟨y1', y2'⟩ := y
  simp only at y0 y1
  have al : ∀ (ob : Obj) (b o : Nat), b < w.heap.size → (w.alloc ob).cell? ⟨b, o, none⟩ = w.cell? ⟨b, o, none⟩ := fun ob b o hlt => World.cell?_of_block (hao hlt)
  have t0 : ∀ ob, (w.alloc ob).cell? ⟨h, 5, none⟩ = w.cell? ⟨h, 5, none⟩ := fun ob => al ob h 5 hh
  have t1 : ∀ ob, (w.alloc ob).cell? ⟨g, i * 3 + 2, none⟩ = w.cell? ⟨g, i * 3 + 2, none⟩ := fun ob => al ob g _ hg
  have t2 : ∀ ob, (w.alloc ob).cell? ⟨fg, k * 2, none⟩ = w.cell? ⟨fg, k * 2, none⟩ := fun ob => al ob fg _ hf
  have t3 : ∀ ob, (w.alloc ob).cell? ⟨fg, k * 2 + 1, none⟩ = w.cell? ⟨fg, k * 2 + 1, none⟩ := fun ob => al ob fg _ hf
  clear al
  go_enter Tryz.func76, Tryz.ntmps76
  go_wp2_with fail
  refine Calls.mono (SV.out _) ?_
  rintro e w1 ⟨rfl, hb⟩
  have B1 : Hid (Below w.heap.size w w1 ∧ w1.heap[w.heap.size]? = some (.cells #[.int .i64 x1, .int .i64 x2] 81) ∧ w1.heap[w.heap.size + 1]? = some (.cells #[.int .i64 y1', .int .i64 y2'] 81)) := by
    refine ⟨(((Below.refl _ _).alloc (Nat.le_refl _) _).alloc (by simp) _).trans (hb.mono (by simp; omega)), ?_, ?_⟩
    · rw [hb.block _ (by simp; omega), hao (by simp)]; exact heap_alloc_new w _
    · have := boxed' hb
      simpa using this
  have p0 : w1.cell? ⟨w.heap.size, 0, none⟩ = some (.int .i64 x1) := cell_of_heap B1.out.2.1 rfl
  have p1 : w1.cell? ⟨w.heap.size, 1, none⟩ = some (.int .i64 x2) := cell_of_heap B1.out.2.1 rfl
  have o0' : w1.cell? ⟨w.heap.size + 1, 0, none⟩ = some (.int .i64 y1') := cell_of_heap B1.out.2.2 rfl
  clear hb SV t0 t1 t2 t3 cB c1 y0 y1
  by_cases hxy : ((y1', y2') : Int × Int) = (x1, x2)
  · have F : Hid (Done w1) := EE.out.same hxy w1 B1.out.1
    have hd : decide (((y1', y2') : Int × Int) = (x1, x2)) = true := by simpa using hxy
    rw [hd]
    clear hxy hd
    go_wp2
    first | go_end0 | refine bodyPost_ret (results_none rfl _ _ _) rfl ?_
    exact ⟨rfl, F.out⟩
  · have hd : decide (((y1', y2') : Int × Int) = (x1, x2)) = false := by simpa using hxy
    rw [hd]
    clear hd
    by_cases hx : x1 = 2
    · subst hx
      have C : Hid _ := EE.out.count hxy rfl w1 B1.out.1
      clear EE
      by_cases hy : y1' = 2
      · subst hy
        clear hxy
        go_wp2_with fail
        refine Calls.mono C.out ?_
        rintro e w2 ⟨rfl, ST⟩
        clear C p0 p1 o0'
        obtain ⟨g', capB', fg', fl', fc', u', v', d0, d1, hk', d2, d3, f0, f1, hloc, h3⟩ := ST
        have hkI' : (k : Int) < fl' := by omega
        have l0 := hloc _ _ (Nat.le_refl _) B1.out.2.1
        have v0 : w2.cell? ⟨w.heap.size, 0, none⟩ = some (.int .i64 2) := cell_of_heap l0 rfl
        have v1 : w2.cell? ⟨w.heap.size, 1, none⟩ = some (.int .i64 x2) := cell_of_heap l0 rfl
        obtain ⟨w3, hw3⟩ : ∃ w3, (w2.setCell ⟨fg', k * 2, none⟩ (.int .i64 2)).setCell ⟨fg', k * 2 + 1, none⟩ (.int .i64 x2) = w3 := ⟨_, rfl⟩
        obtain ⟨hloc3, h4⟩ := h3 w3 hw3.symm
        have l3 := hloc3 _ _ (Nat.le_succ _) B1.out.2.2
        have o0 : w3.cell? ⟨w.heap.size + 1, 0, none⟩ = some (.int .i64 2) := cell_of_heap l3 rfl
        have o1 : w3.cell? ⟨w.heap.size + 1, 1, none⟩ = some (.int .i64 y2') := cell_of_heap l3 rfl
        have H4 : Hid _ := h4
        have E3 : Hid _ := hw3
        clear hloc h3 hloc3 h4 l0 l3 hw3
        go_wp2_with fail
        go_region
        all_goals rw [E3.out]
        all_goals go_wp2_with fail
        all_goals refine Calls.mono ((H4.out _ (Below.refl _ _).drew).2 (by first | rfl | trivial)) ?_
        all_goals rintro e w4 ⟨rfl, hd⟩
        all_goals have D : Hid _ := hd
        all_goals clear hd
        all_goals go_wp2
        all_goals (first | go_end0 | refine bodyPost_ret (results_none rfl _ _ _) rfl ?_)
        all_goals exact ⟨rfl, D.out⟩
      · have hy2 : (y1' == 2) = false := by simpa using hy
        clear hxy
        go_wp2_with fail
        refine Calls.mono C.out ?_
        rintro e w2 ⟨rfl, ST⟩
        clear C p0 p1 o0'
        obtain ⟨g', capB', fg', fl', fc', u', v', d0, d1, hk', d2, d3, f0, f1, hloc, h3⟩ := ST
        have hkI' : (k : Int) < fl' := by omega
        have l0 := hloc _ _ (Nat.le_refl _) B1.out.2.1
        have v0 : w2.cell? ⟨w.heap.size, 0, none⟩ = some (.int .i64 2) := cell_of_heap l0 rfl
        have v1 : w2.cell? ⟨w.heap.size, 1, none⟩ = some (.int .i64 x2) := cell_of_heap l0 rfl
        obtain ⟨w3, hw3⟩ : ∃ w3, (w2.setCell ⟨fg', k * 2, none⟩ (.int .i64 2)).setCell ⟨fg', k * 2 + 1, none⟩ (.int .i64 x2) = w3 := ⟨_, rfl⟩
        obtain ⟨hloc3, h4⟩ := h3 w3 hw3.symm
        have l3 := hloc3 _ _ (Nat.le_succ _) B1.out.2.2
        have o0 : w3.cell? ⟨w.heap.size + 1, 0, none⟩ = some (.int .i64 y1') := cell_of_heap l3 rfl
        have o1 : w3.cell? ⟨w.heap.size + 1, 1, none⟩ = some (.int .i64 y2') := cell_of_heap l3 rfl
        have H4 : Hid _ := h4
        have E3 : Hid _ := hw3
        clear hloc h3 hloc3 h4 l0 l3 hw3
        go_wp2_with fail
        go_region
        all_goals rw [E3.out]
        all_goals have D : Hid _ := (H4.out _ (Below.refl _ _).drew).1 hy
        all_goals go_wp2
        all_goals (first | go_end0 | refine bodyPost_ret (results_none rfl _ _ _) rfl ?_)
        all_goals exact ⟨rfl, D.out⟩
    · have hx2 : (x1 == 2) = false := by simpa using hx
      have ST := EE.out.plain hxy hx w1 B1.out.1
      clear EE
      by_cases hy : y1' = 2
      · subst hy
        clear hxy hx p0 p1 o0'
        obtain ⟨g', capB', fg', fl', fc', u', v', d0, d1, hk', d2, d3, f0, f1, hloc, h3⟩ := ST
        have hkI' : (k : Int) < fl' := by omega
        have l0 := hloc _ _ (Nat.le_refl _) B1.out.2.1
        have v0 : w1.cell? ⟨w.heap.size, 0, none⟩ = some (.int .i64 x1) := cell_of_heap l0 rfl
        have v1 : w1.cell? ⟨w.heap.size, 1, none⟩ = some (.int .i64 x2) := cell_of_heap l0 rfl
        obtain ⟨w3, hw3⟩ : ∃ w3, (w1.setCell ⟨fg', k * 2, none⟩ (.int .i64 x1)).setCell ⟨fg', k * 2 + 1, none⟩ (.int .i64 x2) = w3 := ⟨_, rfl⟩
        obtain ⟨hloc3, h4⟩ := h3 w3 hw3.symm
        have l3 := hloc3 _ _ (Nat.le_succ _) B1.out.2.2
        have o0 : w3.cell? ⟨w.heap.size + 1, 0, none⟩ = some (.int .i64 2) := cell_of_heap l3 rfl
        have o1 : w3.cell? ⟨w.heap.size + 1, 1, none⟩ = some (.int .i64 y2') := cell_of_heap l3 rfl
        have H4 : Hid _ := h4
        have E3 : Hid _ := hw3
        clear hloc h3 hloc3 h4 l0 l3 hw3
        go_wp2_with fail
        go_region
        all_goals rw [E3.out]
        all_goals go_wp2_with fail
        all_goals refine Calls.mono ((H4.out _ (Below.refl _ _).drew).2 (by first | rfl | trivial)) ?_
        all_goals rintro e w4 ⟨rfl, hd⟩
        all_goals have D : Hid _ := hd
        all_goals clear hd
        all_goals go_wp2
        all_goals (first | go_end0 | refine bodyPost_ret (results_none rfl _ _ _) rfl ?_)
        all_goals exact ⟨rfl, D.out⟩
      · have hy2 : (y1' == 2) = false := by simpa using hy
        clear hxy hx p0 p1 o0'
        obtain ⟨g', capB', fg', fl', fc', u', v', d0, d1, hk', d2, d3, f0, f1, hloc, h3⟩ := ST
        have hkI' : (k : Int) < fl' := by omega
        have l0 := hloc _ _ (Nat.le_refl _) B1.out.2.1
        have v0 : w1.cell? ⟨w.heap.size, 0, none⟩ = some (.int .i64 x1) := cell_of_heap l0 rfl
        have v1 : w1.cell? ⟨w.heap.size, 1, none⟩ = some (.int .i64 x2) := cell_of_heap l0 rfl
        obtain ⟨w3, hw3⟩ : ∃ w3, (w1.setCell ⟨fg', k * 2, none⟩ (.int .i64 x1)).setCell ⟨fg', k * 2 + 1, none⟩ (.int .i64 x2) = w3 := ⟨_, rfl⟩
        obtain ⟨hloc3, h4⟩ := h3 w3 hw3.symm
        have l3 := hloc3 _ _ (Nat.le_succ _) B1.out.2.2
        have o0 : w3.cell? ⟨w.heap.size + 1, 0, none⟩ = some (.int .i64 y1') := cell_of_heap l3 rfl
        have o1 : w3.cell? ⟨w.heap.size + 1, 1, none⟩ = some (.int .i64 y2') := cell_of_heap l3 rfl
        have H4 : Hid _ := h4
        have E3 : Hid _ := hw3
        clear hloc h3 hloc3 h4 l0 l3 hw3
        go_wp2_with fail
        go_region
        all_goals rw [E3.out]
        all_goals have D : Hid _ := (H4.out _ (Below.refl _ _).drew).1 hy
        all_goals go_wp2
        all_goals (first | go_end0 | refine bodyPost_ret (results_none rfl _ _ _) rfl ?_)
        all_goals exact ⟨rfl, D.out⟩

theorem setField_any {h : Nat} {w : World} {m : HeapM} {s : St} {c : Cf} {N : Nat} (p : HB 0 h w m s c N) (i k : Nat) (x : Int × Int) (hk : k < (s.ob i).fs.length) (hx : s.leads x) :
    Calls Tryz.prog 76 #[.pointer (some ⟨h, 0, none⟩), .int .i64 i, .int .i64 k, .agg #[.int .i64 x.1, .int .i64 x.2]] w fun e w' => e = .returned (.tuple #[]) ∧
      ∃ m', HTurn h w m w' m' ∧ HB 0 h w' m' (putS c s i k x ((s.ob i).fs.getD k (0, 0))) c N := by
  have hh : (s.ob i).here = true := by
    cases e : (s.ob i).here with
    | true => rfl
    | false => rw [p.good.gone i e] at hk; simp [Ob.free] at hk
  obtain ⟨hi1, hiN⟩ := p.good.ne_zero hh
  obtain ⟨o, hio⟩ : ∃ o, m.blks[i]? = some o := ⟨_, List.getElem?_eq_getElem (by rw [p.len]; omega)⟩
  have hof : o.fs = (s.ob i).fs := by rw [p.ob hio]; rfl
  have hko : k < o.fs.length := by rw [hof]; exact hk
  obtain ⟨g, capB, fg, fc, hvB, hvF, hg, hfg, cB, c1, y0, y1, f0, f1⟩ := p.pre.facts i o hio k hko
  have hy : o.fs[k] = (s.ob i).fs.getD k (0, 0) := by
    rw [← hof, getD_of hko]
  have h4 := p.good.four i
  exact setField_core h i k N w x _ g capB fg o.fs.length fc ⟨cB, c1, by rw [y0, hy], by rw [y1, hy], lt_of_heap p.r.head, hg, hfg, hiN, p.small, hko, by rw [hof]; exact h4⟩ _ (set_env p i k x hk hx)

end Go.Proofs.YteekoiljkklnmaaGreatDoor

/- OUR OWN. The program's heap: store; what an operation's parts do, as the document's state. -/
namespace Go.Proofs.YteekoiljkklnmaaGreatDoor
open Go.RowKit
set_option linter.unusedVariables false
set_option linter.unusedSimpArgs false

def HDone (h N : Nat) (w : World) (m : HeapM) (c : Cf) (r : St × Int × Int) (e : Ending) (w' : World) : Prop := e = .returned (.int .i64 r.2.2) ∧ ∃ m', HTurn h w m w' m' ∧ HS m' r.1 c N
def HDone2 (h N : Nat) (w : World) (m : HeapM) (c : Cf) (r : St × Int × Int) (e : Ending) (w' : World) : Prop := e = .returned (.tuple #[.int .i64 r.2.1, .int .i64 r.2.2]) ∧ ∃ m', HTurn h w m w' m' ∧ HS m' r.1 c N

/-- the blocks are as they were: so are the counts -/
theorem HStep.hs {h N : Nat} {w w' : World} {m m' : HeapM} {s : St} {c : Cf} (a : HStep h N w m w' m') (p : HSb 0 m s c N) {t : St} (ht : m'.st = t) : HS m' t c N := by
  have hr := a.rest
  unfold HeapM.rest at hr
  simp only [Prod.mk.injEq] at hr
  obtain ⟨h1, h2, h3, h4, h5⟩ := hr
  refine ⟨ht, h1.trans p.deep, h2.trans p.zero, h3.trans p.over, by rw [h4]; exact p.state, fun i o hi hs => ?_⟩
  rw [h4] at hi
  rw [p.cnt i o hi hs]
  have : t.count i = s.count i := by
    unfold St.count
    rw [← ht, ← p.st]
    unfold HeapM.st
    simp only
    rw [h4]
  rw [this]
theorem HDid.done {h N : Nat} {w w' : World} {m : HeapM} {s : St} {c : Cf} {r : St × Int × Int} {e : Ending} (p : HSb 0 m s c N) (d : HDid h N w m r e w') : HDone h N w m c r e w' := by
  obtain ⟨he, m', hs, hm⟩ := d
  exact ⟨he, m', hs.turn, hs.hs p hm⟩
theorem HDid2.done {h N : Nat} {w w' : World} {m : HeapM} {s : St} {c : Cf} {r : St × Int × Int} {e : Ending} (p : HSb 0 m s c N) (d : HDid2 h N w m r e w') : HDone2 h N w m c r e w' := by
  obtain ⟨he, m', hs, hm⟩ := d
  exact ⟨he, m', hs.turn, hs.hs p hm⟩

theorem new_done {h N : Nat} {w : World} {m : HeapM} {s : St} {c : Cf} (p : HB 0 h w m s c N) (n : Int) (hfree : ∃ k, free? s = some k) :
    Calls Tryz.prog 40 #[.pointer (some ⟨h, 0, none⟩), .int .i64 n] w (HDone h N w m c (newS c s n)) := by
  by_cases h1 : n < 0 ∨ 4 < n
  · have e : newS c s n = (s, 0, 6) := by unfold newS; exact if_pos h1
    rw [e]
    exact (hnew_index n h1).mono fun e w' ⟨he, hw⟩ => ⟨he, m, by rw [hw]; exact .refl p.r, p.hs⟩
  by_cases h2 : c.deep ≤ s.stack.length
  · have e : newS c s n = (s, 0, 7) := by unfold newS; exact (if_neg h1).trans (if_pos h2)
    rw [e]
    exact (hnew_deep p.r n (by omega) (by omega) (by rw [p.hs.deep, p.mstack]; exact h2)).mono fun e w' ⟨he, hb⟩ => ⟨he, m, .of_below p.r hb, p.hs⟩
  obtain ⟨k, hk⟩ := hfree
  obtain ⟨j, rfl⟩ : ∃ j : Nat, n = j := ⟨n.toNat, by omega⟩
  have e : newS c s j = (layS c.zero s (k + 1) j, 0, 0) := by
    unfold newS
    refine (if_neg h1).trans ((if_neg h2).trans ?_)
    rw [room_of_free hk, hk, Int.toNat_natCast]
  rw [e]
  exact (hnew_room p j (by omega) (by omega) k hk).mono fun e w' ⟨he, m', ht, hs⟩ => ⟨he, m', ht, hs⟩

theorem HB.of_step {h N : Nat} {w w' : World} {m m' : HeapM} {s t : St} {c : Cf} (p : HB 0 h w m s c N) (a : HStep h N w m w' m') (ht : m'.st = t) (g : t.Good N) : HB 0 h w' m' t c N :=
  ⟨a.turn.here, a.hs p.hs ht, g, p.cf, p.small, by have := a.ok.stack; rw [← ht]; exact this, by have := a.ok.globals; rw [← ht]; exact this⟩

set_option maxHeartbeats 1600000 in
theorem store_done {h N : Nat} {w : World} {m : HeapM} {s : St} {c : Cf} (p : HB 0 h w m s c N) (n : Int) :
    Calls Tryz.prog 46 #[.pointer (some ⟨h, 0, none⟩), .int .i64 n] w (HDone h N w m c (storeS c s n)) := by
  obtain ⟨ao, cap, cS⟩ := p.pre.stackCell
  have hl := p.pre.ok.stack
  have hms := p.mstack
  by_cases hc : m.stack.length < 2
  · have e : storeS c s n = (s, 0, 3) := by unfold storeS; exact if_pos (by rw [← hms]; exact hc)
    rw [e]
    have K : Hid (∃ m', HTurn h w m w m' ∧ HS m' s c N) := ⟨m, .refl p.r, p.hs⟩
    obtain ⟨len, hlen⟩ : ∃ len, m.stack.length = len := ⟨_, rfl⟩
    rw [hlen] at hc cS hl
    clear p hlen e hms
    have hcI : (len : Int) < 2 := by omega
    go_enter Tryz.func46, Tryz.ntmps46
    go_wp2
    go_ret
    exact ⟨rfl, K.out⟩
  have hst := p.hs.st
  have hcs : ¬ s.stack.length < 2 := by rw [← hms]; exact hc
  have D0 : Hid _ := hdown_do p.pre 0 (by omega)
  have D1 : Hid (∀ W, Below w.heap.size w W → Calls Tryz.prog 73 #[.pointer (some ⟨h, 0, none⟩), .int .i64 1] W fun e w' => e = .returned (.agg #[.int .i64 (m.st.down 1).1, .int .i64 (m.st.down 1).2]) ∧ Below W.heap.size W w') := fun W hb => hdown_do (p.pre.below hb) 1 (by show 1 < m.stack.length; omega)
  have K : Hid (∀ W, Below w.heap.size w W → ∃ m', HTurn h w m W m' ∧ HS m' s c N) := fun W hb => ⟨m, .of_below p.r hb, p.hs⟩
  have hv := p.pre.inv.down 1
  have CK : Hid (∀ W, Below w.heap.size w W → Calls Tryz.prog 75 #[.pointer (some ⟨h, 0, none⟩), .agg #[.int .i64 (m.st.down 1).1, .int .i64 (m.st.down 1).2], .int .i64 n] W fun e w' => e = .returned (.int .i64 (fieldErr m.st (m.st.down 1) n)) ∧ Below W.heap.size W w') := fun W hb => checkField_any h N W m (p.pre.below hb) _ n hv
  rw [hst] at D0 D1 CK hv
  have hcI0 : ¬ (m.stack.length : Int) < 2 := by omega
  by_cases he : fieldErr s (s.down 1) n ≠ 0
  · rw [storeS_err hcs he]
    obtain ⟨len, hlen⟩ : ∃ len, m.stack.length = len := ⟨_, rfl⟩
    rw [hlen] at cS hcI0 hl
    obtain ⟨er, her⟩ : ∃ er, fieldErr s (s.down 1) n = er := ⟨_, rfl⟩
    rw [her] at he CK ⊢
    obtain ⟨x, hx⟩ : ∃ x, s.down 0 = x := ⟨_, rfl⟩
    rw [hx] at D0
    obtain ⟨q, hq⟩ : ∃ q, s.down 1 = q := ⟨_, rfl⟩
    rw [hq] at D1 CK
    obtain ⟨x1, x2⟩ := x
    obtain ⟨q1, q2⟩ := q
    have he2 : (er == 0) = false := by simpa using he
    clear p hlen hx hq hv her hc hms hst hcs
    go_enter Tryz.func46, Tryz.ntmps46
    go_wp2_with fail
    refine Calls.mono D0.out ?_
    rintro e w1 ⟨rfl, hb⟩
    have B : Hid (Below w.heap.size w w1) := hb
    clear hb D0
    go_wp2_with fail
    refine Calls.mono (D1.out _ (B.out.alloc B.out.size _)) ?_
    rintro e w2 ⟨rfl, hb⟩
    have B2 : Hid (Below w.heap.size w w2) := (B.out.alloc B.out.size _).trans (hb.mono (by simp; have := B.out.size; omega))
    clear hb D1
    go_wp2_with fail
    refine Calls.mono (CK.out _ (B2.out.alloc B2.out.size _)) ?_
    rintro e w3 ⟨rfl, hb⟩
    have B3 : Hid (Below w.heap.size w w3) := (B2.out.alloc B2.out.size _).trans (hb.mono (by simp; have := B2.out.size; omega))
    clear hb CK
    go_wp2
    go_ret
    exact ⟨rfl, K.out _ B3.out⟩
  have he : fieldErr s (s.down 1) n = 0 := by omega
  obtain ⟨ho, hn0, hnl⟩ := field_ok he
  obtain ⟨k, rfl⟩ : ∃ k : Nat, n = k := ⟨n.toNat, by omega⟩
  obtain ⟨hq1, hq2⟩ := ref_of hv ho
  obtain ⟨i, hi⟩ : ∃ i : Nat, (s.down 1).2 = i := ⟨(s.down 1).2.toNat, by omega⟩
  have hkf : k < (s.ob i).fs.length := by
    have : s.fields (s.down 1).2 = (s.ob i).fs := by unfold St.fields; rw [hi, Int.toNat_natCast]
    rw [this] at hnl; omega
  have e : storeS c s k = (putS c (s.pop 2) i k (s.down 0) (((s.pop 2).ob i).fs.getD k (0, 0)), 0, 0) := by
    unfold storeS
    refine (if_neg hcs).trans ((if_neg (by omega)).trans ((if_neg (by omega)).trans ?_))
    unfold St.fields
    rw [hi, Int.toNat_natCast, Int.toNat_natCast]
    rfl
  rw [e]
  have AFTER : Hid (∀ W, Below w.heap.size w W → Calls Tryz.prog 74 #[.pointer (some ⟨h, 0, none⟩), .int .i64 2] W fun e w' => e = .returned (.tuple #[]) ∧
      (∀ L ob, w.heap.size ≤ L → W.heap[L]? = some ob → w'.heap[L]? = some ob) ∧
      Calls Tryz.prog 76 #[.pointer (some ⟨h, 0, none⟩), .int .i64 i, .int .i64 k, .agg #[.int .i64 (s.down 0).1, .int .i64 (s.down 0).2]] w' fun e w2 => e = .returned (.tuple #[]) ∧
        ∃ m', HTurn h w m w2 m' ∧ HS m' (putS c (s.pop 2) i k (s.down 0) (((s.pop 2).ob i).fs.getD k (0, 0))) c N) := by
    intro W hb
    refine (hpop_do (p.pre.below hb) 2 (by omega) (by omega)).mono ?_
    rintro e w' ⟨he, v', hs⟩
    have s1 : HStep h N w m w' _ := (HStep.of_below p.pre hb).trans hs
    have q := p.of_step s1 (t := s.pop 2) (by
      unfold St.pop
      rw [← hst]
      rfl) (p.good.pop 2)
    refine ⟨he, fun L ob hL hW => hturn_local p.pre hb hW hL hs.turn, ?_⟩
    refine (setField_any q i k (s.down 0) hkf (p.good.down 0)).mono ?_
    rintro e w2 ⟨he, m', t, q2⟩
    exact ⟨he, m', s1.turn.trans t, q2.hs⟩
  rw [he] at CK
  obtain ⟨tgt, htgt⟩ : ∃ t : St, putS c (s.pop 2) i k (s.down 0) (((s.pop 2).ob i).fs.getD k (0, 0)) = t := ⟨_, rfl⟩
  rw [htgt] at AFTER ⊢
  obtain ⟨len, hlen⟩ : ∃ len, m.stack.length = len := ⟨_, rfl⟩
  rw [hlen] at cS hcI0 hl
  obtain ⟨x, hx⟩ : ∃ x, s.down 0 = x := ⟨_, rfl⟩
  rw [hx] at D0 AFTER
  obtain ⟨q, hq⟩ : ∃ q, s.down 1 = q := ⟨_, rfl⟩
  rw [hq] at D1 CK hi
  obtain ⟨x1, x2⟩ := x
  obtain ⟨q1, q2⟩ := q
  simp only at hi
  subst hi
  clear p hlen e hx hq hv he K hc hn0 hnl ho hkf htgt hms hst hcs hq1 hq2
  go_enter Tryz.func46, Tryz.ntmps46
  go_wp2_with fail
  refine Calls.mono D0.out ?_
  rintro e w1 ⟨rfl, hb⟩
  have B : Hid (Below w.heap.size w w1) := hb
  clear hb D0
  go_wp2_with fail
  refine Calls.mono (D1.out _ (B.out.alloc B.out.size _)) ?_
  rintro e w2 ⟨rfl, hb⟩
  have B2 : Hid (Below w.heap.size w w2 ∧ w1.heap.size + 1 ≤ w2.heap.size ∧ w2.heap[w1.heap.size]? = some (.cells #[.int .i64 x1, .int .i64 x2] 81)) := ⟨(B.out.alloc B.out.size _).trans (hb.mono (by simp; have := B.out.size; omega)), by have := hb.size; simpa using this, boxed' hb⟩
  clear hb D1
  go_wp2_with fail
  refine Calls.mono (CK.out _ (B2.out.1.alloc B2.out.1.size _)) ?_
  rintro e w3 ⟨rfl, hb⟩
  have B3 : Hid (Below w.heap.size w w3 ∧ w3.heap[w2.heap.size]? = some (.cells #[.int .i64 q1, .int .i64 i] 81) ∧ w3.heap[w1.heap.size]? = some (.cells #[.int .i64 x1, .int .i64 x2] 81)) :=
    ⟨(B2.out.1.alloc B2.out.1.size _).trans (hb.mono (by simp; have := B2.out.1.size; omega)), boxed' hb, by
      have h1 := B2.out.2.1
      rw [hb.block _ (by simp; omega), hao (by omega)]; exact B2.out.2.2⟩
  clear hb CK
  go_wp2_with fail
  refine Calls.mono (AFTER.out _ B3.out.1) ?_
  rintro e w4 ⟨rfl, hloc, hset⟩
  have l0 := hloc _ _ B.out.size B3.out.2.2
  have l1 := hloc _ _ B2.out.1.size B3.out.2.1
  have v0 : w4.cell? ⟨w1.heap.size, 0, none⟩ = some (.int .i64 x1) := cell_of_heap l0 rfl
  have v1 : w4.cell? ⟨w1.heap.size, 1, none⟩ = some (.int .i64 x2) := cell_of_heap l0 rfl
  have u1 : w4.cell? ⟨w2.heap.size, 1, none⟩ = some (.int .i64 i) := cell_of_heap l1 rfl
  have S : Hid _ := hset
  clear hset hloc AFTER B B2 B3 l0 l1
  go_wp2_with fail
  refine Calls.mono S.out ?_
  rintro e w5 ⟨rfl, hm⟩
  have M : Hid _ := hm
  clear hm S
  go_wp2
  go_ret
  exact ⟨rfl, M.out⟩

end Go.Proofs.YteekoiljkklnmaaGreatDoor

