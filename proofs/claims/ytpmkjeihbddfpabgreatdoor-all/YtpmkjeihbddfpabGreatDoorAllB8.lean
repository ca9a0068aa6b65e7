import Derived.Test.YtpmkjeihbddfpabGreatDoorAllB7
import Derived.Laws.Concat
import Derived.Laws.IdiomStrings
/- OUR OWN. The document's numbers, as they are written. -/
namespace Go.Proofs.YtpmkjeihbddfpabGreatDoor
open Go.RowKit
set_option linter.unusedVariables false
set_option linter.unusedSimpArgs false

theorem conv_digit (w : World) (b : Nat) :
    (convert 98 9 (.slice (some ⟨w.heap.size, 0, none⟩) 1 1)).run Tryz.prog (w.alloc (.cells #[.int .u8 (48 + (b : Int) % 10)] 5)) = .ok (.string ⟨[48 + UInt8.ofNat (b % 10)].toArray⟩) (w.alloc (.cells #[.int .u8 (48 + (b : Int) % 10)] 5)) := by
  refine run_convert_bytes_back (P := Tryz.prog) (w.alloc (.cells #[.int .u8 (48 + (b : Int) % 10)] 5)) 98 9 5 ⟨w.heap.size, 0, none⟩ 1 [48 + UInt8.ofNat (b % 10)] Tryz.underlying98 Tryz.underlying5 Tryz.underlying9 fun j hj => ?_
  have hj0 : j = 0 := by simp at hj; omega
  subst hj0
  have hh : (w.alloc (.cells #[.int .u8 (48 + (b : Int) % 10)] 5)).heap[w.heap.size]? = some (.cells #[.int .u8 (48 + (b : Int) % 10)] 5) := heap_alloc_new w _
  have hc := cell_of_heap (i := 0) hh rfl
  rw [show (⟨w.heap.size, 0, none⟩ : Addr).add 0 = ⟨w.heap.size, 0, none⟩ by unfold Addr.add; simp, hc]
  have h1 : ([48 + UInt8.ofNat (b % 10)][0]'(by simp)).toNat = 48 + b % 10 := by
    show (48 + UInt8.ofNat (b % 10)).toNat = _
    rw [UInt8.toNat_add, UInt8.toNat_ofNat]
    show (48 + b % 10 % 256) % 256 = _
    omega
  rw [h1]
  simp

set_option maxRecDepth 100000 in
set_option maxHeartbeats 800000 in
theorem digits_pos (a : Nat) (w : World) (ha : a ≤ 9223372036854775807) :
    Calls Tryz.prog 38 #[.int .i64 a] w fun e w' => e = .returned (str (digF 20 a)) ∧ Below w.heap.size w w' := by
  obtain ⟨D, hD⟩ : ∃ D, digF 20 a = D := ⟨_, rfl⟩
  rw [hD]
  have HD : Hid (digF 20 a = D) := hD
  clear hD
  unfold str
  go_enter Tryz.func38, Tryz.ntmps38
  go_wp2
  go_loopw [3, 4] (fun s k wr => ∃ (f b : Nat) (l : List UInt8), 1 ≤ f ∧ b < 10 ^ f ∧ b ≤ 9223372036854775807 ∧ k = .int .i64 b ∧ s = .string ⟨l.toArray⟩ ∧ l.length + f ≤ 20 ∧ digF f b ++ l = D ∧ Below w.heap.size w wr) (fun _ k _ => (intOf k).toNat)
  case atStart => exact ⟨20, a, [], by omega, by omega, by omega, rfl, rfl, by simp, by rw [List.append_nil]; exact HD.out, Below.refl _ _⟩
  case round =>
    obtain ⟨f, b, l, hf, hbf, hbm, rfl, rfl, hll, heq, hbel⟩ := hrel
    have K : Hid (b < 10 ^ f ∧ digF f b ++ l = D ∧ Below w.heap.size w wr ∧ 1 ≤ f) := ⟨hbf, heq, hbel, hf⟩
    clear hbf heq hbel hf
    have hcv := conv_digit wr b
    have hll2 : l.length ≤ 20 := by omega
    go_wp2
    · have hz2 : ((b : Int) / 10 == 0) = true := by assumption
      have hz : b / 10 = 0 := by rw [beq_iff_eq] at hz2; omega
      go_ret
      refine ⟨?_, (K.out.2.2.1).alloc K.out.2.2.1.size _⟩
      have := K.out.2.1
      rw [digF_last K.out.2.2.2 hz] at this
      rw [← this, ← ba_append]
      rfl
    · have hz2 : ((b : Int) / 10 == 0) = false := by assumption
      have hz : ¬ b / 10 = 0 := by rw [beq_eq_false_iff_ne] at hz2; omega
      go_roundw
      case rel =>
        obtain ⟨h1, h2⟩ := digF_fuel K.out.1 hz
        refine ⟨f - 1, b / 10, (48 + UInt8.ofNat (b % 10)) :: l, h1, h2, by omega, by simp, ?_, by simp; omega, ?_, (K.out.2.2.1).alloc K.out.2.2.1.size _⟩
        · rw [show (48 + UInt8.ofNat (b % 10)) :: l = [48 + UInt8.ofNat (b % 10)] ++ l from rfl, ← ba_append]
        · have := K.out.2.1
          rw [digF_more K.out.2.2.2 hz, List.append_assoc] at this
          exact this
      case measure => simp [intOf]; omega

theorem conv_byte (w : World) (r : Nat) (hr : r < 10) :
    (convert 98 9 (.slice (some ⟨w.heap.size, 0, none⟩) 1 1)).run Tryz.prog (w.alloc (.cells #[.int .u8 (48 + (r : Int))] 5)) = .ok (.string ⟨[48 + UInt8.ofNat r].toArray⟩) (w.alloc (.cells #[.int .u8 (48 + (r : Int))] 5)) := by
  have := conv_digit w r
  rw [show (r : Int) % 10 = r by omega, show r % 10 = r by omega] at this
  exact this

set_option maxRecDepth 100000 in
set_option maxHeartbeats 800000 in
theorem digits_neg (a : Nat) (w : World) (ha : a ≤ 9223372036854775807 + 1) (ha0 : 1 ≤ a) :
    Calls Tryz.prog 38 #[.int .i64 (-(a : Int))] w fun e w' => e = .returned (str (45 :: digF 20 a)) ∧ Below w.heap.size w w' := by
  obtain ⟨D, hD⟩ : ∃ D, digF 20 a = D := ⟨_, rfl⟩
  rw [hD]
  have HD : Hid (digF 20 a = D) := hD
  clear hD
  unfold str
  go_enter Tryz.func38, Tryz.ntmps38
  go_wp2
  go_loopw [3, 4] (fun s k wr => ∃ (f b : Nat) (l : List UInt8), 1 ≤ f ∧ b < 10 ^ f ∧ b ≤ 9223372036854775807 + 1 ∧ k = .int .i64 (-(b : Int)) ∧ s = .string ⟨l.toArray⟩ ∧ l.length + f ≤ 20 ∧ digF f b ++ l = D ∧ Below w.heap.size w wr) (fun _ k _ => (-intOf k).toNat)
  case atStart => exact ⟨20, a, [], by omega, by omega, by omega, rfl, rfl, by simp, by rw [List.append_nil]; exact HD.out, Below.refl _ _⟩
  case round =>
    obtain ⟨f, b, l, hf, hbf, hbm, rfl, rfl, hll, heq, hbel⟩ := hrel
    have K : Hid (b < 10 ^ f ∧ digF f b ++ l = D ∧ Below w.heap.size w wr ∧ 1 ≤ f) := ⟨hbf, heq, hbel, hf⟩
    clear hbf heq hbel hf
    have hll2 : l.length ≤ 20 := by omega
    obtain ⟨r, hr⟩ : ∃ r, r = b % 10 := ⟨_, rfl⟩
    obtain ⟨q, hq⟩ : ∃ q, q = b / 10 := ⟨_, rfl⟩
    have R : Hid (r = b % 10 ∧ q = b / 10) := ⟨hr, hq⟩
    have h1 : (b : Int).tmod 10 = (r : Int) := by rw [Int.tmod_eq_emod_of_nonneg (by omega)]; omega
    have h2 : (b : Int).tdiv 10 = (q : Int) := by rw [Int.tdiv_eq_ediv_of_nonneg (by omega)]; omega
    have hr10 : r < 10 := by omega
    have hqm : q ≤ 9223372036854775807 := by omega
    have hcv := conv_byte wr r hr10
    have h1' : (-(b : Int)).tmod 10 = -(r : Int) := by rw [Int.neg_tmod, h1]
    have h2' : (-(b : Int)).tdiv 10 = -(q : Int) := by rw [Int.neg_tdiv, h2]
    clear hr hq
    by_cases hr0 : r = 0
    · have hcv0 : (convert 98 9 (.slice (some ⟨wr.heap.size, 0, none⟩) 1 1)).run Tryz.prog (wr.alloc (.cells #[.int .u8 48] 5)) = .ok (.string ⟨[48 + UInt8.ofNat 0].toArray⟩) (wr.alloc (.cells #[.int .u8 48] 5)) := conv_byte wr 0 (by omega)
      have g1 : (b : Int).tmod 10 = 0 := by rw [h1, hr0]; rfl
      have g1' : (-(b : Int)).tmod 10 = 0 := by rw [h1', hr0]; rfl
      have R0 : Hid (r = 0) := hr0
      clear h1 h1' hcv hr0
      go_wp2
      · have hz2 : (-(q : Int) == 0) = true := by assumption
        have hz : b / 10 = 0 := by rw [beq_iff_eq] at hz2; have := R.out.2; omega
        go_ret
        refine ⟨?_, (K.out.2.2.1).alloc K.out.2.2.1.size _⟩
        have hd := K.out.2.1
        rw [digF_last K.out.2.2.2 hz, ← R.out.1] at hd
        rw [R0.out] at hd
        rw [← hd, show (45 : UInt8) :: ([48 + UInt8.ofNat 0] ++ l) = [45] ++ ([48 + UInt8.ofNat 0] ++ l) from rfl, ← ba_append, ← ba_append]
        rfl
      · have hz2 : (-(q : Int) == 0) = false := by assumption
        have hz : ¬ b / 10 = 0 := by rw [beq_eq_false_iff_ne] at hz2; have := R.out.2; omega
        go_roundw
        case rel =>
          obtain ⟨e1, e2⟩ := digF_fuel K.out.1 hz
          refine ⟨f - 1, q, (48 + UInt8.ofNat 0) :: l, e1, by rw [R.out.2]; exact e2, by omega, rfl, ?_, by simp; omega, ?_, (K.out.2.2.1).alloc K.out.2.2.1.size _⟩
          · exact congrArg Value.string (ba_append [48 + UInt8.ofNat 0] l)
          · have hd := K.out.2.1
            rw [digF_more K.out.2.2.2 hz, List.append_assoc, ← R.out.1, ← R.out.2] at hd
            rw [R0.out] at hd
            exact hd
        case measure =>
          rw [beq_eq_false_iff_ne] at hz2
          have := R.out.2
          simp [intOf]; omega
    · go_wp2
      · have hz2 : (-(q : Int) == 0) = true := by assumption
        have hz : b / 10 = 0 := by rw [beq_iff_eq] at hz2; have := R.out.2; omega
        go_ret
        refine ⟨?_, (K.out.2.2.1).alloc K.out.2.2.1.size _⟩
        have hd := K.out.2.1
        rw [digF_last K.out.2.2.2 hz, ← R.out.1] at hd
        rw [← hd, show (45 : UInt8) :: ([48 + UInt8.ofNat r] ++ l) = [45] ++ ([48 + UInt8.ofNat r] ++ l) from rfl, ← ba_append, ← ba_append]
        rfl
      · have hz2 : (-(q : Int) == 0) = false := by assumption
        have hz : ¬ b / 10 = 0 := by rw [beq_eq_false_iff_ne] at hz2; have := R.out.2; omega
        go_roundw
        case rel =>
          obtain ⟨e1, e2⟩ := digF_fuel K.out.1 hz
          refine ⟨f - 1, q, (48 + UInt8.ofNat r) :: l, e1, by rw [R.out.2]; exact e2, by omega, rfl, ?_, by simp; omega, ?_, (K.out.2.2.1).alloc K.out.2.2.1.size _⟩
          · exact congrArg Value.string (ba_append [48 + UInt8.ofNat r] l)
          · have hd := K.out.2.1
            rw [digF_more K.out.2.2.2 hz, List.append_assoc, ← R.out.1, ← R.out.2] at hd
            exact hd
        case measure =>
          rw [beq_eq_false_iff_ne] at hz2
          have := R.out.2
          simp [intOf]; omega

theorem digits_any (n : Int) (w : World) (h1 : -9223372036854775808 ≤ n) (h2 : n ≤ 9223372036854775807) :
    Calls Tryz.prog 38 #[.int .i64 n] w fun e w' => e = .returned (str (digits n)) ∧ Below w.heap.size w w' := by
  by_cases h : n < 0
  · unfold digits
    rw [if_pos h]
    have e : n = -(n.natAbs : Int) := by omega
    have := digits_neg n.natAbs w (by omega) (by omega)
    rw [← e] at this
    exact this
  · unfold digits
    rw [if_neg h]
    have e : n = (n.natAbs : Int) := by omega
    have := digits_pos n.natAbs w (by omega)
    rw [← e] at this
    exact this

end Go.Proofs.YtpmkjeihbddfpabGreatDoor

/- OUR OWN. The document's values and lists, as they are written. -/
namespace Go.Proofs.YtpmkjeihbddfpabGreatDoor
open Go.RowKit
set_option linter.unusedVariables false
set_option linter.unusedSimpArgs false

set_option maxRecDepth 100000 in
set_option maxHeartbeats 400000 in
theorem written_any (v : Int × Int) (w : World) (hv : fitsV v) :
    Calls Tryz.prog 77 #[.agg #[.int .i64 v.1, .int .i64 v.2]] w fun e w' => e = .returned (str (writtenL v)) ∧ Below w.heap.size w w' := by
  have DG : Hid (∀ W, Calls Tryz.prog 38 #[.int .i64 v.2] W fun e w' => e = .returned (str (digits v.2)) ∧ Below W.heap.size W w') := fun W => digits_any v.2 W hv.1 hv.2
  have hl := digits_len v.2
  have E : Hid (writtenL v = if v.1 = 0 then [110] else if v.1 = 1 then digits v.2 else 35 :: digits v.2) := rfl
  obtain ⟨R, hR⟩ : ∃ R, writtenL v = R := ⟨_, rfl⟩
  rw [hR] at E ⊢
  obtain ⟨v1, v2⟩ := v
  simp only at *
  obtain ⟨d, hd⟩ : ∃ d, digits v2 = d := ⟨_, rfl⟩
  rw [hd] at DG hl E
  clear hR hd hv
  unfold str at *
  by_cases h0 : v1 = 0
  · subst h0
    rw [if_pos rfl] at E
    go_enter Tryz.func77, Tryz.ntmps77
    go_wp2
    go_ret
    exact ⟨by rw [E.out]; rfl, (Below.refl _ _).alloc (Nat.le_refl _) _⟩
  · have e0 : (v1 == 0) = false := by simpa using h0
    rw [if_neg h0] at E
    by_cases h1 : v1 = 1
    · subst h1
      rw [if_pos rfl] at E
      go_enter Tryz.func77, Tryz.ntmps77
      go_wp2_with fail
      refine Calls.mono (DG.out _) ?_
      rintro e w1 ⟨rfl, hb⟩
      have B : Hid (Below w.heap.size w w1) := ((Below.refl _ _).alloc (Nat.le_refl _) _).trans (hb.mono (by simp))
      clear hb DG
      go_wp2
      go_ret
      exact ⟨by rw [E.out]; rfl, B.out⟩
    · have e1 : (v1 == 1) = false := by simpa using h1
      rw [if_neg h1] at E
      go_enter Tryz.func77, Tryz.ntmps77
      go_wp2_with fail
      refine Calls.mono (DG.out _) ?_
      rintro e w1 ⟨rfl, hb⟩
      have B : Hid (Below w.heap.size w w1) := ((Below.refl _ _).alloc (Nat.le_refl _) _).trans (hb.mono (by simp))
      clear hb DG
      go_wp2
      go_ret
      refine ⟨?_, B.out⟩
      rw [E.out, show (35 : UInt8) :: d = [35] ++ d from rfl, ← ba_append]
      rfl

set_option maxRecDepth 100000 in
set_option maxHeartbeats 800000 in
theorem list_any (v : Value) (l : List (Int × Int)) (w : World) (ho : w.ownsRow 0 84 2 v l.length (l.flatMap valCells)) (hn : l.length ≤ 1000) (hf : ∀ x ∈ l, fitsV x) :
    Calls Tryz.prog 39 #[v] w fun e w' => e = .returned (str (listL l)) ∧ Below w.heap.size w w' := by
  rcases Nat.eq_zero_or_pos l.length with h0 | h0
  · obtain rfl : l = [] := List.eq_nil_of_length_eq_zero h0
    obtain ⟨ao, cap, rfl⟩ := own_empty ho
    clear ho
    go_enter Tryz.func39, Tryz.ntmps39
    go_wp2
    go_loop [3, 4] (fun n i => n = .string ⟨#[]⟩ ∧ i = .int .i64 0) (fun _ _ => 0)
    case atStart => exact ⟨rfl, rfl⟩
    case round =>
      obtain ⟨rfl, rfl⟩ := hrel
      go_wp2
      go_ret
      exact ⟨rfl, Below.refl _ _⟩
  · obtain ⟨g, cap, rfl, hg, _, _, hcell, _⟩ := own_view ho h0
    have C : Hid (∀ k (hk : k < l.length), w.cell? ⟨g, k * 2, none⟩ = some (.int .i64 (l[k]).1) ∧ w.cell? ⟨g, k * 2 + 1, none⟩ = some (.int .i64 (l[k]).2)) := fun k hk =>
      ⟨hcell _ _ (by have := flat_get valCells 2 (fun _ => rfl) l k 0 (by decide); simpa [hk, valCells] using this), hcell _ _ (by have := flat_get valCells 2 (fun _ => rfl) l k 1 (by decide); simpa [hk, valCells] using this)⟩
    have FT : Hid (∀ x ∈ l, fitsV x) := hf
    clear hcell ho hf
    obtain ⟨len, hlen⟩ : ∃ len, l.length = len := ⟨_, rfl⟩
    have FIN : Hid (listL l = listN l len) := by show listL l = listN l len; unfold listL; rw [hlen]
    rw [hlen] at hn h0 ⊢
    have L : Hid (l.length = len) := hlen
    clear hlen
    obtain ⟨R, hR⟩ : ∃ R, listL l = R := ⟨_, rfl⟩
    rw [hR] at FIN ⊢
    clear hR
    unfold str
    go_enter Tryz.func39, Tryz.ntmps39
    go_wp2
    go_loopw [3, 4] (fun s i wr => ∃ (k : Nat) (a : List UInt8), k ≤ len ∧ i = .int .i64 k ∧ s = .string ⟨a.toArray⟩ ∧ a = listN l k ∧ Below w.heap.size w wr) (fun _ i _ => len - (intOf i).toNat)
    case atStart => exact ⟨0, [], Nat.zero_le _, rfl, rfl, rfl, Below.refl _ _⟩
    case round =>
      obtain ⟨k, a, hk, rfl, rfl, ha, hb⟩ := hrel
      have hal : a.length ≤ 23000 := by rw [ha]; have := listN_len l k; omega
      have K : Hid (a = listN l k ∧ Below w.heap.size w wr) := ⟨ha, hb⟩
      have hsz := hb.size
      by_cases hlt : k < len
      · have hk' : k < l.length := by rw [L.out]; exact hlt
        obtain ⟨c0, c1⟩ := C.out k hk'
        have c0' : wr.cell? ⟨g, k * 2, none⟩ = some (.int .i64 (l[k]).1) := (hb.cell (p := ⟨g, k * 2, none⟩) hg).trans c0
        have c1' : wr.cell? ⟨g, k * 2 + 1, none⟩ = some (.int .i64 (l[k]).2) := (hb.cell (p := ⟨g, k * 2 + 1, none⟩) hg).trans c1
        have WR : Hid (∀ W, Calls Tryz.prog 77 #[.agg #[.int .i64 (l[k]).1, .int .i64 (l[k]).2]] W fun e w' => e = .returned (str (writtenL l[k])) ∧ Below W.heap.size W w') := fun W => written_any l[k] W (FT.out _ (List.getElem_mem hk'))
        have hwl := written_len l[k]
        have S : Hid (listN l (k + 1) = a ++ (if k = 0 then [] else [44]) ++ writtenL l[k]) := by
          show listN l (k + 1) = _
          rw [listN, ← ha, List.getD_eq_getElem?_getD, List.getElem?_eq_getElem hk']; rfl
        obtain ⟨x, hx⟩ : ∃ x, l[k] = x := ⟨_, rfl⟩
        rw [hx] at c0' c1' WR hwl S
        obtain ⟨x1, x2⟩ := x
        obtain ⟨t, ht⟩ : ∃ t, writtenL (x1, x2) = t := ⟨_, rfl⟩
        rw [ht] at WR hwl S
        simp only at c0' c1' WR
        unfold str at WR
        clear ha hb c0 c1 hx ht
        by_cases hk0 : k = 0
        · subst hk0
          rw [if_pos rfl] at S
          go_wp2_with fail
          refine Calls.mono (WR.out _) ?_
          rintro e w1 ⟨rfl, hb⟩
          have B : Hid (Below w.heap.size w w1) := K.out.2.trans (hb.mono hsz)
          clear hb WR
          go_wp2
          go_roundw
          case rel =>
            refine ⟨1, _, by omega, by go_num, ?_, rfl, B.out⟩
            rw [S.out, List.append_nil, ← ba_append]
          case measure => simp [intOf]; omega
        · rw [if_neg hk0] at S
          have hk1 : (0 : Int) < k := by omega
          go_wp2_with fail
          refine Calls.mono (WR.out _) ?_
          rintro e w1 ⟨rfl, hb⟩
          have B : Hid (Below w.heap.size w w1) := K.out.2.trans (hb.mono hsz)
          clear hb WR
          go_wp2
          go_roundw
          case rel =>
            refine ⟨k + 1, _, by omega, by go_num, ?_, rfl, B.out⟩
            rw [S.out, ← ba_append, ← ba_append]
          case measure => simp [intOf]; omega
      · obtain rfl : k = len := by omega
        clear ha hb
        go_wp2
        go_ret
        exact ⟨by rw [FIN.out, ← K.out.1]; rfl, K.out.2⟩

end Go.Proofs.YtpmkjeihbddfpabGreatDoor

/- OUR OWN. The document's heap as it is written: record. -/
namespace Go.Proofs.YtpmkjeihbddfpabGreatDoor
open Go.RowKit
set_option linter.unusedVariables false
set_option linter.unusedSimpArgs false

theorem count_small {m : RefM} {N : Nat} (ok : m.Ok N) (b : Int) : m.count b ≤ 400 := by
  have h1 := countObjs_le m.live b fun o ho => ok.fields o (live_mem ho)
  have h2 := ok.live
  have h3 := ok.small
  unfold RefM.count
  omega

set_option maxRecDepth 100000 in
set_option maxHeartbeats 1600000 in
theorem record_any {w : World} {h : Nat} {m : RefM} {N : Nat} (r : RefAt w h m) (ok : m.Ok N) (i : Nat) (hi : i ≤ N) (hfit : ∀ x ∈ (m.st.ob i).fs, fitsV x) :
    Calls Tryz.prog 37 #[.pointer (some ⟨h, 0, none⟩), .int .i64 i] w fun e w' => e = .returned (str (recordL m.st i)) ∧ Below w.heap.size w w' := by
  obtain ⟨g, cap, hv, hg, _, _, _, hobj⟩ := r.view ok
  have hil : i < m.objs.length := by rw [ok.len]; omega
  obtain ⟨c0, c1, c2, c3⟩ := hobj i hil
  have cB : w.cell? ⟨h, 5, none⟩ = some (.slice (some ⟨g, 0, none⟩) (N + 1) cap) := by rw [r.cell.2.2.2.2.2.1, hv]
  have hh := lt_of_heap r.head
  have hob : m.st.ob i = (m.objs[i]).ob := st_ob (List.getElem?_eq_getElem hil)
  have CNT : Hid (∀ W, Below w.heap.size w W → Calls Tryz.prog 33 #[.pointer (some ⟨h, 0, none⟩), .int .i64 i] W fun e w' => e = .returned (.int .i64 (m.count i)) ∧ w' = W) :=
    fun W hb => count_any (r.carry fun x hx => hb.block x (r.lt x hx)) ok i
  have WT : Hid (∀ W, Below w.heap.size w W → Calls Tryz.prog 43 #[.pointer (some ⟨h, 0, none⟩), .int .i64 i] W fun e w' => e = .returned (.bool (m.waitsB i)) ∧ Below W.heap.size W w') :=
    fun W hb => waits_any (r.carry fun x hx => hb.block x (r.lt x hx)) ok i hi
  have LI : Hid (∀ W, Below w.heap.size w W → Calls Tryz.prog 39 #[(m.objs[i]).vF] W fun e w' => e = .returned (str (listL (m.objs[i]).fs)) ∧ Below W.heap.size W w') := fun W hb => by
    refine list_any _ _ W (own_carry (r.fields _ (List.getElem_mem hil)) fun b hbb => hb.block b (own_lt (r.fields _ (List.getElem_mem hil)) hbb).2) ?_ (by rw [hob] at hfit; exact hfit)
    have := ok.fields _ (List.getElem_mem hil); omega
  have hcs := count_small ok i
  have DG : Hid (∀ W, Calls Tryz.prog 38 #[.int .i64 (m.count i)] W fun e w' => e = .returned (str (digits (m.count i))) ∧ Below W.heap.size W w') := fun W => digits_any _ W (by omega) (by omega)
  have E : Hid (recordL m.st i = if (m.objs[i]).here then (if (m.objs[i]).queued then 113 :: digits (m.count i) else if (m.objs[i]).stuck then [115] else if m.waitsB i then 119 :: digits (m.count i) else 104 :: digits (m.count i)) ++ [91] ++ listL (m.objs[i]).fs ++ [93, 59] else [46, 59]) := by
    show recordL m.st i = _
    unfold recordL letterL
    rw [hob, st_count, st_waits]; rfl
  have hdl := digits_len (m.count i)
  have hll := list_len (m.objs[i]).fs
  have hf4 := ok.fields _ (List.getElem_mem hil)
  have hN := ok.small
  obtain ⟨ao, cp, hvF⟩ := own_slice (r.fields _ (List.getElem_mem hil))
  obtain ⟨o, ho⟩ : ∃ o, o = m.objs[i] := ⟨_, rfl⟩
  rw [← ho] at c0 c1 c2 c3 E hvF LI hll hf4
  obtain ⟨n, hn⟩ : ∃ n, m.count i = n := ⟨_, rfl⟩
  rw [hn] at E CNT DG hdl hcs
  obtain ⟨R, hR⟩ : ∃ R, recordL m.st i = R := ⟨_, rfl⟩
  rw [hR] at E ⊢
  obtain ⟨wt, hwt⟩ : ∃ wt, m.waitsB i = wt := ⟨_, rfl⟩
  rw [hwt] at E WT
  obtain ⟨here, vF, fs, stuck, queued⟩ := o
  simp only at c0 c1 c2 c3 E hvF LI hll hf4
  subst hvF
  obtain ⟨D, hD⟩ : ∃ D, digits (n : Int) = D := ⟨_, rfl⟩
  rw [hD] at E DG hdl
  obtain ⟨L, hL⟩ : ∃ L, listL fs = L := ⟨_, rfl⟩
  rw [hL] at E LI hll
  have hll2 : L.length ≤ 92 := by omega
  have hiI : (i : Int) < (N : Int) + 1 := by omega
  clear r ok hv hobj ho hn hil hob hfit hR hwt hD hL hll
  unfold str at *
  cases here with
  | false =>
    rw [if_neg (by simp)] at E
    go_enter Tryz.func37, Tryz.ntmps37
    go_wp2
    go_ret
    exact ⟨by rw [E.out]; rfl, (Below.refl _ _).alloc (Nat.le_refl _) _⟩
  | true =>
    rw [if_pos rfl] at E
    go_enter Tryz.func37, Tryz.ntmps37
    go_wp2_with fail
    refine Calls.mono (CNT.out _ ((Below.refl _ _).alloc (Nat.le_refl _) _)) ?_
    rintro e w1 ⟨rfl, hw1⟩
    subst hw1
    go_wp2_with fail
    refine Calls.mono (DG.out _) ?_
    rintro e w2 ⟨rfl, hb⟩
    have B2 : Hid (Below w.heap.size w w2 ∧ w.heap.size + 1 ≤ w2.heap.size ∧ w2.heap[w.heap.size]? = some (.cells #[.bool true, .slice ao fs.length cp, .bool stuck, .bool queued] 73)) :=
      ⟨((Below.refl _ _).alloc (Nat.le_refl _) _).trans (hb.mono (by simp)), by have := hb.size; simpa using this, boxed' hb⟩
    clear hb
    go_wp2_with fail
    refine Calls.mono (WT.out _ B2.out.1) ?_
    rintro e w3 ⟨rfl, hb⟩
    have B3 : Hid (Below w.heap.size w w3 ∧ w.heap.size + 1 ≤ w3.heap.size ∧ w3.heap[w.heap.size]? = some (.cells #[.bool true, .slice ao fs.length cp, .bool stuck, .bool queued] 73)) :=
      ⟨B2.out.1.trans (hb.mono (by have := B2.out.2.1; omega)), by have := hb.size; have := B2.out.2.1; omega, by rw [hb.block _ (by have := B2.out.2.1; omega)]; exact B2.out.2.2⟩
    have x1 : w3.cell? ⟨w.heap.size, 1, none⟩ = some (.slice ao fs.length cp) := cell_of_heap B3.out.2.2 rfl
    have x2 : w3.cell? ⟨w.heap.size, 2, none⟩ = some (.bool stuck) := cell_of_heap B3.out.2.2 rfl
    have x3 : w3.cell? ⟨w.heap.size, 3, none⟩ = some (.bool queued) := cell_of_heap B3.out.2.2 rfl
    clear hb B2 c0 c1 c2 c3 cB
    cases queued with
    | true =>
      rw [if_pos rfl] at E
      go_wp2_with fail
      refine Calls.mono (LI.out _ B3.out.1) ?_
      rintro e w4 ⟨rfl, hb⟩
      have B4 : Hid (Below w.heap.size w w4) := B3.out.1.trans (hb.mono (by have := B3.out.2.1; omega))
      clear hb
      go_wp2
      go_ret
      refine ⟨?_, B4.out⟩
      rw [E.out, ← ba_append, ← ba_append, ← ba_append, show (113 : UInt8) :: D = [113] ++ D from rfl, ← ba_append]
      rfl
    | false =>
      rw [if_neg (by simp)] at E
      cases stuck with
      | true =>
        rw [if_pos rfl] at E
        go_wp2_with fail
        refine Calls.mono (LI.out _ B3.out.1) ?_
        rintro e w4 ⟨rfl, hb⟩
        have B4 : Hid (Below w.heap.size w w4) := B3.out.1.trans (hb.mono (by have := B3.out.2.1; omega))
        clear hb
        go_wp2
        go_ret
        refine ⟨?_, B4.out⟩
        rw [E.out, ← ba_append, ← ba_append, ← ba_append]
        rfl
      | false =>
        rw [if_neg (by simp)] at E
        cases wt with
        | true =>
          rw [if_pos rfl] at E
          go_wp2_with fail
          refine Calls.mono (LI.out _ B3.out.1) ?_
          rintro e w4 ⟨rfl, hb⟩
          have B4 : Hid (Below w.heap.size w w4) := B3.out.1.trans (hb.mono (by have := B3.out.2.1; omega))
          clear hb
          go_wp2
          go_ret
          refine ⟨?_, B4.out⟩
          rw [E.out, ← ba_append, ← ba_append, ← ba_append, show (119 : UInt8) :: D = [119] ++ D from rfl, ← ba_append]
          rfl
        | false =>
          rw [if_neg (by simp)] at E
          go_wp2_with fail
          refine Calls.mono (LI.out _ B3.out.1) ?_
          rintro e w4 ⟨rfl, hb⟩
          have B4 : Hid (Below w.heap.size w w4) := B3.out.1.trans (hb.mono (by have := B3.out.2.1; omega))
          clear hb
          go_wp2
          go_ret
          refine ⟨?_, B4.out⟩
          rw [E.out, ← ba_append, ← ba_append, ← ba_append, show (104 : UInt8) :: D = [104] ++ D from rfl, ← ba_append]
          rfl

end Go.Proofs.YtpmkjeihbddfpabGreatDoor

/- OUR OWN. The document's heap as it is written: Dump; Gauge. -/
namespace Go.Proofs.YtpmkjeihbddfpabGreatDoor
open Go.RowKit
set_option linter.unusedVariables false
set_option linter.unusedSimpArgs false

set_option maxRecDepth 100000 in
set_option maxHeartbeats 1600000 in
theorem dump_any {w : World} {h : Nat} {m : RefM} {N : Nat} (r : RefAt w h m) (ok : m.Ok N) (f : Fits m.st) :
    Calls Tryz.prog 15 #[.pointer (some ⟨h, 0, none⟩)] w fun e w' => e = .returned (str (dumpL m.st)) ∧ Below w.heap.size w w' := by
  have hN := ok.small
  have hh := lt_of_heap r.head
  have KEEP : ∀ W, Below w.heap.size w W → RefAt W h m := fun W hb => r.carry fun x hx => hb.block x (r.lt x hx)
  have REC : Hid (∀ W (i : Nat), Below w.heap.size w W → i ≤ N → Calls Tryz.prog 37 #[.pointer (some ⟨h, 0, none⟩), .int .i64 i] W fun e w' => e = .returned (str (recordL m.st i)) ∧ Below W.heap.size W w') :=
    fun W i hb hi => record_any (KEEP W hb) ok i hi (f.ob i)
  have LS : Hid (∀ W, Below w.heap.size w W → Calls Tryz.prog 39 #[m.vS] W fun e w' => e = .returned (str (listL m.stack)) ∧ Below W.heap.size W w') := fun W hb =>
    list_any _ _ W (KEEP W hb).stack (by have := ok.stack; omega) f.stack
  have LG : Hid (∀ W, Below w.heap.size w W → Calls Tryz.prog 39 #[m.vG] W fun e w' => e = .returned (str (listL m.globals)) ∧ Below W.heap.size W w') := fun W hb =>
    list_any _ _ W (KEEP W hb).globals (by have := ok.globals; omega) f.globals
  have hql : m.queue.length ≤ 100 := by
    have h1 := ok.queue
    have h2 : m.objs.countP RObj.queued ≤ m.objs.length := List.countP_le_length
    have := ok.len; omega
  obtain ⟨sao, scp, hvS⟩ := own_slice r.stack
  obtain ⟨gao, gcp, hvG⟩ := own_slice r.globals
  obtain ⟨qao, qcp, hvQ⟩ := win_slice r.queue
  have CELLS : Hid (∀ W, Below w.heap.size w W → W.cell? ⟨h, 0, none⟩ = some (.int .i64 N) ∧ W.cell? ⟨h, 6, none⟩ = some (.slice qao m.queue.length qcp) ∧ W.cell? ⟨h, 7, none⟩ = some (.slice sao m.stack.length scp) ∧ W.cell? ⟨h, 8, none⟩ = some (.slice gao m.globals.length gcp)) := fun W hb => by
    have c := (KEEP W hb).cell
    exact ⟨by rw [c.1, ok.most], by rw [c.2.2.2.2.2.2.1, hvQ], by rw [c.2.2.2.2.2.2.2.1, hvS], by rw [c.2.2.2.2.2.2.2.2.1, hvG]⟩
  rw [hvS] at LS
  rw [hvG] at LG
  have QC : Hid (∀ W (k : Nat) (hk : k < m.queue.length), Below w.heap.size w W → ∃ qg qo, qao = some ⟨qg, qo, none⟩ ∧ W.cell? ⟨qg, qo + k, none⟩ = some (.int .i64 (m.queue[k]))) := fun W k hk hb => by
    obtain ⟨qg, qo, cap, hv, hg, _, _, hcell, _⟩ := win_view (KEEP W hb).queue (by omega)
    rw [hvQ] at hv
    simp at hv
    exact ⟨qg, qo, hv.1, hcell _ _ (by simp [hk])⟩
  have DG : Hid (∀ W (k : Nat) (hk : k < m.queue.length), Calls Tryz.prog 38 #[.int .i64 (m.queue[k])] W fun e w' => e = .returned (str (digits (m.queue[k]))) ∧ Below W.heap.size W w') := fun W k hk => by
    have := f.queue _ (List.getElem_mem hk); exact digits_any _ W this.1 this.2
  have hrl : ∀ k, (recsTo m.st k).length ≤ 120 * k := fun k => recs_len m.st k fun i => by
    rcases ob_mem m.st i with e | e
    · obtain ⟨o, ho, he⟩ := List.mem_map.1 e
      rw [← he]; exact ok.fields o ho
    · rw [e]; simp [Ob.free]
  have RL : Hid (∀ k, (recsTo m.st k).length ≤ 120 * k) := hrl
  have E : Hid (dumpL m.st = recsTo m.st N ++ [124] ++ queueN m.queue m.queue.length ++ [124] ++ listL m.stack ++ [124] ++ listL m.globals) := by
    show dumpL m.st = _
    unfold dumpL; rw [st_N ok]; rfl
  have hsl : (listL m.stack).length ≤ 400 := by have := list_len m.stack; have := ok.stack; omega
  have hgl : (listL m.globals).length ≤ 400 := by have := list_len m.globals; have := ok.globals; omega
  obtain ⟨sl, hsl'⟩ : ∃ sl, m.stack.length = sl := ⟨_, rfl⟩
  obtain ⟨gl, hgl'⟩ : ∃ gl, m.globals.length = gl := ⟨_, rfl⟩
  rw [hsl'] at LS CELLS
  rw [hgl'] at LG CELLS
  obtain ⟨SL, hSL⟩ : ∃ SL, listL m.stack = SL := ⟨_, rfl⟩
  obtain ⟨GL, hGL⟩ : ∃ GL, listL m.globals = GL := ⟨_, rfl⟩
  rw [hSL] at LS E hsl
  rw [hGL] at LG E hgl
  obtain ⟨R, hR⟩ : ∃ R, dumpL m.st = R := ⟨_, rfl⟩
  rw [hR] at E ⊢
  obtain ⟨ql, hqlen⟩ : ∃ ql, m.queue.length = ql := ⟨_, rfl⟩
  have QL : Hid (m.queue.length = ql) := hqlen
  rw [hqlen] at hql CELLS E
  clear KEEP hrl r ok f hvS hvG hvQ hsl' hgl' hSL hGL hR hqlen
  unfold str at *
  go_enter Tryz.func15, Tryz.ntmps15
  go_wp2
  go_loopw [3, 4] (fun s i wr => ∃ (j : Nat) (a : List UInt8), j ≤ N ∧ i = .int .i64 (j + 1) ∧ s = .string ⟨a.toArray⟩ ∧ a = recsTo m.st j ∧ Below w.heap.size w wr) (fun _ i _ => N + 1 - (intOf i).toNat)
  case atStart => exact ⟨0, [], Nat.zero_le _, rfl, rfl, rfl, Below.refl _ _⟩
  case round =>
    obtain ⟨j, a, hj, rfl, rfl, ha, hb⟩ := hrel
    have hal : a.length ≤ 11880 := by rw [ha]; have := RL.out j; omega
    have K : Hid (a = recsTo m.st j ∧ Below w.heap.size w wr) := ⟨ha, hb⟩
    have hsz := hb.size
    have c0 := (CELLS.out wr hb).1
    clear ha hb
    by_cases hlt : j < N
    · have R1 : Hid (Calls Tryz.prog 37 #[.pointer (some ⟨h, 0, none⟩), .int .i64 ((j : Int) + 1)] wr fun e w' => e = .returned (.string ⟨(recordL m.st (j + 1)).toArray⟩) ∧ Below wr.heap.size wr w') := REC.out wr (j + 1) K.out.2 (by omega)
      have hre : (recordL m.st (j + 1)).length ≤ 120 * (j + 1) := by have := RL.out (j + 1); rw [recsTo, List.length_append] at this; omega
      have hre2 : (recordL m.st (j + 1)).length ≤ 11880 := by omega
      have S : Hid (recsTo m.st (j + 1) = a ++ recordL m.st (j + 1)) := by show recsTo m.st (j + 1) = _; rw [recsTo, ← K.out.1]
      obtain ⟨t, ht⟩ : ∃ t, recordL m.st (j + 1) = t := ⟨_, rfl⟩
      rw [ht] at R1 hre2 S
      clear ht hre
      go_wp2_with fail
      refine Calls.mono R1.out ?_
      rintro e w1 ⟨rfl, hb⟩
      have B : Hid (Below w.heap.size w w1) := K.out.2.trans (hb.mono hsz)
      clear hb R1
      go_wp2
      go_roundw
      case rel =>
        refine ⟨j + 1, _, by omega, by go_num, ?_, rfl, B.out⟩
        rw [S.out, ← ba_append]
      case measure => simp [intOf]; omega
    · obtain rfl : j = N := by omega
      clear REC RL
      go_wp2
      obtain ⟨A, hA⟩ : ∃ A, A = a ++ [124] := ⟨_, rfl⟩
      have hAl : A.length ≤ 11881 := by rw [hA]; simp; omega
      have K1 : Hid (A = recsTo m.st j ++ [124] ∧ Below w.heap.size w wr) := ⟨by rw [hA, K.out.1], K.out.2⟩
      go_loopw [3, 5] (fun s i wq => ∃ (k : Nat) (b : List UInt8), k ≤ ql ∧ i = .int .i64 k ∧ s = .string ⟨b.toArray⟩ ∧ b = A ++ queueN m.queue k ∧ Below w.heap.size w wq) (fun _ i _ => ql - (intOf i).toNat)
      case atStart =>
        refine ⟨0, A, Nat.zero_le _, rfl, ?_, by simp [queueN], K.out.2⟩
        rw [hA, ← ba_append]
      case round =>
        clear hA K hal c0 hsz
        obtain ⟨k, b, hk, rfl, rfl, hb', hb⟩ := hrel
        have hbl : b.length ≤ 14200 := by rw [hb', List.length_append]; have := queueN_len m.queue k; omega
        have K2 : Hid (b = A ++ queueN m.queue k ∧ Below w.heap.size w wr) := ⟨hb', hb⟩
        have hsz := hb.size
        obtain ⟨_, c6, c7, c8⟩ := CELLS.out wr hb
        clear hb' hb
        by_cases hlt2 : k < ql
        · have hk' : k < m.queue.length := by rw [QL.out]; exact hlt2
          obtain ⟨qg, qo, hqa, cq⟩ := QC.out wr k hk' K2.out.2
          subst hqa
          have cq0 : k = 0 → wr.cell? ⟨qg, qo, none⟩ = some (.int .i64 (m.queue[k])) := fun e => by subst e; exact cq
          have D1 := DG.out wr k hk'
          have hdl := digits_len m.queue[k]
          have S : Hid (A ++ queueN m.queue (k + 1) = b ++ (if k = 0 then [] else [44]) ++ digits m.queue[k]) := by
            show A ++ queueN m.queue (k + 1) = _
            rw [queueN, K2.out.1, List.getD_eq_getElem?_getD, List.getElem?_eq_getElem hk']; simp
          obtain ⟨x, hx⟩ : ∃ x, m.queue[k] = x := ⟨_, rfl⟩
          rw [hx] at cq cq0 D1 S hdl
          obtain ⟨t, ht⟩ : ∃ t, digits x = t := ⟨_, rfl⟩
          rw [ht] at D1 S hdl
          have DD : Hid _ := D1
          clear D1 hx ht
          by_cases hk0 : k = 0
          · subst hk0
            rw [if_pos rfl] at S
            have cq1 := cq0 rfl
            clear cq0 cq
            go_wp2_with fail
            refine Calls.mono DD.out ?_
            rintro e w1 ⟨rfl, hb⟩
            have B : Hid (Below w.heap.size w w1) := K2.out.2.trans (hb.mono hsz)
            clear hb DD
            go_wp2
            go_roundw
            case rel =>
              refine ⟨1, _, by omega, by go_num, ?_, rfl, B.out⟩
              rw [S.out, List.append_nil, ← ba_append]
            case measure => simp [intOf]; omega
          · rw [if_neg hk0] at S
            clear cq0
            have hk1 : (0 : Int) < k := by omega
            go_wp2_with fail
            refine Calls.mono DD.out ?_
            rintro e w1 ⟨rfl, hb⟩
            have B : Hid (Below w.heap.size w w1) := K2.out.2.trans (hb.mono hsz)
            clear hb DD
            go_wp2
            go_roundw
            case rel =>
              refine ⟨k + 1, _, by omega, by go_num, ?_, rfl, B.out⟩
              rw [S.out, ← ba_append, ← ba_append]
            case measure => simp [intOf]; omega
        · obtain rfl : k = ql := by omega
          clear QC DG
          have n1 : ¬ (9223372036854775807 < b.length + 1) := by omega
          have n2 : ¬ (9223372036854775807 ≤ b.length) := by omega
          have n3 : ¬ (9223372036854775807 < b.length + 1 + SL.length) := by omega
          have n4 : ¬ (9223372036854775807 < b.length + 1 + SL.length + 1) := by omega
          have n5 : ¬ (9223372036854775807 ≤ b.length + 1 + SL.length) := by omega
          have n6 : ¬ (9223372036854775807 < b.length + 1 + SL.length + 1 + GL.length) := by omega
          go_wp2_with fail
          go_region_with (first
            | (go_at_call_of 39 (Value.slice sao sl scp); refine Calls.mono (LS.out _ ?_) ?_; exact K2.out.2.drew; rintro e w1 ⟨rfl, hb⟩; have B1 : Hid (Below w.heap.size w w1) := (K2.out.2.drew).trans (hb.mono hsz); obtain ⟨_, _, _, d8⟩ := CELLS.out w1 B1.out; clear hb)
            | (go_at_call_of 39 (Value.slice gao gl gcp); refine Calls.mono (LG.out _ ?_) ?_; exact B1.out; rintro e w2 ⟨rfl, hb⟩; have B2 : Hid (Below w.heap.size w w2) := B1.out.trans (hb.mono B1.out.size); clear hb))
          all_goals
            go_wp2
            go_ret
            refine ⟨?_, B2.out⟩
            rw [E.out, ← K1.out.1, ← K2.out.1, ← ba_append, ← ba_append, ← ba_append, ← ba_append]
            rfl

end Go.Proofs.YtpmkjeihbddfpabGreatDoor

/- OUR OWN. The document's Gauge. -/
namespace Go.Proofs.YtpmkjeihbddfpabGreatDoor
open Go.RowKit
set_option linter.unusedVariables false
set_option linter.unusedSimpArgs false

theorem results_tmp5 {fn : Func} {a b c d f : Tmp} (h : fn.results = #[.tmp a, .tmp b, .tmp c, .tmp d, .tmp f]) (tmps : Array Value) (P : Program) (w : World) :
    (results fn tmps).run P w = .ok (.tuple #[tmps.getD a undef, tmps.getD b undef, tmps.getD c undef, tmps.getD d undef, tmps.getD f undef]) w := by
  simp [results, h]

set_option maxRecDepth 100000 in
set_option maxHeartbeats 1600000 in
theorem gauge_any {w : World} {h : Nat} {m : RefM} {N : Nat} (r : RefAt w h m) (ok : m.Ok N) :
    Calls Tryz.prog 17 #[.pointer (some ⟨h, 0, none⟩)] w fun e w' =>
      e = .returned (.tuple #[.int .i64 (gaugeS m.st).1, .int .i64 (gaugeS m.st).2.1, .int .i64 (gaugeS m.st).2.2.1, .int .i64 (gaugeS m.st).2.2.2.1, .int .i64 (gaugeS m.st).2.2.2.2]) ∧ Below w.heap.size w w' := by
  obtain ⟨g, cap, hv, hg, _, _, _, hobj⟩ := r.view ok
  have hN := ok.small
  have hh := lt_of_heap r.head
  have KEEP : ∀ W, Below w.heap.size w W → RefAt W h m := fun W hb => r.carry fun x hx => hb.block x (r.lt x hx)
  obtain ⟨qao, qcp, hvQ⟩ := win_slice r.queue
  have CELLS : Hid (∀ W, Below w.heap.size w W → W.cell? ⟨h, 0, none⟩ = some (.int .i64 N) ∧ W.cell? ⟨h, 5, none⟩ = some (.slice (some ⟨g, 0, none⟩) (N + 1) cap) ∧ W.cell? ⟨h, 6, none⟩ = some (.slice qao m.queue.length qcp)) := fun W hb => by
    have c := (KEEP W hb).cell
    exact ⟨by rw [c.1, ok.most], by rw [c.2.2.2.2.2.1, hv], by rw [c.2.2.2.2.2.2.1, hvQ]⟩
  have OBJ : Hid (∀ W (j : Nat), Below w.heap.size w W → j < N → W.cell? ⟨g, (j + 1) * 4, none⟩ = some (.bool (m.st.ob (j + 1)).here) ∧ W.cell? ⟨g, (j + 1) * 4 + 2, none⟩ = some (.bool (m.st.ob (j + 1)).stuck)) := fun W j hb hj => by
    have hi : j + 1 < m.objs.length := by rw [ok.len]; omega
    obtain ⟨c0, _, c2, _⟩ := hobj (j + 1) hi
    rw [st_ob (List.getElem?_eq_getElem hi)]
    exact ⟨(hb.cell (p := ⟨g, (j + 1) * 4, none⟩) hg).trans c0, (hb.cell (p := ⟨g, (j + 1) * 4 + 2, none⟩) hg).trans c2⟩
  have WT : Hid (∀ W (i : Nat), Below w.heap.size w W → i ≤ N → Calls Tryz.prog 43 #[.pointer (some ⟨h, 0, none⟩), .int .i64 i] W fun e w' => e = .returned (.bool (m.st.waits i)) ∧ Below W.heap.size W w') :=
    fun W i hb hi => by rw [st_waits]; exact waits_any (KEEP W hb) ok i hi
  have EX : Hid (∀ W, Below w.heap.size w W → Calls Tryz.prog 44 #[.pointer (some ⟨h, 0, none⟩)] W fun e w' => e = .returned (.int .i64 m.st.extras) ∧ Below W.heap.size W w') :=
    fun W hb => by rw [st_extras ok]; exact extras_any (KEEP W hb) ok
  have E : Hid (gaugeS m.st = (countTo m.st.frees N, countTo m.st.waits N, m.queue.length, m.st.extras, countTo m.st.stucks N)) := by
    show gaugeS m.st = _
    unfold gaugeS; rw [st_N ok]; rfl
  have hql : m.queue.length ≤ 100 := by
    have h1 := ok.queue
    have h2 : m.objs.countP RObj.queued ≤ m.objs.length := List.countP_le_length
    have := ok.len; omega
  obtain ⟨ql, hqlen⟩ : ∃ ql, m.queue.length = ql := ⟨_, rfl⟩
  rw [hqlen] at hql CELLS E
  obtain ⟨R, hR⟩ : ∃ R, gaugeS m.st = R := ⟨_, rfl⟩
  rw [hR] at E ⊢
  have IMP : Hid (∀ j, m.st.waits j = true → m.st.frees j = false ∧ m.st.stucks j = false) := fun j hw => by
    unfold St.waits at hw
    unfold St.frees St.stucks
    simp at hw ⊢
    exact ⟨hw.1.1.1, fun _ => hw.1.1.2⟩
  obtain ⟨s, hs⟩ : ∃ s, m.st = s := ⟨_, rfl⟩
  rw [hs] at E OBJ WT EX IMP
  have FS : Hid (∀ b, s.frees b = !(s.ob b).here ∧ s.stucks b = ((s.ob b).here && (s.ob b).stuck)) := fun b => ⟨rfl, rfl⟩
  clear r ok hv hobj KEEP hvQ hqlen hR hs
  go_enter Tryz.func17, Tryz.ntmps17
  go_wp2
  go_loopw [7, 8, 9, 10] (fun fr wa st i wr => ∃ (j : Nat), j ≤ N ∧ i = .int .i64 (j + 1) ∧ fr = .int .i64 (countTo s.frees j) ∧ wa = .int .i64 (countTo s.waits j) ∧ st = .int .i64 (countTo s.stucks j) ∧ Below w.heap.size w wr) (fun _ _ _ i _ => N + 1 - (intOf i).toNat)
  case atStart => exact ⟨0, Nat.zero_le _, rfl, rfl, rfl, rfl, Below.refl _ _⟩
  case round =>
    obtain ⟨j, hj, rfl, rfl, rfl, rfl, hb⟩ := hrel
    obtain ⟨c0, c5, c6⟩ := CELLS.out wr hb
    have K : Hid (Below w.heap.size w wr) := hb
    have hsz := hb.size
    have l1 := countTo_le s.frees j
    have l2 := countTo_le s.waits j
    have l3 := countTo_le s.stucks j
    obtain ⟨a, ha⟩ : ∃ a, countTo s.frees j = a := ⟨_, rfl⟩
    obtain ⟨b, hb2⟩ : ∃ b, countTo s.waits j = b := ⟨_, rfl⟩
    obtain ⟨c, hc⟩ : ∃ c, countTo s.stucks j = c := ⟨_, rfl⟩
    rw [ha] at l1 ⊢
    rw [hb2] at l2 ⊢
    rw [hc] at l3 ⊢
    have AB : Hid (countTo s.frees j = a ∧ countTo s.waits j = b ∧ countTo s.stucks j = c) := ⟨ha, hb2, hc⟩
    clear hb ha hb2 hc
    by_cases hlt : j < N
    · have W1 : Hid (Calls Tryz.prog 43 #[.pointer (some ⟨h, 0, none⟩), .int .i64 ((j : Int) + 1)] wr fun e w' => e = .returned (.bool (s.waits (j + 1))) ∧ Below wr.heap.size wr w') := WT.out wr (j + 1) K.out (by omega)
      have S : Hid (countTo s.frees (j + 1) = a + (if s.frees (j + 1) then 1 else 0) ∧ countTo s.waits (j + 1) = b + (if s.waits (j + 1) then 1 else 0) ∧ countTo s.stucks (j + 1) = c + (if s.stucks (j + 1) then 1 else 0)) :=
        ⟨by rw [countTo_succ, AB.out.1], by rw [countTo_succ, AB.out.2.1], by rw [countTo_succ, AB.out.2.2]⟩
      go_wp2_with fail
      refine Calls.mono W1.out ?_
      rintro e w1 ⟨rfl, hb1⟩
      have K1 : Hid (Below w.heap.size w w1) := K.out.trans (hb1.mono hsz)
      obtain ⟨d0, d5, d6⟩ := CELLS.out w1 K1.out
      obtain ⟨o0, o2⟩ := OBJ.out w1 j K1.out hlt
      clear hb1 W1 c0 c5 c6
      have F := FS.out (j + 1)
      have I := IMP.out (j + 1)
      have hjI : (j : Int) + 1 < (N : Int) + 1 := by omega
      obtain ⟨hr, hhr⟩ : ∃ x, (s.ob (j + 1)).here = x := ⟨_, rfl⟩
      obtain ⟨sk, hsk⟩ : ∃ x, (s.ob (j + 1)).stuck = x := ⟨_, rfl⟩
      obtain ⟨wt, hwt⟩ : ∃ x, s.waits (j + 1) = x := ⟨_, rfl⟩
      rw [hhr] at o0 F
      rw [hsk] at o2 F
      rw [hwt] at S I ⊢
      rw [F.1, F.2] at S I
      clear hhr hsk hwt F
      cases hr with
      | false =>
        have hwf : wt = false := by
          cases wt with
          | false => rfl
          | true => have := (I rfl).1; cases this
        subst hwf
        have S2 : Hid (countTo s.frees (j + 1) = a + 1 ∧ countTo s.waits (j + 1) = b ∧ countTo s.stucks (j + 1) = c) := S.out
        clear S I
        go_wp2
        go_roundw
        case rel => exact ⟨j + 1, by omega, by go_num, by rw [S2.out.1]; go_num, by rw [S2.out.2.1], by rw [S2.out.2.2], K1.out⟩
        case measure => simp [intOf]; omega
      | true =>
        cases sk with
        | true =>
          have hwf : wt = false := by
            cases wt with
            | false => rfl
            | true => have := (I rfl).2; cases this
          subst hwf
          have S2 : Hid (countTo s.frees (j + 1) = a ∧ countTo s.waits (j + 1) = b ∧ countTo s.stucks (j + 1) = c + 1) := S.out
          clear S I
          go_wp2
          go_roundw
          case rel => exact ⟨j + 1, by omega, by go_num, by rw [S2.out.1], by rw [S2.out.2.1], by rw [S2.out.2.2]; go_num, K1.out⟩
          case measure => simp [intOf]; omega
        | false =>
          cases wt with
          | true =>
            have S2 : Hid (countTo s.frees (j + 1) = a ∧ countTo s.waits (j + 1) = b + 1 ∧ countTo s.stucks (j + 1) = c) := S.out
            clear S I
            go_wp2
            go_roundw
            case rel => exact ⟨j + 1, by omega, by go_num, by rw [S2.out.1], by rw [S2.out.2.1]; go_num, by rw [S2.out.2.2], K1.out⟩
            case measure => simp [intOf]; omega
          | false =>
            have S2 : Hid (countTo s.frees (j + 1) = a ∧ countTo s.waits (j + 1) = b ∧ countTo s.stucks (j + 1) = c) := S.out
            clear S I
            go_wp2
            go_roundw
            case rel => exact ⟨j + 1, by omega, by go_num, by rw [S2.out.1], by rw [S2.out.2.1], by rw [S2.out.2.2], K1.out⟩
            case measure => simp [intOf]; omega
    · obtain rfl : j = N := by omega
      clear OBJ WT IMP FS
      go_wp2_with fail
      go_region_with (go_at_call 44; refine Calls.mono (EX.out _ ?_) ?_; exact K.out.drew; rintro e w1 ⟨rfl, hb⟩; have B1 : Hid (Below w.heap.size w w1) := (K.out.drew).trans (hb.mono hsz); obtain ⟨_, _, d6⟩ := CELLS.out w1 B1.out; clear hb)
      all_goals
        go_wp2
        try simp only [Exit.inBlock, Exit.then]
        refine bodyPost_ret (results_tmp5 rfl _ _ _) rfl ?_
        refine ⟨?_, B1.out⟩
        rw [E.out, AB.out.1, AB.out.2.1, AB.out.2.2]
        rfl

end Go.Proofs.YtpmkjeihbddfpabGreatDoor

