import Derived.Test.YtpmkjeihbddfpabGreatDoorAllB16
import Derived.Lib.AppendIntMem
/- OUR OWN. The program's Dump: Itoa, a value, a list of values, the queue's numbers. -/
namespace Go.Proofs.YtpmkjeihbddfpabGreatDoor
open Go.RowKit
set_option linter.unusedVariables false
set_option linter.unusedSimpArgs false

theorem byte_add (x : Nat) : (48 : UInt8) + UInt8.ofNat x = UInt8.ofNat (48 + x) := by
  rw [UInt8.ofNat_add]; rfl
theorem dec_digF : ∀ (f u : Nat), 1 ≤ f → u < 10 ^ f → digF f u = Lib.decDigits u := by
  intro f
  induction f with
  | zero => intro u h; omega
  | succ f ih =>
    intro u _ hu
    by_cases h : u / 10 = 0
    · rw [digF_last (by omega) h, Lib.decDigits, dif_pos (by omega), byte_add, Nat.mod_eq_of_lt (by omega)]
    · obtain ⟨h1, h2⟩ := digF_fuel hu h
      rw [digF_more (by omega) h, Lib.decDigits, dif_neg (by omega), byte_add]
      congr 1
      exact ih (u / 10) (by omega) h2
theorem itoa_digits (n : Int) (h0 : -9223372036854775808 ≤ n) (h1 : n ≤ 9223372036854775807) : Lib.itoa n = digits n := by
  unfold Lib.itoa digits
  have hb : n.natAbs < 10 ^ 20 := by
    have : (10 : Nat) ^ 20 = 100000000000000000000 := by decide
    omega
  by_cases hn : n < 0
  · rw [if_pos hn, if_pos hn, dec_digF 20 _ (by omega) hb]
  · rw [if_neg hn, if_neg hn, dec_digF 20 _ (by omega) hb, show n.toNat = n.natAbs by omega]

theorem itoa_any {B : Nat} (n : Int) (w : World) (ht : Tab B w) (h0 : -9223372036854775808 ≤ n) (h1 : n ≤ 9223372036854775807) :
    Calls Tryz.prog 75 #[.int .i64 n] w fun e w' => e = .returned (str (digits n)) ∧ Below w.heap.size w w' := by
  refine (Tryz.strconv_Itoa n h0 h1 w ht.2.2).mono ?_
  rintro e w' ⟨rfl, k, os, rfl⟩
  refine ⟨by rw [itoa_digits n h0 h1]; rfl, Lib.below_grow _ w (Nat.le_refl _) k os⟩

/-- a value of the three kinds -/
def kindV (v : Int × Int) : Prop := fitsV v ∧ (v.1 = 0 ∨ v.1 = 1 ∨ v.1 = 2)

set_option maxRecDepth 100000 in
set_option maxHeartbeats 800000 in
theorem writeValue_any {B : Nat} (v : Int × Int) (w : World) (ht : Tab B w) (hv : kindV v) :
    Calls Tryz.prog 76 #[.agg #[.int .i64 v.1, .int .i64 v.2]] w fun e w' => e = .returned (str (writtenL v)) ∧ Below w.heap.size w w' := by
  have DG : Hid (∀ W, Below w.heap.size w W → Calls Tryz.prog 75 #[.int .i64 v.2] W fun e w' => e = .returned (str (digits v.2)) ∧ Below W.heap.size W w') := fun W hb => itoa_any v.2 W (ht.below hb) hv.1.1 hv.1.2
  have hl := digits_len v.2
  have hk := hv.2
  have E : Hid (writtenL v = if v.1 = 0 then [110] else if v.1 = 1 then digits v.2 else 35 :: digits v.2) := rfl
  obtain ⟨R, hR⟩ : ∃ R, writtenL v = R := ⟨_, rfl⟩
  rw [hR] at E ⊢
  obtain ⟨v1, v2⟩ := v
  simp only at *
  obtain ⟨d, hd⟩ : ∃ d, digits v2 = d := ⟨_, rfl⟩
  rw [hd] at DG hl E
  clear hR hd hv ht
  unfold str at *
  rcases hk with rfl | rfl | rfl
  · rw [if_pos rfl] at E
    go_enter Tryz.func76, Tryz.ntmps76
    go_wp2
    go_ret
    exact ⟨by rw [E.out]; rfl, (Below.refl _ _).alloc (Nat.le_refl _) _⟩
  · rw [if_neg (by decide), if_pos rfl] at E
    go_enter Tryz.func76, Tryz.ntmps76
    go_wp2_with fail
    refine Calls.mono (DG.out _ ((Below.refl _ _).alloc (Nat.le_refl _) _)) ?_
    rintro e w1 ⟨rfl, hb⟩
    have B : Hid (Below w.heap.size w w1) := ((Below.refl _ _).alloc (Nat.le_refl _) _).trans (hb.mono (by simp))
    have x0 : w1.cell? ⟨w.heap.size, 0, none⟩ = some (.int .i64 1) := cell_of_heap (boxed' hb) rfl
    clear hb DG
    go_wp2
    go_ret
    exact ⟨by rw [E.out]; rfl, B.out⟩
  · rw [if_neg (by decide), if_neg (by decide)] at E
    go_enter Tryz.func76, Tryz.ntmps76
    go_wp2_with fail
    refine Calls.mono (DG.out _ ((Below.refl _ _).alloc (Nat.le_refl _) _)) ?_
    rintro e w1 ⟨rfl, hb⟩
    have B : Hid (Below w.heap.size w w1) := ((Below.refl _ _).alloc (Nat.le_refl _) _).trans (hb.mono (by simp))
    have x0 : w1.cell? ⟨w.heap.size, 0, none⟩ = some (.int .i64 2) := cell_of_heap (boxed' hb) rfl
    clear hb DG
    go_wp2
    go_ret
    refine ⟨?_, B.out⟩
    rw [E.out, show (35 : UInt8) :: d = [35] ++ d from rfl, ← ba_append]
    rfl

set_option maxRecDepth 100000 in
set_option maxHeartbeats 800000 in
theorem writeValues_any {B : Nat} (v : Value) (l : List (Int × Int)) (w : World) (ht : Tab B w) (ho : w.ownsRow 0 87 2 v l.length (l.flatMap valCells)) (hn : l.length ≤ 1000) (hf : ∀ x ∈ l, kindV x) :
    Calls Tryz.prog 36 #[v] w fun e w' => e = .returned (str (listL l)) ∧ Below w.heap.size w w' := by
  rcases Nat.eq_zero_or_pos l.length with h0 | h0
  · obtain rfl : l = [] := List.eq_nil_of_length_eq_zero h0
    obtain ⟨ao, cap, rfl⟩ := own_empty ho
    clear ho ht
    go_enter Tryz.func36, Tryz.ntmps36
    go_wp2
    go_loop [3, 4] (fun n i => n = .string ⟨#[]⟩ ∧ i = .int .i64 0) (fun _ _ => 0)
    case atStart => exact ⟨rfl, rfl⟩
    case round =>
      obtain ⟨rfl, rfl⟩ := hrel
      go_wp2
      go_ret
      exact ⟨rfl, Below.refl _ _⟩
  · obtain ⟨g, cap, rfl, hg, _, _, hcell, _⟩ := own_view ho h0
    have C : Hid (∀ k (hk : k < l.length), w.cell? ⟨g, k * 2, none⟩ = some (.int .i64 (l[k]).1) ∧ w.cell? ⟨g, k * 2 + 1, none⟩ = some (.int .i64 (l[k]).2)) := fun k hk =>
      ⟨hcell _ _ (by have := flat_get valCells 2 (fun _ => rfl) l k 0 (by decide); simpa [hk, valCells] using this), hcell _ _ (by have := flat_get valCells 2 (fun _ => rfl) l k 1 (by decide); simpa [hk, valCells] using this)⟩
    have FT : Hid ((∀ x ∈ l, kindV x) ∧ Tab B w) := ⟨hf, ht⟩
    clear hcell ho hf ht
    obtain ⟨len, hlen⟩ : ∃ len, l.length = len := ⟨_, rfl⟩
    have FIN : Hid (listL l = listN l len) := by show listL l = listN l len; unfold listL; rw [hlen]
    rw [hlen] at hn h0 ⊢
    have L : Hid (l.length = len) := hlen
    clear hlen
    obtain ⟨R, hR⟩ : ∃ R, listL l = R := ⟨_, rfl⟩
    rw [hR] at FIN ⊢
    clear hR
    unfold str
    go_enter Tryz.func36, Tryz.ntmps36
    go_wp2
    go_loopw [3, 4] (fun s i wr => ∃ (k : Nat) (a : List UInt8), k ≤ len ∧ i = .int .i64 k ∧ s = .string ⟨a.toArray⟩ ∧ a = listN l k ∧ Below w.heap.size w wr) (fun _ i _ => len - (intOf i).toNat)
    case atStart => exact ⟨0, [], Nat.zero_le _, rfl, rfl, rfl, Below.refl _ _⟩
    case round =>
      obtain ⟨k, a, hk, rfl, rfl, ha, hb⟩ := hrel
      have hal : a.length ≤ 23000 := by rw [ha]; have := listN_len l k; omega
      have K : Hid (a = listN l k ∧ Below w.heap.size w wr) := ⟨ha, hb⟩
      have hsz := hb.size
      by_cases hlt : k < len
      · have hk' : k < l.length := by rw [L.out]; exact hlt
        obtain ⟨c0, c1⟩ := C.out k hk'
        have c0' : wr.cell? ⟨g, k * 2, none⟩ = some (.int .i64 (l[k]).1) := (hb.cell (p := ⟨g, k * 2, none⟩) hg).trans c0
        have c1' : wr.cell? ⟨g, k * 2 + 1, none⟩ = some (.int .i64 (l[k]).2) := (hb.cell (p := ⟨g, k * 2 + 1, none⟩) hg).trans c1
        have WR : Hid (Calls Tryz.prog 76 #[.agg #[.int .i64 (l[k]).1, .int .i64 (l[k]).2]] wr fun e w' => e = .returned (str (writtenL l[k])) ∧ Below wr.heap.size wr w') := writeValue_any l[k] wr ((FT.out.2.keep hb.size fun j _ h2 => hb.block j h2)) (FT.out.1 _ (List.getElem_mem hk'))
        have hwl := written_len l[k]
        have S : Hid (listN l (k + 1) = a ++ (if k = 0 then [] else [44]) ++ writtenL l[k]) := by
          show listN l (k + 1) = _
          rw [listN, ← ha, List.getD_eq_getElem?_getD, List.getElem?_eq_getElem hk']; rfl
        obtain ⟨x, hx⟩ : ∃ x, l[k] = x := ⟨_, rfl⟩
        rw [hx] at c0' c1' WR hwl S
        obtain ⟨x1, x2⟩ := x
        obtain ⟨t, ht⟩ : ∃ t, writtenL (x1, x2) = t := ⟨_, rfl⟩
        rw [ht] at WR hwl S
        simp only at c0' c1' WR
        unfold str at WR
        clear ha hb c0 c1 hx ht
        by_cases hk0 : k = 0
        · subst hk0
          rw [if_pos rfl] at S
          go_wp2_with fail
          refine Calls.mono WR.out ?_
          rintro e w1 ⟨rfl, hb⟩
          have B : Hid (Below w.heap.size w w1) := K.out.2.trans (hb.mono hsz)
          clear hb WR
          go_wp2
          go_roundw
          case rel =>
            refine ⟨1, _, by omega, by go_num, ?_, rfl, B.out⟩
            rw [S.out, List.append_nil, ← ba_append]
          case measure => simp [intOf]; omega
        · rw [if_neg hk0] at S
          have hk1 : (0 : Int) < k := by omega
          go_wp2_with fail
          refine Calls.mono WR.out ?_
          rintro e w1 ⟨rfl, hb⟩
          have B : Hid (Below w.heap.size w w1) := K.out.2.trans (hb.mono hsz)
          clear hb WR
          go_wp2
          go_roundw
          case rel =>
            refine ⟨k + 1, _, by omega, by go_num, ?_, rfl, B.out⟩
            rw [S.out, ← ba_append, ← ba_append]
          case measure => simp [intOf]; omega
      · obtain rfl : k = len := by omega
        clear ha hb
        go_wp2
        go_ret
        exact ⟨by rw [FIN.out, ← K.out.1]; rfl, K.out.2⟩

set_option maxRecDepth 100000 in
set_option maxHeartbeats 800000 in
theorem writeNumbers_any {B : Nat} (v : Value) (q : List Int) (w : World) (ht : Tab B w) (ho : ownsWin w 3 v q.length (q.map (Value.int .i64))) (hn : q.length ≤ 1000) (hf : ∀ x ∈ q, -9223372036854775808 ≤ x ∧ x ≤ 9223372036854775807) :
    Calls Tryz.prog 35 #[v] w fun e w' => e = .returned (str (queueN q q.length)) ∧ Below w.heap.size w w' := by
  obtain ⟨ao, cap, hv⟩ := win_slice ho
  have C : Hid (∀ wr k (hk : k < q.length), Below w.heap.size w wr → ∃ g off, ao = some ⟨g, off, none⟩ ∧ wr.cell? ⟨g, off + k, none⟩ = some (.int .i64 q[k])) := fun wr k hk hb => by
    obtain ⟨g, off, cap', hv', hg, _, _, hcell, _⟩ := win_view ho (by omega)
    rw [hv] at hv'
    simp at hv'
    exact ⟨g, off, hv'.1, (hb.cell (p := ⟨g, off + k, none⟩) hg).trans (hcell _ _ (by simp [hk]))⟩
  have FT : Hid ((∀ x ∈ q, -9223372036854775808 ≤ x ∧ x ≤ 9223372036854775807) ∧ Tab B w) := ⟨hf, ht⟩
  subst hv
  clear ho hf ht
  obtain ⟨len, hlen⟩ : ∃ len, q.length = len := ⟨_, rfl⟩
  have L : Hid (q.length = len) := hlen
  rw [hlen] at hn ⊢
  clear hlen
  obtain ⟨R, hR⟩ : ∃ R, queueN q len = R := ⟨_, rfl⟩
  rw [hR]
  have FIN : Hid (queueN q len = R) := hR
  clear hR
  unfold str
  go_enter Tryz.func35, Tryz.ntmps35
  go_wp2
  go_loopw [3, 4] (fun s i wr => ∃ (k : Nat) (a : List UInt8), k ≤ len ∧ i = .int .i64 k ∧ s = .string ⟨a.toArray⟩ ∧ a = queueN q k ∧ Below w.heap.size w wr) (fun _ i _ => len - (intOf i).toNat)
  case atStart => exact ⟨0, [], Nat.zero_le _, rfl, rfl, rfl, Below.refl _ _⟩
  case round =>
    obtain ⟨k, a, hk, rfl, rfl, ha, hb⟩ := hrel
    have hal : a.length ≤ 23000 := by rw [ha]; have := queueN_len q k; omega
    have K : Hid (a = queueN q k ∧ Below w.heap.size w wr) := ⟨ha, hb⟩
    have hsz := hb.size
    by_cases hlt : k < len
    · have hk' : k < q.length := by rw [L.out]; exact hlt
      obtain ⟨g, off, rfl, c0⟩ := C.out wr k hk' hb
      have hfk := FT.out.1 _ (List.getElem_mem hk')
      have WR : Hid (Calls Tryz.prog 75 #[.int .i64 q[k]] wr fun e w' => e = .returned (str (digits q[k])) ∧ Below wr.heap.size wr w') := itoa_any q[k] wr (FT.out.2.below hb) hfk.1 hfk.2
      have hwl := digits_len q[k]
      have S : Hid (queueN q (k + 1) = a ++ (if k = 0 then [] else [44]) ++ digits q[k]) := by
        show queueN q (k + 1) = _
        rw [queueN, ← ha, List.getD_eq_getElem?_getD, List.getElem?_eq_getElem hk']; rfl
      obtain ⟨x, hx⟩ : ∃ x, q[k] = x := ⟨_, rfl⟩
      rw [hx] at c0 WR hwl S
      obtain ⟨t, ht⟩ : ∃ t, digits x = t := ⟨_, rfl⟩
      rw [ht] at WR hwl S
      unfold str at WR
      clear ha hb hx ht hfk
      by_cases hk0 : k = 0
      · subst hk0
        rw [if_pos rfl] at S
        rw [Nat.add_zero] at c0
        go_wp2_with fail
        refine Calls.mono WR.out ?_
        rintro e w1 ⟨rfl, hb⟩
        have B : Hid (Below w.heap.size w w1) := K.out.2.trans (hb.mono hsz)
        clear hb WR
        go_wp2
        go_roundw
        case rel =>
          refine ⟨1, _, by omega, by go_num, ?_, rfl, B.out⟩
          rw [S.out, List.append_nil, ← ba_append]
        case measure => simp [intOf]; omega
      · rw [if_neg hk0] at S
        have hk1 : (0 : Int) < k := by omega
        go_wp2_with fail
        refine Calls.mono WR.out ?_
        rintro e w1 ⟨rfl, hb⟩
        have B : Hid (Below w.heap.size w w1) := K.out.2.trans (hb.mono hsz)
        clear hb WR
        go_wp2
        go_roundw
        case rel =>
          refine ⟨k + 1, _, by omega, by go_num, ?_, rfl, B.out⟩
          rw [S.out, ← ba_append, ← ba_append]
        case measure => simp [intOf]; omega
    · obtain rfl : k = len := by omega
      clear ha hb
      go_wp2
      go_ret
      exact ⟨by rw [← FIN.out, ← K.out.1]; rfl, K.out.2⟩

end Go.Proofs.YtpmkjeihbddfpabGreatDoor

/- OUR OWN. The program's Dump: a block's record; the whole. Gauge. -/
namespace Go.Proofs.YtpmkjeihbddfpabGreatDoor
open Go.RowKit
set_option linter.unusedVariables false
set_option linter.unusedSimpArgs false

theorem leads_kind {s : St} {N : Nat} (g : s.Good N) (hN : N ≤ 99) {v : Int × Int} (h : s.leads v) : kindV v := by
  rcases h with e | e | ⟨e, i, hi, ha⟩
  · rw [e]; exact ⟨⟨by decide, by decide⟩, .inl rfl⟩
  · exact ⟨e.2, .inr (.inl e.1)⟩
  · have := g.ne_zero ha.1
    exact ⟨⟨by omega, by omega⟩, .inr (.inr e)⟩

/-- a block's letter and count, as the program has them -/
def stateL (st ct : Int) : List UInt8 := if st = 2 then [115] else if st = 3 then 113 :: digits ct else if st = 1 ∧ ct = 0 then 119 :: digits ct else 104 :: digits ct

set_option maxRecDepth 100000 in
set_option maxHeartbeats 800000 in
theorem writeState_any {B : Nat} (st ct : Int) (ao : Option Addr) (fl fc : Nat) (w : World) (ht : Tab B w) (h01 : ¬ st = 2 → -9223372036854775808 ≤ ct ∧ ct ≤ 9223372036854775807) :
    Calls Tryz.prog 74 #[.agg #[.int .i64 st, .int .i64 ct, .slice ao fl fc]] w fun e w' => e = .returned (str (stateL st ct)) ∧ Below w.heap.size w w' := by
  have DG : Hid (¬ st = 2 → ∀ W, Below w.heap.size w W → Calls Tryz.prog 75 #[.int .i64 ct] W fun e w' => e = .returned (str (digits ct)) ∧ Below W.heap.size W w') := fun h2 W hb => itoa_any ct W (ht.below hb) (h01 h2).1 (h01 h2).2
  have WF : Hid (∀ W, Calls Tryz.prog 63 #[.agg #[.int .i64 st, .int .i64 ct, .slice ao fl fc]] W fun e w' => e = .returned (.bool (decide (st = 1) && decide (ct = 0))) ∧ Below W.heap.size W w') := fun W => waits_fn st ct _ W
  have hl := digits_len ct
  have E : Hid (stateL st ct = if st = 2 then [115] else if st = 3 then 113 :: digits ct else if st = 1 ∧ ct = 0 then 119 :: digits ct else 104 :: digits ct) := rfl
  obtain ⟨R, hR⟩ : ∃ R, stateL st ct = R := ⟨_, rfl⟩
  rw [hR] at E ⊢
  obtain ⟨d, hd⟩ : ∃ d, digits ct = d := ⟨_, rfl⟩
  rw [hd] at DG hl E
  clear hR hd ht h01
  unfold str at *
  by_cases q2 : st = 2
  · subst q2
    rw [if_pos rfl] at E
    go_enter Tryz.func74, Tryz.ntmps74
    go_wp2
    go_ret
    exact ⟨by rw [E.out]; rfl, (Below.refl _ _).alloc (Nat.le_refl _) _⟩
  rw [if_neg q2] at E
  have p2 : (st == 2) = false := by simpa using q2
  have DI : Hid _ := DG.out q2
  clear DG
  by_cases q3 : st = 3
  · subst q3
    rw [if_pos rfl] at E
    go_enter Tryz.func74, Tryz.ntmps74
    go_wp2_with fail
    refine Calls.mono (DI.out _ ((Below.refl _ _).alloc (Nat.le_refl _) _)) ?_
    rintro e w1 ⟨rfl, hb⟩
    have B : Hid (Below w.heap.size w w1) := ((Below.refl _ _).alloc (Nat.le_refl _) _).trans (hb.mono (by simp))
    have x0 : w1.cell? ⟨w.heap.size, 0, none⟩ = some (.int .i64 3) := cell_of_heap (boxed' hb) rfl
    clear hb DI
    go_wp2
    go_ret
    refine ⟨?_, B.out⟩
    rw [E.out, show (113 : UInt8) :: d = [113] ++ d from rfl, ← ba_append]
    rfl
  rw [if_neg q3] at E
  have p3 : (st == 3) = false := by simpa using q3
  obtain ⟨wt, hwt⟩ : ∃ b, (decide (st = 1) && decide (ct = 0)) = b := ⟨_, rfl⟩
  rw [hwt] at WF
  have E2 : Hid (R = (if wt then 119 else 104) :: d) := by
    show R = _
    rw [E.out, ← hwt]
    by_cases h : st = 1 ∧ ct = 0
    · rw [if_pos h]; simp [h.1, h.2]
    · rw [if_neg h]
      have : (decide (st = 1) && decide (ct = 0)) = false := by
        by_cases a : st = 1
        · have : ¬ ct = 0 := fun b => h ⟨a, b⟩
          simp [this]
        · simp [a]
      rw [this]; rfl
  clear E hwt
  have FIN : Hid (∀ W, Below (w.alloc (.cells #[.int .i64 st, .int .i64 ct, .slice ao fl fc] 77)).heap.size (w.alloc (.cells #[.int .i64 st, .int .i64 ct, .slice ao fl fc] 77)) W → Below w.heap.size w W ∧ W.cell? ⟨w.heap.size, 0, none⟩ = some (.int .i64 st) ∧ W.cell? ⟨w.heap.size, 1, none⟩ = some (.int .i64 ct) ∧ W.cell? ⟨w.heap.size, 2, none⟩ = some (.slice ao fl fc)) := fun W hb =>
    ⟨((Below.refl _ _).alloc (Nat.le_refl _) _).trans (hb.mono (by simp)), cell_of_heap (boxed' hb) rfl, cell_of_heap (boxed' hb) rfl, cell_of_heap (boxed' hb) rfl⟩
  cases wt with
  | true =>
    have E3 : Hid (R = [119] ++ d) := E2.out
    clear E2
    go_enter Tryz.func74, Tryz.ntmps74
    go_wp2_with fail
    refine Calls.mono (DI.out _ ((Below.refl _ _).alloc (Nat.le_refl _) _)) ?_
    rintro e w1 ⟨rfl, hb⟩
    obtain ⟨b1, x0, x1, x2⟩ := FIN.out w1 hb
    have B1 : Hid _ := b1
    clear hb DI b1
    go_wp2_with fail
    refine Calls.mono (WF.out _) ?_
    rintro e w2 ⟨rfl, hb⟩
    have B2 : Hid (Below w.heap.size w w2) := B1.out.trans (hb.mono B1.out.size)
    clear hb WF x0 x1 x2
    go_wp2
    go_ret
    refine ⟨?_, B2.out⟩
    rw [E3.out, ← ba_append]
    rfl
  | false =>
    have E3 : Hid (R = [104] ++ d) := E2.out
    clear E2
    go_enter Tryz.func74, Tryz.ntmps74
    go_wp2_with fail
    refine Calls.mono (DI.out _ ((Below.refl _ _).alloc (Nat.le_refl _) _)) ?_
    rintro e w1 ⟨rfl, hb⟩
    obtain ⟨b1, x0, x1, x2⟩ := FIN.out w1 hb
    have B1 : Hid _ := b1
    clear hb DI b1
    go_wp2_with fail
    refine Calls.mono (WF.out _) ?_
    rintro e w2 ⟨rfl, hb⟩
    have B2 : Hid (Below w.heap.size w w2) := B1.out.trans (hb.mono B1.out.size)
    clear hb WF x0 x1 x2
    go_wp2
    go_ret
    refine ⟨?_, B2.out⟩
    rw [E3.out, ← ba_append]
    rfl

theorem state_len (st ct : Int) : (stateL st ct).length ≤ 22 := by
  unfold stateL
  have := digits_len ct
  split
  · simp
  · split
    · simp; omega
    · split <;> simp <;> omega

set_option maxRecDepth 100000 in
set_option maxHeartbeats 800000 in
theorem writeBlock_any {B : Nat} (o : HObj) (w : World) (ht : Tab B w) (h01 : ¬ o.state = 0 → ¬ o.state = 2 → -9223372036854775808 ≤ o.count ∧ o.count ≤ 9223372036854775807) (ho : w.ownsRow 0 87 2 o.vF o.fs.length (o.fs.flatMap valCells)) (hn : o.fs.length ≤ 4) (hf : ∀ x ∈ o.fs, kindV x) :
    Calls Tryz.prog 34 #[.agg #[.int .i64 o.state, .int .i64 o.count, o.vF]] w fun e w' => e = .returned (str (if o.state = 0 then [46, 59] else stateL o.state o.count ++ [91] ++ listL o.fs ++ [93, 59])) ∧ Below w.heap.size w w' := by
  obtain ⟨ao, fc, hv⟩ := own_slice ho
  have WS : Hid (¬ o.state = 0 → ∀ W, Below w.heap.size w W → Calls Tryz.prog 74 #[.agg #[.int .i64 o.state, .int .i64 o.count, .slice ao o.fs.length fc]] W fun e w' => e = .returned (str (stateL o.state o.count)) ∧ Below W.heap.size W w') := fun h0 W hb => writeState_any _ _ _ _ _ W (ht.below hb) (h01 h0)
  have LI : Hid (∀ W, Below w.heap.size w W → Calls Tryz.prog 36 #[.slice ao o.fs.length fc] W fun e w' => e = .returned (str (listL o.fs)) ∧ Below W.heap.size W w') := fun W hb => by
    have := writeValues_any o.vF o.fs W (ht.below hb) (own_carry ho fun b hbb => hb.block b (own_lt ho hbb).2) (by omega) hf
    rw [hv] at this
    exact this
  have hsl := state_len o.state o.count
  have hll := list_len o.fs
  obtain ⟨R, hR⟩ : ∃ R, (if o.state = 0 then [46, 59] else stateL o.state o.count ++ [91] ++ listL o.fs ++ [93, 59]) = R := ⟨_, rfl⟩
  have E : Hid ((if o.state = 0 then [46, 59] else stateL o.state o.count ++ [91] ++ listL o.fs ++ [93, 59]) = R) := hR
  rw [hR, hv]
  obtain ⟨S, hS⟩ : ∃ S, stateL o.state o.count = S := ⟨_, rfl⟩
  rw [hS] at WS hsl E
  obtain ⟨L, hL⟩ : ∃ L, listL o.fs = L := ⟨_, rfl⟩
  rw [hL] at LI hll E
  have hll2 : L.length ≤ 92 := by omega
  obtain ⟨fl, hfl⟩ : ∃ fl, o.fs.length = fl := ⟨_, rfl⟩
  rw [hfl] at WS LI ⊢
  obtain ⟨st, hst⟩ : ∃ st, o.state = st := ⟨_, rfl⟩
  rw [hst] at WS E ⊢
  obtain ⟨ct, hct⟩ : ∃ ct, o.count = ct := ⟨_, rfl⟩
  rw [hct] at WS ⊢
  clear ht h01 ho hf hv hR hS hL hfl hst hct hll hn
  unfold str at *
  by_cases q0 : st = 0
  · subst q0
    rw [if_pos rfl] at E
    go_enter Tryz.func34, Tryz.ntmps34
    go_wp2
    go_ret
    exact ⟨by rw [← E.out]; rfl, (Below.refl _ _).alloc (Nat.le_refl _) _⟩
  rw [if_neg q0] at E
  have p0 : (st == 0) = false := by simpa using q0
  go_enter Tryz.func34, Tryz.ntmps34
  go_wp2_with fail
  refine Calls.mono (WS.out q0 _ ((Below.refl _ _).alloc (Nat.le_refl _) _)) ?_
  rintro e w1 ⟨rfl, hb⟩
  have B1 : Hid (Below w.heap.size w w1) := ((Below.refl _ _).alloc (Nat.le_refl _) _).trans (hb.mono (by simp))
  have x2 : w1.cell? ⟨w.heap.size, 2, none⟩ = some (.slice ao fl fc) := cell_of_heap (boxed' hb) rfl
  clear hb WS
  go_wp2_with fail
  refine Calls.mono (LI.out _ B1.out) ?_
  rintro e w2 ⟨rfl, hb⟩
  have B2 : Hid (Below w.heap.size w w2) := B1.out.trans (hb.mono B1.out.size)
  clear hb LI x2 B1
  go_wp2
  go_ret
  refine ⟨?_, B2.out⟩
  rw [← E.out, show S ++ [91] ++ L ++ [93, 59] = (S ++ ([91] ++ L)) ++ [93, 59] by simp, ← ba_append, ← ba_append, ← ba_append]
  rfl

end Go.Proofs.YtpmkjeihbddfpabGreatDoor

/- OUR OWN. The program's Dump and Gauge: the contracts. -/
namespace Go.Proofs.YtpmkjeihbddfpabGreatDoor
open Go.RowKit
set_option linter.unusedVariables false
set_option linter.unusedSimpArgs false

/-- a block's record, as the document has it -/
theorem record_of {m : HeapM} {s : St} {c : Cf} {N : Nat} (p : HSb 0 m s c N) (g : s.Good N) {i : Nat} {o : HObj} (hi : m.blks[i]? = some o) (h1 : 1 ≤ i) :
    (if o.state = 0 then [46, 59] else stateL o.state o.count ++ [91] ++ listL o.fs ++ [93, 59]) = recordL s i := by
  have ho : s.ob i = o.ob := by rw [← p.st]; exact hst_ob hi
  have hw := p.waits hi
  unfold HObj.waits St.others at hw
  have hne : decide ((i : Int) ≠ 0) = true := decide_eq_true (by omega)
  rw [hne, Bool.and_true] at hw
  unfold recordL letterL
  rw [← hw, ho]
  unfold HObj.ob stateL
  simp only
  rcases p.state o (List.mem_of_getElem? hi) with e | e | e | e
  · simp [e]
  · have hc := p.cnt i o hi (.inl e)
    rw [if_neg (by omega)] at hc
    have hc' : o.count = (s.count i : Int) := by omega
    rw [if_neg (by omega), if_neg (by omega), if_neg (by omega)]
    simp only [e, hc']
    by_cases h0 : s.count i = 0
    · simp [h0]
    · simp [h0]
  · simp [e]
  · have hc := p.cnt i o hi (.inr e)
    rw [if_neg (by omega)] at hc
    have hc' : o.count = (s.count i : Int) := by omega
    simp [e, hc']

theorem dump_parts {a b c d e : List UInt8} : a ++ [124] ++ b ++ [124] ++ c ++ [124] ++ d = ((a ++ ([124] ++ b)) ++ ([124] ++ c)) ++ ([124] ++ d) := by simp

set_option maxRecDepth 100000 in
set_option maxHeartbeats 1600000 in
theorem dump_done {BT : Nat} {h : Nat} {w : World} {m : HeapM} {s : St} {c : Cf} {N : Nat} (ht : Tab BT w) (p : HB 0 h w m s c N) :
    Calls Tryz.prog 14 #[.pointer (some ⟨h, 0, none⟩)] w fun e w' => e = .returned (str (dumpL s)) ∧ Below w.heap.size w w' := by
  have hN := p.small
  have hh := lt_of_heap p.r.head
  have KIND : ∀ v, s.leads v → kindV v := fun v hv => leads_kind p.good hN hv
  obtain ⟨g, cap, cB, hg, hobj⟩ := p.cells
  have hql : s.queue.length ≤ 100 := by have := p.good.queue_len; omega
  obtain ⟨sao, scp, hvS⟩ := own_slice p.r.stack
  obtain ⟨gao, gcp, hvG⟩ := own_slice p.r.globals
  obtain ⟨qao, qcp, hvQ⟩ := win_slice p.r.queue
  have FQ := (p.good.fits hN).queue
  have C : Hid (∀ W, Below w.heap.size w W → W.cell? ⟨h, 6, none⟩ = some (.slice (some ⟨g, 0, none⟩) (N + 1) cap) ∧ W.cell? ⟨h, 7, none⟩ = some (.slice qao m.queue.length qcp) ∧ W.cell? ⟨h, 4, none⟩ = some (.slice sao m.stack.length scp) ∧ W.cell? ⟨h, 5, none⟩ = some (.slice gao m.globals.length gcp) ∧
      (Calls Tryz.prog 35 #[.slice qao m.queue.length qcp] W fun e w' => e = .returned (str (queueN s.queue s.queue.length)) ∧ Below W.heap.size W w') ∧
      (Calls Tryz.prog 36 #[.slice sao m.stack.length scp] W fun e w' => e = .returned (str (listL s.stack)) ∧ Below W.heap.size W w') ∧
      (Calls Tryz.prog 36 #[.slice gao m.globals.length gcp] W fun e w' => e = .returned (str (listL s.globals)) ∧ Below W.heap.size W w')) := fun W hb => by
    have q := p.below hb
    have htW := ht.below hb
    refine ⟨(hb.cell (p := ⟨h, 6, none⟩) hh).trans cB, by rw [q.r.cell.2.2.2.2.1, hvQ], by rw [q.r.cell.2.1, hvS], by rw [q.r.cell.2.2.1, hvG], ?_, ?_, ?_⟩
    · have := writeNumbers_any m.vQ m.queue W htW q.r.queue (by rw [p.mqueue]; omega) (by rw [p.mqueue]; exact FQ)
      rw [hvQ] at this
      rw [← p.mqueue]; exact this
    · have := writeValues_any m.vS m.stack W htW q.r.stack (by rw [p.mstack]; have := p.stack; omega) (by rw [p.mstack]; exact fun x hx => KIND x (p.good.stack x hx))
      rw [hvS] at this
      rw [← p.mstack]; exact this
    · have := writeValues_any m.vG m.globals W htW q.r.globals (by rw [p.mglobals]; have := p.globals; omega) (by rw [p.mglobals]; exact fun x hx => KIND x (p.good.globals x hx))
      rw [hvG] at this
      rw [← p.mglobals]; exact this
  have REC : Hid (∀ W (j : Nat), Below w.heap.size w W → j < N → ∃ st ct ao fl fc, W.cell? ⟨g, (j + 1) * 3, none⟩ = some (.int .i64 st) ∧ W.cell? ⟨g, (j + 1) * 3 + 1, none⟩ = some (.int .i64 ct) ∧ W.cell? ⟨g, (j + 1) * 3 + 2, none⟩ = some (.slice ao fl fc) ∧
      Calls Tryz.prog 34 #[.agg #[.int .i64 st, .int .i64 ct, .slice ao fl fc]] W fun e w' => e = .returned (str (recordL s (j + 1))) ∧ Below W.heap.size W w') := fun W j hb hj => by
    obtain ⟨o, ao, fl, fc, ho, hvF, hfl, c0, c1, c2⟩ := hobj (j + 1) (by omega)
    have q := p.below hb
    have hfs : o.fs = (s.ob (j + 1)).fs := by rw [p.ob ho]; rfl
    refine ⟨o.state, o.count, ao, fl, fc, (hb.cell (p := ⟨g, _, none⟩) hg).trans c0, (hb.cell (p := ⟨g, _, none⟩) hg).trans c1, (hb.cell (p := ⟨g, _, none⟩) hg).trans c2, ?_⟩
    rw [← record_of p.hs p.good ho (by omega), ← hvF]
    refine writeBlock_any o W (ht.below hb) (fun h0 h2 => ?_) (q.r.fields o (List.mem_of_getElem? ho)) (by rw [hfs]; exact p.good.four _) (by rw [hfs]; exact fun x hx => KIND x (p.good.fields _ x hx))
    have hc := p.hs.cnt (j + 1) o ho (by
      rcases p.hs.state o (List.mem_of_getElem? ho) with e | e | e | e
      · exact absurd e h0
      · exact .inl e
      · exact absurd e h2
      · exact .inr e)
    have hcl := p.good.count_le ((j + 1 : Nat) : Int)
    rw [hc]
    split <;> omega
  have RL : Hid (∀ k, (recsTo s k).length ≤ 120 * k) := fun k => recs_len s k p.good.four
  have E : Hid (dumpL s = recsTo s N ++ [124] ++ queueN s.queue s.queue.length ++ [124] ++ listL s.stack ++ [124] ++ listL s.globals) := by
    show dumpL s = _
    unfold dumpL; rw [p.good.sN]
  have hqq := queueN_len s.queue s.queue.length
  have hsl : (listL s.stack).length ≤ 400 := by have := list_len s.stack; have := p.stack; omega
  have hgl : (listL s.globals).length ≤ 400 := by have := list_len s.globals; have := p.globals; omega
  obtain ⟨ql, hqlen⟩ : ∃ ql, m.queue.length = ql := ⟨_, rfl⟩
  obtain ⟨sl, hsl'⟩ : ∃ sl, m.stack.length = sl := ⟨_, rfl⟩
  obtain ⟨gl, hgl'⟩ : ∃ gl, m.globals.length = gl := ⟨_, rfl⟩
  rw [hqlen, hsl', hgl'] at C
  obtain ⟨QL, hQL⟩ : ∃ QL, queueN s.queue s.queue.length = QL := ⟨_, rfl⟩
  obtain ⟨SL, hSL⟩ : ∃ SL, listL s.stack = SL := ⟨_, rfl⟩
  obtain ⟨GL, hGL⟩ : ∃ GL, listL s.globals = GL := ⟨_, rfl⟩
  rw [hQL, hSL, hGL] at C E
  rw [hQL] at hqq
  rw [hSL] at hsl
  rw [hGL] at hgl
  have hqq2 : QL.length ≤ 2300 := by omega
  obtain ⟨R, hR⟩ : ∃ R, dumpL s = R := ⟨_, rfl⟩
  rw [hR] at E ⊢
  clear ht p KIND hobj cB hvS hvG hvQ FQ hqlen hsl' hgl' hQL hSL hGL hR hql hqq
  unfold str at *
  go_enter Tryz.func14, Tryz.ntmps14
  go_wp2
  go_loopw [3, 4] (fun t i wr => ∃ (j : Nat) (a : List UInt8), j ≤ N ∧ i = .int .i64 (j + 1) ∧ t = .string ⟨a.toArray⟩ ∧ a = recsTo s j ∧ Below w.heap.size w wr) (fun _ i _ => N + 1 - (intOf i).toNat)
  case atStart => exact ⟨0, [], Nat.zero_le _, rfl, rfl, rfl, Below.refl _ _⟩
  case round =>
    obtain ⟨j, a, hj, rfl, rfl, ha, hb⟩ := hrel
    have hal : a.length ≤ 11880 := by rw [ha]; have := RL.out j; omega
    have K : Hid (a = recsTo s j ∧ Below w.heap.size w wr) := ⟨ha, hb⟩
    have hsz := hb.size
    obtain ⟨c5, c6, c3, c4, hq, _, _⟩ := C.out wr hb
    by_cases hlt : j < N
    · obtain ⟨st, ct, ao, fl, fc, d0, d1, d2, hrec⟩ := REC.out wr j hb hlt
      have R1 : Hid _ := hrec
      have hre : (recordL s (j + 1)).length ≤ 120 * (j + 1) := by have := RL.out (j + 1); rw [recsTo, List.length_append] at this; omega
      have hre2 : (recordL s (j + 1)).length ≤ 11880 := by omega
      have S : Hid (recsTo s (j + 1) = a ++ recordL s (j + 1)) := by show recsTo s (j + 1) = _; rw [recsTo, ← ha]
      obtain ⟨t, htt⟩ : ∃ t, recordL s (j + 1) = t := ⟨_, rfl⟩
      rw [htt] at R1 hre2 S
      clear htt hre ha hb hq hrec c6 c3 c4
      go_wp2_with fail
      refine Calls.mono R1.out ?_
      rintro e w1 ⟨rfl, hb⟩
      have B : Hid (Below w.heap.size w w1) := K.out.2.trans (hb.mono hsz)
      clear hb R1 d0 d1 d2 c5
      go_wp2
      go_roundw
      case rel =>
        refine ⟨j + 1, _, by omega, by go_num, ?_, rfl, B.out⟩
        rw [S.out, ← ba_append]
      case measure => simp [intOf]; omega
    · obtain rfl : j = N := by omega
      have Q : Hid _ := hq
      clear ha hb hq REC RL
      go_wp2_with fail
      refine Calls.mono Q.out ?_
      rintro e w1 ⟨rfl, hb⟩
      have B1 : Hid (Below w.heap.size w w1) := K.out.2.trans (hb.mono hsz)
      obtain ⟨_, _, x3, _, _, hs, _⟩ := C.out w1 B1.out
      have S1 : Hid _ := hs
      clear hb Q hs c5 c6 c3 c4
      go_wp2_with fail
      refine Calls.mono S1.out ?_
      rintro e w2 ⟨rfl, hb⟩
      have B2 : Hid (Below w.heap.size w w2) := B1.out.trans (hb.mono B1.out.size)
      obtain ⟨_, _, _, y4, _, _, hgg⟩ := C.out w2 B2.out
      have G1 : Hid _ := hgg
      clear hb S1 hgg x3
      go_wp2_with fail
      refine Calls.mono G1.out ?_
      rintro e w3 ⟨rfl, hb⟩
      have B3 : Hid (Below w.heap.size w w3) := B2.out.trans (hb.mono B2.out.size)
      clear hb G1 y4 C
      go_wp2
      go_ret
      refine ⟨?_, B3.out⟩
      rw [E.out, ← K.out.1, dump_parts (e := []), ← ba_append, ← ba_append, ← ba_append, ← ba_append, ← ba_append, ← ba_append]
      rfl

theorem dump_pact : DumpPact HS := by
  intro x N B w hm s c ht hat hs g cf hN h16 h8
  exact (dump_done ht ⟨hat, hs, g, cf, hN, h16, h8⟩).mono fun e w' ⟨he, hb⟩ => ⟨he, hm, .of_below hat hb, hs⟩

end Go.Proofs.YtpmkjeihbddfpabGreatDoor

/- OUR OWN. All: the walk. -/
namespace Go.Proofs.YtpmkjeihbddfpabGreatDoor
open Go.RowKit
set_option linter.unusedVariables false
set_option linter.unusedSimpArgs false

variable {HS : HeapM → St → Cf → Nat → Prop} {K : St → Int → Nat → Prop}

/-- a look at one of the pairs -/
def LooksAt (HS : HeapM → St → Cf → Nat → Prop) (K : St → Int → Nat → Prop) (f : Nat) : Prop := ∀ (B : Nat) (w : World) (wb : Nat) (v : Value) (ps : List PairM) (k : Nat) (hk : k < ps.length), LawAt (LSim HS K) B w wb v ps → B ≤ w.heap.size →
  Calls Tryz.prog f #[ptr (ps[k]).p] w fun e w' => e = .returned (.bool true) ∧ ∃ ps', ps'.length = ps.length ∧ LawAt (LSim HS K) B w' wb v ps' ∧ Below B w w'

theorem dumped_at (P : DumpPact HS) : LooksAt HS K 5 := by
  intro B w wb v ps k hk r hB
  have hq : ps[k]? = some ps[k] := List.getElem?_eq_getElem hk
  refine (dumped_any P w r.tab _ (r.pairs _ (List.getElem_mem hk)) (r.sim _ (List.getElem_mem hk))).mono ?_
  rintro e w' ⟨he, q', hst, hs'⟩
  obtain ⟨l1, l2⟩ := r.turn hB _ hq hst hs'
  exact ⟨he, _, by simp, l1, l2.below hB r.low⟩
theorem gauged_at (P : GaugePact HS) : LooksAt HS K 6 := by
  intro B w wb v ps k hk r hB
  have hq : ps[k]? = some ps[k] := List.getElem?_eq_getElem hk
  refine (gauged_any P w _ (r.pairs _ (List.getElem_mem hk)) (r.sim _ (List.getElem_mem hk))).mono ?_
  rintro e w' ⟨he, q', hst, hs'⟩
  obtain ⟨l1, l2⟩ := r.turn hB _ hq hst hs'
  exact ⟨he, _, by simp, l1, l2.below hB r.low⟩

/-- a step is as the document says -/
def StepIs (HS : HeapM → St → Cf → Nat → Prop) (K : St → Int → Nat → Prop) : Prop := ∀ (B : Nat) (w : World) (wb : Nat) (v : Value) (ps : List PairM) (t : StepM), LawAt (LSim HS K) B w wb v ps → B ≤ w.heap.size → ps.length ≤ 2000000000000 → t.ok →
  Calls Tryz.prog 4 #[ptr wb, t.val] w fun e w' => e = .returned (.bool true) ∧ ∃ v' ps', ps'.length ≤ ps.length + 1 ∧ LawAt (LSim HS K) B w' wb v' ps' ∧ Below B w w'
theorem stepIs (h : StepSays (LSim HS K) 9223372036854775807 (-9223372036854775808) 9223372036854775807 (GoodAt fun _ => True)) : StepIs HS K := by
  intro B w wb v ps t r hB hm hok
  refine (h B w wb v ps t r hB hm hok hok.1.2 (fun _ _ _ => trivial)).mono ?_
  rintro e w' ⟨ok, v', ps', he, hh, hl, hr, ho⟩
  have : ok = true := hh (.inr ⟨hok.1.1, hok.1.2⟩)
  subst this
  exact ⟨he, v', ps', hl, hr, ho.below hB r.low⟩

set_option maxHeartbeats 3200000 in
set_option maxRecDepth 100000 in
theorem all_any (sb off len cap : Nat) (st : Nat → StepM) (w : World) (hL : len * 80 ≤ 140737488351232) (hsb : sb < w.heap.size) (hS : ScriptAt w sb off len st) (htab : Tab w.heap.size w)
    (step : StepIs HS K) (du : LooksAt HS K 5) (ga : LooksAt HS K 6) :
    Calls Tryz.prog 3 #[.slice (some ⟨sb, off, none⟩) len cap] w fun e w' => e = .returned (.bool true) ∧ Below w.heap.size w w' := by
  have HT : Hid (Tab w.heap.size w) := htab
  have H : Hid (ScriptAt w sb off len st ∧ StepIs HS K ∧ LooksAt HS K 5 ∧ LooksAt HS K 6) := ⟨hS, step, du, ga⟩
  clear hS step htab du ga
  go_enter Tryz.func3, Tryz.ntmps3
  go_wp2
  go_loopw [4] (fun i wr => ∃ (k : Nat) (v : Value) (ps : List PairM), k ≤ len ∧ i = .int .i64 k ∧ ps.length ≤ k ∧ LawAt (LSim HS K) w.heap.size wr w.heap.size v ps ∧ Below w.heap.size w wr) (fun i _ => len - (intOf i).toNat)
  case atStart => exact ⟨0, _, [], by omega, rfl, by simp, lawStart w _ (Nat.le_refl _) HT.out, (Below.refl _ _).alloc (Nat.le_refl _) _⟩
  case round =>
    obtain ⟨k, v, ps, hk, rfl, hps, hl, hbel⟩ := hrel
    by_cases hlt : k < len
    · obtain ⟨hS, step, _, _⟩ := H.out
      obtain ⟨hok, hcells⟩ := hS k hlt
      obtain ⟨t, ht⟩ : ∃ t, t = st k := ⟨_, rfl⟩
      rw [← ht] at hok hcells
      have hsz := hbel.size
      have ST : Hid (Calls Tryz.prog 4 #[ptr w.heap.size, t.val] wr fun e w' => e = .returned (.bool true) ∧ ∃ v' ps', ps'.length ≤ k + 1 ∧ LawAt (LSim HS K) w.heap.size w' w.heap.size v' ps' ∧ Below w.heap.size w w') :=
        (step _ _ _ _ _ t hl hsz (by omega) hok).mono fun e w' ⟨h1, v', ps', h2, h3, h4⟩ => ⟨h1, v', ps', by omega, h3, hbel.trans h4⟩
      obtain ⟨kind, a, op, n, b, s, g, u, z, o⟩ := t
      have cc : ∀ j u, _ → wr.cell? ⟨sb, off + k * 10 + j, none⟩ = some u := fun j u hj => (hbel.cell (p := ⟨sb, off + k * 10 + j, none⟩) hsb).trans (hcells j u hj)
      have c0 := cc 0 _ rfl
      have c1 := cc 1 _ rfl
      have c2 := cc 2 _ rfl
      have c3 := cc 3 _ rfl
      have c4 := cc 4 _ rfl
      have c5 := cc 5 _ rfl
      have c6 := cc 6 _ rfl
      have c7 := cc 7 _ rfl
      have c8 := cc 8 _ rfl
      have c9 := cc 9 _ rfl
      simp only [Nat.add_zero] at c0
      unfold ptr StepM.val at ST
      simp only at ST c0 c1 c2 c3 c4 c5 c6 c7 c8 c9
      have hkI : (k : Int) < len := by omega
      clear hS step hcells cc ht hok hl hbel hps hsz
      go_wp2_with fail
      refine Calls.mono ST.out ?_
      rintro e w1 ⟨rfl, v', ps', hps', hl', hbel'⟩
      have L1 : Hid (LawAt (LSim HS K) w.heap.size w1 w.heap.size v' ps' ∧ Below w.heap.size w w1) := ⟨hl', hbel'⟩
      obtain ⟨n', hn'⟩ : ∃ n', ps'.length = n' := ⟨_, rfl⟩
      have hn9 : n' ≤ k + 1 := by omega
      clear ST hps' hl' hbel' c0 c1 c2 c3 c4 c5 c6 c7 c8 c9
      go_wp2
      go_loopw [6] (fun i wq => ∃ (q : Nat) (ps2 : List PairM), q ≤ n' ∧ i = .int .i64 q ∧ ps2.length = n' ∧ LawAt (LSim HS K) w.heap.size wq w.heap.size v' ps2 ∧ Below w.heap.size w wq) (fun i _ => n' - (intOf i).toNat)
      case atStart => exact ⟨0, ps', Nat.zero_le _, rfl, hn', L1.out.1, L1.out.2⟩
      case round =>
        obtain ⟨q, ps2, hq, rfl, hl2, hla, hbq⟩ := hrel
        have hszq := hbq.size
        have cW := cell_of_heap (i := 0) hla.head rfl
        by_cases hlt2 : q < n'
        · obtain ⟨gb, cap2, hv, hgb, hrow⟩ := hla.form (by omega)
          have hcq := hrow q (by omega)
          have D1 : Hid (Calls Tryz.prog 5 #[ptr (ps2[q]'(by omega)).p] wr fun e w' => e = .returned (.bool true) ∧ ∃ (gb cap : Nat) (ps3 : List PairM), ps3.length = n' ∧ ∃ hq3 : q < ps3.length, w'.cell? ⟨w.heap.size, 0, none⟩ = some (.slice (some ⟨gb, 0, none⟩) n' cap) ∧ w'.cell? ⟨gb, q, none⟩ = some (ptr (ps3[q]).p) ∧
              Calls Tryz.prog 6 #[ptr (ps3[q]).p] w' fun e w2 => e = .returned (.bool true) ∧ ∃ ps4 : List PairM, ps4.length = n' ∧ LawAt (LSim HS K) w.heap.size w2 w.heap.size v' ps4 ∧ Below w.heap.size w w2) := by
            refine (H.out.2.2.1 _ _ _ _ _ q (by omega) hla hszq).mono ?_
            rintro e w' ⟨he, ps3, h3, hla3, hb3⟩
            have h3' : ps3.length = n' := by omega
            obtain ⟨gb', cap', hv', _, hrow'⟩ := hla3.form (by omega)
            refine ⟨he, gb', cap', ps3, h3', by omega, ?_, hrow' q (by omega), ?_⟩
            · have := cell_of_heap (i := 0) hla3.head rfl
              rw [h3'] at hv'
              rw [← hv']
              simpa using this
            · refine (H.out.2.2.2 _ _ _ _ _ q (by omega) hla3 (by have := (hbq.trans hb3).size; omega)).mono ?_
              rintro e w2 ⟨he2, ps4, h4, hla4, hb4⟩
              exact ⟨he2, ps4, by omega, hla4, (hbq.trans hb3).trans hb4⟩
          rw [hl2] at hv
          have cW' : wr.cell? ⟨w.heap.size, 0, none⟩ = some (.slice (some ⟨gb, 0, none⟩) n' cap2) := by rw [← hv]; simpa using cW
          unfold ptr at D1 hcq
          obtain ⟨pp, hpp⟩ : ∃ pp, (ps2[q]'(by omega)).p = pp := ⟨_, rfl⟩
          rw [hpp] at D1 hcq
          have hqI : (q : Int) < n' := by omega
          clear cW hv hrow hla hbq hpp hgb
          go_wp2_with fail
          refine Calls.mono D1.out ?_
          rintro e w5 ⟨rfl, gb5, cap5, ps5, hl5, hq5, cW5, hc5, hga⟩
          have G5 : Hid _ := hga
          obtain ⟨p5, hp5⟩ : ∃ p5, (ps5[q]).p = p5 := ⟨_, rfl⟩
          rw [hp5] at G5 hc5
          clear D1 cW' hcq hga hp5
          go_wp2_with fail
          refine Calls.mono G5.out ?_
          rintro e w6 ⟨rfl, ps6, hl6, hla6, hb6⟩
          have M6 : Hid (LawAt (LSim HS K) w.heap.size w6 w.heap.size v' ps6 ∧ Below w.heap.size w w6) := ⟨hla6, hb6⟩
          clear G5 cW5 hc5 hla6 hb6
          go_wp2
          go_roundw
          case rel => exact ⟨q + 1, ps6, by omega, by go_num, hl6, M6.out.1, M6.out.2⟩
          case measure => simp [intOf]; omega
        · obtain rfl : q = n' := by omega
          obtain ⟨ao, cap2, hv⟩ := own_slice hla.row
          rw [hl2] at hv
          have cW' : wr.cell? ⟨w.heap.size, 0, none⟩ = some (.slice ao q cap2) := by rw [← hv]; simpa using cW
          have M : Hid (LawAt (LSim HS K) w.heap.size wr w.heap.size v' ps2 ∧ Below w.heap.size w wr ∧ ps2.length ≤ k + 1) := ⟨hla, hbq, by omega⟩
          clear cW hv hla hbq
          go_wp2
          go_roundw
          case rel => exact ⟨k + 1, v', ps2, by omega, by go_num, M.out.2.2, M.out.1, M.out.2.1⟩
          case measure => simp [intOf]; omega
    · have B9 : Hid (Below w.heap.size w wr) := hbel
      have hkI : ¬ (k : Int) < len := by omega
      clear hl hbel hps
      go_wp2
      go_ret
      exact ⟨rfl, B9.out⟩

end Go.Proofs.YtpmkjeihbddfpabGreatDoor

