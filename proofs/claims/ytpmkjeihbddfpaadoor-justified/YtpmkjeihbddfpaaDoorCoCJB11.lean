import Derived.Test.YtpmkjeihbddfpaaDoorCoCJB10
import Derived.Laws.Concat
import Derived.Laws.IdiomStrings
/- OUR OWN. A Dump read again: split. -/
namespace Go.Proofs.YtpmkjeihbddfpaaDoor
open Go.RowKit
set_option linter.unusedVariables false
set_option linter.unusedSimpArgs false

theorem infoStr : (Tryd.prog.info? 9).map (fun i => (i.zero, i.size, i.bytes)) = some (some (.string ⟨#[]⟩), 1, 16) := by kernel_rfl

theorem ba_get {l : List UInt8} {S : ByteArray} (h : ⟨l.toArray⟩ = S) (k : Nat) (hk : k < l.length) (hk' : k < S.size) : S[k] = l[k] := by
  subst h; rfl
theorem ba_extract {l : List UInt8} {S : ByteArray} (h : ⟨l.toArray⟩ = S) (a b : Nat) : S.extract a b = ⟨((l.take b).drop a).toArray⟩ := by
  subst h
  apply ByteArray.ext
  rw [ByteArray.data_extract]
  apply Array.toList_inj.1
  simp [Array.toList_extract, List.extract_eq_take_drop, List.drop_take]
theorem ba_size {l : List UInt8} {S : ByteArray} (h : ⟨l.toArray⟩ = S) : S.size = l.length := by subst h; simp [ByteArray.size]

/-- where a split stands behind i bytes -/
structure SplitAt (c : UInt8) (l : List UInt8) (i a : Nat) (ps : List (List UInt8)) : Prop where
  le : a ≤ i ∧ i ≤ l.length
  num : ps.length ≤ i
  go : splitL c l = ps ++ splitGo c ((l.take i).drop a) (l.drop i)
theorem SplitAt.cut {c : UInt8} {l : List UInt8} {i a : Nat} {ps : List (List UInt8)} (h : SplitAt c l i a ps) (hi : i < l.length) (hc : l[i] = c) : SplitAt c l (i + 1) (i + 1) (ps ++ [(l.take i).drop a]) := by
  refine ⟨⟨Nat.le_refl _, hi⟩, by simp; exact h.num, ?_⟩
  rw [h.go, List.drop_eq_getElem_cons hi]
  show ps ++ (if l[i] = c then _ else _) = _
  have e : (l.take (i + 1)).drop (i + 1) = [] := List.drop_eq_nil_of_le (by simp; omega)
  rw [if_pos hc, e]
  simp
theorem SplitAt.on {c : UInt8} {l : List UInt8} {i a : Nat} {ps : List (List UInt8)} (h : SplitAt c l i a ps) (hi : i < l.length) (hc : ¬ l[i] = c) : SplitAt c l (i + 1) a ps := by
  refine ⟨⟨by have := h.le; omega, hi⟩, by have := h.num; omega, ?_⟩
  rw [h.go, List.drop_eq_getElem_cons hi]
  show ps ++ (if l[i] = c then _ else _) = _
  rw [if_neg hc, List.take_succ_eq_append_getElem hi, List.drop_append_of_le_length (by rw [List.length_take]; have := h.le; omega)]
theorem SplitAt.last {c : UInt8} {l : List UInt8} {a : Nat} {ps : List (List UInt8)} (h : SplitAt c l l.length a ps) : splitL c l = ps ++ [l.drop a] := by
  rw [h.go, List.drop_length, List.take_length]; rfl

theorem own_str_step {w wr w1 : World} {v : Value} {n : Nat} {xs : List Value} {ob : Obj} (hb : Below w.heap.size w wr) (hrow : wr.ownsRow w.heap.size 9 1 v n xs) (hgr : (wr.alloc ob).grownBy w1 v.ownBlock) : Below w.heap.size w w1 :=
  (hb.alloc hb.size ob).grown hgr (by have := hb.size; simp; omega) fun k hk => (own_lt hrow hk).1

set_option maxRecDepth 100000 in
set_option maxHeartbeats 1600000 in
theorem split_any (l : List UInt8) (c : UInt8) (hl : l.length ≤ 100000) (w : World) :
    Calls Tryd.prog 20 #[str l, .int .u8 c.toNat] w fun e w' => ∃ v, e = .returned v ∧ w'.ownsRow w.heap.size 9 1 v (splitL c l).length ((splitL c l).map str) ∧ Below w.heap.size w w' := by
  obtain ⟨S, hS⟩ : ∃ S : ByteArray, ⟨l.toArray⟩ = S := ⟨_, rfl⟩
  have hsz := ba_size hS
  have hstr : str l = .string S := by unfold str; rw [hS]
  rw [hstr]
  have HS : Hid (⟨l.toArray⟩ = S) := hS
  clear hS hstr
  obtain ⟨len, hlen⟩ : ∃ len, l.length = len := ⟨_, rfl⟩
  rw [hlen] at hl hsz
  have HL : Hid (l.length = len) := hlen
  clear hlen
  obtain ⟨i1, hi1, hy0, hy1, hy2⟩ := info_parts infoStr
  have IN : Hid _ := And.intro hi1 (And.intro hy0 (And.intro hy1 hy2))
  clear hi1 hy0 hy1 hy2
  go_enter Tryd.func20, Tryd.ntmps20
  go_wp2
  go_loopw [5, 6, 7] (fun o f i wr => ∃ (k a : Nat) (ps : List (List UInt8)) (v : Value), SplitAt c l k a ps ∧ i = .int .i64 k ∧ f = .int .i64 a ∧ v = o ∧ wr.ownsRow w.heap.size 9 1 v ps.length (ps.map str) ∧ Below w.heap.size w wr) (fun _ _ i _ => len - (intOf i).toNat)
  case atStart => exact ⟨0, 0, [], _, ⟨⟨Nat.le_refl _, Nat.zero_le _⟩, Nat.zero_le _, rfl⟩, rfl, rfl, rfl, World.ownsRow_nil _ _ _ _, Below.refl _ _⟩
  case round =>
    obtain ⟨k, a, ps, v, hat, rfl, rfl, rfl, hrow, hb⟩ := hrel
    have hle : a ≤ k ∧ k ≤ len := by have := hat.le; rw [HL.out] at this; exact this
    have hnum := hat.num
    have hzz := hb.size
    have K : Hid (SplitAt c l k a ps ∧ wr.ownsRow w.heap.size 9 1 v ps.length (ps.map str) ∧ Below w.heap.size w wr) := ⟨hat, hrow, hb⟩
    clear hat hrow hb
    by_cases hlt : k < len
    · have hk : k < S.size := by omega
      have hkl : k < l.length := by rw [HL.out]; exact hlt
      have hget : S[k] = l[k] := ba_get HS.out k hkl hk
      obtain ⟨y, hy⟩ : ∃ y, l[k] = y := ⟨_, rfl⟩
      rw [hy] at hget
      by_cases hc : y = c
      · have HC : Hid (SplitAt c l (k + 1) (k + 1) (ps ++ [(l.take k).drop a])) := K.out.1.cut hkl (by rw [hy, hc])
        subst hc
        clear hy
        have hx : Hid (S.extract a k = ⟨((l.take k).drop a).toArray⟩) := ba_extract HS.out a k
        have hle2 : (a : Int) ≤ k := by omega
        have hkI : (k : Int) < len := by omega
        go_wp2_with (at_builtin; refine wpList_append_lies _ rfl (.tmp 19) (.tmp 24) 48 rfl w.heap.size 9 i1 _ 1 16 Tryd.underlying48 IN.out.1 IN.out.2.1 IN.out.2.2.1 IN.out.2.2.2 rfl (by decide) _ _ _ rfl (K.out.2.1.alloc _) ⟨wr.heap.size, 0, none⟩ 1 1 [.string (S.extract a k)] rfl rfl ?c1 ?c2 (by decide) ?c3 ?c4 ?c5 (wr.heap.size + 1) (by simp) ?_)
        case c1 => exact news_new _ [.string (S.extract a k)] _
        case c2 => intro u hu; simp at hu; subst hu; rfl
        case c3 => unfold maxLen; omega
        case c4 => omega
        case c5 => simp; omega
        intro g' cap' w2 hown hgr _ _
        have M : Hid (∃ (k' a' : Nat) (ps' : List (List UInt8)) (v' : Value), SplitAt y l k' a' ps' ∧ (.int .i64 ((k : Int) + 1) : Value) = .int .i64 k' ∧ (.int .i64 ((k : Int) + 1) : Value) = .int .i64 a' ∧ v' = (.slice (some ⟨g', 0, none⟩) (ps.length + 1) cap' : Value) ∧ w2.ownsRow w.heap.size 9 1 v' ps'.length (ps'.map str) ∧ Below w.heap.size w w2) := by
          refine ⟨k + 1, k + 1, _, _, HC.out, rfl, rfl, rfl, ?_, own_str_step K.out.2.2 K.out.2.1 hgr⟩
          have : ((ps ++ [(l.take k).drop a]).map str) = ps.map str ++ [.string (S.extract a k)] := by rw [List.map_append, hx.out]; rfl
          rw [this, List.length_append]
          exact hown
        clear hown hgr K HC
        go_wp2
        go_roundw
        case rel => exact M.out
        case measure => simp [intOf]; omega
      · have HC : Hid (SplitAt c l (k + 1) a ps) := K.out.1.on hkl (by rw [hy]; exact hc)
        have hne : ((y.toNat : Int) == (c.toNat : Int)) = false := by
          have : ¬ y.toNat = c.toNat := fun e => hc (UInt8.toNat_inj.1 e)
          simp; omega
        go_wp2
        go_roundw
        case rel => exact ⟨k + 1, a, ps, _, HC.out, by go_num, rfl, rfl, K.out.2.1, K.out.2.2⟩
        case measure => simp [intOf]; omega
    · obtain rfl : k = len := by omega
      have HE : Hid (splitL c l = ps ++ [l.drop a]) := by
        have := K.out.1
        rw [← HL.out] at this
        exact this.last
      have hx : Hid (S.extract a k = ⟨(l.drop a).toArray⟩) := by show S.extract a k = _; rw [ba_extract HS.out a k, List.take_of_length_le (by rw [HL.out]; exact Nat.le_refl _)]
      have hle2 : (a : Int) ≤ k := by omega
      go_wp2_with (at_builtin; refine wpList_append_lies _ rfl (.tmp 28) (.tmp 32) 48 rfl w.heap.size 9 i1 _ 1 16 Tryd.underlying48 IN.out.1 IN.out.2.1 IN.out.2.2.1 IN.out.2.2.2 rfl (by decide) _ _ _ rfl (K.out.2.1.alloc _) ⟨wr.heap.size, 0, none⟩ 1 1 [.string (S.extract a k)] rfl rfl ?c1 ?c2 (by decide) ?c3 ?c4 ?c5 (wr.heap.size + 1) (by simp) ?_)
      case c1 => exact news_new _ [.string (S.extract a k)] _
      case c2 => intro u hu; simp at hu; subst hu; rfl
      case c3 => unfold maxLen; omega
      case c4 => omega
      case c5 => simp; omega
      intro g' cap' w2 hown hgr _ _
      have M : Hid (w2.ownsRow w.heap.size 9 1 (.slice (some ⟨g', 0, none⟩) (ps.length + 1) cap') (splitL c l).length ((splitL c l).map str) ∧ Below w.heap.size w w2) := by
        refine ⟨?_, own_str_step K.out.2.2 K.out.2.1 hgr⟩
        have : ((ps ++ [l.drop a]).map str) = ps.map str ++ [.string (S.extract a k)] := by rw [List.map_append, hx.out]; rfl
        rw [HE.out, this, List.length_append]
        exact hown
      clear hown hgr K HE
      go_wp2
      go_ret
      exact ⟨_, rfl, M.out⟩

end Go.Proofs.YtpmkjeihbddfpaaDoor

/- OUR OWN. A Dump read again: small, read. -/
namespace Go.Proofs.YtpmkjeihbddfpaaDoor
open Go.RowKit
set_option linter.unusedVariables false
set_option linter.unusedSimpArgs false

/-- the number of the first k bytes -/
theorem num_snoc (l : List UInt8) (x : UInt8) : numL (l ++ [x]) = 10 * numL l + (x.toNat - 48) := by
  unfold numL; rw [List.foldl_append]; rfl
theorem num_le (l : List UInt8) (h : l.length ≤ 12) (hd : ∀ x ∈ l, isDig x = true) : numL l < 10 ^ l.length := by
  have key : ∀ k, k ≤ l.length → numL (l.take k) < 10 ^ k := by
    intro k
    induction k with
    | zero => intro _; simp [numL]
    | succ k ih =>
      intro hk
      have h1 := ih (by omega)
      have hx := hd l[k] (List.getElem_mem _)
      have hx2 : 48 ≤ (l[k]).toNat ∧ (l[k]).toNat ≤ 57 := by simpa [isDig] using hx
      rw [List.take_succ_eq_append_getElem (by omega), num_snoc, Nat.pow_succ]
      omega
  have := key l.length (Nat.le_refl _)
  rwa [List.take_length] at this

set_option maxRecDepth 100000 in
set_option maxHeartbeats 1600000 in
theorem small_any (l : List UInt8) (hl : l.length ≤ 12) (w : World) :
    Calls Tryd.prog 51 #[str l] w fun e w' => e = .returned (.int .i64 (smallL l)) ∧ w' = w := by
  obtain ⟨S, hS⟩ : ∃ S : ByteArray, ⟨l.toArray⟩ = S := ⟨_, rfl⟩
  have hsz := ba_size hS
  have hstr : str l = .string S := by unfold str; rw [hS]
  rw [hstr]
  have HS : Hid (⟨l.toArray⟩ = S) := hS
  clear hS hstr
  obtain ⟨len, hlen⟩ : ∃ len, l.length = len := ⟨_, rfl⟩
  rw [hlen] at hl hsz
  have HL : Hid (l.length = len) := hlen
  clear hlen
  obtain ⟨R, hR⟩ : ∃ R, smallL l = R := ⟨_, rfl⟩
  have HR : Hid (smallL l = R) := hR
  rw [hR]
  clear hR
  go_enter Tryd.func51, Tryd.ntmps51
  go_wp2
  go_loop [3, 4] (fun n i => ∃ k : Nat, k ≤ len ∧ i = .int .i64 k ∧ n = .int .i64 (numL (l.take k)) ∧ ∀ x ∈ l.take k, isDig x = true) (fun _ i => len - (intOf i).toNat)
  case atStart => exact ⟨0, Nat.zero_le _, rfl, rfl, fun x hx => by simp at hx⟩
  case round =>
    obtain ⟨k, hk, rfl, rfl, hd⟩ := hrel
    have hnl : numL (l.take k) < 10 ^ 12 := by
      have h1 := num_le (l.take k) (by rw [List.length_take]; omega) hd
      have h2 : (l.take k).length ≤ 12 := by rw [List.length_take]; omega
      exact Nat.lt_of_lt_of_le h1 (Nat.pow_le_pow_right (by decide) h2)
    have h12 : (10 : Nat) ^ 12 = 1000000000000 := by decide
    rw [h12] at hnl
    have HD : Hid (∀ x ∈ l.take k, isDig x = true) := hd
    clear hd h12
    by_cases hlt : k < len
    · have hks : k < S.size := by omega
      have hkl : k < l.length := by rw [HL.out]; exact hlt
      have hget : S[k] = l[k] := ba_get HS.out k hkl hks
      have HT : Hid (l.take (k + 1) = l.take k ++ [l[k]]) := List.take_succ_eq_append_getElem hkl
      have HM : Hid (l[k] ∈ l) := List.getElem_mem hkl
      obtain ⟨y, hy⟩ : ∃ y, l[k] = y := ⟨_, rfl⟩
      rw [hy] at hget HT HM
      obtain ⟨m, hm⟩ : ∃ m, numL (l.take k) = m := ⟨_, rfl⟩
      have HN : Hid (numL (l.take (k + 1)) = 10 * m + (y.toNat - 48)) := by
        show numL _ = _
        rw [HT.out, num_snoc, hm]
      rw [hm] at hnl ⊢
      clear hy hm
      have hy256 := y.toNat_lt
      obtain ⟨z, hz⟩ : ∃ z, y.toNat = z := ⟨_, rfl⟩
      have HZ : Hid (y.toNat = z) := hz
      by_cases hdg : 48 ≤ z ∧ z ≤ 57
      · have DG : Hid (∀ x ∈ l.take (k + 1), isDig x = true) := fun x hx => by
          rw [HT.out] at hx
          rcases List.mem_append.1 hx with e | e
          · exact HD.out x e
          · rw [List.mem_singleton.1 e]; simp [isDig, HZ.out]; omega
        have h1 : ¬ (z : Int) < 48 := by omega
        have h2 : ¬ (57 : Int) < z := by omega
        obtain ⟨q1, q2⟩ := hdg
        go_wp2
        go_round
        case rel => exact ⟨k + 1, by omega, by go_num, by rw [HN.out, HZ.out]; go_num, DG.out⟩
        case measure => simp [intOf]; omega
      · have BAD : Hid (R = -1) := by
          show R = -1
          rw [← HR.out]
          unfold smallL
          rw [if_neg]
          intro h
          have h3 : l.all isDig = true := by
            simp only [Bool.and_eq_true] at h; exact h.1
          have h4 := List.all_eq_true.1 h3 y HM.out
          simp [isDig, HZ.out] at h4
          exact hdg h4
        have h3 : (z : Int) < 48 ∨ (57 : Int) < z := by omega
        clear hdg
        rcases h3 with h3 | h3
        · go_wp2
          go_ret
          exact ⟨ret_int BAD.out.symm, rfl⟩
        · have h1 : ¬ (z : Int) < 48 := by omega
          go_wp2
          go_ret
          exact ⟨ret_int BAD.out.symm, rfl⟩
    · obtain rfl : k = len := by omega
      have ALL : Hid (l.all isDig = true) := by
        show l.all isDig = true
        refine List.all_eq_true.2 fun x hx => HD.out x ?_
        rw [List.take_of_length_le (by rw [HL.out]; exact Nat.le_refl _)]; exact hx
      have NL : Hid (numL (l.take k) = numL l) := by show _ = _; rw [List.take_of_length_le (by rw [HL.out]; exact Nat.le_refl _)]
      rw [NL.out] at hnl ⊢
      obtain ⟨m, hm⟩ : ∃ m, numL l = m := ⟨_, rfl⟩
      have FIN : Hid (R = if 1 ≤ k ∧ k ≤ 3 then (m : Int) else -1) := by
        show R = _
        rw [← HR.out]
        unfold smallL
        rw [ALL.out, HL.out, hm]
        by_cases h : 1 ≤ k ∧ k ≤ 3
        · rw [if_pos h, if_pos (by simp [h])]
        · rw [if_neg h, if_neg (by simp; omega)]
      rw [hm] at hnl ⊢
      clear hm NL
      by_cases h1 : (k : Int) < 1
      · have F : Hid (R = -1) := by show R = -1; rw [FIN.out, if_neg (by omega)]
        go_wp2
        go_ret
        exact ⟨ret_int F.out.symm, rfl⟩
      · by_cases h3 : (3 : Int) < k
        · have F : Hid (R = -1) := by show R = -1; rw [FIN.out, if_neg (by omega)]
          go_wp2
          go_ret
          exact ⟨ret_int F.out.symm, rfl⟩
        · have F : Hid (R = m) := by show R = m; rw [FIN.out, if_pos (by omega)]
          go_wp2
          go_ret
          exact ⟨ret_int F.out.symm, rfl⟩

def valP (v : UInt8 × Int) : Value := .agg #[.int .u8 v.1.toNat, .int .i64 v.2]

end Go.Proofs.YtpmkjeihbddfpaaDoor

/- OUR OWN. A Dump read again: read, values, numbers. -/
namespace Go.Proofs.YtpmkjeihbddfpaaDoor
open Go.RowKit
set_option linter.unusedVariables false
set_option linter.unusedSimpArgs false

theorem ba_toList {l : List UInt8} {S : ByteArray} (h : ⟨l.toArray⟩ = S) : S.toList = l := by
  subst h; rw [ByteArray.toList_eq]
theorem ba_inj {a b : List UInt8} (h : (⟨a.toArray⟩ : ByteArray) = ⟨b.toArray⟩) : a = b := by
  have := congrArg (fun x => x.data.toList) h
  simpa using this

set_option maxRecDepth 100000 in
set_option maxHeartbeats 1600000 in
theorem read_any (l : List UInt8) (hl : l.length ≤ 1000) (hs : l.getD 0 0 = 35 → l.length ≤ 12) (w : World) :
    Calls Tryd.prog 52 #[str l] w fun e w' => e = .returned (valP (readL l)) ∧ Below w.heap.size w w' := by
  obtain ⟨S, hS⟩ : ∃ S : ByteArray, ⟨l.toArray⟩ = S := ⟨_, rfl⟩
  have hsz := ba_size hS
  have hstr : str l = .string S := by unfold str; rw [hS]
  rw [hstr]
  obtain ⟨R, hR⟩ : ∃ R, readL l = R := ⟨_, rfl⟩
  have HR : Hid ((if l = [110] then ((110 : UInt8), (0 : Int)) else if 1 < l.length ∧ l.getD 0 0 = 35 then (35, smallL l.tail) else (48, 0)) = R) := hR
  rw [hR]
  obtain ⟨r1, r2⟩ := R
  unfold valP
  simp only
  by_cases hn : l = [110]
  · subst hn
    have hx := HR.out
    rw [if_pos rfl] at hx
    simp at hx
    obtain ⟨rfl, rfl⟩ := hx
    have hS' : S = ⟨#[110]⟩ := hS.symm
    subst hS'
    clear hsz hstr HR hS hs hR hl
    go_enter Tryd.func52, Tryd.ntmps52
    go_wp2
    refine bodyPost_ret (v := .agg #[.int .u8 110, .int .i64 0]) (by simp [results, Tryd.results52, go_sem]) rfl ⟨rfl, ?_⟩
    exact (Below.refl _ _).alloc (Nat.le_refl _) _
  have hne : (S.toList == [110]) = false := by
    rw [ba_toList hS]
    simpa using hn
  have hx := HR.out
  rw [if_neg hn] at hx
  by_cases h1 : 1 < l.length
  · have hk0 : 0 < S.size := by omega
    have hget : S[0] = l[0] := ba_get hS 0 (by omega) hk0
    have hgD : l.getD 0 0 = l[0] := by rw [List.getD_eq_getElem?_getD, List.getElem?_eq_getElem (by omega)]; rfl
    have hext : S.extract 1 l.length = ⟨l.tail.toArray⟩ := by rw [ba_extract hS, List.take_length, List.drop_one]
    have SM : Hid (l.getD 0 0 = 35 → ∀ W, Calls Tryd.prog 51 #[.string (S.extract 1 l.length)] W fun e w' => e = .returned (.int .i64 (smallL l.tail)) ∧ w' = W) := fun h W => by
      rw [hext]; exact small_any l.tail (by rw [List.length_tail]; have := hs h; omega) W
    rw [hgD] at hx SM
    obtain ⟨y, hy⟩ : ∃ y, l[0] = y := ⟨_, rfl⟩
    rw [hy] at hget hx SM
    obtain ⟨sm, hsm⟩ : ∃ sm, smallL l.tail = sm := ⟨_, rfl⟩
    rw [hsm] at hx SM
    clear hstr HR hS hs hR hn hgD hext hy hsm
    have h1I : (1 : Int) < l.length := by omega
    by_cases hc : y = 35
    · subst hc
      rw [if_pos ⟨h1, rfl⟩] at hx
      simp at hx
      obtain ⟨rfl, rfl⟩ := hx
      have C : Hid _ := SM.out rfl
      clear SM
      go_enter Tryd.func52, Tryd.ntmps52
      go_wp2_with fail
      refine Calls.mono (C.out _) ?_
      rintro e w1 ⟨rfl, hw⟩
      subst hw
      clear C
      go_wp2
      refine bodyPost_ret (v := .agg #[.int .u8 35, .int .i64 sm]) (by simp [results, Tryd.results52, go_sem]) rfl ⟨rfl, ?_⟩
      exact (Below.refl _ _).alloc (Nat.le_refl _) _
    · rw [if_neg (fun h => hc h.2)] at hx
      simp at hx
      obtain ⟨rfl, rfl⟩ := hx
      have hyne : ((y.toNat : Int) == 35) = false := by
        have : ¬ y.toNat = 35 := fun e => hc (UInt8.toNat_inj.1 (by rw [e]; rfl))
        simp; omega
      clear SM
      go_enter Tryd.func52, Tryd.ntmps52
      go_wp2
      refine bodyPost_ret (v := .agg #[.int .u8 48, .int .i64 0]) (by simp [results, Tryd.results52, go_sem]) rfl ⟨rfl, ?_⟩
      exact (Below.refl _ _).alloc (Nat.le_refl _) _
  · rw [if_neg (fun h => h1 h.1)] at hx
    simp at hx
    obtain ⟨rfl, rfl⟩ := hx
    have h1I : ¬ (1 : Int) < l.length := by omega
    clear hstr HR hS hs hR hn hl
    go_enter Tryd.func52, Tryd.ntmps52
    go_wp2
    refine bodyPost_ret (v := .agg #[.int .u8 48, .int .i64 0]) (by simp [results, Tryd.results52, go_sem]) rfl ⟨rfl, ?_⟩
    exact (Below.refl _ _).alloc (Nat.le_refl _) _

end Go.Proofs.YtpmkjeihbddfpaaDoor

/- OUR OWN. A Dump read again: values, numbers. -/
namespace Go.Proofs.YtpmkjeihbddfpaaDoor
open Go.RowKit
set_option linter.unusedVariables false
set_option linter.unusedSimpArgs false

def valC (v : UInt8 × Int) : List Value := [.int .u8 v.1.toNat, .int .i64 v.2]
theorem infoPV : (Tryd.prog.info? 66).map (fun i => (i.zero, i.size, i.bytes)) = some (some (.agg #[.int .u8 0, .int .i64 0]), 2, 16) := by kernel_rfl

theorem splitGo_len (c : UInt8) (l : List UInt8) : ∀ cur, (splitGo c cur l).length ≤ l.length + 1 := by
  induction l with
  | nil => intro cur; simp [splitGo]
  | cons x l ih =>
    intro cur
    unfold splitGo
    split
    · have := ih []; simp; omega
    · have := ih (cur ++ [x]); simp; omega
theorem splitL_len (c : UInt8) (l : List UInt8) : (splitL c l).length ≤ l.length + 1 := splitGo_len c l []
theorem own_pv_step {B : Nat} {w wr w1 : World} {v : Value} {n : Nat} {xs : List Value} {e : TypeId} {sz : Nat} {ob : Obj} (hb : Below B w wr) (hB : B ≤ wr.heap.size) (hrow : wr.ownsRow B e sz v n xs) (hgr : (wr.alloc ob).grownBy w1 v.ownBlock) : Below B w w1 :=
  (hb.alloc hB ob).grown hgr (by simp; omega) fun k hk => (own_lt hrow hk).1

set_option maxRecDepth 100000 in
set_option maxHeartbeats 1600000 in
theorem values_any (l : List UInt8) (hl : l.length ≤ 3000) (hp : ∀ t ∈ splitL 44 l, t.length ≤ 1000 ∧ (t.getD 0 0 = 35 → t.length ≤ 12)) (w : World) :
    Calls Tryd.prog 22 #[str l] w fun e w' => ∃ v, e = .returned v ∧ w'.ownsRow w.heap.size 66 2 v (valuesL l).length ((valuesL l).flatMap valC) ∧ Below w.heap.size w w' := by
  by_cases hn : l = []
  · subst hn
    have h0 : valuesL [] = [] := by simp [valuesL]
    rw [h0]
    unfold str
    go_enter Tryd.func22, Tryd.ntmps22
    go_wp2
    go_ret
    exact ⟨_, rfl, World.ownsRow_nil _ _ _ _, Below.refl _ _⟩
  have SP : Hid (∀ W, Calls Tryd.prog 20 #[str l, .int .u8 44] W fun e w' => ∃ v, e = .returned v ∧ w'.ownsRow W.heap.size 9 1 v (splitL 44 l).length ((splitL 44 l).map str) ∧ Below W.heap.size W w') := fun W => split_any l 44 (by omega) W
  have hne : ((⟨l.toArray⟩ : ByteArray).toList == []) = false := by
    rw [ba_toList rfl]
    simpa using hn
  have hv : valuesL l = (splitL 44 l).map readL := by unfold valuesL; rw [if_neg hn]
  have hlen := splitL_len 44 l
  rw [hv]
  have RD : Hid (∀ t ∈ splitL 44 l, ∀ W, Calls Tryd.prog 52 #[str t] W fun e w' => e = .returned (valP (readL t)) ∧ Below W.heap.size W w') := fun t ht W => read_any t (hp t ht).1 (hp t ht).2 W
  obtain ⟨ts, hts⟩ : ∃ ts, splitL 44 l = ts := ⟨_, rfl⟩
  rw [hts] at SP RD hlen ⊢
  have hlen2 : ts.length ≤ 3001 := by omega
  have hstr : str l = .string ⟨l.toArray⟩ := rfl
  rw [hstr] at SP ⊢
  obtain ⟨S, hS⟩ : ∃ S : ByteArray, ⟨l.toArray⟩ = S := ⟨_, rfl⟩
  rw [hS] at SP hne ⊢
  obtain ⟨i1, hi1, hy0, hy1, hy2⟩ := info_parts infoPV
  have IN : Hid _ := And.intro hi1 (And.intro hy0 (And.intro hy1 hy2))
  clear hi1 hy0 hy1 hy2 hp hn hv hts hS hstr hl hlen
  go_enter Tryd.func22, Tryd.ntmps22
  go_wp2_with fail
  refine Calls.mono (SP.out _) ?_
  rintro e w1 ⟨v1, rfl, hrow1, hb1⟩
  obtain ⟨ao, cp, hv1⟩ := own_slice (own_base hrow1 (Nat.zero_le _))
  subst hv1
  have B1 : Hid (Below w.heap.size w w1) := hb1
  have CE : Hid (∀ k (hk : k < ts.length) wr, Below w1.heap.size w1 wr → ∃ g, ao = some ⟨g, 0, none⟩ ∧ wr.cell? ⟨g, k, none⟩ = some (str ts[k])) := fun k hk wr hb => by
    obtain ⟨g, cap', hv', hg, _, _, hcell, _⟩ := own_view (own_base hrow1 (Nat.zero_le _)) (by omega)
    simp at hv'
    exact ⟨g, hv'.1, (hb.cell (p := ⟨g, k, none⟩) hg).trans (hcell k _ (by simp [hk]))⟩
  clear hrow1 hb1 SP
  go_wp2
  go_loopw [3, 5] (fun o i wr => ∃ (k : Nat) (v : Value), k ≤ ts.length ∧ i = .int .i64 k ∧ v = o ∧ wr.ownsRow w1.heap.size 66 2 v k (((ts.take k).map readL).flatMap valC) ∧ Below w1.heap.size w1 wr) (fun _ i _ => ts.length - (intOf i).toNat)
  case atStart => exact ⟨0, _, Nat.zero_le _, rfl, rfl, World.ownsRow_nil _ _ _ _, Below.refl _ _⟩
  case round =>
    obtain ⟨k, v, hk, rfl, rfl, hrow, hb⟩ := hrel
    have hzz := hb.size
    have K : Hid (wr.ownsRow w1.heap.size 66 2 v k (((ts.take k).map readL).flatMap valC) ∧ Below w1.heap.size w1 wr) := ⟨hrow, hb⟩
    by_cases hlt : k < ts.length
    · obtain ⟨g, rfl, c0⟩ := CE.out k hlt wr hb
      have R1 : Hid _ := RD.out ts[k] (List.getElem_mem hlt)
      have HT : Hid (ts.take (k + 1) = ts.take k ++ [ts[k]]) := List.take_succ_eq_append_getElem hlt
      obtain ⟨t, ht⟩ : ∃ t, ts[k] = t := ⟨_, rfl⟩
      rw [ht] at c0 R1 HT
      obtain ⟨y, hy⟩ : ∃ y, readL t = y := ⟨_, rfl⟩
      have HY : Hid (readL t = y) := hy
      rw [hy] at R1
      obtain ⟨y1, y2⟩ := y
      unfold valP at R1
      unfold str at c0 R1
      simp only at R1
      have hkI : (k : Int) < ts.length := by omega
      clear hrow hb ht hy
      go_wp2_with fail
      refine Calls.mono (R1.out _) ?_
      rintro e w2 ⟨rfl, hb2⟩
      have KK : Hid (w2.ownsRow w1.heap.size 66 2 v k (((ts.take k).map readL).flatMap valC) ∧ Below w1.heap.size w1 w2) := ⟨own_carry K.out.1 fun j hj => hb2.block j (own_lt K.out.1 hj).2, K.out.2.trans (hb2.mono hzz)⟩
      have hz2 := KK.out.2.size
      clear hb2 R1 K
      go_wp2_with (at_builtin; refine wpList_append_lies _ rfl (.tmp 23) (.tmp 25) 50 rfl w1.heap.size 66 i1 _ 2 16 Tryd.underlying50 IN.out.1 IN.out.2.1 IN.out.2.2.1 IN.out.2.2.2 rfl (by decide) _ _ _ rfl ((KK.out.1.alloc _).alloc _) ⟨w2.heap.size + 1, 0, none⟩ 1 1 [.int .u8 y1.toNat, .int .i64 y2] rfl rfl ?c1 ?c2 (by decide) ?c3 ?c4 ?c5 (w2.heap.size + 1 + 1) (by simp) ?_)
      case c1 =>
        have := news_new (w2.alloc (.cells #[.int .u8 y1.toNat, .int .i64 y2] 66)) [.int .u8 y1.toNat, .int .i64 y2] 66
        simpa using this
      case c2 => intro u hu; simp at hu; rcases hu with rfl | rfl <;> rfl
      case c3 => unfold maxLen; omega
      case c4 => omega
      case c5 => simp; omega
      intro g' cap' w3 hown hgr _ _
      have M : Hid (∃ (k' : Nat) (v' : Value), k' ≤ ts.length ∧ (.int .i64 ((k : Int) + 1) : Value) = .int .i64 k' ∧ v' = (.slice (some ⟨g', 0, none⟩) (k + 1) cap' : Value) ∧ w3.ownsRow w1.heap.size 66 2 v' k' (((ts.take k').map readL).flatMap valC) ∧ Below w1.heap.size w1 w3) := by
        refine ⟨k + 1, _, hlt, rfl, rfl, ?_, own_pv_step (KK.out.2.alloc hz2 _) (by simp; omega) (KK.out.1.alloc _) hgr⟩
        rw [HT.out, List.map_append, List.flatMap_append, List.map_singleton, List.flatMap_singleton, HY.out]
        first | exact hown | (rw [← List.map_take] at hown; exact hown)
      clear hown hgr KK
      go_wp2
      go_roundw
      case rel => exact M.out
      case measure => simp [intOf]; omega
    · obtain rfl : k = ts.length := by omega
      have M : Hid (wr.ownsRow w.heap.size 66 2 v (ts.map readL).length ((ts.map readL).flatMap valC) ∧ Below w.heap.size w wr) := by
        refine ⟨?_, B1.out.trans (K.out.2.mono B1.out.size)⟩
        have := own_base K.out.1 B1.out.size
        rw [List.take_length] at this
        rw [List.length_map]; exact this
      clear hrow hb K
      go_wp2
      go_ret
      exact ⟨_, rfl, M.out⟩

def numP (t : List UInt8) : UInt8 × Int := (35, smallL t)
set_option maxRecDepth 100000 in
set_option maxHeartbeats 1600000 in
theorem numbers_any (l : List UInt8) (hl : l.length ≤ 3000) (hp : ∀ t ∈ splitL 44 l, t.length ≤ 12) (w : World) :
    Calls Tryd.prog 21 #[str l] w fun e w' => ∃ v, e = .returned v ∧ w'.ownsRow w.heap.size 66 2 v (numbersL l).length ((numbersL l).flatMap valC) ∧ Below w.heap.size w w' := by
  by_cases hn : l = []
  · subst hn
    have h0 : numbersL [] = [] := by simp [numbersL]
    rw [h0]
    unfold str
    go_enter Tryd.func21, Tryd.ntmps21
    go_wp2
    go_ret
    exact ⟨_, rfl, World.ownsRow_nil _ _ _ _, Below.refl _ _⟩
  have SP : Hid (∀ W, Calls Tryd.prog 20 #[str l, .int .u8 44] W fun e w' => ∃ v, e = .returned v ∧ w'.ownsRow W.heap.size 9 1 v (splitL 44 l).length ((splitL 44 l).map str) ∧ Below W.heap.size W w') := fun W => split_any l 44 (by omega) W
  have hne : ((⟨l.toArray⟩ : ByteArray).toList == []) = false := by
    rw [ba_toList rfl]
    simpa using hn
  have hv : numbersL l = (splitL 44 l).map numP := by unfold numbersL; rw [if_neg hn]; rfl
  have hlen := splitL_len 44 l
  rw [hv]
  have RD : Hid (∀ t ∈ splitL 44 l, ∀ W, Calls Tryd.prog 51 #[str t] W fun e w' => e = .returned (.int .i64 (smallL t)) ∧ w' = W) := fun t ht W => small_any t (hp t ht) W
  obtain ⟨ts, hts⟩ : ∃ ts, splitL 44 l = ts := ⟨_, rfl⟩
  rw [hts] at SP RD hlen ⊢
  have hlen2 : ts.length ≤ 3001 := by omega
  have hstr : str l = .string ⟨l.toArray⟩ := rfl
  rw [hstr] at SP ⊢
  obtain ⟨S, hS⟩ : ∃ S : ByteArray, ⟨l.toArray⟩ = S := ⟨_, rfl⟩
  rw [hS] at SP hne ⊢
  obtain ⟨i1, hi1, hy0, hy1, hy2⟩ := info_parts infoPV
  have IN : Hid _ := And.intro hi1 (And.intro hy0 (And.intro hy1 hy2))
  clear hi1 hy0 hy1 hy2 hp hn hv hts hS hstr hl hlen
  go_enter Tryd.func21, Tryd.ntmps21
  go_wp2_with fail
  refine Calls.mono (SP.out _) ?_
  rintro e w1 ⟨v1, rfl, hrow1, hb1⟩
  obtain ⟨ao, cp, hv1⟩ := own_slice (own_base hrow1 (Nat.zero_le _))
  subst hv1
  have B1 : Hid (Below w.heap.size w w1) := hb1
  have CE : Hid (∀ k (hk : k < ts.length) wr, Below w1.heap.size w1 wr → ∃ g, ao = some ⟨g, 0, none⟩ ∧ wr.cell? ⟨g, k, none⟩ = some (str ts[k])) := fun k hk wr hb => by
    obtain ⟨g, cap', hv', hg, _, _, hcell, _⟩ := own_view (own_base hrow1 (Nat.zero_le _)) (by omega)
    simp at hv'
    exact ⟨g, hv'.1, (hb.cell (p := ⟨g, k, none⟩) hg).trans (hcell k _ (by simp [hk]))⟩
  clear hrow1 hb1 SP
  go_wp2
  go_loopw [3, 5] (fun o i wr => ∃ (k : Nat) (v : Value), k ≤ ts.length ∧ i = .int .i64 k ∧ v = o ∧ wr.ownsRow w1.heap.size 66 2 v k (((ts.take k).map numP).flatMap valC) ∧ Below w1.heap.size w1 wr) (fun _ i _ => ts.length - (intOf i).toNat)
  case atStart => exact ⟨0, _, Nat.zero_le _, rfl, rfl, World.ownsRow_nil _ _ _ _, Below.refl _ _⟩
  case round =>
    obtain ⟨k, v, hk, rfl, rfl, hrow, hb⟩ := hrel
    have hzz := hb.size
    have K : Hid (wr.ownsRow w1.heap.size 66 2 v k (((ts.take k).map numP).flatMap valC) ∧ Below w1.heap.size w1 wr) := ⟨hrow, hb⟩
    by_cases hlt : k < ts.length
    · obtain ⟨g, rfl, c0⟩ := CE.out k hlt wr hb
      have R1 : Hid _ := RD.out ts[k] (List.getElem_mem hlt)
      have HT : Hid (ts.take (k + 1) = ts.take k ++ [ts[k]]) := List.take_succ_eq_append_getElem hlt
      obtain ⟨t, ht⟩ : ∃ t, ts[k] = t := ⟨_, rfl⟩
      rw [ht] at c0 R1 HT
      obtain ⟨y, hy⟩ : ∃ y, smallL t = y := ⟨_, rfl⟩
      have HY : Hid (numP t = (35, y)) := by show numP t = _; unfold numP; rw [hy]
      rw [hy] at R1
      unfold str at c0 R1
      have hkI : (k : Int) < ts.length := by omega
      clear hrow hb ht hy
      go_wp2_with fail
      refine Calls.mono (R1.out _) ?_
      rintro e w2 ⟨rfl, hw⟩
      subst hw
      clear R1
      go_wp2_with (at_builtin; refine wpList_append_lies _ rfl (.tmp 23) (.tmp 26) 50 rfl w1.heap.size 66 i1 _ 2 16 Tryd.underlying50 IN.out.1 IN.out.2.1 IN.out.2.2.1 IN.out.2.2.2 rfl (by decide) _ _ _ rfl (K.out.1.alloc _) ⟨w2.heap.size, 0, none⟩ 1 1 [.int .u8 35, .int .i64 y] rfl rfl ?c1 ?c2 (by decide) ?c3 ?c4 ?c5 (w2.heap.size + 1) (by simp) ?_)
      case c1 => exact news_new w2 [.int .u8 35, .int .i64 y] _
      case c2 => intro u hu; simp at hu; rcases hu with rfl | rfl <;> rfl
      case c3 => unfold maxLen; omega
      case c4 => omega
      case c5 => simp; omega
      intro g' cap' w3 hown hgr _ _
      have M : Hid (∃ (k' : Nat) (v' : Value), k' ≤ ts.length ∧ (.int .i64 ((k : Int) + 1) : Value) = .int .i64 k' ∧ v' = (.slice (some ⟨g', 0, none⟩) (k + 1) cap' : Value) ∧ w3.ownsRow w1.heap.size 66 2 v' k' (((ts.take k').map numP).flatMap valC) ∧ Below w1.heap.size w1 w3) := by
        refine ⟨k + 1, _, hlt, rfl, rfl, ?_, own_pv_step K.out.2 hzz K.out.1 hgr⟩
        rw [HT.out, List.map_append, List.flatMap_append, List.map_singleton, List.flatMap_singleton, HY.out]
        first | exact hown | (rw [← List.map_take] at hown; exact hown)
      clear hown hgr K
      go_wp2
      go_roundw
      case rel => exact M.out
      case measure => simp [intOf]; omega
    · obtain rfl : k = ts.length := by omega
      have M : Hid (wr.ownsRow w.heap.size 66 2 v (ts.map numP).length ((ts.map numP).flatMap valC) ∧ Below w.heap.size w wr) := by
        refine ⟨?_, B1.out.trans (K.out.2.mono B1.out.size)⟩
        have := own_base K.out.1 B1.out.size
        rw [List.take_length] at this
        rw [List.length_map]; exact this
      clear hrow hb K
      go_wp2
      go_ret
      exact ⟨_, rfl, M.out⟩

end Go.Proofs.YtpmkjeihbddfpaaDoor

