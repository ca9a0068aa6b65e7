import Derived.Test.YtpmkjeihbddfpaaDoorCoCJB11
import Derived.Deep.CutRange
/- OUR OWN. A Dump read again: block. -/
namespace Go.Proofs.YtpmkjeihbddfpaaDoor
open Go.RowKit
set_option linter.unusedVariables false
set_option linter.unusedSimpArgs false

set_option maxRecDepth 100000 in
set_option maxHeartbeats 1600000 in
theorem block_free (w : World) :
    Calls Tryd.prog 23 #[str [46]] w fun e w' => e = .returned (.tuple #[.agg #[.int .u8 46, .int .i64 0, .slice none 0 0], .bool true]) ∧ Below w.heap.size w w' := by
  unfold str
  go_enter Tryd.func23, Tryd.ntmps23
  go_wp2
  exact bodyPost_ret (v := .tuple #[.agg #[.int .u8 46, .int .i64 0, .slice none 0 0], .bool true]) (by simp [results, Tryd.results23, go_sem]) rfl ⟨rfl, (Below.refl _ _).alloc (Nat.le_refl _) _⟩

/-- the cell while it is read: its box X, its fields' row v, the result's box -/
structure Reading (w wc : World) (X : Nat) (y : UInt8) (n : Int) (v : Value) (vs : List (UInt8 × Int)) : Prop where
  box : wc.heap[X]? = some (.cells #[.int .u8 y.toNat, .int .i64 n, v] 56)
  res : wc.heap[w.heap.size]? = some (.cells #[.int .u8 0, .int .i64 0, .slice none 0 0] 56)
  row : wc.ownsRow (w.heap.size + 1) 66 2 v vs.length (vs.flatMap valC)
  apart : v.ownBlock ≠ some X
  lt : w.heap.size < X
  below : Below w.heap.size w wc

abbrev emptyCell : Obj := .cells #[.int .u8 0, .int .i64 0, .slice none 0 0] 56

theorem read_late {w w1 : World} {y : UInt8} {v : Value} {vs : List (UInt8 × Int)}
    (h : w1.ownsRow (w.alloc emptyCell).drew.heap.size 66 2 v vs.length (vs.flatMap valC) ∧ Below (w.alloc emptyCell).drew.heap.size (w.alloc emptyCell).drew w1) :
    Reading w (w1.alloc (.cells #[.int .u8 y.toNat, .int .i64 0, v] 56)) w1.heap.size y 0 v vs := by
  obtain ⟨hr, hb⟩ := h
  have hsz : (w.alloc emptyCell).drew.heap.size = w.heap.size + 1 := by simp
  rw [hsz] at hr hb
  have hle : w.heap.size + 1 ≤ w1.heap.size := by have := hb.size; rw [hsz] at this; exact this
  refine ⟨heap_alloc_new _ _, ?_, hr.alloc _, fun e => ?_, by omega, ?_⟩
  · rw [hao (by omega), hb.block _ (by omega)]
    exact heap_alloc_new w emptyCell
  · have := (own_lt hr e).2
    omega
  · refine Below.alloc ?_ (by omega) _
    exact ((Below.refl _ w).alloc (Nat.le_refl _) _).drew.trans (hb.mono (by omega))

theorem read_early {w w1 : World} {y : UInt8} {v : Value} {vs : List (UInt8 × Int)}
    (h : w1.ownsRow ((w.alloc emptyCell).alloc emptyCell).drew.heap.size 66 2 v vs.length (vs.flatMap valC) ∧ Below ((w.alloc emptyCell).alloc emptyCell).drew.heap.size ((w.alloc emptyCell).alloc emptyCell).drew w1) :
    Reading w (((w1.setCell ⟨w.heap.size + 1, 0, none⟩ (.int .u8 y.toNat)).setCell ⟨w.heap.size + 1, 1, none⟩ (.int .i64 0)).setCell ⟨w.heap.size + 1, 2, none⟩ v) (w.heap.size + 1) y 0 v vs := by
  obtain ⟨hr, hb⟩ := h
  have hsz : ((w.alloc emptyCell).alloc emptyCell).drew.heap.size = w.heap.size + 2 := by simp
  have hs1 : (w.alloc emptyCell).heap.size = w.heap.size + 1 := by simp
  rw [hsz] at hr hb
  have hx : w1.heap[w.heap.size + 1]? = some emptyCell := by
    rw [hb.block _ (by omega)]
    have h9 := heap_alloc_new (w.alloc emptyCell) emptyCell
    rw [hs1] at h9
    exact h9
  have h0 := heap_setCell_at (i := 0) hx (.int .u8 y.toNat)
  have h1 := heap_setCell_at (i := 1) h0 (.int .i64 0)
  have h2 := heap_setCell_at (i := 2) h1 v
  refine ⟨h2, ?_, ?_, fun e => ?_, by omega, ?_⟩
  · rw [hso (by omega), hso (by omega), hso (by omega), hb.block _ (by omega)]
    show ((w.alloc emptyCell).alloc emptyCell).heap[w.heap.size]? = _
    rw [hao (by omega)]
    exact heap_alloc_new w emptyCell
  · exact own_base (ownsRow_setCell_below (ownsRow_setCell_below (ownsRow_setCell_below hr (by show _ + 1 < _; omega) _) (by show _ + 1 < _; omega) _) (by show _ + 1 < _; omega) _) (by omega)
  · have := (own_lt hr e).1
    omega
  · refine Below.setCell (Below.setCell (Below.setCell ?_ (by show _ ≤ _ + 1; omega) _) (by show _ ≤ _ + 1; omega) _) (by show _ ≤ _ + 1; omega) _
    exact (((Below.refl _ w).alloc (Nat.le_refl _) emptyCell).alloc (by omega) emptyCell).drew.trans (hb.mono (by omega))

theorem Reading.drew {w wc : World} {X : Nat} {y : UInt8} {n : Int} {v : Value} {vs : List (UInt8 × Int)} (h : Reading w wc X y n v vs) : Reading w wc.drew X y n v vs := ⟨h.box, h.res, h.row.drew, h.apart, h.lt, h.below.drew⟩
theorem Reading.put {w wc : World} {X : Nat} {y : UInt8} {n : Int} {v : Value} {vs : List (UInt8 × Int)} (h : Reading w wc X y n v vs) (u : Int) : Reading w (wc.setCell ⟨X, 1, none⟩ (.int .i64 u)) X y u v vs := by
  have hlt := h.lt
  refine ⟨heap_setCell_at (i := 1) h.box _, ?_, ?_, h.apart, h.lt, h.below.setCell (by show _ ≤ X; omega) _⟩
  · rw [hso (by omega)]; exact h.res
  · exact own_carry h.row fun g hg => hso (fun e => h.apart (by rw [hg, e]))
theorem Reading.fin {w wc : World} {X : Nat} {y : UInt8} {n : Int} {v : Value} {vs : List (UInt8 × Int)} (h : Reading w wc X y n v vs) (a b c : Value) :
    (((wc.setCell ⟨w.heap.size, 0, none⟩ a).setCell ⟨w.heap.size, 1, none⟩ b).setCell ⟨w.heap.size, 2, none⟩ c).ownsRow w.heap.size 66 2 v vs.length (vs.flatMap valC) ∧ Below w.heap.size w (((wc.setCell ⟨w.heap.size, 0, none⟩ a).setCell ⟨w.heap.size, 1, none⟩ b).setCell ⟨w.heap.size, 2, none⟩ c) := by
  refine ⟨?_, Below.setCell (Below.setCell (Below.setCell h.below (Nat.le_refl _) _) (Nat.le_refl _) _) (Nat.le_refl _) _⟩
  exact own_base (ownsRow_setCell_below (ownsRow_setCell_below (ownsRow_setCell_below h.row (Nat.lt_succ_self w.heap.size) _) (Nat.lt_succ_self w.heap.size) _) (Nat.lt_succ_self w.heap.size) _) (by omega)
theorem Reading.out {w wc : World} {X : Nat} {y : UInt8} {n : Int} {v : Value} {vs : List (UInt8 × Int)} (h : Reading w wc X y n v vs) (a b c : Value) :
    (((wc.setCell ⟨w.heap.size, 0, none⟩ a).setCell ⟨w.heap.size, 1, none⟩ b).setCell ⟨w.heap.size, 2, none⟩ c).heap[w.heap.size]? = some (.cells #[a, b, c] 56) := by
  have h0 := heap_setCell_at (i := 0) h.res a
  have h1 := heap_setCell_at (i := 1) h0 b
  have h2 := heap_setCell_at (i := 2) h1 c
  exact h2

set_option maxRecDepth 100000 in
set_option maxHeartbeats 1600000 in
theorem block_core (y : UInt8) (tl fl : Nat) (sm : Int) (S : ByteArray) (vs : List (UInt8 × Int)) (hsz : S.size = tl + fl + 3) (htl : tl ≤ 12) (hfl : fl ≤ 1000) (hne : (S.toList == [46]) = false)
    (k0 : S[0]'(by omega) = y) (kp : S[tl + 1]'(by omega) = 91) (kl : S[tl + fl + 2]'(by omega) = 93) (nb : ∀ k (hk : k < S.size), k < tl + 1 → ((S[k]).toNat : Int) ≠ 91)
    (va : ∀ W, Calls Tryd.prog 22 #[.string (S.extract (tl + 2) (tl + fl + 2))] W fun e w' => ∃ v, e = .returned v ∧ w'.ownsRow W.heap.size 66 2 v vs.length (vs.flatMap valC) ∧ Below W.heap.size W w')
    (sa : ∀ W, Calls Tryd.prog 51 #[.string (S.extract 1 (tl + 1))] W fun e w' => e = .returned (.int .i64 sm) ∧ w' = W) (h0 : y = 115 → tl = 0) (hy : y = 113 ∨ y = 119 ∨ y = 104 ∨ y = 115) (hsm : ¬ y = 115 → 0 ≤ sm) (w : World) :
    Calls Tryd.prog 23 #[.string S] w fun e w' => ∃ v, e = .returned (.tuple #[.agg #[.int .u8 y.toNat, .int .i64 (if y = 115 then 0 else sm), v], .bool true]) ∧ w'.ownsRow w.heap.size 66 2 v vs.length (vs.flatMap valC) ∧ Below w.heap.size w w' := by
  have NB : Hid _ := nb
  have VA : Hid _ := va
  have SM : Hid _ := sa
  clear nb va sa
  have hk0 : 0 < S.size := by omega
  have hkp : tl + 1 < S.size := by omega
  have hkl : tl + fl + 2 < S.size := by omega
  go_enter Tryd.func23, Tryd.ntmps23
  go_wp2
  go_loop [5] (fun i => ∃ k : Nat, k ≤ tl + 1 ∧ i = .int .i64 k) (fun i => tl + 1 - (intOf i).toNat)
  case atStart => exact ⟨0, Nat.zero_le _, rfl⟩
  case round =>
    obtain ⟨k, hk, rfl⟩ := hrel
    by_cases hlt : k < tl + 1
    · have hks : k < S.size := by omega
      have hnb : ((S[k].toNat : Int) == 91) = false := by have := NB.out k hks hlt; simpa using this
      have hkI : (k : Int) < (tl : Int) + fl + 3 := by omega
      go_wp2
      go_round
      case rel => exact ⟨k + 1, by omega, by go_num⟩
      case measure => simp [intOf]; omega
    · obtain rfl : k = tl + 1 := by omega
      clear hlt NB
      have h1 : ¬ ((tl : Int) + 1 < 1) := by omega
      have h2 : ¬ ((tl : Int) + fl + 3 ≤ (tl : Int) + 2) := by omega
      have hn1 : ((tl : Int) + 2).toNat = tl + 2 := by omega
      have hn2 : ((tl : Int) + fl + 2).toNat = tl + fl + 2 := by omega
      have sl : ∀ W, (Instr.slice 9 (.string S) (some (.int .i64 ((tl : Int) + 2))) (some (.int .i64 ((tl : Int) + fl + 2))) none).run Tryd.prog W = .ok (.string (S.extract (tl + 2) (tl + fl + 2))) W := fun W => by
        rw [run_slice_string W 9 S .i64 .i64 _ _ Tryd.underlying9 (by omega) (by omega) (by rw [hsz]; omega), hn1, hn2]
      have hI3 : IntKind.i64.wrap ((tl : Int) + 1 + 1) = (tl : Int) + 2 := by rw [wrapS (by omega) (by omega)]; omega
      have hI4 : IntKind.i64.wrap ((tl : Int) + fl + 3 - 1) = (tl : Int) + fl + 2 := by rw [wrapS (by omega) (by omega)]; omega
      have sl2 : ∀ W, (Instr.slice 9 (.string S) (some (.int .i64 (IntKind.i64.wrap ((tl : Int) + 1 + 1)))) (some (.int .i64 (IntKind.i64.wrap ((tl : Int) + fl + 3 - 1)))) none).run Tryd.prog W = .ok (.string (S.extract (tl + 2) (tl + fl + 2))) W := fun W => by
        rw [hI3, hI4]; exact sl W
      have sl3 : ∀ W, (Instr.slice 9 (.string S) (some (.int .i64 ((tl : Int) + 1 + 1))) (some (.int .i64 ((tl : Int) + fl + 3 - 1))) none).run Tryd.prog W = .ok (.string (S.extract (tl + 2) (tl + fl + 2))) W := fun W => by
        rw [show (tl : Int) + 1 + 1 = (tl : Int) + 2 by omega, show (tl : Int) + fl + 3 - 1 = (tl : Int) + fl + 2 by omega]; exact sl W
      clear hn1 hn2
      go_wp2_with fail
      go_cut [6] from 40 to 49 (fun p wc => ∃ X v, p = .pointer (some ⟨X, 0, none⟩) ∧ Reading w wc X y 0 v vs)
      case first =>
        go_region_with (go_at_call 22; refine Calls.mono (VA.out _) ?_; rintro e w1 ⟨v, rfl, hrow, hb⟩; obtain ⟨fo, fc, hv⟩ := own_slice (own_base hrow (Nat.zero_le _)); subst hv; have HB : Hid _ := And.intro hrow hb; first | (have hx : w1.heap[w.heap.size + 1]? = some (.cells #[.int .u8 0, .int .i64 0, .slice none 0 0] 56) := (by rw [hb.block _ (by simp)]; have h9 := heap_alloc_new (w.alloc (.cells #[.int .u8 0, .int .i64 0, .slice none 0 0] 56)) (.cells #[.int .u8 0, .int .i64 0, .slice none 0 0] 56); rw [show (w.alloc (.cells #[.int .u8 0, .int .i64 0, .slice none 0 0] 56)).heap.size = w.heap.size + 1 by simp] at h9; exact h9); have z0 := cell_of_heap (i := 0) hx rfl; have z1 := cell_of_heap (i := 1) hx rfl; have z2 := cell_of_heap (i := 2) hx rfl; have y0 := frozen_of_heap (i := 0) hx; have y1 := frozen_of_heap (i := 1) hx; have y2 := frozen_of_heap (i := 2) hx; clear hx hrow hb) | clear hrow hb)
        all_goals go_wp2_with fail
        all_goals go_meet
        all_goals first | exact ⟨_, _, rfl, read_late HB.out⟩ | exact ⟨_, _, rfl, read_early HB.out⟩
      case rest =>
        obtain ⟨X, v, rfl, RD⟩ := hcut
        obtain ⟨fo, fc, rfl⟩ := own_slice (own_base RD.row (Nat.zero_le _))
        have r0 := cell_of_heap (i := 0) RD.box rfl
        have r1 := cell_of_heap (i := 1) RD.box rfl
        have r2 := cell_of_heap (i := 2) RD.box rfl
        have rf0 := frozen_of_heap (i := 0) RD.box
        have rf1 := frozen_of_heap (i := 1) RD.box
        have rf2 := frozen_of_heap (i := 2) RD.box
        have s0 := cell_of_heap (i := 0) RD.res rfl
        have s1 := cell_of_heap (i := 1) RD.res rfl
        have s2 := cell_of_heap (i := 2) RD.res rfl
        have sf0 := frozen_of_heap (i := 0) RD.res
        have sf1 := frozen_of_heap (i := 1) RD.res
        have sf2 := frozen_of_heap (i := 2) RD.res
        have hXne : X ≠ w.heap.size := by have := RD.lt; omega
        by_cases hy5 : y = 115
        · subst hy5
          obtain rfl := h0 rfl
          have RR : Hid _ := RD
          clear RD
          go_wp2_with fail
          exact bodyPost_ret (v := .tuple #[.agg #[.int .u8 115, .int .i64 0, .slice fo vs.length fc], .bool true]) (by have hF := RR.out.out (.int .u8 115) (.int .i64 0) (.slice fo vs.length fc); simp [results, Tryd.results23, go_sem, cell_of_heap (i := 0) hF rfl, cell_of_heap (i := 1) hF rfl, cell_of_heap (i := 2) hF rfl]) rfl ⟨_, rfl, RR.out.fin _ _ _⟩
        · have hyn : ((y.toNat : Int) == 115) = false := by
            have : y.toNat ≠ 115 := fun e => hy5 (UInt8.toNat_inj.1 (by rw [e]; rfl))
            have h' : (y.toNat : Int) ≠ 115 := by omega
            simpa using h'
          have hs0 : 0 ≤ sm := hsm hy5
          have hs1 : ¬ sm < 0 := by omega
          have RR : Hid _ := RD
          clear RD h0 hsm hy5
          rcases hy with e | e | e | e
          · subst e
            go_wp2_with fail
            refine Calls.mono (SM.out _) ?_
            rintro e w2 ⟨rfl, rfl⟩
            go_wp2_with fail
            go_region_with fail
            all_goals go_wp2_with fail
            all_goals
              have hF := (RR.out.put sm).out (.int .u8 113) (.int .i64 sm) (.slice fo vs.length fc)
              have hD := (RR.out.put sm).fin (.int .u8 113) (.int .i64 sm) (.slice fo vs.length fc)
              obtain ⟨W, hW⟩ : ∃ W, ((((w2.setCell ⟨X, 1, none⟩ (.int .i64 sm)).setCell ⟨w.heap.size, 0, none⟩ (.int .u8 113)).setCell ⟨w.heap.size, 1, none⟩ (.int .i64 sm)).setCell ⟨w.heap.size, 2, none⟩ (.slice fo vs.length fc)) = W := ⟨_, rfl⟩
              rw [hW] at hF hD ⊢
              have f0 := cell_of_heap (i := 0) hF rfl
              have f1 := cell_of_heap (i := 1) hF rfl
              have f2 := cell_of_heap (i := 2) hF rfl
              exact bodyPost_ret (v := .tuple #[.agg #[.int .u8 113, .int .i64 sm, .slice fo vs.length fc], .bool true]) (by simp [results, Tryd.results23, go_sem, f0, f1, f2]) rfl ⟨_, rfl, hD.1.drew, hD.2.drew⟩
          · subst e
            go_wp2_with fail
            refine Calls.mono (SM.out _) ?_
            rintro e w2 ⟨rfl, rfl⟩
            go_wp2_with fail
            go_region_with fail
            all_goals go_wp2_with fail
            all_goals
              have hF := (RR.out.put sm).out (.int .u8 119) (.int .i64 sm) (.slice fo vs.length fc)
              have hD := (RR.out.put sm).fin (.int .u8 119) (.int .i64 sm) (.slice fo vs.length fc)
              obtain ⟨W, hW⟩ : ∃ W, ((((w2.setCell ⟨X, 1, none⟩ (.int .i64 sm)).setCell ⟨w.heap.size, 0, none⟩ (.int .u8 119)).setCell ⟨w.heap.size, 1, none⟩ (.int .i64 sm)).setCell ⟨w.heap.size, 2, none⟩ (.slice fo vs.length fc)) = W := ⟨_, rfl⟩
              rw [hW] at hF hD ⊢
              have f0 := cell_of_heap (i := 0) hF rfl
              have f1 := cell_of_heap (i := 1) hF rfl
              have f2 := cell_of_heap (i := 2) hF rfl
              exact bodyPost_ret (v := .tuple #[.agg #[.int .u8 119, .int .i64 sm, .slice fo vs.length fc], .bool true]) (by simp [results, Tryd.results23, go_sem, f0, f1, f2]) rfl ⟨_, rfl, hD.1.drew, hD.2.drew⟩
          · subst e
            go_wp2_with fail
            refine Calls.mono (SM.out _) ?_
            rintro e w2 ⟨rfl, rfl⟩
            go_wp2_with fail
            go_region_with fail
            all_goals go_wp2_with fail
            all_goals
              have hF := (RR.out.put sm).out (.int .u8 104) (.int .i64 sm) (.slice fo vs.length fc)
              have hD := (RR.out.put sm).fin (.int .u8 104) (.int .i64 sm) (.slice fo vs.length fc)
              obtain ⟨W, hW⟩ : ∃ W, ((((w2.setCell ⟨X, 1, none⟩ (.int .i64 sm)).setCell ⟨w.heap.size, 0, none⟩ (.int .u8 104)).setCell ⟨w.heap.size, 1, none⟩ (.int .i64 sm)).setCell ⟨w.heap.size, 2, none⟩ (.slice fo vs.length fc)) = W := ⟨_, rfl⟩
              rw [hW] at hF hD ⊢
              have f0 := cell_of_heap (i := 0) hF rfl
              have f1 := cell_of_heap (i := 1) hF rfl
              have f2 := cell_of_heap (i := 2) hF rfl
              exact bodyPost_ret (v := .tuple #[.agg #[.int .u8 104, .int .i64 sm, .slice fo vs.length fc], .bool true]) (by simp [results, Tryd.results23, go_sem, f0, f1, f2]) rfl ⟨_, rfl, hD.1.drew, hD.2.drew⟩
          · subst e; simp at hyn

set_option maxRecDepth 100000 in
set_option maxHeartbeats 1600000 in
theorem block_obj (y : UInt8) (t f : List UInt8) (hy : y = 113 ∨ y = 119 ∨ y = 104 ∨ (y = 115 ∧ t = [])) (ht : ∀ x ∈ t, x ≠ 91) (htl : t.length ≤ 12) (hsm : ¬ y = 115 → 0 ≤ smallL t) (hfl : f.length ≤ 1000) (hp : ∀ u ∈ splitL 44 f, u.length ≤ 1000 ∧ (u.getD 0 0 = 35 → u.length ≤ 12)) (w : World) :
    Calls Tryd.prog 23 #[str (y :: (t ++ 91 :: (f ++ [93])))] w fun e w' => ∃ v, e = .returned (.tuple #[.agg #[.int .u8 y.toNat, .int .i64 (if y = 115 then 0 else smallL t), v], .bool true]) ∧ w'.ownsRow w.heap.size 66 2 v (valuesL f).length ((valuesL f).flatMap valC) ∧ Below w.heap.size w w' := by
  obtain ⟨L, hL⟩ : ∃ L, y :: (t ++ 91 :: (f ++ [93])) = L := ⟨_, rfl⟩
  rw [hL]
  obtain ⟨S, hS⟩ : ∃ S : ByteArray, ⟨L.toArray⟩ = S := ⟨_, rfl⟩
  have hsz := ba_size hS
  have hstr : str L = .string S := by unfold str; rw [hS]
  rw [hstr]
  have hlen : L.length = t.length + f.length + 3 := by rw [← hL]; simp; omega
  have hne : (S.toList == [46]) = false := by
    rw [ba_toList hS, ← hL]
    simp
  have G : ∀ k (hk : k < S.size), S[k] = L[k]'(by omega) := fun k hk => ba_get hS k (by omega) hk
  have g0 : ∀ hk, S[0]'hk = y := fun hk => by rw [G 0 hk]; subst hL; rfl
  have NB : Hid (∀ k (hk : k < S.size), k < t.length + 1 → ((S[k]).toNat : Int) ≠ 91) := fun k hk hkt => by
    rw [G k hk]
    have hne91 : L[k]'(by omega) ≠ 91 := by
      subst hL
      cases k with
      | zero => rcases hy with e | e | e | ⟨e, _⟩ <;> simp [e]
      | succ k =>
        have : (y :: (t ++ 91 :: (f ++ [93])))[k + 1]'(by omega) = t[k]'(by omega) := by
          simp [List.getElem_append_left (show k < t.length by omega)]
        rw [this]
        exact ht _ (List.getElem_mem _)
    intro e
    exact hne91 (UInt8.toNat_inj.1 (by have : (L[k]'(by omega)).toNat = 91 := by omega
                                       rw [this]; rfl))
  have gp : ∀ hk, S[t.length + 1]'hk = 91 := fun hk => by
    rw [G _ hk]; subst hL
    simp
  have gl : ∀ hk, S[t.length + f.length + 2]'hk = 93 := fun hk => by
    rw [G _ hk]; subst hL
    have e : y :: (t ++ 91 :: (f ++ [93])) = (y :: (t ++ 91 :: f)) ++ [93] := by simp
    simp only [e]
    rw [List.getElem_append_right (by simp; omega)]
    simp
  have hxf : S.extract (t.length + 2) (t.length + f.length + 2) = ⟨f.toArray⟩ := by
    rw [ba_extract hS]
    congr 2
    subst hL
    have e : y :: (t ++ 91 :: (f ++ [93])) = ((y :: (t ++ [91])) ++ f) ++ [93] := by simp
    rw [e, List.take_append_of_le_length (by simp; omega), List.take_of_length_le (by simp; omega), List.drop_append_of_le_length (by simp), List.drop_of_length_le (by simp)]
    rfl
  have hxt : S.extract 1 (t.length + 1) = ⟨t.toArray⟩ := by
    rw [ba_extract hS]
    congr 2
    subst hL
    have e : y :: (t ++ 91 :: (f ++ [93])) = (y :: t) ++ (91 :: (f ++ [93])) := by simp
    rw [e, List.take_append_of_le_length (by simp), List.take_of_length_le (by simp)]
    rfl
  have VA : Hid (∀ W, Calls Tryd.prog 22 #[.string (S.extract (t.length + 2) (t.length + f.length + 2))] W fun e w' => ∃ v, e = .returned v ∧ w'.ownsRow W.heap.size 66 2 v (valuesL f).length ((valuesL f).flatMap valC) ∧ Below W.heap.size W w') := fun W => by
    rw [hxf]; exact values_any f (by omega) hp W
  have SM : Hid (∀ W, Calls Tryd.prog 51 #[.string (S.extract 1 (t.length + 1))] W fun e w' => e = .returned (.int .i64 (smallL t)) ∧ w' = W) := fun W => by
    rw [hxt]; exact small_any t htl W
  refine block_core y t.length f.length (smallL t) S (valuesL f) (by rw [hsz, hlen]) htl hfl hne (g0 _) (gp _) (gl _) NB.out VA.out SM.out (fun e => ?_) ?_ hsm w
  · rcases hy with h | h | h | ⟨_, h⟩
    · rw [h] at e; cases e
    · rw [h] at e; cases e
    · rw [h] at e; cases e
    · rw [h]; rfl
  · rcases hy with h | h | h | ⟨h, _⟩
    · exact .inl h
    · exact .inr (.inl h)
    · exact .inr (.inr (.inl h))
    · exact .inr (.inr (.inr h))

end Go.Proofs.YtpmkjeihbddfpaaDoor

/- OUR OWN. A Dump read again: the record of a block of a state. -/
namespace Go.Proofs.YtpmkjeihbddfpaaDoor
open Go.RowKit
set_option linter.unusedVariables false
set_option linter.unusedSimpArgs false

theorem digits_three (n : Nat) (hn : n ≤ 999) : (digits n).length ≤ 3 := by
  have h := small_digits n hn
  unfold smallL at h
  split at h
  · rename_i e
    simp only [Bool.and_eq_true, decide_eq_true_eq] at e
    exact e.2.2
  · omega
theorem split_parts {l : List (Int × Int)} (h : ∀ v ∈ l, v.1 = 0 ∨ v.1 = 1 ∨ (v.1 = 2 ∧ ∃ i : Nat, v.2 = i ∧ i ≤ 999)) :
    ∀ u ∈ splitL 44 (listL l), u.length ≤ 1000 ∧ (u.getD 0 0 = 35 → u.length ≤ 12) := by
  intro u hu
  rw [list_join] at hu
  by_cases hl : l = []
  · subst hl
    have : u = [] := by simpa [joinL, splitL, splitGo] using hu
    subst this
    simp
  · have h1 : l.map writtenL ≠ [] := by simpa using hl
    rw [split_join _ h1 fun a ha => by obtain ⟨v, _, rfl⟩ := List.mem_map.1 ha; exact written_no 44 (by simp)] at hu
    obtain ⟨v, hv, rfl⟩ := List.mem_map.1 hu
    have h22 := written_len v
    refine ⟨by omega, fun e => ?_⟩
    rcases h v hv with e0 | e1 | ⟨e2, i, hi, hin⟩
    · unfold writtenL; rw [if_pos e0]; simp
    · exfalso
      unfold writtenL at e
      rw [if_neg (by omega), if_pos e1] at e
      have hne := digits_ne v.2
      obtain ⟨x, xs, hx⟩ := List.exists_cons_of_ne_nil hne
      rw [hx] at e
      have hb := digits_bytes v.2 x (by rw [hx]; simp)
      have hx35 : x = 35 := by simpa using e
      rw [hx35] at hb
      rcases hb with hb | hb
      · cases hb
      · revert hb; decide
    · unfold writtenL
      rw [if_neg (by omega), if_neg (by omega), hi]
      have := digits_three i hin
      simp only [List.length_cons]
      omega
theorem queue_parts {s : St} {N : Nat} (g : s.Good N) (hN : N ≤ 99) : ∀ t ∈ splitL 44 (queueN s.queue s.queue.length), t.length ≤ 12 := by
  intro t ht
  rw [queue_join] at ht
  by_cases hl : s.queue = []
  · rw [hl] at ht
    have : t = [] := by simpa [joinL, splitL, splitGo] using ht
    subst this
    simp
  · have h1 : s.queue.map digits ≠ [] := by simpa using hl
    rw [split_join _ h1 fun a ha => by obtain ⟨v, _, rfl⟩ := List.mem_map.1 ha; exact digits_no _ 44 (by simp)] at ht
    obtain ⟨b, hb, rfl⟩ := List.mem_map.1 ht
    have h0 := g.nat b hb
    have hq := (g.inq b.toNat).1 (by rw [Int.toNat_of_nonneg h0]; exact hb)
    have hh : (s.ob b.toNat).here = true := by
      cases e : (s.ob b.toNat).here with
      | true => rfl
      | false => rw [g.gone _ e] at hq; cases hq
    have := g.ne_zero hh
    have h3 := digits_three b.toNat (by omega)
    rw [Int.toNat_of_nonneg h0] at h3
    omega

def cellV (c : Cell) (v : Value) : Value := .agg #[.int .u8 c.letter.toNat, .int .i64 c.count, v]
theorem block_of {s : St} {N : Nat} (g : s.Good N) (hN : N ≤ 99) (i : Nat) (w : World) :
    Calls Tryd.prog 23 #[str (bodyL s i)] w fun e w' => ∃ v, e = .returned (.tuple #[cellV (cellOf s i) v, .bool true]) ∧ w'.ownsRow w.heap.size 66 2 v (cellOf s i).fields.length ((cellOf s i).fields.flatMap valC) ∧ Below w.heap.size w w' := by
  have hf := values_fields g hN i
  have hc := g.count_le (i : Int)
  have hsm := small_digits (s.count i) (by omega)
  have hd := digits_no (s.count i) 91 (by simp)
  have h3 := digits_three (s.count i) (by omega)
  have hfl : (listL (s.ob i).fs).length ≤ 1000 := by have := list_len (s.ob i).fs; have := g.four i; omega
  have hp := split_parts (l := (s.ob i).fs) fun v hv => g.readable hN (g.fields i v hv)
  unfold bodyL cellOf
  by_cases hh : (s.ob i).here = true
  · rw [if_pos hh, if_pos hh]
    have key : ∀ y : UInt8, y = 113 ∨ y = 119 ∨ y = 104 → Calls Tryd.prog 23 #[str ((y :: digits (s.count i)) ++ 91 :: (listL (s.ob i).fs ++ [93]))] w fun e w' => ∃ v, e = .returned (.tuple #[cellV ⟨y, s.count i, (s.ob i).fs.map absV⟩ v, .bool true]) ∧ w'.ownsRow w.heap.size 66 2 v ((s.ob i).fs.map absV).length (((s.ob i).fs.map absV).flatMap valC) ∧ Below w.heap.size w w' := fun y hy => by
      have hy5 : ¬ y = 115 := by rcases hy with e | e | e <;> rw [e] <;> decide
      have h := block_obj y (digits (s.count i)) (listL (s.ob i).fs) (by rcases hy with e | e | e <;> simp [e]) hd (by omega) (fun _ => by rw [hsm]; omega) hfl hp w
      rw [hf, hsm, if_neg hy5] at h
      exact h
    unfold letterL
    by_cases hq : (s.ob i).queued = true
    · rw [if_pos hq, if_pos hq]; exact key 113 (.inl rfl)
    rw [if_neg hq, if_neg hq]
    by_cases hs : (s.ob i).stuck = true
    · rw [if_pos hs, if_pos hs]
      have h := block_obj 115 [] (listL (s.ob i).fs) (by simp) (by simp) (by simp) (fun e => absurd rfl e) hfl hp w
      rw [hf, if_pos rfl] at h
      exact h
    rw [if_neg hs, if_neg hs]
    by_cases hw : s.waits i = true
    · rw [if_pos hw, if_pos hw]; exact key 119 (.inr (.inl rfl))
    · rw [if_neg hw, if_neg hw]; exact key 104 (.inr (.inr rfl))
  · rw [if_neg hh, if_neg hh]
    refine Calls.mono (block_free w) ?_
    rintro e w' ⟨rfl, hb⟩
    exact ⟨_, rfl, World.ownsRow_nil _ _ _ _, hb⟩

end Go.Proofs.YtpmkjeihbddfpaaDoor

/- OUR OWN. A Dump read again: the picture of a heap. -/
namespace Go.Proofs.YtpmkjeihbddfpaaDoor
open Go.RowKit
set_option linter.unusedVariables false
set_option linter.unusedSimpArgs false

def cellC (x : Cell × Value) : List Value := [.int .u8 x.1.letter.toNat, .int .i64 x.1.count, x.2]
/-- the picture at L, of the cells cs (with their fields' rows), the queue q, the stack st, the globals gl; its rows lie from B on -/
structure PicAt (w : World) (B L : Nat) (cs : List (Cell × Value)) (q st gl : List (UInt8 × Int)) (vc vq vs vg : Value) : Prop where
  box : w.heap[L]? = some (.cells #[vc, vq, vs, vg] 54)
  cells : w.ownsRow B 56 3 vc cs.length (cs.flatMap cellC)
  fields : ∀ x ∈ cs, w.ownsRow B 66 2 x.2 x.1.fields.length (x.1.fields.flatMap valC)
  queue : w.ownsRow B 66 2 vq q.length (q.flatMap valC)
  stack : w.ownsRow B 66 2 vs st.length (st.flatMap valC)
  globals : w.ownsRow B 66 2 vg gl.length (gl.flatMap valC)
  le : B ≤ L
theorem PicAt.drew {w : World} {B L : Nat} {cs : List (Cell × Value)} {q st gl : List (UInt8 × Int)} {vc vq vs vg : Value} (h : PicAt w B L cs q st gl vc vq vs vg) : PicAt w.drew B L cs q st gl vc vq vs vg :=
  ⟨h.box, h.cells.drew, fun x hx => (h.fields x hx).drew, h.queue.drew, h.stack.drew, h.globals.drew, h.le⟩
theorem PicAt.below {w w' : World} {B L : Nat} {cs : List (Cell × Value)} {q st gl : List (UInt8 × Int)} {vc vq vs vg : Value} (h : PicAt w B L cs q st gl vc vq vs vg) (hb : Below w.heap.size w w') : PicAt w' B L cs q st gl vc vq vs vg := by
  have k : ∀ {e sz v n xs}, w.ownsRow B e sz v n xs → w'.ownsRow B e sz v n xs := fun r => own_carry r fun g hg => hb.block g (own_lt r hg).2
  exact ⟨(hb.block _ (lt_of_heap h.box)).trans h.box, k h.cells, fun x hx => k (h.fields x hx), k h.queue, k h.stack, k h.globals, h.le⟩

/-- blocks of rows of different types are not the same -/
theorem rows_apart {w : World} {B B' : Nat} {e e' : TypeId} {sz sz' : Nat} {v v' : Value} {n n' : Nat} {xs xs' : List Value} (h : w.ownsRow B e sz v n xs) (h' : w.ownsRow B' e' sz' v' n' xs') (he : e ≠ e') {g : Nat} (hg : v.ownBlock = some g) : v'.ownBlock ≠ some g := fun hg' => by
  obtain ⟨c, fz, hc⟩ := Go.Lib.ownsRow_kind h g hg
  obtain ⟨c', fz', hc'⟩ := Go.Lib.ownsRow_kind h' g hg'
  rw [hc] at hc'
  simp at hc'
  exact he hc'.2.1
theorem row_box {w : World} {B : Nat} {e e' : TypeId} {sz : Nat} {v : Value} {n : Nat} {xs : List Value} {L : Nat} {cs : Array Value} (h : w.ownsRow B e sz v n xs) (h' : w.heap[L]? = some (.cells cs e')) (he : e ≠ e') : v.ownBlock ≠ some L := fun hg => by
  obtain ⟨c, fz, hc⟩ := Go.Lib.ownsRow_kind h L hg
  rw [hc] at h'
  simp at h'
  exact he h'.2.1

/-- the picture while it is made: k records are read -/
structure Look (w1 wr : World) (bs : List (List UInt8)) (cells : List Cell) (k L : Nat) (cs : List (Cell × Value)) (q st gl : List (UInt8 × Int)) (vc vq vs vg vr : Value) : Prop where
  pic : PicAt wr w1.heap.size L cs q st gl vc vq vs vg
  recs : wr.ownsRow w1.heap.size 9 1 vr (bs.length + 1) ((bs ++ [[]]).map str)
  map : cs.map Prod.fst = cells.take k
  below : Below w1.heap.size w1 wr
theorem Look.on {w1 wr w' : World} {bs : List (List UInt8)} {cells : List Cell} {k L : Nat} {cs : List (Cell × Value)} {q st gl : List (UInt8 × Int)} {vc vq vs vg vr : Value} (h : Look w1 wr bs cells k L cs q st gl vc vq vs vg vr) (hb : Below wr.heap.size wr w') : Look w1 w' bs cells k L cs q st gl vc vq vs vg vr :=
  ⟨h.pic.below hb, own_carry h.recs fun g hg => hb.block g (own_lt h.recs hg).2, h.map, h.below.trans (hb.mono h.below.size)⟩
theorem Look.add {w1 w2 w3 : World} {bs : List (List UInt8)} {cells : List Cell} {k L : Nat} {cs : List (Cell × Value)} {q st gl : List (UInt8 × Int)} {vc vq vs vg vr v vc' : Value} (h : Look w1 w2 bs cells k L cs q st gl vc vq vs vg vr) (hk : k < cells.length)
    (hv : w2.ownsRow w1.heap.size 66 2 v cells[k].fields.length (cells[k].fields.flatMap valC))
    (hgr : w2.grownBy w3 vc.ownBlock) (hown : w3.ownsRow w1.heap.size 56 3 vc' (k + 1) (cs.flatMap cellC ++ cellC (cells[k], v))) :
    Look w1 (w3.setCell ⟨L, 0, none⟩ vc') bs cells (k + 1) L (cs ++ [(cells[k], v)]) q st gl vc' vq vs vg vr := by
  have O := off_grown hgr
  have hLb : w3.heap[L]? = w2.heap[L]? := O.block L (lt_of_heap h.pic.box) (fun hm => by
    have : vc.ownBlock = some L := by
      cases e : vc.ownBlock with
      | none => rw [e] at hm; simp at hm
      | some y => rw [e] at hm; simp at hm; rw [hm]
    exact row_box h.pic.cells h.pic.box (by decide) this)
  have hbox3 : w3.heap[L]? = some (.cells #[vc, vq, vs, vg] 54) := hLb.trans h.pic.box
  -- a row of another type goes on
  have keep : ∀ {e : TypeId} {sz : Nat} {u : Value} {n : Nat} {xs : List Value}, w2.ownsRow w1.heap.size e sz u n xs → e ≠ 56 → e ≠ 54 → (w3.setCell ⟨L, 0, none⟩ vc').ownsRow w1.heap.size e sz u n xs := fun r he he' => by
    refine own_carry r fun g hg => ?_
    rw [hso (fun e => row_box r h.pic.box he' (by rw [hg, e]))]
    refine O.block g (own_lt r hg).2 fun hm => ?_
    have : vc.ownBlock = some g := by
      cases e : vc.ownBlock with
      | none => rw [e] at hm; simp at hm
      | some y => rw [e] at hm; simp at hm; rw [hm]
    exact rows_apart r h.pic.cells he hg this
  have hlen : cs.length = k := by
    have := congrArg List.length h.map
    rw [List.length_map, List.length_take] at this
    omega
  refine ⟨⟨heap_setCell_at (i := 0) hbox3 vc', ?_, ?_, keep h.pic.queue (by decide) (by decide), keep h.pic.stack (by decide) (by decide), keep h.pic.globals (by decide) (by decide), h.pic.le⟩, keep h.recs (by decide) (by decide), ?_, ?_⟩
  · rw [List.length_append, List.length_singleton, hlen, List.flatMap_append, List.flatMap_singleton]
    exact own_carry hown fun g hg => hso (fun e => row_box hown hbox3 (by decide) (by rw [hg, e]))
  · intro y hy
    rcases List.mem_append.1 hy with hy | hy
    · exact keep (h.pic.fields y hy) (by decide) (by decide)
    · rw [List.mem_singleton.1 hy]; exact keep hv (by decide) (by decide)
  · rw [List.map_append, h.map, List.take_succ_eq_append_getElem hk]; rfl
  · refine Below.setCell ?_ h.pic.le _
    exact h.below.grown hgr h.below.size fun y hy => (own_lt h.pic.cells hy).1

theorem infoCell : (Tryd.prog.info? 56).map (fun i => (i.zero, i.size, i.bytes)) = some (some (.agg #[.int .u8 0, .int .i64 0, .slice none 0 0]), 3, 40) := by kernel_rfl

set_option maxRecDepth 100000 in
set_option maxHeartbeats 3200000 in
theorem seen_core (d rs qs ss gs : List UInt8) (N : Nat) (hN : N ≤ 99) (bs : List (List UInt8)) (hbs : bs.length = N) (cells : List Cell) (hcs : cells.length = N) (q st gl : List (UInt8 × Int)) (csz gsz bu ze ov : Int) (hst : (st.length : Int) ≤ csz) (hgl : (gl.length : Int) = gsz) (Z : World → World → Prop) (x : Nat) (w : World)
    (hst9 : st.length ≤ 16) (hgl9 : gl.length ≤ 8)
    (du : ∀ W, Below w.heap.size w W → Calls Tryd.prog 19 #[.pointer (some ⟨x, 0, none⟩)] W fun e w' => e = .returned (str d) ∧ Z W w' ∧ W.heap.size ≤ w'.heap.size ∧ ∀ k, w.heap.size ≤ k → k < W.heap.size → w'.heap[k]? = W.heap[k]?)
    (sp1 : ∀ W, Calls Tryd.prog 20 #[str d, .int .u8 124] W fun e w' => ∃ v, e = .returned v ∧ w'.ownsRow W.heap.size 9 1 v 4 [str rs, str qs, str ss, str gs] ∧ Below W.heap.size W w')
    (sp2 : ∀ W, Calls Tryd.prog 20 #[str rs, .int .u8 59] W fun e w' => ∃ v, e = .returned v ∧ w'.ownsRow W.heap.size 9 1 v (N + 1) ((bs ++ [[]]).map str) ∧ Below W.heap.size W w')
    (nu : ∀ W, Calls Tryd.prog 21 #[str qs] W fun e w' => ∃ v, e = .returned v ∧ w'.ownsRow W.heap.size 66 2 v q.length (q.flatMap valC) ∧ Below W.heap.size W w')
    (va : ∀ W, Calls Tryd.prog 22 #[str ss] W fun e w' => ∃ v, e = .returned v ∧ w'.ownsRow W.heap.size 66 2 v st.length (st.flatMap valC) ∧ Below W.heap.size W w')
    (vg : ∀ W, Calls Tryd.prog 22 #[str gs] W fun e w' => ∃ v, e = .returned v ∧ w'.ownsRow W.heap.size 66 2 v gl.length (gl.flatMap valC) ∧ Below W.heap.size W w')
    (bl : ∀ k (h1 : k < bs.length) (h2 : k < cells.length) W, Calls Tryd.prog 23 #[str bs[k]] W fun e w' => ∃ v, e = .returned (.tuple #[cellV cells[k] v, .bool true]) ∧ w'.ownsRow W.heap.size 66 2 v cells[k].fields.length (cells[k].fields.flatMap valC) ∧ Below W.heap.size W w') :
    Calls Tryd.prog 8 #[.pointer (some ⟨x, 0, none⟩), .agg #[.int .i64 N, .int .i64 csz, .int .i64 gsz, .int .i64 bu, .int .i64 ze, .int .i64 ov]] w fun e w' => ∃ W w1 L cs vc vq vs vg, e = .returned (.tuple #[.pointer (some ⟨L, 0, none⟩), .bool true]) ∧ Below w.heap.size w W ∧ Z W w1 ∧ Below w1.heap.size w1 w' ∧ cs.map Prod.fst = cells ∧ PicAt w' w1.heap.size L cs q st gl vc vq vs vg := by
  have SP1 : Hid _ := sp1
  have SP2 : Hid _ := sp2
  have NU : Hid _ := nu
  have VA : Hid _ := va
  have VG : Hid _ := vg
  have BL : Hid _ := bl
  have DU : Hid _ := du
  clear sp1 sp2 nu va vg bl du
  unfold str at SP1 SP2 NU VA VG DU
  go_enter Tryd.func8, Tryd.ntmps8
  go_wp2_with fail
  refine Calls.mono (DU.out _ ((Below.refl _ w).alloc (Nat.le_refl _) _)) ?_
  rintro e w1 ⟨rfl, hZ, hsz1, hk1⟩
  have Z1 : Hid (Below w.heap.size w (w.alloc (.cells #[.int .i64 N, .int .i64 csz, .int .i64 gsz, .int .i64 bu, .int .i64 ze, .int .i64 ov] 23)) ∧ Z (w.alloc (.cells #[.int .i64 N, .int .i64 csz, .int .i64 gsz, .int .i64 bu, .int .i64 ze, .int .i64 ov] 23)) w1) := ⟨(Below.refl _ w).alloc (Nat.le_refl _) _, hZ⟩
  have hbox : w1.heap[w.heap.size]? = some (.cells #[.int .i64 N, .int .i64 csz, .int .i64 gsz, .int .i64 bu, .int .i64 ze, .int .i64 ov] 23) := by
    rw [hk1 _ (Nat.le_refl _) (by simp)]
    exact heap_alloc_new w _
  have hBx := lt_of_heap hbox
  have BX : Hid (∀ wr, Below w1.heap.size w1 wr → wr.cell? ⟨w.heap.size, 0, none⟩ = some (.int .i64 N) ∧ wr.cell? ⟨w.heap.size, 1, none⟩ = some (.int .i64 csz) ∧ wr.cell? ⟨w.heap.size, 2, none⟩ = some (.int .i64 gsz)) := fun wr hb => by
    have h := (hb.block _ hBx).trans hbox
    exact ⟨cell_of_heap (i := 0) h rfl, cell_of_heap (i := 1) h rfl, cell_of_heap (i := 2) h rfl⟩
  clear hZ DU hk1 hsz1 hbox
  go_wp2_with fail
  refine Calls.mono (SP1.out _) ?_
  rintro e w2 ⟨v2, rfl, hrow2, hb2⟩
  obtain ⟨ao, cp, hv2⟩ := own_slice (own_base hrow2 (Nat.zero_le _))
  subst hv2
  obtain ⟨g, cap', hv', hg, _, _, hcell, _⟩ := own_view (own_base hrow2 (Nat.zero_le _)) (by omega)
  simp at hv'
  obtain ⟨rfl, rfl⟩ := hv'
  have CE : Hid (∀ wr, Below w2.heap.size w2 wr → wr.cell? ⟨g, 0, none⟩ = some (str rs) ∧ wr.cell? ⟨g, 1, none⟩ = some (str qs) ∧ wr.cell? ⟨g, 2, none⟩ = some (str ss) ∧ wr.cell? ⟨g, 3, none⟩ = some (str gs)) := fun wr hb =>
    ⟨(hb.cell (p := ⟨g, 0, none⟩) hg).trans (hcell 0 _ rfl), (hb.cell (p := ⟨g, 1, none⟩) hg).trans (hcell 1 _ rfl), (hb.cell (p := ⟨g, 2, none⟩) hg).trans (hcell 2 _ rfl), (hb.cell (p := ⟨g, 3, none⟩) hg).trans (hcell 3 _ rfl)⟩
  have B2 : Hid (Below w1.heap.size w1 w2) := hb2
  clear hrow2 hb2 hcell
  obtain ⟨c0, c1, c2, c3⟩ := CE.out w2 (Below.refl _ _)
  unfold str at c0 c1 c2 c3
  go_wp2_with fail
  go_region_held3 (fun w' => w'.cell? ⟨g, 1, none⟩ = some (.string ⟨qs.toArray⟩) ∧ w'.cell? ⟨g, 2, none⟩ = some (.string ⟨ss.toArray⟩) ∧ w'.cell? ⟨g, 3, none⟩ = some (.string ⟨gs.toArray⟩)) (go_keep)
    ((first
      | (go_at_call 21; refine Calls.mono (NU.out _) ?_; rintro e w3 ⟨vq, rfl, hq3, hb3⟩; obtain ⟨qo, qc, rfl⟩ := own_slice (own_base hq3 (Nat.zero_le _)); have B3 : Hid (Below w2.heap.size w2 w3) := (Below.refl _ w2).drew.trans hb3; have Q3 : Hid _ := hq3; have CE3 := CE.out w3 B3.out; unfold str at CE3; obtain ⟨d0, d1, d2, d3⟩ := CE3; clear hq3 hb3 d0)
      | (go_at_call_of 22 (Value.string ⟨ss.toArray⟩); refine Calls.mono (VA.out _) ?_; rintro e w4 ⟨vs, rfl, hs4, hb4⟩; obtain ⟨so, sc, rfl⟩ := own_slice (own_base hs4 (Nat.zero_le _)); have B4 : Hid (Below w3.heap.size w3 w4) := hb4; have S4 : Hid _ := hs4; have CE4 := CE.out w4 (B3.out.trans (B4.out.mono B3.out.size)); unfold str at CE4; obtain ⟨f0, f1, f2, f3⟩ := CE4; clear hs4 hb4 f0)
      | (go_at_call_of 22 (Value.string ⟨gs.toArray⟩); refine Calls.mono (VG.out _) ?_; rintro e w5 ⟨vg, rfl, hg5, hb5⟩; obtain ⟨go, gc, rfl⟩ := own_slice (own_base hg5 (Nat.zero_le _)); have B5 : Hid (Below w4.heap.size w4 w5) := hb5; have G5 : Hid _ := hg5; have CE5 := CE.out w5 (B3.out.trans ((B4.out.trans (B5.out.mono B4.out.size)).mono B3.out.size)); unfold str at CE5; obtain ⟨k0, k1, k2, k3⟩ := CE5; clear hg5 hb5)))
  have PIC : Hid (PicAt (w5.alloc (.cells #[.slice none 0 0, .slice qo q.length qc, .slice so st.length sc, .slice go gl.length gc] 54)) w1.heap.size w5.heap.size [] q st gl (.slice none 0 0) (.slice qo q.length qc) (.slice so st.length sc) (.slice go gl.length gc)) := by
    have l1 := B2.out.size
    have l2 := B3.out.size
    have l3 := B4.out.size
    have l4 := B5.out.size
    refine ⟨heap_alloc_new _ _, World.ownsRow_nil _ _ _ _, by simp, ?_, ?_, ?_, by omega⟩
    · exact (own_base (own_carry (own_carry Q3.out fun g hg => B4.out.block g (own_lt Q3.out hg).2) fun g hg => B5.out.block g (Nat.lt_of_lt_of_le (own_lt Q3.out hg).2 l3)) l1).alloc _
    · exact (own_base (own_carry S4.out fun g hg => B5.out.block g (own_lt S4.out hg).2) (by omega)).alloc _
    · exact (own_base G5.out (by omega)).alloc _
  have B6 : Hid (Below w1.heap.size w1 (w5.alloc (.cells #[.slice none 0 0, .slice qo q.length qc, .slice so st.length sc, .slice go gl.length gc] 54))) := by
    have l1 := B2.out.size
    have l2 := B3.out.size
    have l3 := B4.out.size
    have l4 := B5.out.size
    exact (B2.out.trans ((B3.out.trans ((B4.out.trans (B5.out.mono l3)).mono l2)).mono l1)).alloc (by omega) _
  have j0 : (w5.alloc (.cells #[.slice none 0 0, .slice qo q.length qc, .slice so st.length sc, .slice go gl.length gc] 54)).cell? ⟨g, 0, none⟩ = some (.string ⟨rs.toArray⟩) :=
    (CE.out _ ((B3.out.trans ((B4.out.trans (B5.out.mono B4.out.size)).mono B3.out.size)).alloc (by have := B3.out.size; have := B4.out.size; have := B5.out.size; omega) _)).1
  obtain ⟨w6, hw6⟩ : ∃ w6, (w5.alloc (.cells #[.slice none 0 0, .slice qo q.length qc, .slice so st.length sc, .slice go gl.length gc] 54)) = w6 := ⟨_, rfl⟩
  rw [hw6] at PIC B6 j0 ⊢
  clear hw6 Q3 S4 G5 B3 B4 B5 CE k0 k1 k2 k3 c0 c1 c2 c3 NU VA VG SP1
  go_wp2_with fail
  refine Calls.mono (SP2.out _) ?_
  rintro e w7 ⟨v7, rfl, hrow7, hb7⟩
  obtain ⟨ro, rc, rfl⟩ := own_slice (own_base hrow7 (Nat.zero_le _))
  have LK : Hid (Look w1 w7 bs cells 0 w5.heap.size [] q st gl (.slice none 0 0) (.slice qo q.length qc) (.slice so st.length sc) (.slice go gl.length gc) (.slice ro (N + 1) rc)) :=
    ⟨PIC.out.below hb7, by rw [hbs]; exact own_base hrow7 B6.out.size, by simp, B6.out.trans (hb7.mono B6.out.size)⟩
  obtain ⟨gr, cap7, hv7, _, _, _, _, _⟩ := own_view (own_base hrow7 (Nat.zero_le _)) (by omega)
  simp at hv7
  obtain ⟨rfl, rfl⟩ := hv7
  have RC : Hid (∀ (wr : World) (k : Nat) (hk : k < (bs ++ [[]]).length), wr.ownsRow w1.heap.size 9 1 (.slice (some ⟨gr, 0, none⟩) (N + 1) rc) (bs.length + 1) ((bs ++ [[]]).map str) → wr.cell? ⟨gr, k, none⟩ = some (str (bs ++ [[]])[k])) := fun wr k hk hr => by
    rw [hbs] at hr
    obtain ⟨gr2, cap2, hv2, _, _, _, hcell, _⟩ := own_view (own_base hr (Nat.zero_le _)) (Nat.succ_pos N)
    simp at hv2
    rw [hv2.1]
    exact hcell k _ (by rw [List.getElem?_map, List.getElem?_eq_getElem hk]; rfl)
  obtain ⟨b0, b1, b2⟩ := BX.out w7 LK.out.below
  have r0 := RC.out w7 N (by simp [hbs]) LK.out.recs
  rw [List.getElem_append_right (by omega)] at r0
  simp [hbs] at r0
  unfold str at r0
  clear hrow7 hb7 SP2 PIC B6 j0
  go_wp2_with fail
  clear b0 b1 b2 r0
  go_loopw [10] (fun i wr => ∃ (k : Nat) (cs : List (Cell × Value)) (vc : Value), k ≤ N ∧ i = .int .i64 k ∧ Look w1 wr bs cells k w5.heap.size cs q st gl vc (.slice qo q.length qc) (.slice so st.length sc) (.slice go gl.length gc) (.slice (some ⟨gr, 0, none⟩) (N + 1) rc)) (fun i _ => N - (intOf i).toNat)
  case atStart => exact ⟨0, [], _, Nat.zero_le _, rfl, LK.out⟩
  case round =>
    obtain ⟨k, cs, vc, hk, rfl, lk⟩ := hrel
    have LR : Hid _ := lk
    obtain ⟨b0, b1, b2⟩ := BX.out wr lk.below
    have hlen : cs.length = k := by
      have := congrArg List.length lk.map
      rw [List.length_map, List.length_take] at this
      omega
    obtain ⟨co, cc, rfl⟩ := own_slice (own_base lk.pic.cells (Nat.zero_le _))
    rw [hlen] at LR lk
    by_cases hlt : k < N
    · have r0 := RC.out wr k (by simp; omega) lk.recs
      rw [List.getElem_append_left (by omega)] at r0
      have BK : Hid _ := BL.out k (by omega) (by omega)
      obtain ⟨t, ht⟩ : ∃ t, bs[k]'(by omega) = t := ⟨_, rfl⟩
      rw [ht] at r0 BK
      obtain ⟨cl, hcl⟩ : ∃ cl, cells[k]'(by omega) = cl := ⟨_, rfl⟩
      have HCL : Hid (cells[k]'(by omega) = cl) := hcl
      rw [hcl] at BK
      unfold cellV at BK
      unfold str at r0 BK
      have hkI : (k : Int) < N := by omega
      clear lk ht hcl LK
      go_wp2_with fail
      refine Calls.mono (BK.out _) ?_
      rintro e w8 ⟨v8, rfl, hrow8, hb8⟩
      obtain ⟨fo, fc, rfl⟩ := own_slice (own_base hrow8 (Nat.zero_le _))
      have L8 : Hid _ := LR.out.on hb8
      have V8 : Hid (w8.ownsRow w1.heap.size 66 2 (.slice fo cl.fields.length fc) cl.fields.length (cl.fields.flatMap valC)) := own_base hrow8 LR.out.below.size
      have hLlt := lt_of_heap L8.out.pic.box
      have hp8 := L8.out.pic.box
      have p0 := cell_of_heap (i := 0) hp8 rfl
      have pf0 := frozen_of_heap (i := 0) hp8
      have hsz8 := L8.out.below.size
      have FIN : Hid (∀ W w3 g' cap', Below w8.heap.size w8 W → w3.ownsRow w1.heap.size 56 3 (.slice (some ⟨g', 0, none⟩) (k + 1) cap') (k + 1) (cs.flatMap cellC ++ cellC (cl, .slice fo cl.fields.length fc)) → W.grownBy w3 (Value.slice co k cc).ownBlock →
          Look w1 (w3.setCell ⟨w5.heap.size, 0, none⟩ (.slice (some ⟨g', 0, none⟩) (k + 1) cap')) bs cells (k + 1) w5.heap.size (cs ++ [(cl, .slice fo cl.fields.length fc)]) q st gl (.slice (some ⟨g', 0, none⟩) (k + 1) cap') (.slice qo q.length qc) (.slice so st.length sc) (.slice go gl.length gc) (.slice (some ⟨gr, 0, none⟩) (N + 1) rc) ∧ w3.cell? ⟨w5.heap.size, 0, none⟩ = some (.slice co k cc) ∧ w3.frozen? ⟨w5.heap.size, 0, none⟩ = false) := by
        intro W w3 g' cap' hb ho hgr
        have LW := L8.out.on hb
        have hh := HCL.out
        have hVW : W.ownsRow w1.heap.size 66 2 (.slice fo cl.fields.length fc) cl.fields.length (cl.fields.flatMap valC) := own_carry V8.out fun g hg => hb.block g (own_lt V8.out hg).2
        subst hh
        have hL3 : w3.heap[w5.heap.size]? = _ := (hgr.block w5.heap.size (lt_of_heap LW.pic.box) (fun e => row_box LW.pic.cells LW.pic.box (by decide) e.symm)).trans LW.pic.box
        exact ⟨LW.add (by omega) hVW hgr ho, cell_of_heap (i := 0) hL3 rfl, frozen_of_heap (i := 0) hL3⟩
      have OWN : Hid (∀ W, Below w8.heap.size w8 W → W.ownsRow w1.heap.size 56 3 (.slice co k cc) k (cs.flatMap cellC)) := fun W hb => by
        have := own_carry L8.out.pic.cells fun j hj => hb.block j (own_lt L8.out.pic.cells hj).2
        rw [hlen] at this
        exact this
      have hal : ∀ ob, (w8.alloc ob).cell? ⟨w5.heap.size, 0, none⟩ = w8.cell? ⟨w5.heap.size, 0, none⟩ := fun ob => World.cell?_of_block (hao hLlt)
      have hal2 : ∀ ob ob', ((w8.alloc ob).alloc ob').cell? ⟨w5.heap.size, 0, none⟩ = w8.cell? ⟨w5.heap.size, 0, none⟩ := fun ob ob' => World.cell?_of_block ((hao (by simp; omega)).trans (hao hLlt))
      clear hrow8 hb8 BK hp8 r0 b0 b1 b2
      obtain ⟨y1, y2, y3⟩ := cl
      simp only at FIN V8 HCL
      go_wp2_with fail
      obtain ⟨i1, hi1, hy0, hy1, hy2⟩ := info_parts infoCell
      have NEW : Hid (∀ j u, ([.int .u8 y1.toNat, .int .i64 y2, .slice fo y3.length fc] : List Value)[j]? = some u → ((w8.alloc (.cells #[.int .u8 y1.toNat, .int .i64 y2, .slice fo y3.length fc] 56)).alloc (.cells #[.int .u8 y1.toNat, .int .i64 y2, .slice fo y3.length fc] 56)).drew.cell? ((⟨w8.heap.size + 1, 0, none⟩ : Addr).add j) = some u) := by
        have h := news_new (w8.alloc (.cells #[.int .u8 y1.toNat, .int .i64 y2, .slice fo y3.length fc] 56)) [.int .u8 y1.toNat, .int .i64 y2, .slice fo y3.length fc] 56
        rw [show (w8.alloc (.cells #[.int .u8 y1.toNat, .int .i64 y2, .slice fo y3.length fc] 56)).heap.size = w8.heap.size + 1 by simp] at h
        exact h
      go_region_law (refine step_append_lies _ rfl (.tmp 72) (.tmp 74) 52 rfl w1.heap.size 56 i1 _ 3 40 Tryd.underlying52 hi1 hy0 hy1 hy2 rfl (by decide) _ _ _ (by simp [Act.eval, Act.put]) (OWN.out _ (((Below.refl _ w8).alloc (Nat.le_refl _) _).alloc (by simp) _).drew) ⟨w8.heap.size + 1, 0, none⟩ 1 1 [.int .u8 y1.toNat, .int .i64 y2, .slice fo y3.length fc] (by simp [Act.eval, Act.put]) rfl (NEW.out) (by intro u hu; simp at hu; rcases hu with rfl | rfl | rfl <;> rfl) (by decide) (by unfold maxLen; omega) (by omega) (by simp; omega) (w8.heap.size + 1 + 1) (by simp) ?_; intro g' cap1 w3 hown hgr hlie _; obtain ⟨T, hc, hf⟩ := FIN.out _ w3 g' cap1 (((Below.refl _ w8).alloc (Nat.le_refl _) _).alloc (by simp) _).drew hown hgr)
      all_goals go_wp2
      all_goals go_roundw
      all_goals first | exact ⟨k + 1, _, _, by omega, by go_num, T⟩ | (simp [intOf]; omega)
    · obtain rfl : k = N := by omega
      have p2 := cell_of_heap (i := 2) lk.pic.box rfl
      have p3 := cell_of_heap (i := 3) lk.pic.box rfl
      clear lk
      subst hgl
      go_wp2_with fail
      go_region_held3 (fun w' => w'.cell? ⟨w5.heap.size, 2, none⟩ = some (.slice so st.length sc) ∧ w'.cell? ⟨w5.heap.size, 3, none⟩ = some (.slice go gl.length gc) ∧ w'.cell? ⟨w.heap.size, 1, none⟩ = some (.int .i64 csz) ∧ w'.cell? ⟨w.heap.size, 2, none⟩ = some (.int .i64 gl.length)) (go_keep) (fail)
      all_goals go_wp2
      have hm := LR.out.map
      rw [← hcs, List.take_length] at hm
      exact bodyPost_ret (v := .tuple #[.pointer (some ⟨w5.heap.size, 0, none⟩), .bool true]) (by simp [results, Tryd.results8, go_sem]) rfl ⟨_, w1, _, cs, _, _, _, _, rfl, Z1.out.1, Z1.out.2, LR.out.below.drew, hm, LR.out.pic.drew⟩

end Go.Proofs.YtpmkjeihbddfpaaDoor

/- OUR OWN. What is asked of a picture: refs, letters, sound. -/
namespace Go.Proofs.YtpmkjeihbddfpaaDoor
open Go.RowKit
set_option linter.unusedVariables false
set_option linter.unusedSimpArgs false

theorem refsP_snoc (l : List (UInt8 × Int)) (v : UInt8 × Int) (b : Int) : refsP (l ++ [v]) b = refsP l b + if v.1 = 35 ∧ v.2 = b then 1 else 0 := by
  unfold refsP
  rw [List.countP_append, List.countP_singleton]
  by_cases h : v.1 = 35 ∧ v.2 = b
  · rw [if_pos h, if_pos (by simp [h.1, h.2])]
  · rw [if_neg h, if_neg (by simpa using h)]
theorem refsP_le (l : List (UInt8 × Int)) (b : Int) : refsP l b ≤ l.length := List.countP_le_length
theorem byte_ne {x : UInt8} {n : Nat} (hn : n < 256) (h : ¬ x = UInt8.ofNat n) : ((x.toNat : Int) == (n : Int)) = false := by
  have : x.toNat ≠ n := fun e => h (UInt8.toNat_inj.1 (by rw [e]; simp [UInt8.toNat_ofNat]; omega))
  have h' : (x.toNat : Int) ≠ n := by omega
  simpa using h'
/-- a row of values, cell by cell -/
theorem val_cells {w : World} {B : Nat} {v : Value} {l : List (UInt8 × Int)} (h : w.ownsRow B 66 2 v l.length (l.flatMap valC)) (h0 : 0 < l.length) :
    ∃ g cap, v = .slice (some ⟨g, 0, none⟩) l.length cap ∧ g < w.heap.size ∧ ∀ k (hk : k < l.length), w.cell? ⟨g, k * 2, none⟩ = some (.int .u8 (l[k]).1.toNat) ∧ w.cell? ⟨g, k * 2 + 1, none⟩ = some (.int .i64 (l[k]).2) := by
  obtain ⟨g, cap, rfl, hg, _, _, hcell, _⟩ := own_view (own_base h (Nat.zero_le _)) h0
  refine ⟨g, cap, rfl, hg, fun k hk => ⟨hcell _ _ ?_, hcell _ _ ?_⟩⟩
  · have := flat_get valC 2 (fun _ => rfl) l k 0 (by decide); simpa [hk, valC] using this
  · have := flat_get valC 2 (fun _ => rfl) l k 1 (by decide); simpa [hk, valC] using this

set_option maxHeartbeats 800000 in
theorem refs_seen {w : World} {B : Nat} {v : Value} {l : List (UInt8 × Int)} (h : w.ownsRow B 66 2 v l.length (l.flatMap valC)) (hn : l.length ≤ 1000) (b : Int) :
    Calls Tryd.prog 27 #[v, .int .i64 b] w fun e w' => e = .returned (.int .i64 (refsP l b)) ∧ w' = w := by
  rcases Nat.eq_zero_or_pos l.length with h0 | h0
  · obtain rfl : l = [] := List.eq_nil_of_length_eq_zero h0
    obtain ⟨ao, cap, rfl⟩ := own_empty (own_base h (Nat.zero_le _))
    clear h
    go_enter Tryd.func27, Tryd.ntmps27
    go_wp2
    go_loop [5, 6] (fun n i => n = .int .i64 0 ∧ i = .int .i64 0) (fun _ _ => 0)
    case atStart => exact ⟨rfl, rfl⟩
    case round =>
      obtain ⟨rfl, rfl⟩ := hrel
      go_wp2
      go_ret
      exact ⟨rfl, rfl⟩
  · obtain ⟨g, cap, rfl, _, hc⟩ := val_cells h h0
    have C : Hid _ := hc
    clear hc h
    obtain ⟨len, hlen⟩ : ∃ len, l.length = len := ⟨_, rfl⟩
    rw [hlen] at hn h0 ⊢
    have L : Hid (l.length = len) := hlen
    clear hlen
    go_enter Tryd.func27, Tryd.ntmps27
    go_wp2
    go_loop [5, 6] (fun n i => ∃ k : Nat, k ≤ len ∧ i = .int .i64 k ∧ n = .int .i64 (refsP (l.take k) b)) (fun _ i => len - (intOf i).toNat)
    case atStart => exact ⟨0, Nat.zero_le _, rfl, rfl⟩
    case round =>
      obtain ⟨k, hk, rfl, rfl⟩ := hrel
      by_cases hlt : k < len
      · have hk' : k < l.length := by rw [L.out]; exact hlt
        obtain ⟨c0, c1⟩ := C.out k hk'
        have hs := refsP_snoc (l.take k) l[k] b
        rw [← take_snoc l k hk'] at hs
        have hle := refsP_le (l.take k) b
        have hle2 : (l.take k).length ≤ k := List.length_take_le _ _
        obtain ⟨r, hr⟩ : ∃ r, r = refsP (l.take k) b := ⟨_, rfl⟩
        rw [← hr] at hs hle ⊢
        obtain ⟨x, hx⟩ : ∃ x, x = l[k] := ⟨_, rfl⟩
        rw [← hx] at c0 c1 hs
        obtain ⟨x1, x2⟩ := x
        simp only at c0 c1 hs
        have S : Hid (refsP (l.take (k + 1)) b = r + if x1 = 35 ∧ x2 = b then 1 else 0) := hs
        clear hs hr hx
        by_cases q1 : x1 = 35
        · by_cases q2 : x2 = b
          · subst q1 q2
            go_wp2
            go_round
            case rel => exact ⟨k + 1, by omega, by go_num, by rw [S.out, if_pos ⟨rfl, rfl⟩]; go_num⟩
            case measure => simp [intOf]; omega
          · have q3 : (x2 == b) = false := by simpa using q2
            subst q1
            go_wp2
            go_round
            case rel => exact ⟨k + 1, by omega, by go_num, by rw [S.out, if_neg (fun h => q2 h.2)]; rfl⟩
            case measure => simp [intOf]; omega
        · have q3 : ((x1.toNat : Int) == 35) = false := byte_ne (n := 35) (by omega) q1
          have C2 : Hid _ := C.out
          go_wp2
          go_round
          case rel => exact ⟨k + 1, by omega, by go_num, by rw [S.out, if_neg (fun h => q1 h.1)]; rfl⟩
          case measure => simp [intOf]; omega
      · go_wp2
        go_ret
        exact ⟨ret_int (by rw [List.take_of_length_le (by rw [L.out]; omega)]), rfl⟩

def lettersC (cs : List (Cell × Value)) (c : UInt8) : Nat := cs.countP fun x => x.1.letter == c
theorem lettersC_snoc (l : List (Cell × Value)) (v : Cell × Value) (c : UInt8) : lettersC (l ++ [v]) c = lettersC l c + if v.1.letter = c then 1 else 0 := by
  unfold lettersC
  rw [List.countP_append, List.countP_singleton]
  by_cases h : v.1.letter = c
  · rw [if_pos h, if_pos (by simp [h])]
  · rw [if_neg h, if_neg (by simpa using h)]
theorem lettersC_le (l : List (Cell × Value)) (c : UInt8) : lettersC l c ≤ l.length := List.countP_le_length
/-- the cells of a picture, cell by cell -/
theorem PicAt.view {w : World} {B L : Nat} {cs : List (Cell × Value)} {q st gl : List (UInt8 × Int)} {vc vq vs vg : Value} (h : PicAt w B L cs q st gl vc vq vs vg) (h0 : 0 < cs.length) :
    ∃ g cap, vc = .slice (some ⟨g, 0, none⟩) cs.length cap ∧ g < w.heap.size ∧ ∀ k (hk : k < cs.length), w.cell? ⟨g, k * 3, none⟩ = some (.int .u8 (cs[k]).1.letter.toNat) ∧ w.cell? ⟨g, k * 3 + 1, none⟩ = some (.int .i64 (cs[k]).1.count) ∧ w.cell? ⟨g, k * 3 + 2, none⟩ = some (cs[k]).2 := by
  obtain ⟨g, cap, rfl, hg, _, _, hcell, _⟩ := own_view (own_base h.cells (Nat.zero_le _)) h0
  refine ⟨g, cap, rfl, hg, fun k hk => ⟨hcell _ _ ?_, hcell _ _ ?_, hcell _ _ ?_⟩⟩
  · have := flat_get cellC 3 (fun _ => rfl) cs k 0 (by decide); simpa [hk, cellC] using this
  · have := flat_get cellC 3 (fun _ => rfl) cs k 1 (by decide); simpa [hk, cellC] using this
  · have := flat_get cellC 3 (fun _ => rfl) cs k 2 (by decide); simpa [hk, cellC] using this

set_option maxHeartbeats 800000 in
theorem letters_seen {w : World} {B L : Nat} {cs : List (Cell × Value)} {q st gl : List (UInt8 × Int)} {vc vq vs vg : Value} (h : PicAt w B L cs q st gl vc vq vs vg) (h0 : 0 < cs.length) (hn : cs.length ≤ 99) (c : UInt8) :
    Calls Tryd.prog 26 #[.pointer (some ⟨L, 0, none⟩), .int .u8 c.toNat] w fun e w' => e = .returned (.int .i64 (lettersC cs c)) ∧ w' = w := by
  obtain ⟨g, cap, rfl, _, hc⟩ := h.view h0
  have p0 := cell_of_heap (i := 0) h.box rfl
  have C : Hid _ := hc
  clear hc h
  obtain ⟨len, hlen⟩ : ∃ len, cs.length = len := ⟨_, rfl⟩
  rw [hlen] at hn h0 p0
  have LL : Hid (cs.length = len) := hlen
  clear hlen
  simp at p0
  go_enter Tryd.func26, Tryd.ntmps26
  go_wp2
  go_loop [5, 6] (fun n i => ∃ k : Nat, k ≤ len ∧ i = .int .i64 k ∧ n = .int .i64 (lettersC (cs.take k) c)) (fun _ i => len - (intOf i).toNat)
  case atStart => exact ⟨0, Nat.zero_le _, rfl, rfl⟩
  case round =>
    obtain ⟨k, hk, rfl, rfl⟩ := hrel
    by_cases hlt : k < len
    · have hk' : k < cs.length := by rw [LL.out]; exact hlt
      obtain ⟨c0, _, _⟩ := C.out k hk'
      have hs := lettersC_snoc (cs.take k) cs[k] c
      rw [← take_snoc cs k hk'] at hs
      have hle := lettersC_le (cs.take k) c
      have hle2 : (cs.take k).length ≤ k := List.length_take_le _ _
      obtain ⟨r, hr⟩ : ∃ r, r = lettersC (cs.take k) c := ⟨_, rfl⟩
      rw [← hr] at hs hle ⊢
      obtain ⟨x, hx⟩ : ∃ x, x = cs[k].1.letter := ⟨_, rfl⟩
      rw [← hx] at c0 hs
      have S : Hid (lettersC (cs.take (k + 1)) c = r + if x = c then 1 else 0) := hs
      have hkI : (k : Int) < len := by omega
      clear hs hr hx
      by_cases q1 : x = c
      · subst q1
        go_wp2
        go_round
        case rel => exact ⟨k + 1, by omega, by go_num, by rw [S.out, if_pos rfl]; go_num⟩
        case measure => simp [intOf]; omega
      · have q3 : ((x.toNat : Int) == (c.toNat : Int)) = false := by
          have : x.toNat ≠ c.toNat := fun e => q1 (UInt8.toNat_inj.1 e)
          have h' : (x.toNat : Int) ≠ c.toNat := by omega
          simpa using h'
        go_wp2
        go_round
        case rel => exact ⟨k + 1, by omega, by go_num, by rw [S.out, if_neg q1]; rfl⟩
        case measure => simp [intOf]; omega
    · have hkI : ¬ (k : Int) < len := by omega
      go_wp2
      go_ret
      exact ⟨ret_int (by rw [List.take_of_length_le (by rw [LL.out]; omega)]), rfl⟩

end Go.Proofs.YtpmkjeihbddfpaaDoor

/- OUR OWN. What is asked of a picture: sound, wide. -/
namespace Go.Proofs.YtpmkjeihbddfpaaDoor
open Go.RowKit
set_option linter.unusedVariables false
set_option linter.unusedSimpArgs false

/-- every reference leads to a block that has an object -/
def Leads (cs : List (Cell × Value)) (l : List (UInt8 × Int)) : Prop := ∀ v ∈ l, v.1 = 35 → ∃ i : Nat, v.2 = (i : Int) + 1 ∧ ∃ x, cs[i]? = some x ∧ x.1.letter ≠ 46

set_option maxHeartbeats 1600000 in
theorem sound_seen {w : World} {B L : Nat} {cs : List (Cell × Value)} {q st gl : List (UInt8 × Int)} {vc vq vs vg : Value} (h : PicAt w B L cs q st gl vc vq vs vg) (h0 : 0 < cs.length) (hn : cs.length ≤ 99) {v : Value} {l : List (UInt8 × Int)} (hr : w.ownsRow B 66 2 v l.length (l.flatMap valC)) (hl : l.length ≤ 1000) (hg : Leads cs l) :
    Calls Tryd.prog 24 #[.pointer (some ⟨L, 0, none⟩), v] w fun e w' => e = .returned (.bool true) ∧ Below w.heap.size w w' := by
  rcases Nat.eq_zero_or_pos l.length with h1 | h1
  · obtain rfl : l = [] := List.eq_nil_of_length_eq_zero h1
    obtain ⟨ao, cap, rfl⟩ := own_empty (own_base hr (Nat.zero_le _))
    clear hr h hg
    go_enter Tryd.func24, Tryd.ntmps24
    go_wp2
    go_loop [5] (fun i => i = .int .i64 0) (fun _ => 0)
    case atStart => exact rfl
    case round =>
      obtain rfl := hrel
      go_wp2
      go_ret
      exact ⟨rfl, Below.refl _ _⟩
  · obtain ⟨g, cap, rfl, hgl, hc⟩ := h.view h0
    obtain ⟨gv, capv, rfl, hgv, hcv⟩ := val_cells hr h1
    have hLl := lt_of_heap h.box
    have p00 := cell_of_heap (i := 0) h.box rfl
    obtain ⟨len, hlen⟩ : ∃ len, cs.length = len := ⟨_, rfl⟩
    rw [hlen] at hn h0 p00
    simp at p00
    have C : Hid (∀ wr : World, Below w.heap.size w wr → wr.cell? ⟨L, 0, none⟩ = some (.slice (some ⟨g, 0, none⟩) len cap) ∧ (∀ k (hk : k < cs.length), wr.cell? ⟨g, k * 3, none⟩ = some (.int .u8 (cs[k]).1.letter.toNat)) ∧ ∀ k (hk : k < l.length), wr.cell? ⟨gv, k * 2, none⟩ = some (.int .u8 (l[k]).1.toNat) ∧ wr.cell? ⟨gv, k * 2 + 1, none⟩ = some (.int .i64 (l[k]).2)) := fun wr hb =>
      ⟨(hb.cell (p := ⟨L, 0, none⟩) hLl).trans p00, fun k hk => (hb.cell (p := ⟨g, k * 3, none⟩) hgl).trans (hc k hk).1, fun k hk => ⟨(hb.cell (p := ⟨gv, k * 2, none⟩) hgv).trans (hcv k hk).1, (hb.cell (p := ⟨gv, k * 2 + 1, none⟩) hgv).trans (hcv k hk).2⟩⟩
    have GG : Hid _ := hg
    clear hc hcv h hr hg p00
    have LL : Hid (cs.length = len) := hlen
    obtain ⟨lv, hlv⟩ : ∃ lv, l.length = lv := ⟨_, rfl⟩
    rw [hlv] at hl h1 ⊢
    have LV : Hid (l.length = lv) := hlv
    clear hlen hlv
    go_enter Tryd.func24, Tryd.ntmps24
    go_wp2
    go_loopw [5] (fun i wr => ∃ k : Nat, k ≤ lv ∧ i = .int .i64 k ∧ Below w.heap.size w wr) (fun i _ => lv - (intOf i).toNat)
    case atStart => exact ⟨0, Nat.zero_le _, rfl, Below.refl _ _⟩
    case round =>
      obtain ⟨k, hk, rfl, hb⟩ := hrel
      have BB : Hid _ := hb
      by_cases hlt : k < lv
      · have hk' : k < l.length := by rw [LV.out]; exact hlt
        obtain ⟨p0, CC, CV⟩ := C.out wr hb
        obtain ⟨c0, c1⟩ := CV k hk'
        have hkI : (k : Int) < lv := by omega
        have HX : Hid (l[k].1 = 35 → ∃ i : Nat, l[k].2 = (i : Int) + 1 ∧ ∃ x, cs[i]? = some x ∧ x.1.letter ≠ 46) := GG.out _ (List.getElem_mem hk')
        obtain ⟨x, hx⟩ : ∃ x, x = l[k] := ⟨_, rfl⟩
        rw [← hx] at c0 c1 HX
        obtain ⟨x1, x2⟩ := x
        simp only at c0 c1 HX
        clear hx CV hb
        by_cases q1 : x1 = 35
        · obtain ⟨i, hxi, y, hy, hy46⟩ := HX.out q1
          obtain ⟨hi, hyi⟩ := List.getElem?_eq_some_iff.1 hy
          have d0 := CC i hi
          rw [hyi] at d0
          have hi2 : i < len := by rw [← LL.out]; exact hi
          have q4 : ((y.1.letter.toNat : Int) == 46) = false := byte_ne (n := 46) (by omega) hy46
          obtain ⟨z, hz⟩ : ∃ z, y.1.letter.toNat = z := ⟨_, rfl⟩
          rw [hz] at d0 q4
          have t1 : decide (x2 < 1) = false := by simp; omega
          have t2 : decide ((len : Int) < x2) = false := by simp; omega
          have t3 : x2 - 1 = i := by omega
          have t4 : IntKind.i64.wrap (x2 - 1) = i := by rw [t3]; exact wrapS (by omega) (by omega)
          have t5 : (0 : Int) ≤ i := by omega
          have t6 : (i : Int) < len := by omega
          have t7 : 0 ≤ x2 - 1 := by omega
          have t8 : x2 - 1 < len := by omega
          have t9 : (x2 - 1).toNat = i := by omega
          subst q1
          clear HX hy hyi hz hy46 hi CC hxi
          go_wp2_with fail
          go_region
          all_goals go_wp2
          all_goals go_roundw
          all_goals first | exact ⟨k + 1, by omega, by go_num, BB.out.drew⟩ | (simp [intOf]; omega)
        · have q3 : ((x1.toNat : Int) == 35) = false := byte_ne (n := 35) (by omega) q1
          clear HX CC
          go_wp2_with fail
          go_region
          all_goals go_wp2
          all_goals go_roundw
          all_goals first | exact ⟨k + 1, by omega, by go_num, BB.out.drew⟩ | (simp [intOf]; omega)
      · have hkI : ¬ (k : Int) < lv := by omega
        go_wp2
        go_ret
        exact ⟨rfl, BB.out⟩

end Go.Proofs.YtpmkjeihbddfpaaDoor

/- OUR OWN. What is asked of a picture: wide. -/
namespace Go.Proofs.YtpmkjeihbddfpaaDoor
open Go.RowKit
set_option linter.unusedVariables false
set_option linter.unusedSimpArgs false

set_option maxHeartbeats 1600000 in
theorem wide_seen {w : World} {B L : Nat} {cs : List (Cell × Value)} {q st gl : List (UInt8 × Int)} {vc vq vs vg : Value} (h : PicAt w B L cs q st gl vc vq vs vg) (h0 : 0 < cs.length) (hn : cs.length ≤ 99) (hq : Leads cs q) (hs : Leads cs st) (hg : Leads cs gl) (hf : ∀ x ∈ cs, Leads cs x.1.fields)
    (lq : q.length ≤ 1000) (ls : st.length ≤ 1000) (lg : gl.length ≤ 1000) (lf : ∀ x ∈ cs, x.1.fields.length ≤ 1000) :
    Calls Tryd.prog 9 #[.pointer (some ⟨L, 0, none⟩)] w fun e w' => e = .returned (.bool true) ∧ Below w.heap.size w w' := by
  obtain ⟨g, cap, hvc, hgl, hc⟩ := h.view h0
  have hLl := lt_of_heap h.box
  obtain ⟨qo, qc, rfl⟩ := own_slice (own_base h.queue (Nat.zero_le _))
  obtain ⟨so, sc, rfl⟩ := own_slice (own_base h.stack (Nat.zero_le _))
  obtain ⟨go, gc, rfl⟩ := own_slice (own_base h.globals (Nat.zero_le _))
  have P : Hid (∀ wr : World, Below w.heap.size w wr → PicAt wr B L cs q st gl vc (.slice qo q.length qc) (.slice so st.length sc) (.slice go gl.length gc)) := fun wr hb => h.below hb
  have SQ : Hid (∀ wr : World, Below w.heap.size w wr → Calls Tryd.prog 24 #[.pointer (some ⟨L, 0, none⟩), .slice qo q.length qc] wr fun e w' => e = .returned (.bool true) ∧ Below w.heap.size w w') := fun wr hb => Calls.mono (sound_seen (P.out wr hb) h0 hn (P.out wr hb).queue lq hq) fun e w' ⟨h1, h2⟩ => ⟨h1, hb.trans (h2.mono hb.size)⟩
  have SS : Hid (∀ wr : World, Below w.heap.size w wr → Calls Tryd.prog 24 #[.pointer (some ⟨L, 0, none⟩), .slice so st.length sc] wr fun e w' => e = .returned (.bool true) ∧ Below w.heap.size w w') := fun wr hb => Calls.mono (sound_seen (P.out wr hb) h0 hn (P.out wr hb).stack ls hs) fun e w' ⟨h1, h2⟩ => ⟨h1, hb.trans (h2.mono hb.size)⟩
  have SG : Hid (∀ wr : World, Below w.heap.size w wr → Calls Tryd.prog 24 #[.pointer (some ⟨L, 0, none⟩), .slice go gl.length gc] wr fun e w' => e = .returned (.bool true) ∧ Below w.heap.size w w') := fun wr hb => Calls.mono (sound_seen (P.out wr hb) h0 hn (P.out wr hb).globals lg hg) fun e w' ⟨h1, h2⟩ => ⟨h1, hb.trans (h2.mono hb.size)⟩
  have SF : Hid (∀ k (hk : k < cs.length), ∃ fo fc, (cs[k]).2 = .slice fo (cs[k]).1.fields.length fc ∧ ∀ wr : World, Below w.heap.size w wr → Calls Tryd.prog 24 #[.pointer (some ⟨L, 0, none⟩), (cs[k]).2] wr fun e w' => e = .returned (.bool true) ∧ Below w.heap.size w w') := fun k hk => by
    obtain ⟨fo, fc, hv⟩ := own_slice (own_base (h.fields cs[k] (List.getElem_mem hk)) (Nat.zero_le _))
    exact ⟨fo, fc, hv, fun wr hb => Calls.mono (sound_seen (P.out wr hb) h0 hn ((P.out wr hb).fields cs[k] (List.getElem_mem hk)) (lf _ (List.getElem_mem hk)) (hf _ (List.getElem_mem hk))) fun e w' ⟨h1, h2⟩ => ⟨h1, hb.trans (h2.mono hb.size)⟩⟩
  subst hvc
  have p00 := cell_of_heap (i := 0) h.box rfl
  have p01 := cell_of_heap (i := 1) h.box rfl
  have p02 := cell_of_heap (i := 2) h.box rfl
  have p03 := cell_of_heap (i := 3) h.box rfl
  obtain ⟨len, hlen⟩ : ∃ len, cs.length = len := ⟨_, rfl⟩
  rw [hlen] at hn h0 p00
  simp at p00 p01 p02 p03
  have C : Hid (∀ wr : World, Below w.heap.size w wr → wr.cell? ⟨L, 0, none⟩ = some (.slice (some ⟨g, 0, none⟩) len cap) ∧ wr.cell? ⟨L, 1, none⟩ = some (.slice qo q.length qc) ∧ wr.cell? ⟨L, 2, none⟩ = some (.slice so st.length sc) ∧ wr.cell? ⟨L, 3, none⟩ = some (.slice go gl.length gc) ∧ (∀ k (hk : k < cs.length), wr.cell? ⟨g, k * 3 + 2, none⟩ = some (cs[k]).2)) := fun wr hb =>
    ⟨(hb.cell (p := ⟨L, 0, none⟩) hLl).trans p00, (hb.cell (p := ⟨L, 1, none⟩) hLl).trans p01, (hb.cell (p := ⟨L, 2, none⟩) hLl).trans p02, (hb.cell (p := ⟨L, 3, none⟩) hLl).trans p03, fun k hk => (hb.cell (p := ⟨g, k * 3 + 2, none⟩) hgl).trans (hc k hk).2.2⟩
  have LL : Hid (cs.length = len) := hlen
  clear h hc hq hs hg hf lq ls lg lf P hlen p00 p02 p03
  go_enter Tryd.func9, Tryd.ntmps9
  go_wp2_with fail
  refine Calls.mono (SQ.out _ (Below.refl _ _)) ?_
  rintro e w1 ⟨rfl, hb1⟩
  obtain ⟨_, _, c2, _, _⟩ := C.out w1 hb1
  have B1 : Hid _ := hb1
  clear hb1 SQ p01
  go_wp2_with fail
  refine Calls.mono (SS.out _ B1.out) ?_
  rintro e w2 ⟨rfl, hb2⟩
  obtain ⟨_, _, _, c3, _⟩ := C.out w2 hb2
  have B2 : Hid _ := hb2
  clear hb2 SS c2 B1
  go_wp2_with fail
  refine Calls.mono (SG.out _ B2.out) ?_
  rintro e w3 ⟨rfl, hb3⟩
  have B3 : Hid _ := hb3
  clear hb3 SG c3 B2
  go_wp2
  go_loopw [6] (fun i wr => ∃ k : Nat, k ≤ len ∧ i = .int .i64 k ∧ Below w.heap.size w wr) (fun i _ => len - (intOf i).toNat)
  case atStart => exact ⟨0, Nat.zero_le _, rfl, B3.out⟩
  case round =>
    obtain ⟨k, hk, rfl, hb⟩ := hrel
    have BB : Hid _ := hb
    obtain ⟨p0, _, _, _, CC⟩ := C.out wr hb
    by_cases hlt : k < len
    · have hk' : k < cs.length := by rw [LL.out]; exact hlt
      have d0 := CC k hk'
      obtain ⟨fo, fc, hv, SK⟩ := SF.out k hk'
      rw [hv] at d0 SK
      have SKH : Hid _ := SK
      have hkI : (k : Int) < len := by omega
      obtain ⟨fl, hfl⟩ : ∃ fl, cs[k].1.fields.length = fl := ⟨_, rfl⟩
      rw [hfl] at d0 SKH
      clear CC hb SK hv hfl
      go_wp2_with fail
      refine Calls.mono (SKH.out _ BB.out) ?_
      rintro e w4 ⟨rfl, hb4⟩
      have B4 : Hid _ := hb4
      clear hb4
      go_wp2
      go_roundw
      case rel => exact ⟨k + 1, by omega, by go_num, B4.out⟩
      case measure => simp [intOf]; omega
    · have hkI : ¬ (k : Int) < len := by omega
      clear CC hb
      go_wp2
      go_ret
      exact ⟨rfl, BB.out⟩

end Go.Proofs.YtpmkjeihbddfpaaDoor

/- OUR OWN. What is asked of a picture: exact. -/
namespace Go.Proofs.YtpmkjeihbddfpaaDoor
open Go.RowKit
set_option linter.unusedVariables false
set_option linter.unusedSimpArgs false

def sumC (cs : List (Cell × Value)) (b : Int) : Nat := (cs.map fun x => refsP x.1.fields b).sum
theorem sumC_snoc (l : List (Cell × Value)) (v : Cell × Value) (b : Int) : sumC (l ++ [v]) b = sumC l b + refsP v.1.fields b := by
  unfold sumC
  simp
theorem sumC_le (l : List (Cell × Value)) (b : Int) (m : Nat) (h : ∀ x ∈ l, x.1.fields.length ≤ m) : sumC l b ≤ l.length * m := by
  induction l with
  | nil => simp [sumC]
  | cons a l ih =>
    have h1 := ih fun x hx => h x (by simp [hx])
    have h2 := refsP_le a.1.fields b
    have h3 := h a (by simp)
    unfold sumC at *
    simp only [List.map_cons, List.sum_cons, List.length_cons]
    rw [Nat.succ_mul]
    omega

set_option maxRecDepth 100000 in
set_option maxHeartbeats 1600000 in
theorem exact_seen {w : World} {B L : Nat} {cs : List (Cell × Value)} {q st gl : List (UInt8 × Int)} {vc vq vs vg : Value} (h : PicAt w B L cs q st gl vc vq vs vg) (hn : cs.length ≤ 99) (lq : q.length ≤ 1000) (ls : st.length ≤ 1000) (lg : gl.length ≤ 1000) (lf : ∀ x ∈ cs, x.1.fields.length ≤ 4)
    (b : Nat) (o : Cell) (vo : Value) (hb : cs[b]? = some (o, vo)) (hx : Exact o.letter o.count (refsP q ((b : Int) + 1)) (refsP st ((b : Int) + 1)) (refsP gl ((b : Int) + 1)) (sumC cs ((b : Int) + 1))) :
    Calls Tryd.prog 11 #[.pointer (some ⟨L, 0, none⟩), .int .i64 ((b : Int) + 1)] w fun e w' => e = .returned (.bool true) ∧ Below w.heap.size w w' := by
  obtain ⟨hbl, hbv⟩ := List.getElem?_eq_some_iff.1 hb
  have h0 : 0 < cs.length := by omega
  obtain ⟨g, cap, hvc, hgl, hc⟩ := h.view h0
  have hLl := lt_of_heap h.box
  obtain ⟨qo, qc, rfl⟩ := own_slice (own_base h.queue (Nat.zero_le _))
  obtain ⟨so, sc, rfl⟩ := own_slice (own_base h.stack (Nat.zero_le _))
  obtain ⟨go, gc, rfl⟩ := own_slice (own_base h.globals (Nat.zero_le _))
  have P : Hid (∀ wr : World, Below w.heap.size w wr → PicAt wr B L cs q st gl vc (.slice qo q.length qc) (.slice so st.length sc) (.slice go gl.length gc)) := fun wr hb => h.below hb
  obtain ⟨c, hcb⟩ : ∃ c : Int, (b : Int) + 1 = c := ⟨_, rfl⟩
  rw [hcb] at hx ⊢
  have SQ : Hid (∀ wr : World, Below w.heap.size w wr → Calls Tryd.prog 27 #[.slice qo q.length qc, .int .i64 c] wr fun e w' => e = .returned (.int .i64 (refsP q c)) ∧ w' = wr) := fun wr hb => refs_seen (P.out wr hb).queue lq c
  have SS : Hid (∀ wr : World, Below w.heap.size w wr → Calls Tryd.prog 27 #[.slice so st.length sc, .int .i64 c] wr fun e w' => e = .returned (.int .i64 (refsP st c)) ∧ w' = wr) := fun wr hb => refs_seen (P.out wr hb).stack ls c
  have SG : Hid (∀ wr : World, Below w.heap.size w wr → Calls Tryd.prog 27 #[.slice go gl.length gc, .int .i64 c] wr fun e w' => e = .returned (.int .i64 (refsP gl c)) ∧ w' = wr) := fun wr hb => refs_seen (P.out wr hb).globals lg c
  have SF : Hid (∀ k (hk : k < cs.length), ∃ fo fc, (cs[k]).2 = .slice fo (cs[k]).1.fields.length fc ∧ ∀ wr : World, Below w.heap.size w wr → Calls Tryd.prog 27 #[(cs[k]).2, .int .i64 c] wr fun e w' => e = .returned (.int .i64 (refsP (cs[k]).1.fields c)) ∧ w' = wr) := fun k hk => by
    obtain ⟨fo, fc, hv⟩ := own_slice (own_base (h.fields cs[k] (List.getElem_mem hk)) (Nat.zero_le _))
    exact ⟨fo, fc, hv, fun wr hb => refs_seen ((P.out wr hb).fields cs[k] (List.getElem_mem hk)) (by have := lf _ (List.getElem_mem hk); omega) c⟩
  have SC : Hid (∀ k (hk : k < cs.length), sumC (cs.take (k + 1)) c = sumC (cs.take k) c + refsP (cs[k]).1.fields c ∧ sumC (cs.take k) c ≤ 1000 ∧ refsP (cs[k]).1.fields c ≤ 4) := fun k hk => by
    refine ⟨by rw [take_snoc cs k hk, sumC_snoc], ?_, Nat.le_trans (refsP_le _ _) (lf _ (List.getElem_mem hk))⟩
    have h1 := sumC_le (cs.take k) c 4 fun x hx => lf x (List.mem_of_mem_take hx)
    have h2 : (cs.take k).length ≤ 99 := by rw [List.length_take]; omega
    omega
  subst hvc
  have p00 := cell_of_heap (i := 0) h.box rfl
  have p01 := cell_of_heap (i := 1) h.box rfl
  have p02 := cell_of_heap (i := 2) h.box rfl
  have p03 := cell_of_heap (i := 3) h.box rfl
  obtain ⟨fo, fc, hvo⟩ := own_slice (own_base (h.fields _ (List.mem_of_getElem? hb)) (Nat.zero_le _))
  simp only at hvo
  subst hvo
  obtain ⟨b0, b1, b2⟩ := hc b hbl
  rw [hbv] at b0 b1 b2
  obtain ⟨y1, y2, y3⟩ := o
  simp only at b0 b1 b2 hx
  obtain ⟨len, hlen⟩ : ∃ len, cs.length = len := ⟨_, rfl⟩
  rw [hlen] at hn h0 p00 hbl
  simp at p00 p01 p02 p03
  have C : Hid (∀ wr : World, Below w.heap.size w wr → wr.cell? ⟨L, 0, none⟩ = some (.slice (some ⟨g, 0, none⟩) len cap) ∧ wr.cell? ⟨L, 1, none⟩ = some (.slice qo q.length qc) ∧ wr.cell? ⟨L, 2, none⟩ = some (.slice so st.length sc) ∧ wr.cell? ⟨L, 3, none⟩ = some (.slice go gl.length gc) ∧ (∀ k (hk : k < cs.length), wr.cell? ⟨g, k * 3 + 2, none⟩ = some (cs[k]).2)) := fun wr hb =>
    ⟨(hb.cell (p := ⟨L, 0, none⟩) hLl).trans p00, (hb.cell (p := ⟨L, 1, none⟩) hLl).trans p01, (hb.cell (p := ⟨L, 2, none⟩) hLl).trans p02, (hb.cell (p := ⟨L, 3, none⟩) hLl).trans p03, fun k hk => (hb.cell (p := ⟨g, k * 3 + 2, none⟩) hgl).trans (hc k hk).2.2⟩
  have LL : Hid (cs.length = len) := hlen
  have X : Hid _ := hx
  have LQ : Hid (q.length ≤ 1000 ∧ st.length ≤ 1000 ∧ gl.length ≤ 1000) := ⟨lq, ls, lg⟩
  have t3 : c - 1 = b := by omega
  have t4 : IntKind.i64.wrap (c - 1) = b := by rw [t3]; exact wrapS (by omega) (by omega)
  have t6 : (b : Int) < len := by omega
  have t7 : 0 ≤ c - 1 := by omega
  have t8 : c - 1 < len := by omega
  have t9 : (c - 1).toNat = b := by omega
  clear h hc lq ls lg lf P hlen hx hb hbv hcb
  go_enter Tryd.func11, Tryd.ntmps11
  obtain ⟨rq, hrq⟩ : ∃ rq, refsP q c = rq := ⟨_, rfl⟩
  obtain ⟨rs, hrs⟩ : ∃ rs, refsP st c = rs := ⟨_, rfl⟩
  obtain ⟨rg, hrg⟩ : ∃ rg, refsP gl c = rg := ⟨_, rfl⟩
  rw [hrq] at SQ X
  rw [hrs] at SS X
  rw [hrg] at SG X
  have hqle : rq ≤ 1000 := by rw [← hrq]; exact Nat.le_trans (refsP_le _ _) LQ.out.1
  have hsle : rs ≤ 1000 := by rw [← hrs]; exact Nat.le_trans (refsP_le _ _) LQ.out.2.1
  have hgle : rg ≤ 1000 := by rw [← hrg]; exact Nat.le_trans (refsP_le _ _) LQ.out.2.2
  clear hrq hrs hrg LQ
  go_wp2_with fail
  have BA : Hid (Below w.heap.size w (w.alloc (.cells #[.int .u8 y1.toNat, .int .i64 y2, .slice fo y3.length fc] 56))) := (Below.refl _ _).alloc (Nat.le_refl _) _
  have HA : Hid (∀ wr : World, Below (w.heap.size + 1) (w.alloc (.cells #[.int .u8 y1.toNat, .int .i64 y2, .slice fo y3.length fc] 56)) wr → wr.cell? ⟨w.heap.size, 0, none⟩ = some (.int .u8 y1.toNat) ∧ wr.cell? ⟨w.heap.size, 1, none⟩ = some (.int .i64 y2) ∧ Below w.heap.size w wr) := fun wr hb => by
    have hh := (hb.block w.heap.size (Nat.lt_succ_self _)).trans (heap_alloc_new w _)
    exact ⟨cell_of_heap (i := 0) hh rfl, cell_of_heap (i := 1) hh rfl, BA.out.trans (hb.mono (Nat.le_succ _))⟩
  obtain ⟨w0, hw0⟩ : ∃ w0, (w.alloc (.cells #[.int .u8 y1.toNat, .int .i64 y2, .slice fo y3.length fc] 56)) = w0 := ⟨_, rfl⟩
  rw [hw0] at BA HA ⊢
  have hsz0 : w.heap.size + 1 = w0.heap.size := by rw [← hw0]; simp
  clear hw0
  refine Calls.mono (SQ.out _ BA.out) ?_
  rintro e w1 ⟨rfl, rfl⟩
  obtain ⟨p0, p1, p2, p3, CC⟩ := C.out _ BA.out
  clear CC SQ b0 b1 b2 p00 p01 p02 p03 t3 t4 t6 t7 t8 t9
  go_wp2_with fail
  refine Calls.mono (SS.out _ BA.out) ?_
  rintro e w1 ⟨rfl, rfl⟩
  clear SS
  go_wp2_with fail
  refine Calls.mono (SG.out _ BA.out) ?_
  rintro e w1 ⟨rfl, rfl⟩
  clear SG p1 p2 p3
  go_wp2
  go_loopw [9, 10] (fun n i wr => ∃ k : Nat, k ≤ len ∧ i = .int .i64 k ∧ n = .int .i64 (sumC (cs.take k) c) ∧ Below w1.heap.size w1 wr) (fun _ i _ => len - (intOf i).toNat)
  case atStart => exact ⟨0, Nat.zero_le _, rfl, rfl, Below.refl _ _⟩
  case round =>
    obtain ⟨k, hk, rfl, rfl, hb⟩ := hrel
    have BB : Hid _ := hb
    clear p0
    obtain ⟨e0, e1, hbw⟩ := HA.out wr (by rw [hsz0]; exact hb)
    obtain ⟨p0, _, _, _, CC⟩ := C.out wr hbw
    have BW : Hid _ := hbw
    by_cases hlt : k < len
    · have hk' : k < cs.length := by rw [LL.out]; exact hlt
      have d0 := CC k hk'
      obtain ⟨fo2, fc2, hv, SK⟩ := SF.out k hk'
      obtain ⟨s1, s2, s3⟩ := SC.out k hk'
      rw [hv] at d0 SK
      have SKH : Hid _ := SK
      have hkI : (k : Int) < len := by omega
      obtain ⟨fl, hfl⟩ : ∃ fl, cs[k].1.fields.length = fl := ⟨_, rfl⟩
      rw [hfl] at d0 SKH
      obtain ⟨rk, hrk⟩ : ∃ rk, refsP cs[k].1.fields c = rk := ⟨_, rfl⟩
      rw [hrk] at SKH s1 s3
      have S1 : Hid _ := s1
      obtain ⟨sk, hsk⟩ : ∃ sk, sumC (cs.take k) c = sk := ⟨_, rfl⟩
      rw [hsk] at S1 s2 ⊢
      clear CC hb SK hv hfl hrk s1 hsk hbw e0 e1
      go_wp2_with fail
      refine Calls.mono (SKH.out _ BW.out) ?_
      rintro e w4 ⟨rfl, rfl⟩
      go_wp2
      go_roundw
      case rel => exact ⟨k + 1, by omega, by go_num, by rw [S1.out]; go_num, BB.out⟩
      case measure => simp [intOf]; omega
    · have hkI : ¬ (k : Int) < len := by omega
      have X2 : Hid _ := X.out
      rw [← List.take_of_length_le (l := cs) (i := k) (by rw [LL.out]; omega)] at X2
      obtain ⟨sk, hsk⟩ : ∃ sk, sumC (cs.take k) c = sk := ⟨_, rfl⟩
      rw [hsk] at X2 ⊢
      clear CC hb X hsk hbw SF SC C
      obtain ⟨x1, x2, x3, x4, x5, x6⟩ := X2.out
      clear X2
      rcases x6 with e | e | e | e | e
      · obtain rfl := x2 (.inl e)
        obtain rfl := x1 (by rw [e]; decide)
        subst e
        clear x1 x2 x3 x4 x5
        go_wp2
        go_ret
        exact ⟨rfl, BW.out⟩
      · obtain rfl := x2 (.inr e)
        subst e
        clear x1 x2 x3 x4 x5
        go_wp2
        go_ret
        exact ⟨rfl, BW.out⟩
      · obtain ⟨rfl, rfl, h3⟩ := x3 e
        obtain rfl := x1 (by rw [e]; decide)
        obtain rfl : rs = 0 := by omega
        obtain rfl : rg = 0 := by omega
        subst e
        clear x1 x2 x3 x4 x5
        go_wp2
        go_ret
        exact ⟨rfl, BW.out⟩
      · obtain ⟨rfl, rfl⟩ := x4 e
        obtain rfl := x1 (by rw [e]; decide)
        subst e
        clear x1 x2 x3 x4 x5
        go_wp2
        go_ret
        exact ⟨rfl, BW.out⟩
      · obtain ⟨rfl, h3⟩ := x5 e
        obtain rfl := x1 (by rw [e]; decide)
        have h3I : (0 : Int) < sk := by omega
        subst e
        clear x1 x2 x3 x4 x5
        go_wp2
        go_ret
        exact ⟨rfl, BW.out⟩

end Go.Proofs.YtpmkjeihbddfpaaDoor

/- OUR OWN. What is asked of a picture: gauged. -/
namespace Go.Proofs.YtpmkjeihbddfpaaDoor
open Go.RowKit
set_option linter.unusedVariables false
set_option linter.unusedSimpArgs false

theorem PicAt.kept {w w' : World} {B L : Nat} {cs : List (Cell × Value)} {q st gl : List (UInt8 × Int)} {vc vq vs vg : Value} (h : PicAt w B L cs q st gl vc vq vs vg) (hk : ∀ k, B ≤ k → k < w.heap.size → w'.heap[k]? = w.heap[k]?) : PicAt w' B L cs q st gl vc vq vs vg := by
  have k : ∀ {e sz v n xs}, w.ownsRow B e sz v n xs → w'.ownsRow B e sz v n xs := fun r => own_carry r fun g hg => hk g (own_lt r hg).1 (own_lt r hg).2
  exact ⟨(hk _ h.le (lt_of_heap h.box)).trans h.box, k h.cells, fun x hx => k (h.fields x hx), k h.queue, k h.stack, k h.globals, h.le⟩
def extrasC (cs : List (Cell × Value)) : Nat := cs.countP fun x => x.1.letter == 104 && decide (7 < x.1.count)
theorem extrasC_snoc (l : List (Cell × Value)) (v : Cell × Value) : extrasC (l ++ [v]) = extrasC l + if v.1.letter = 104 ∧ 7 < v.1.count then 1 else 0 := by
  unfold extrasC
  rw [List.countP_append, List.countP_singleton]
  by_cases h : v.1.letter = 104 ∧ 7 < v.1.count
  · rw [if_pos h, if_pos (by simp [h.1, h.2])]
  · rw [if_neg h, if_neg (by simpa using h)]
theorem extrasC_le (l : List (Cell × Value)) : extrasC l ≤ l.length := List.countP_le_length

set_option maxRecDepth 100000 in
set_option maxHeartbeats 1600000 in
theorem gauged_seen {w : World} {B L : Nat} {cs : List (Cell × Value)} {q st gl : List (UInt8 × Int)} {vc vq vs vg : Value} (h : PicAt w B L cs q st gl vc vq vs vg) (hB : B ≤ w.heap.size) (h0 : 0 < cs.length) (hn : cs.length ≤ 99) (bn csz gsz bu ze ov : Int) (x : Nat) (Z : World → World → Prop)
    (ga : ∀ W, Below w.heap.size w W → Calls Tryd.prog 25 #[.pointer (some ⟨x, 0, none⟩)] W fun e w' => e = .returned (.agg #[.int .i64 (lettersC cs 46), .int .i64 (lettersC cs 119), .int .i64 (lettersC cs 113), .int .i64 (extrasC cs), .int .i64 (lettersC cs 115)]) ∧ Z W w' ∧ W.heap.size ≤ w'.heap.size ∧ ∀ k, B ≤ k → k < W.heap.size → w'.heap[k]? = W.heap[k]?)
    (hz : (lettersC cs 119 : Int) ≤ ze) (ho : (extrasC cs : Int) ≤ ov) (hq : q.length = lettersC cs 113) :
    Calls Tryd.prog 10 #[.pointer (some ⟨L, 0, none⟩), .pointer (some ⟨x, 0, none⟩), .agg #[.int .i64 bn, .int .i64 csz, .int .i64 gsz, .int .i64 bu, .int .i64 ze, .int .i64 ov]] w fun e w' => e = .returned (.bool true) ∧ ∃ W w1, Below w.heap.size w W ∧ Z W w1 ∧ Below w1.heap.size w1 w' := by
  have GA : Hid _ := ga
  have P : Hid _ := h
  have hle1 := lettersC_le cs 46
  have hle2 := lettersC_le cs 119
  have hle3 := lettersC_le cs 113
  have hle4 := lettersC_le cs 115
  have hle5 := extrasC_le cs
  obtain ⟨n1, e1⟩ : ∃ n1, lettersC cs 46 = n1 := ⟨_, rfl⟩
  obtain ⟨n2, e2⟩ : ∃ n2, lettersC cs 119 = n2 := ⟨_, rfl⟩
  obtain ⟨n3, e3⟩ : ∃ n3, lettersC cs 113 = n3 := ⟨_, rfl⟩
  obtain ⟨n4, e4⟩ : ∃ n4, lettersC cs 115 = n4 := ⟨_, rfl⟩
  obtain ⟨n5, e5⟩ : ∃ n5, extrasC cs = n5 := ⟨_, rfl⟩
  rw [e1] at GA hle1
  rw [e2] at GA hz hle2
  rw [e3] at GA hq hle3
  rw [e4] at GA hle4
  rw [e5] at GA ho hle5
  have EQ : Hid (lettersC cs 46 = n1 ∧ lettersC cs 119 = n2 ∧ lettersC cs 113 = n3 ∧ lettersC cs 115 = n4 ∧ extrasC cs = n5) := ⟨e1, e2, e3, e4, e5⟩
  clear ga h e1 e2 e3 e4 e5
  go_enter Tryd.func10, Tryd.ntmps10
  go_wp2_with fail
  refine Calls.mono (GA.out _ ((Below.refl _ w).alloc (Nat.le_refl _) _)) ?_
  rintro e w1 ⟨rfl, hZ, hsz1, hk1⟩
  have Z1 : Hid (Below w.heap.size w (w.alloc (.cells #[.int .i64 bn, .int .i64 csz, .int .i64 gsz, .int .i64 bu, .int .i64 ze, .int .i64 ov] 23)) ∧ Z (w.alloc (.cells #[.int .i64 bn, .int .i64 csz, .int .i64 gsz, .int .i64 bu, .int .i64 ze, .int .i64 ov] 23)) w1) := ⟨(Below.refl _ w).alloc (Nat.le_refl _) _, hZ⟩
  have hbox : w1.heap[w.heap.size]? = some (.cells #[.int .i64 bn, .int .i64 csz, .int .i64 gsz, .int .i64 bu, .int .i64 ze, .int .i64 ov] 23) := by
    rw [hk1 _ hB (by simp)]
    exact heap_alloc_new w _
  have hBx := lt_of_heap hbox
  have P1 : Hid (PicAt w1 B L cs q st gl vc vq vs vg) := P.out.kept fun k hb hk => (hk1 k hb (by simp; omega)).trans (hao hk)
  have BX : Hid (∀ wr, Below w1.heap.size w1 wr → wr.cell? ⟨w.heap.size, 4, none⟩ = some (.int .i64 ze) ∧ wr.cell? ⟨w.heap.size, 5, none⟩ = some (.int .i64 ov)) := fun wr hb => by
    have h := (hb.block _ hBx).trans hbox
    exact ⟨cell_of_heap (i := 4) h rfl, cell_of_heap (i := 5) h rfl⟩
  clear hZ GA hk1 hsz1 hbox P
  go_wp2_with fail
  have hG : (w1.alloc (.cells #[.int .i64 n1, .int .i64 n2, .int .i64 n3, .int .i64 n5, .int .i64 n4] 61)).heap[w1.heap.size]? = some (.cells #[.int .i64 n1, .int .i64 n2, .int .i64 n3, .int .i64 n5, .int .i64 n4] 61) := heap_alloc_new w1 _
  have hsz2 : (w1.alloc (.cells #[.int .i64 n1, .int .i64 n2, .int .i64 n3, .int .i64 n5, .int .i64 n4] 61)).heap.size = w1.heap.size + 1 := by simp
  have B2 : Hid (Below w1.heap.size w1 (w1.alloc (.cells #[.int .i64 n1, .int .i64 n2, .int .i64 n3, .int .i64 n5, .int .i64 n4] 61))) := (Below.refl _ _).alloc (Nat.le_refl _) _
  obtain ⟨w2, hw2⟩ : ∃ w2, (w1.alloc (.cells #[.int .i64 n1, .int .i64 n2, .int .i64 n3, .int .i64 n5, .int .i64 n4] 61)) = w2 := ⟨_, rfl⟩
  rw [hw2] at hG hsz2 B2 ⊢
  clear hw2
  have P2 : Hid (PicAt w2 B L cs q st gl vc vq vs vg) := P1.out.below B2.out
  obtain ⟨g, cap, hvc, hgl, hc⟩ := P2.out.view h0
  have hLl := lt_of_heap P2.out.box
  obtain ⟨qo, qc, hvq⟩ := own_slice (own_base P2.out.queue (Nat.zero_le _))
  have p00 := cell_of_heap (i := 0) P2.out.box rfl
  have p01 := cell_of_heap (i := 1) P2.out.box rfl
  obtain ⟨len, hlen⟩ : ∃ len, cs.length = len := ⟨_, rfl⟩
  rw [hlen] at hvc
  simp [hvc, hvq] at p00 p01
  have C : Hid (∀ wr : World, Below w2.heap.size w2 wr → (wr.cell? ⟨L, 0, none⟩ = some (.slice (some ⟨g, 0, none⟩) len cap) ∧ wr.cell? ⟨L, 1, none⟩ = some (.slice qo q.length qc)) ∧ (wr.cell? ⟨w1.heap.size, 0, none⟩ = some (.int .i64 n1) ∧ wr.cell? ⟨w1.heap.size, 1, none⟩ = some (.int .i64 n2) ∧ wr.cell? ⟨w1.heap.size, 2, none⟩ = some (.int .i64 n3) ∧ wr.cell? ⟨w1.heap.size, 3, none⟩ = some (.int .i64 n5) ∧ wr.cell? ⟨w1.heap.size, 4, none⟩ = some (.int .i64 n4)) ∧ (wr.cell? ⟨w.heap.size, 4, none⟩ = some (.int .i64 ze) ∧ wr.cell? ⟨w.heap.size, 5, none⟩ = some (.int .i64 ov)) ∧ (∀ k (hk : k < cs.length), wr.cell? ⟨g, k * 3, none⟩ = some (.int .u8 (cs[k]).1.letter.toNat) ∧ wr.cell? ⟨g, k * 3 + 1, none⟩ = some (.int .i64 (cs[k]).1.count))) := fun wr hb => by
    have hg2 := (hb.block w1.heap.size (by omega)).trans hG
    exact ⟨⟨(hb.cell (p := ⟨L, 0, none⟩) hLl).trans p00, (hb.cell (p := ⟨L, 1, none⟩) hLl).trans p01⟩, ⟨cell_of_heap (i := 0) hg2 rfl, cell_of_heap (i := 1) hg2 rfl, cell_of_heap (i := 2) hg2 rfl, cell_of_heap (i := 3) hg2 rfl, cell_of_heap (i := 4) hg2 rfl⟩, BX.out wr (B2.out.trans (hb.mono (by omega))), fun k hk => ⟨(hb.cell (p := ⟨g, k * 3, none⟩) hgl).trans (hc k hk).1, (hb.cell (p := ⟨g, k * 3 + 1, none⟩) hgl).trans (hc k hk).2.1⟩⟩
  have LT : Hid (∀ c : UInt8, Calls Tryd.prog 26 #[.pointer (some ⟨L, 0, none⟩), .int .u8 c.toNat] w2 fun e w' => e = .returned (.int .i64 (lettersC cs c)) ∧ w' = w2) := fun c => letters_seen P2.out h0 hn c
  have LL : Hid (cs.length = len) := hlen
  rw [hlen] at hn h0 hle1 hle2 hle3 hle4 hle5
  clear hc hvc hvq p00 p01 P1 hG hlen BX P2
  have l1 := LT.out 46
  rw [EQ.out.1] at l1
  have l2 := LT.out 119
  rw [EQ.out.2.1] at l2
  have l3 := LT.out 113
  rw [EQ.out.2.2.1] at l3
  have l4 := LT.out 115
  rw [EQ.out.2.2.2.1] at l4
  have L1 : Hid _ := l1
  have L2 : Hid _ := l2
  have L3 : Hid _ := l3
  have L4 : Hid _ := l4
  clear l1 l2 l3 l4 LT
  refine Calls.mono L1.out ?_
  rintro e w3 ⟨rfl, rfl⟩
  clear L1
  go_wp2_with fail
  refine Calls.mono L2.out ?_
  rintro e w3 ⟨rfl, rfl⟩
  clear L2
  go_wp2_with fail
  refine Calls.mono L3.out ?_
  rintro e w3 ⟨rfl, rfl⟩
  clear L3
  go_wp2_with fail
  refine Calls.mono L4.out ?_
  rintro e w3 ⟨rfl, rfl⟩
  clear L4
  go_wp2
  go_loopw [12, 13] (fun n i wr => ∃ k : Nat, k ≤ len ∧ i = .int .i64 k ∧ n = .int .i64 (extrasC (cs.take k)) ∧ Below w3.heap.size w3 wr) (fun _ i _ => len - (intOf i).toNat)
  case atStart => exact ⟨0, Nat.zero_le _, rfl, rfl, Below.refl _ _⟩
  case round =>
    obtain ⟨k, hk, rfl, rfl, hb⟩ := hrel
    have BB : Hid _ := hb
    obtain ⟨⟨p0, p1⟩, G, BX, CC⟩ := C.out wr hb
    by_cases hlt : k < len
    · have hk' : k < cs.length := by rw [LL.out]; exact hlt
      obtain ⟨c0, c1⟩ := CC k hk'
      have hs := extrasC_snoc (cs.take k) cs[k]
      rw [← take_snoc cs k hk'] at hs
      have hle := extrasC_le (cs.take k)
      have hle6 : (cs.take k).length ≤ k := List.length_take_le _ _
      obtain ⟨r, hr⟩ : ∃ r, r = extrasC (cs.take k) := ⟨_, rfl⟩
      rw [← hr] at hs hle ⊢
      obtain ⟨y1, hy1⟩ : ∃ y, y = cs[k].1.letter := ⟨_, rfl⟩
      obtain ⟨y2, hy2⟩ : ∃ y, y = cs[k].1.count := ⟨_, rfl⟩
      rw [← hy1] at c0 hs
      rw [← hy2] at c1 hs
      have S : Hid (extrasC (cs.take (k + 1)) = r + if y1 = 104 ∧ 7 < y2 then 1 else 0) := hs
      have hkI : (k : Int) < len := by omega
      clear hs hr hy1 hy2 CC hb G BX p1
      by_cases q1 : y1 = 104
      · subst q1
        by_cases q2 : 7 < y2
        · have q3 : decide (7 < y2) = true := by simpa using q2
          go_wp2_with fail
          try go_region
          all_goals go_wp2
          all_goals go_roundw
          all_goals first | exact ⟨k + 1, by omega, by go_num, by rw [S.out, if_pos ⟨rfl, q2⟩]; go_num, BB.out.drew⟩ | exact ⟨k + 1, by omega, by go_num, by rw [S.out, if_pos ⟨rfl, q2⟩]; go_num, BB.out⟩ | (simp [intOf]; omega)
        · have q3 : decide (7 < y2) = false := by simpa using q2
          go_wp2_with fail
          try go_region
          all_goals go_wp2
          all_goals go_roundw
          all_goals first | exact ⟨k + 1, by omega, by go_num, by rw [S.out, if_neg (fun h => q2 h.2)]; rfl, BB.out.drew⟩ | exact ⟨k + 1, by omega, by go_num, by rw [S.out, if_neg (fun h => q2 h.2)]; rfl, BB.out⟩ | (simp [intOf]; omega)
      · have q3 : ((y1.toNat : Int) == 104) = false := byte_ne (n := 104) (by omega) q1
        go_wp2_with fail
        try go_region
        all_goals go_wp2
        all_goals go_roundw
        all_goals first | exact ⟨k + 1, by omega, by go_num, by rw [S.out, if_neg (fun h => q1 h.1)]; rfl, BB.out.drew⟩ | exact ⟨k + 1, by omega, by go_num, by rw [S.out, if_neg (fun h => q1 h.1)]; rfl, BB.out⟩ | (simp [intOf]; omega)
    · have hkI : ¬ (k : Int) < len := by omega
      have e5 := EQ.out.2.2.2.2
      rw [← List.take_of_length_le (l := cs) (i := k) (by rw [LL.out]; omega)] at e5
      rw [e5]
      obtain ⟨g1, g2, g3, g4, g5⟩ := G
      obtain ⟨b4, b5⟩ := BX
      have hqI : (q.length : Int) = n3 := by omega
      clear CC hb e5
      go_wp2_with fail
      go_ret
      exact ⟨rfl, _, Z1.out.1, w1, Z1.out.2, B2.out.trans (BB.out.mono (by omega))⟩

end Go.Proofs.YtpmkjeihbddfpaaDoor

/- OUR OWN. The picture of a state. -/
namespace Go.Proofs.YtpmkjeihbddfpaaDoor
open Go.RowKit
set_option linter.unusedVariables false
set_option linter.unusedSimpArgs false

def cellsOf (s : St) (N : Nat) : List Cell := (List.range N).map fun i => cellOf s (i + 1)
theorem cellsOf_len (s : St) (N : Nat) : (cellsOf s N).length = N := by simp [cellsOf]
theorem cellsOf_get (s : St) (N i : Nat) (hi : i < N) : (cellsOf s N)[i]? = some (cellOf s (i + 1)) := by simp [cellsOf, hi]
section
variable {s : St} {N : Nat} {cs : List (Cell × Value)}
theorem cs_len (h : cs.map Prod.fst = cellsOf s N) : cs.length = N := by
  have := congrArg List.length h
  rw [List.length_map, cellsOf_len] at this
  exact this
theorem cs_get (h : cs.map Prod.fst = cellsOf s N) {i : Nat} (hi : i < N) : ∃ v, cs[i]? = some (cellOf s (i + 1), v) := by
  have h1 := congrArg (·[i]?) h
  simp only [List.getElem?_map] at h1
  rw [cellsOf_get s N i hi] at h1
  cases e : cs[i]? with
  | none => rw [e] at h1; simp at h1
  | some x =>
    rw [e] at h1
    simp at h1
    exact ⟨x.2, by rw [← h1]⟩
theorem cs_mem (h : cs.map Prod.fst = cellsOf s N) {x : Cell × Value} (hx : x ∈ cs) : ∃ i, i < N ∧ x.1 = cellOf s (i + 1) := by
  have : x.1 ∈ cellsOf s N := by rw [← h]; exact List.mem_map_of_mem hx
  unfold cellsOf at this
  obtain ⟨i, hi, he⟩ := List.mem_map.1 this
  exact ⟨i, List.mem_range.1 hi, he.symm⟩
theorem letters_state (h : cs.map Prod.fst = cellsOf s N) (c : UInt8) : lettersC cs c = lettersP s N c := by
  have e : lettersC cs c = (cs.map Prod.fst).countP fun x => x.letter == c := by
    unfold lettersC; rw [List.countP_map]; rfl
  rw [e, h]
  unfold cellsOf lettersP countTo
  rw [List.countP_map]
  rfl
theorem extras_state (h : cs.map Prod.fst = cellsOf s N) : extrasC cs = countTo (fun b => (cellOf s b).letter == 104 && decide (7 < (cellOf s b).count)) N := by
  have e : extrasC cs = (cs.map Prod.fst).countP fun x => x.letter == 104 && decide (7 < x.count) := by
    unfold extrasC; rw [List.countP_map]; rfl
  rw [e, h]
  unfold cellsOf countTo
  rw [List.countP_map]
  rfl
theorem sum_state (g : s.Good N) (hN : N ≤ 99) (h : cs.map Prod.fst = cellsOf s N) (b : Int) : sumC cs b = s.count b := by
  have e : sumC cs b = ((cs.map Prod.fst).map fun c => refsP c.fields b).sum := by unfold sumC; rw [List.map_map]; rfl
  rw [e, h]
  unfold cellsOf
  rw [List.map_map]
  exact fields_sum g hN b
theorem letter_here {i : Nat} (h : (s.ob i).here = true) : (cellOf s i).letter ≠ 46 := by
  unfold cellOf
  rw [if_pos h]
  split
  · simp
  · split
    · simp
    · split <;> simp
theorem leads_state (g : s.Good N) (h : cs.map Prod.fst = cellsOf s N) {l : List (Int × Int)} (hl : ∀ v ∈ l, s.leads v) : Leads cs (l.map absV) := by
  intro v hv h35
  obtain ⟨u, hu, rfl⟩ := List.mem_map.1 hv
  rcases hl u hu with e | e | ⟨e, i, hi, ha⟩
  · rw [e] at h35; simp [absV] at h35
  · unfold absV at h35; rw [if_neg (by omega), if_pos e.1] at h35; simp at h35
  · have hz := g.ne_zero ha.1
    obtain ⟨y, hy⟩ := cs_get h (i := i - 1) (by omega)
    rw [show i - 1 + 1 = i by omega] at hy
    refine ⟨i - 1, ?_, _, hy, letter_here ha.1⟩
    unfold absV
    rw [if_neg (by omega), if_neg (by omega)]
    show u.2 = _
    omega
theorem leads_queue (g : s.Good N) (h : cs.map Prod.fst = cellsOf s N) : Leads cs (s.queue.map fun b => ((35 : UInt8), b)) := by
  intro v hv _
  obtain ⟨b, hb, rfl⟩ := List.mem_map.1 hv
  have h0 := g.nat b hb
  have hq := (g.inq b.toNat).1 (by rw [Int.toNat_of_nonneg h0]; exact hb)
  have hh : (s.ob b.toNat).here = true := by
    cases e : (s.ob b.toNat).here with
    | true => rfl
    | false => rw [g.gone _ e] at hq; cases hq
  have hz := g.ne_zero hh
  obtain ⟨y, hy⟩ := cs_get h (i := b.toNat - 1) (by omega)
  rw [show b.toNat - 1 + 1 = b.toNat by omega] at hy
  refine ⟨b.toNat - 1, ?_, _, hy, letter_here hh⟩
  show b = _
  omega
theorem cell_fields (i : Nat) : (cellOf s i).fields = (s.ob i).fs.map absV ∨ (cellOf s i).fields = [] := by
  unfold cellOf
  split
  · left
    split
    · rfl
    · split
      · rfl
      · split <;> rfl
  · right; rfl
theorem leads_fields (g : s.Good N) (h : cs.map Prod.fst = cellsOf s N) : ∀ x ∈ cs, Leads cs x.1.fields := by
  intro x hx
  obtain ⟨i, hi, e⟩ := cs_mem h hx
  rw [e]
  rcases cell_fields (s := s) (i + 1) with e | e
  · rw [e]; exact leads_state g h (g.fields (i + 1))
  · rw [e]; intro v hv; simp at hv
theorem fields_four (g : s.Good N) (h : cs.map Prod.fst = cellsOf s N) : ∀ x ∈ cs, x.1.fields.length ≤ 4 := by
  intro x hx
  obtain ⟨i, hi, e⟩ := cs_mem h hx
  rw [e]
  rcases cell_fields (s := s) (i + 1) with e | e
  · rw [e, List.length_map]; exact g.four (i + 1)
  · rw [e]; simp
end

end Go.Proofs.YtpmkjeihbddfpaaDoor

/- OUR OWN. seen, of a heap that is a state. -/
namespace Go.Proofs.YtpmkjeihbddfpaaDoor
open Go.RowKit
set_option linter.unusedVariables false
set_option linter.unusedSimpArgs false
section
variable {HS : HeapM → St → Cf → Nat → Prop}

def queueP (s : St) : List (UInt8 × Int) := s.queue.map fun b => (35, b)
theorem queue_le {s : St} {N : Nat} (g : s.Good N) : s.queue.length ≤ N := by
  rw [← letter_queued g]
  exact countTo_le _ _
/-- what a picture of the heap at x is -/
structure Shown (HS : HeapM → St → Cf → Nat → Prop) (w : World) (hm : HeapM) (w' : World) (x L B : Nat) (s : St) (c : Cf) (N : Nat) (cs : List (Cell × Value)) (vc vq vs vg : Value) (hm' : HeapM) : Prop where
  turn : HTurn x w hm w' hm'
  hs : HS hm' s c N
  low : w.heap.size ≤ B
  high : B ≤ w'.heap.size
  apart : ∀ g ∈ x :: hm'.foot, g < B
  map : cs.map Prod.fst = cellsOf s N
  pic : PicAt w' B L cs (queueP s) (s.stack.map absV) (s.globals.map absV) vc vq vs vg

theorem seen_of (dp : DumpPact HS) {x N Bt : Nat} {w : World} {hm : HeapM} {s : St} {c : Cf} (tab : Tab Bt w) (ha : HeapAt w x hm) (hs : HS hm s c N) (g : s.Good N) (hc : CfOk c) (hN : N ≤ 99) (hst : s.stack.length ≤ 16) (hgl : s.globals.length ≤ 8) (csz bu ze ov : Int) (hcs : (s.stack.length : Int) ≤ csz) :
    Calls Tryd.prog 8 #[.pointer (some ⟨x, 0, none⟩), .agg #[.int .i64 N, .int .i64 csz, .int .i64 s.globals.length, .int .i64 bu, .int .i64 ze, .int .i64 ov]] w fun e w' => ∃ L B cs vc vq vs vg hm', e = .returned (.tuple #[.pointer (some ⟨L, 0, none⟩), .bool true]) ∧ Shown HS w hm w' x L B s c N cs vc vq vs vg hm' := by
  have hql := queue_le g
  have hsN := g.sN
  have l1 := recs_len s N g.four
  have l2 := queueN_len s.queue s.queue.length
  have l3 := list_len s.stack
  have l4 := list_len s.globals
  have hdl : (dumpL s).length ≤ 100000 := by
    unfold dumpL
    rw [hsN]
    simp only [List.length_append, List.length_singleton]
    omega
  have hsp := split_dump s
  rw [hsN] at hsp
  refine Calls.mono (seen_core (dumpL s) (recsTo s N) (queueN s.queue s.queue.length) (listL s.stack) (listL s.globals) N hN ((List.range N).map fun i => bodyL s (i + 1)) (by simp) (cellsOf s N) (cellsOf_len s N) (queueP s) (s.stack.map absV) (s.globals.map absV) csz s.globals.length bu ze ov (by simpa using hcs) (by simp) (fun W w1 => ∃ hm', HTurn x W hm w1 hm' ∧ HS hm' s c N) x w (by simpa using hst) (by simpa using hgl) ?_ ?_ ?_ ?_ ?_ ?_ ?_) ?_
  · intro W hb
    have haW : HeapAt W x hm := ha.carry fun y hy => hb.block y (ha.lt y hy)
    refine Calls.mono (dp x N Bt W hm s c (tab.below hb) haW hs g hc hN hst hgl) ?_
    rintro e w' ⟨rfl, hm', ht, hs'⟩
    refine ⟨rfl, ⟨hm', ht, hs'⟩, ht.off.size, fun k h1 h2 => ht.off.block k h2 fun hk => ?_⟩
    have := ha.lt k hk
    omega
  · intro W
    have h := split_any (dumpL s) 124 hdl W
    rw [hsp] at h
    exact h
  · intro W
    have h := split_any (recsTo s N) 59 (by omega) W
    rw [split_recs s N] at h
    have e : (((List.range N).map fun i => bodyL s (i + 1)) ++ [[]]).length = N + 1 := by simp
    rw [e] at h
    exact h
  · intro W
    have h := numbers_any (queueN s.queue s.queue.length) (by omega) (queue_parts g hN) W
    rw [numbers_queue g hN] at h
    exact h
  · intro W
    have h := values_any (listL s.stack) (by omega) (split_parts fun v hv => g.readable hN (g.stack v hv)) W
    rw [values_stack g hN] at h
    exact h
  · intro W
    have h := values_any (listL s.globals) (by omega) (split_parts fun v hv => g.readable hN (g.globals v hv)) W
    rw [values_globals g hN] at h
    exact h
  · intro k h1 h2 W
    have h := block_of g hN (k + 1) W
    simp only [List.getElem_map, List.getElem_range, cellsOf]
    exact h
  · rintro e w' ⟨W, w1, L, cs, vc, vq, vs, vg, rfl, hb, ⟨hm', ht, hs'⟩, hb1, hmap, hp⟩
    refine ⟨L, w1.heap.size, cs, vc, vq, vs, vg, hm', rfl, ?_⟩
    have h1 := hb.size
    have h2 := ht.off.size
    exact ⟨((HTurn.of_below ha hb).trans ht).after hb1, hs', by omega, hb1.size, fun y hy => ht.here.lt y hy, hmap, hp⟩
end

end Go.Proofs.YtpmkjeihbddfpaaDoor

/- OUR OWN. What is asked of the picture of a state. -/
namespace Go.Proofs.YtpmkjeihbddfpaaDoor
open Go.RowKit
set_option linter.unusedVariables false
set_option linter.unusedSimpArgs false
section
variable {HS : HeapM → St → Cf → Nat → Prop}

/-- a picture of the state s, from block B on -/
structure PicOf (w : World) (L B : Nat) (s : St) (N : Nat) (cs : List (Cell × Value)) (vc vq vs vg : Value) : Prop where
  map : cs.map Prod.fst = cellsOf s N
  pic : PicAt w B L cs (queueP s) (s.stack.map absV) (s.globals.map absV) vc vq vs vg
theorem PicOf.below {w w' : World} {L B : Nat} {s : St} {N : Nat} {cs : List (Cell × Value)} {vc vq vs vg : Value} (h : PicOf w L B s N cs vc vq vs vg) (hb : Below w.heap.size w w') : PicOf w' L B s N cs vc vq vs vg := ⟨h.map, h.pic.below hb⟩
theorem PicOf.kept {w w' : World} {L B : Nat} {s : St} {N : Nat} {cs : List (Cell × Value)} {vc vq vs vg : Value} (h : PicOf w L B s N cs vc vq vs vg) (hk : ∀ k, B ≤ k → k < w.heap.size → w'.heap[k]? = w.heap[k]?) : PicOf w' L B s N cs vc vq vs vg := ⟨h.map, h.pic.kept hk⟩

theorem pic_wide {w : World} {L B : Nat} {s : St} {N : Nat} {cs : List (Cell × Value)} {vc vq vs vg : Value} (h : PicOf w L B s N cs vc vq vs vg) (g : s.Good N) (h1 : 1 ≤ N) (hN : N ≤ 99) (hst : s.stack.length ≤ 16) (hgl : s.globals.length ≤ 8) :
    Calls Tryd.prog 9 #[.pointer (some ⟨L, 0, none⟩)] w fun e w' => e = .returned (.bool true) ∧ Below w.heap.size w w' := by
  have hl := cs_len h.map
  have hq := queue_le g
  refine wide_seen h.pic (by omega) (by omega) (leads_queue g h.map) (leads_state g h.map g.stack) (leads_state g h.map g.globals) (leads_fields g h.map) ?_ (by simp; omega) (by simp; omega) fun x hx => by have := fields_four g h.map x hx; omega
  unfold queueP
  simp
  omega

theorem pic_exact {w : World} {L B : Nat} {s : St} {N : Nat} {cs : List (Cell × Value)} {vc vq vs vg : Value} (h : PicOf w L B s N cs vc vq vs vg) (g : s.Good N) (hN : N ≤ 99) (hst : s.stack.length ≤ 16) (hgl : s.globals.length ≤ 8) (b : Nat) (hb : b < N) :
    Calls Tryd.prog 11 #[.pointer (some ⟨L, 0, none⟩), .int .i64 ((b : Int) + 1)] w fun e w' => e = .returned (.bool true) ∧ Below w.heap.size w w' := by
  have hl := cs_len h.map
  have hq := queue_le g
  obtain ⟨vo, hv⟩ := cs_get h.map hb
  have hx := exact_of g hN (b + 1)
  refine exact_seen h.pic (by omega) (by unfold queueP; simp; omega) (by simp; omega) (by simp; omega) (fields_four g h.map) b _ vo hv ?_
  rw [sum_state g hN h.map, show ((b : Int) + 1) = ((b + 1 : Nat) : Int) by omega]
  exact hx

theorem pic_gauged (gp : GaugePact HS) {w : World} {L B x : Nat} {s : St} {c : Cf} {N : Nat} {cs : List (Cell × Value)} {vc vq vs vg : Value} {hm : HeapM} (h : PicOf w L B s N cs vc vq vs vg) (hB : B ≤ w.heap.size) (ha : HeapAt w x hm) (hs : HS hm s c N) (hap : ∀ y ∈ x :: hm.foot, y < B) (g : s.Good N) (bd : Bound c s) (hc : CfOk c) (h1 : 1 ≤ N) (hN : N ≤ 99) (hst : s.stack.length ≤ 16) (hgl : s.globals.length ≤ 8) (bn csz gsz bu : Int) :
    Calls Tryd.prog 10 #[.pointer (some ⟨L, 0, none⟩), .pointer (some ⟨x, 0, none⟩), .agg #[.int .i64 bn, .int .i64 csz, .int .i64 gsz, .int .i64 bu, .int .i64 c.zero, .int .i64 c.over]] w fun e w' => e = .returned (.bool true) ∧ ∃ hm', HTurn x w hm w' hm' ∧ HS hm' s c N ∧ PicOf w' L B s N cs vc vq vs vg := by
  have hl := cs_len h.map
  have e1 := letters_state h.map 46
  have e2 := letters_state h.map 119
  have e3 := letters_state h.map 113
  have e4 := letters_state h.map 115
  have e5 := extras_state h.map
  have hgs := gauge_shown g
  refine Calls.mono (gauged_seen h.pic hB (by omega) (by omega) bn csz gsz bu c.zero c.over x (fun W w1 => ∃ hm', HTurn x W hm w1 hm' ∧ HS hm' s c N) ?_ ?_ ?_ ?_) ?_
  · intro W hb
    have haW : HeapAt W x hm := ha.carry fun y hy => hb.block y (ha.lt y hy)
    refine Calls.mono (gp x N W hm s c haW hs g hc hN hst hgl) ?_
    rintro e w' ⟨rfl, hm', ht, hs'⟩
    refine ⟨?_, ⟨hm', ht, hs'⟩, ht.off.size, fun k k1 k2 => ht.off.block k k2 fun hk => ?_⟩
    · rw [hgs, e1, e2, e3, e4, e5]
    · have := hap k hk
      omega
  · rw [e2]
    have := bd.waits
    rw [letter_wait g]
    unfold waitN at this
    rw [g.sN] at this
    exact this
  · rw [e5]
    have := bd.extras
    rw [letter_extra g]
    unfold St.extras at this
    rw [g.sN] at this
    exact this
  · rw [e3, letter_queued g]
    unfold queueP
    simp
  · rintro e w' ⟨rfl, W, w1, hb, ⟨hm', ht, hs'⟩, hb1⟩
    refine ⟨rfl, hm', ((HTurn.of_below ha hb).trans ht).after hb1, hs', ?_⟩
    refine ((h.below hb).kept fun k k1 k2 => ht.off.block k k2 fun hk => ?_).below hb1
    have := hap k hk
    omega
end

end Go.Proofs.YtpmkjeihbddfpaaDoor

/- OUR OWN. Counted, the steps. -/
namespace Go.Proofs.YtpmkjeihbddfpaaDoor
open Go.RowKit
set_option linter.unusedVariables false
set_option linter.unusedSimpArgs false
section
variable {HS : HeapM → St → Cf → Nat → Prop}

/-- all that is asked of the program where it is looked at by Dump -/
structure PactsD (HS : HeapM → St → Cf → Nat → Prop) : Prop where
  all : Pacts HS
  dump : DumpPact HS

theorem act_globals {s : St} {N : Nat} (g : s.Good N) (c : Cf) (op n : Int) : (actS c s op n).1.globals.length = s.globals.length := by
  unfold actS
  split
  · show (s.safe c).1.globals.length = _
    rw [(same_safe g c).globals]
  · split
    · show (s.collect c.over).globals.length = _
      rw [(same_collect g c.over).globals]
    · exact do_globals g c op n

/-- the heap at x is some state -/
def Inv (HS : HeapM → St → Cf → Nat → Prop) (Bx x kg N : Nat) (c : Cf) (wr : World) : Prop := ∃ hm s, KAt HS Bx wr x hm s c N ∧ s.globals.length = kg
/-- and there is a picture of it at L -/
def Pic2 (HS : HeapM → St → Cf → Nat → Prop) (Bx x kg N : Nat) (c : Cf) (L : Nat) (wr : World) : Prop := ∃ B hm s cs vc vq vs vg, KAt HS Bx wr x hm s c N ∧ s.globals.length = kg ∧ (∀ y ∈ x :: hm.foot, y < B) ∧ B ≤ wr.heap.size ∧ PicOf wr L B s N cs vc vq vs vg
/-- a picture of some state at L -/
def Pic3 (N L : Nat) (wr : World) : Prop := ∃ B s cs vc vq vs vg, PicOf wr L B s N cs vc vq vs vg ∧ s.Good N ∧ s.stack.length ≤ 16 ∧ s.globals.length ≤ 8

theorem inv_act (P : PactsD HS) {Bx x kg N : Nat} {c : Cf} {wr : World} (h : Inv HS Bx x kg N c wr) (op n : Int) (hop : fits op) (hn : fits n) :
    Calls Tryd.prog 7 #[.pointer (some ⟨x, 0, none⟩), .agg #[.int .i64 op, .int .i64 n]] wr fun e w' => (∃ r1 r2, e = .returned (.tuple #[.int .i64 r1, .int .i64 r2])) ∧ Inv HS Bx x kg N c w' ∧ Below Bx wr w' := by
  obtain ⟨hm, s, k, hg⟩ := h
  refine Calls.mono (act_any P.all k op n hop hn) ?_
  rintro e w' ⟨rfl, hm', ht, hk⟩
  exact ⟨⟨_, _, rfl⟩, ⟨hm', _, hk, by rw [act_globals k.good]; exact hg⟩, ht.off.below k.size k.low⟩
theorem inv_seen (P : PactsD HS) {Bx x kg N Bt : Nat} {c : Cf} {wr : World} (h : Inv HS Bx x kg N c wr) (tab : Tab Bt wr) (bu : Int) :
    Calls Tryd.prog 8 #[.pointer (some ⟨x, 0, none⟩), .agg #[.int .i64 N, .int .i64 c.deep, .int .i64 kg, .int .i64 bu, .int .i64 c.zero, .int .i64 c.over]] wr fun e w' => ∃ L, e = .returned (.tuple #[.pointer (some ⟨L, 0, none⟩), .bool true]) ∧ Pic2 HS Bx x kg N c L w' ∧ Below Bx wr w' := by
  obtain ⟨hm, s, k, rfl⟩ := h
  refine Calls.mono (seen_of P.dump tab k.here k.hs k.good k.cf k.small k.stack k.gl c.deep bu c.zero c.over k.bound.roots) ?_
  rintro e w' ⟨L, B, cs, vc, vq, vs, vg, hm', rfl, sh⟩
  have hb := sh.turn.off.below k.size k.low
  have hz := sh.turn.off.size
  refine ⟨L, rfl, ⟨B, hm', s, cs, vc, vq, vs, vg, ⟨sh.turn.here, sh.hs, k.good, k.bound, k.cf, k.small, k.gl, fun y hy => ?_, by have := k.size; omega⟩, rfl, sh.apart, sh.high, sh.map, sh.pic⟩, hb⟩
  rcases List.mem_cons.1 hy with e | e
  · exact k.low y (by rw [e]; exact List.mem_cons_self)
  · rcases sh.turn.foot y e with e | e
    · exact k.low y (List.mem_cons_of_mem _ e)
    · have := k.size; omega
theorem pic2_wide {Bx x kg N L : Nat} {c : Cf} {wr : World} (h : Pic2 HS Bx x kg N c L wr) (h1 : 1 ≤ N) :
    Calls Tryd.prog 9 #[.pointer (some ⟨L, 0, none⟩)] wr fun e w' => e = .returned (.bool true) ∧ Pic2 HS Bx x kg N c L w' ∧ Below Bx wr w' := by
  obtain ⟨B, hm, s, cs, vc, vq, vs, vg, k, hg, hap, hB, hp⟩ := h
  refine Calls.mono (pic_wide hp k.good h1 k.small k.stack k.gl) ?_
  rintro e w' ⟨rfl, hb⟩
  exact ⟨rfl, ⟨B, hm, s, cs, vc, vq, vs, vg, k.below hb, hg, hap, by have := hb.size; omega, hp.below hb⟩, hb.mono k.size⟩
theorem pic2_gauged (P : PactsD HS) {Bx x kg N L : Nat} {c : Cf} {wr : World} (h : Pic2 HS Bx x kg N c L wr) (h1 : 1 ≤ N) (bn csz gsz bu : Int) :
    Calls Tryd.prog 10 #[.pointer (some ⟨L, 0, none⟩), .pointer (some ⟨x, 0, none⟩), .agg #[.int .i64 bn, .int .i64 csz, .int .i64 gsz, .int .i64 bu, .int .i64 c.zero, .int .i64 c.over]] wr fun e w' => e = .returned (.bool true) ∧ Pic3 N L w' ∧ Below Bx wr w' := by
  obtain ⟨B, hm, s, cs, vc, vq, vs, vg, k, hg, hap, hB, hp⟩ := h
  refine Calls.mono (pic_gauged P.all.gauge hp hB k.here k.hs hap k.good k.bound k.cf h1 k.small k.stack k.gl bn csz gsz bu) ?_
  rintro e w' ⟨rfl, hm', ht, _, hp'⟩
  exact ⟨rfl, ⟨B, s, cs, vc, vq, vs, vg, hp', k.good, k.stack, k.gl⟩, ht.off.below k.size k.low⟩
theorem pic3_exact {N L : Nat} {wr : World} (h : Pic3 N L wr) (hN : N ≤ 99) (b : Nat) (hb : b < N) :
    Calls Tryd.prog 11 #[.pointer (some ⟨L, 0, none⟩), .int .i64 ((b : Int) + 1)] wr fun e w' => e = .returned (.bool true) ∧ Pic3 N L w' ∧ Below wr.heap.size wr w' := by
  obtain ⟨B, s, cs, vc, vq, vs, vg, hp, g, hs, hg⟩ := h
  refine Calls.mono (pic_exact hp g hN hs hg b hb) ?_
  rintro e w' ⟨rfl, hb⟩
  exact ⟨rfl, ⟨B, s, cs, vc, vq, vs, vg, hp.below hb, g, hs, hg⟩, hb⟩
end

end Go.Proofs.YtpmkjeihbddfpaaDoor

