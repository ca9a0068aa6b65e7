import Derived.Test.YtpmkjeihbddfpabDoorFreedB1
import Derived.Deep.CutRange
/- OUR OWN. A Dump read again: block. -/
namespace Go.Proofs.YtpmkjeihbddfpabDoor
open Go.RowKit
set_option linter.unusedVariables false
set_option linter.unusedSimpArgs false

set_option maxRecDepth 100000 in
set_option maxHeartbeats 1600000 in
theorem block_free (w : World) :
    Calls Tryd.prog 41 #[str [46]] w fun e w' => e = .returned (.tuple #[.agg #[.int .u8 46, .int .i64 0, .slice none 0 0], .bool true]) ∧ Below w.heap.size w w' := by
  unfold str
  go_enter Tryd.func41, Tryd.ntmps41
  go_wp2
  exact bodyPost_ret (v := .tuple #[.agg #[.int .u8 46, .int .i64 0, .slice none 0 0], .bool true]) (by simp [results, Tryd.results41, go_sem]) rfl ⟨rfl, (Below.refl _ _).alloc (Nat.le_refl _) _⟩

/-- the cell while it is read: its box X, its fields' row v, the result's box -/
structure Reading (w wc : World) (X : Nat) (y : UInt8) (n : Int) (v : Value) (vs : List (UInt8 × Int)) : Prop where
  box : wc.heap[X]? = some (.cells #[.int .u8 y.toNat, .int .i64 n, v] 76)
  res : wc.heap[w.heap.size]? = some (.cells #[.int .u8 0, .int .i64 0, .slice none 0 0] 76)
  row : wc.ownsRow (w.heap.size + 1) 95 2 v vs.length (vs.flatMap valC)
  apart : v.ownBlock ≠ some X
  lt : w.heap.size < X
  below : Below w.heap.size w wc

abbrev emptyCell : Obj := .cells #[.int .u8 0, .int .i64 0, .slice none 0 0] 76

theorem read_late {w w1 : World} {y : UInt8} {v : Value} {vs : List (UInt8 × Int)}
    (h : w1.ownsRow (w.alloc emptyCell).drew.heap.size 95 2 v vs.length (vs.flatMap valC) ∧ Below (w.alloc emptyCell).drew.heap.size (w.alloc emptyCell).drew w1) :
    Reading w (w1.alloc (.cells #[.int .u8 y.toNat, .int .i64 0, v] 76)) w1.heap.size y 0 v vs := by
  obtain ⟨hr, hb⟩ := h
  have hsz : (w.alloc emptyCell).drew.heap.size = w.heap.size + 1 := by simp
  rw [hsz] at hr hb
  have hle : w.heap.size + 1 ≤ w1.heap.size := by have := hb.size; rw [hsz] at this; exact this
  refine ⟨heap_alloc_new _ _, ?_, hr.alloc _, fun e => ?_, by omega, ?_⟩
  · rw [hao (by omega), hb.block _ (by omega)]
    exact heap_alloc_new w emptyCell
  · have := (own_lt hr e).2
    omega
  · refine Below.alloc ?_ (by omega) _
    exact ((Below.refl _ w).alloc (Nat.le_refl _) _).drew.trans (hb.mono (by omega))

theorem read_early {w w1 : World} {y : UInt8} {v : Value} {vs : List (UInt8 × Int)}
    (h : w1.ownsRow ((w.alloc emptyCell).alloc emptyCell).drew.heap.size 95 2 v vs.length (vs.flatMap valC) ∧ Below ((w.alloc emptyCell).alloc emptyCell).drew.heap.size ((w.alloc emptyCell).alloc emptyCell).drew w1) :
    Reading w (((w1.setCell ⟨w.heap.size + 1, 0, none⟩ (.int .u8 y.toNat)).setCell ⟨w.heap.size + 1, 1, none⟩ (.int .i64 0)).setCell ⟨w.heap.size + 1, 2, none⟩ v) (w.heap.size + 1) y 0 v vs := by
  obtain ⟨hr, hb⟩ := h
  have hsz : ((w.alloc emptyCell).alloc emptyCell).drew.heap.size = w.heap.size + 2 := by simp
  have hs1 : (w.alloc emptyCell).heap.size = w.heap.size + 1 := by simp
  rw [hsz] at hr hb
  have hx : w1.heap[w.heap.size + 1]? = some emptyCell := by
    rw [hb.block _ (by omega)]
    have h9 := heap_alloc_new (w.alloc emptyCell) emptyCell
    rw [hs1] at h9
    exact h9
  have h0 := heap_setCell_at (i := 0) hx (.int .u8 y.toNat)
  have h1 := heap_setCell_at (i := 1) h0 (.int .i64 0)
  have h2 := heap_setCell_at (i := 2) h1 v
  refine ⟨h2, ?_, ?_, fun e => ?_, by omega, ?_⟩
  · rw [hso (by omega), hso (by omega), hso (by omega), hb.block _ (by omega)]
    show ((w.alloc emptyCell).alloc emptyCell).heap[w.heap.size]? = _
    rw [hao (by omega)]
    exact heap_alloc_new w emptyCell
  · exact own_base (ownsRow_setCell_below (ownsRow_setCell_below (ownsRow_setCell_below hr (by show _ + 1 < _; omega) _) (by show _ + 1 < _; omega) _) (by show _ + 1 < _; omega) _) (by omega)
  · have := (own_lt hr e).1
    omega
  · refine Below.setCell (Below.setCell (Below.setCell ?_ (by show _ ≤ _ + 1; omega) _) (by show _ ≤ _ + 1; omega) _) (by show _ ≤ _ + 1; omega) _
    exact (((Below.refl _ w).alloc (Nat.le_refl _) emptyCell).alloc (by omega) emptyCell).drew.trans (hb.mono (by omega))

theorem Reading.drew {w wc : World} {X : Nat} {y : UInt8} {n : Int} {v : Value} {vs : List (UInt8 × Int)} (h : Reading w wc X y n v vs) : Reading w wc.drew X y n v vs := ⟨h.box, h.res, h.row.drew, h.apart, h.lt, h.below.drew⟩
theorem Reading.put {w wc : World} {X : Nat} {y : UInt8} {n : Int} {v : Value} {vs : List (UInt8 × Int)} (h : Reading w wc X y n v vs) (u : Int) : Reading w (wc.setCell ⟨X, 1, none⟩ (.int .i64 u)) X y u v vs := by
  have hlt := h.lt
  refine ⟨heap_setCell_at (i := 1) h.box _, ?_, ?_, h.apart, h.lt, h.below.setCell (by show _ ≤ X; omega) _⟩
  · rw [hso (by omega)]; exact h.res
  · exact own_carry h.row fun g hg => hso (fun e => h.apart (by rw [hg, e]))
theorem Reading.fin {w wc : World} {X : Nat} {y : UInt8} {n : Int} {v : Value} {vs : List (UInt8 × Int)} (h : Reading w wc X y n v vs) (a b c : Value) :
    (((wc.setCell ⟨w.heap.size, 0, none⟩ a).setCell ⟨w.heap.size, 1, none⟩ b).setCell ⟨w.heap.size, 2, none⟩ c).ownsRow w.heap.size 95 2 v vs.length (vs.flatMap valC) ∧ Below w.heap.size w (((wc.setCell ⟨w.heap.size, 0, none⟩ a).setCell ⟨w.heap.size, 1, none⟩ b).setCell ⟨w.heap.size, 2, none⟩ c) := by
  refine ⟨?_, Below.setCell (Below.setCell (Below.setCell h.below (Nat.le_refl _) _) (Nat.le_refl _) _) (Nat.le_refl _) _⟩
  exact own_base (ownsRow_setCell_below (ownsRow_setCell_below (ownsRow_setCell_below h.row (Nat.lt_succ_self w.heap.size) _) (Nat.lt_succ_self w.heap.size) _) (Nat.lt_succ_self w.heap.size) _) (by omega)
theorem Reading.out {w wc : World} {X : Nat} {y : UInt8} {n : Int} {v : Value} {vs : List (UInt8 × Int)} (h : Reading w wc X y n v vs) (a b c : Value) :
    (((wc.setCell ⟨w.heap.size, 0, none⟩ a).setCell ⟨w.heap.size, 1, none⟩ b).setCell ⟨w.heap.size, 2, none⟩ c).heap[w.heap.size]? = some (.cells #[a, b, c] 76) := by
  have h0 := heap_setCell_at (i := 0) h.res a
  have h1 := heap_setCell_at (i := 1) h0 b
  have h2 := heap_setCell_at (i := 2) h1 c
  exact h2

set_option maxRecDepth 100000 in
set_option maxHeartbeats 1600000 in
theorem block_core (y : UInt8) (tl fl : Nat) (sm : Int) (S : ByteArray) (vs : List (UInt8 × Int)) (hsz : S.size = tl + fl + 3) (htl : tl ≤ 12) (hfl : fl ≤ 1000) (hne : (S.toList == [46]) = false)
    (k0 : S[0]'(by omega) = y) (kp : S[tl + 1]'(by omega) = 91) (kl : S[tl + fl + 2]'(by omega) = 93) (nb : ∀ k (hk : k < S.size), k < tl + 1 → ((S[k]).toNat : Int) ≠ 91)
    (va : ∀ W, Calls Tryd.prog 40 #[.string (S.extract (tl + 2) (tl + fl + 2))] W fun e w' => ∃ v, e = .returned v ∧ w'.ownsRow W.heap.size 95 2 v vs.length (vs.flatMap valC) ∧ Below W.heap.size W w')
    (sa : ∀ W, Calls Tryd.prog 66 #[.string (S.extract 1 (tl + 1))] W fun e w' => e = .returned (.int .i64 sm) ∧ w' = W) (h0 : y = 115 → tl = 0) (hy : y = 113 ∨ y = 119 ∨ y = 104 ∨ y = 115) (hsm : ¬ y = 115 → 0 ≤ sm) (w : World) :
    Calls Tryd.prog 41 #[.string S] w fun e w' => ∃ v, e = .returned (.tuple #[.agg #[.int .u8 y.toNat, .int .i64 (if y = 115 then 0 else sm), v], .bool true]) ∧ w'.ownsRow w.heap.size 95 2 v vs.length (vs.flatMap valC) ∧ Below w.heap.size w w' := by
  have NB : Hid _ := nb
  have VA : Hid _ := va
  have SM : Hid _ := sa
  clear nb va sa
  have hk0 : 0 < S.size := by omega
  have hkp : tl + 1 < S.size := by omega
  have hkl : tl + fl + 2 < S.size := by omega
  go_enter Tryd.func41, Tryd.ntmps41
  go_wp2
  go_loop [5] (fun i => ∃ k : Nat, k ≤ tl + 1 ∧ i = .int .i64 k) (fun i => tl + 1 - (intOf i).toNat)
  case atStart => exact ⟨0, Nat.zero_le _, rfl⟩
  case round =>
    obtain ⟨k, hk, rfl⟩ := hrel
    by_cases hlt : k < tl + 1
    · have hks : k < S.size := by omega
      have hnb : ((S[k].toNat : Int) == 91) = false := by have := NB.out k hks hlt; simpa using this
      have hkI : (k : Int) < (tl : Int) + fl + 3 := by omega
      go_wp2
      go_round
      case rel => exact ⟨k + 1, by omega, by go_num⟩
      case measure => simp [intOf]; omega
    · obtain rfl : k = tl + 1 := by omega
      clear hlt NB
      have h1 : ¬ ((tl : Int) + 1 < 1) := by omega
      have h2 : ¬ ((tl : Int) + fl + 3 ≤ (tl : Int) + 2) := by omega
      have hn1 : ((tl : Int) + 2).toNat = tl + 2 := by omega
      have hn2 : ((tl : Int) + fl + 2).toNat = tl + fl + 2 := by omega
      have sl : ∀ W, (Instr.slice 9 (.string S) (some (.int .i64 ((tl : Int) + 2))) (some (.int .i64 ((tl : Int) + fl + 2))) none).run Tryd.prog W = .ok (.string (S.extract (tl + 2) (tl + fl + 2))) W := fun W => by
        rw [run_slice_string W 9 S .i64 .i64 _ _ Tryd.underlying9 (by omega) (by omega) (by rw [hsz]; omega), hn1, hn2]
      have hI3 : IntKind.i64.wrap ((tl : Int) + 1 + 1) = (tl : Int) + 2 := by rw [wrapS (by omega) (by omega)]; omega
      have hI4 : IntKind.i64.wrap ((tl : Int) + fl + 3 - 1) = (tl : Int) + fl + 2 := by rw [wrapS (by omega) (by omega)]; omega
      have sl2 : ∀ W, (Instr.slice 9 (.string S) (some (.int .i64 (IntKind.i64.wrap ((tl : Int) + 1 + 1)))) (some (.int .i64 (IntKind.i64.wrap ((tl : Int) + fl + 3 - 1)))) none).run Tryd.prog W = .ok (.string (S.extract (tl + 2) (tl + fl + 2))) W := fun W => by
        rw [hI3, hI4]; exact sl W
      have sl3 : ∀ W, (Instr.slice 9 (.string S) (some (.int .i64 ((tl : Int) + 1 + 1))) (some (.int .i64 ((tl : Int) + fl + 3 - 1))) none).run Tryd.prog W = .ok (.string (S.extract (tl + 2) (tl + fl + 2))) W := fun W => by
        rw [show (tl : Int) + 1 + 1 = (tl : Int) + 2 by omega, show (tl : Int) + fl + 3 - 1 = (tl : Int) + fl + 2 by omega]; exact sl W
      clear hn1 hn2
      go_wp2_with fail
      go_cut [6] from 40 to 49 (fun p wc => ∃ X v, p = .pointer (some ⟨X, 0, none⟩) ∧ Reading w wc X y 0 v vs)
      case first =>
        go_region_with (go_at_call 40; refine Calls.mono (VA.out _) ?_; rintro e w1 ⟨v, rfl, hrow, hb⟩; obtain ⟨fo, fc, hv⟩ := own_slice (own_base hrow (Nat.zero_le _)); subst hv; have HB : Hid _ := And.intro hrow hb; first | (have hx : w1.heap[w.heap.size + 1]? = some (.cells #[.int .u8 0, .int .i64 0, .slice none 0 0] 76) := (by rw [hb.block _ (by simp)]; have h9 := heap_alloc_new (w.alloc (.cells #[.int .u8 0, .int .i64 0, .slice none 0 0] 76)) (.cells #[.int .u8 0, .int .i64 0, .slice none 0 0] 76); rw [show (w.alloc (.cells #[.int .u8 0, .int .i64 0, .slice none 0 0] 76)).heap.size = w.heap.size + 1 by simp] at h9; exact h9); have z0 := cell_of_heap (i := 0) hx rfl; have z1 := cell_of_heap (i := 1) hx rfl; have z2 := cell_of_heap (i := 2) hx rfl; have y0 := frozen_of_heap (i := 0) hx; have y1 := frozen_of_heap (i := 1) hx; have y2 := frozen_of_heap (i := 2) hx; clear hx hrow hb) | clear hrow hb)
        all_goals go_wp2_with fail
        all_goals go_meet
        all_goals first | exact ⟨_, _, rfl, read_late HB.out⟩ | exact ⟨_, _, rfl, read_early HB.out⟩
      case rest =>
        obtain ⟨X, v, rfl, RD⟩ := hcut
        obtain ⟨fo, fc, rfl⟩ := own_slice (own_base RD.row (Nat.zero_le _))
        have r0 := cell_of_heap (i := 0) RD.box rfl
        have r1 := cell_of_heap (i := 1) RD.box rfl
        have r2 := cell_of_heap (i := 2) RD.box rfl
        have rf0 := frozen_of_heap (i := 0) RD.box
        have rf1 := frozen_of_heap (i := 1) RD.box
        have rf2 := frozen_of_heap (i := 2) RD.box
        have s0 := cell_of_heap (i := 0) RD.res rfl
        have s1 := cell_of_heap (i := 1) RD.res rfl
        have s2 := cell_of_heap (i := 2) RD.res rfl
        have sf0 := frozen_of_heap (i := 0) RD.res
        have sf1 := frozen_of_heap (i := 1) RD.res
        have sf2 := frozen_of_heap (i := 2) RD.res
        have hXne : X ≠ w.heap.size := by have := RD.lt; omega
        by_cases hy5 : y = 115
        · subst hy5
          obtain rfl := h0 rfl
          have RR : Hid _ := RD
          clear RD
          go_wp2_with fail
          exact bodyPost_ret (v := .tuple #[.agg #[.int .u8 115, .int .i64 0, .slice fo vs.length fc], .bool true]) (by have hF := RR.out.out (.int .u8 115) (.int .i64 0) (.slice fo vs.length fc); simp [results, Tryd.results41, go_sem, cell_of_heap (i := 0) hF rfl, cell_of_heap (i := 1) hF rfl, cell_of_heap (i := 2) hF rfl]) rfl ⟨_, rfl, RR.out.fin _ _ _⟩
        · have hyn : ((y.toNat : Int) == 115) = false := by
            have : y.toNat ≠ 115 := fun e => hy5 (UInt8.toNat_inj.1 (by rw [e]; rfl))
            have h' : (y.toNat : Int) ≠ 115 := by omega
            simpa using h'
          have hs0 : 0 ≤ sm := hsm hy5
          have hs1 : ¬ sm < 0 := by omega
          have RR : Hid _ := RD
          clear RD h0 hsm hy5
          rcases hy with e | e | e | e
          · subst e
            go_wp2_with fail
            refine Calls.mono (SM.out _) ?_
            rintro e w2 ⟨rfl, rfl⟩
            go_wp2_with fail
            go_region_with fail
            all_goals go_wp2_with fail
            all_goals
              have hF := (RR.out.put sm).out (.int .u8 113) (.int .i64 sm) (.slice fo vs.length fc)
              have hD := (RR.out.put sm).fin (.int .u8 113) (.int .i64 sm) (.slice fo vs.length fc)
              obtain ⟨W, hW⟩ : ∃ W, ((((w2.setCell ⟨X, 1, none⟩ (.int .i64 sm)).setCell ⟨w.heap.size, 0, none⟩ (.int .u8 113)).setCell ⟨w.heap.size, 1, none⟩ (.int .i64 sm)).setCell ⟨w.heap.size, 2, none⟩ (.slice fo vs.length fc)) = W := ⟨_, rfl⟩
              rw [hW] at hF hD ⊢
              have f0 := cell_of_heap (i := 0) hF rfl
              have f1 := cell_of_heap (i := 1) hF rfl
              have f2 := cell_of_heap (i := 2) hF rfl
              exact bodyPost_ret (v := .tuple #[.agg #[.int .u8 113, .int .i64 sm, .slice fo vs.length fc], .bool true]) (by simp [results, Tryd.results41, go_sem, f0, f1, f2]) rfl ⟨_, rfl, hD.1.drew, hD.2.drew⟩
          · subst e
            go_wp2_with fail
            refine Calls.mono (SM.out _) ?_
            rintro e w2 ⟨rfl, rfl⟩
            go_wp2_with fail
            go_region_with fail
            all_goals go_wp2_with fail
            all_goals
              have hF := (RR.out.put sm).out (.int .u8 119) (.int .i64 sm) (.slice fo vs.length fc)
              have hD := (RR.out.put sm).fin (.int .u8 119) (.int .i64 sm) (.slice fo vs.length fc)
              obtain ⟨W, hW⟩ : ∃ W, ((((w2.setCell ⟨X, 1, none⟩ (.int .i64 sm)).setCell ⟨w.heap.size, 0, none⟩ (.int .u8 119)).setCell ⟨w.heap.size, 1, none⟩ (.int .i64 sm)).setCell ⟨w.heap.size, 2, none⟩ (.slice fo vs.length fc)) = W := ⟨_, rfl⟩
              rw [hW] at hF hD ⊢
              have f0 := cell_of_heap (i := 0) hF rfl
              have f1 := cell_of_heap (i := 1) hF rfl
              have f2 := cell_of_heap (i := 2) hF rfl
              exact bodyPost_ret (v := .tuple #[.agg #[.int .u8 119, .int .i64 sm, .slice fo vs.length fc], .bool true]) (by simp [results, Tryd.results41, go_sem, f0, f1, f2]) rfl ⟨_, rfl, hD.1.drew, hD.2.drew⟩
          · subst e
            go_wp2_with fail
            refine Calls.mono (SM.out _) ?_
            rintro e w2 ⟨rfl, rfl⟩
            go_wp2_with fail
            go_region_with fail
            all_goals go_wp2_with fail
            all_goals
              have hF := (RR.out.put sm).out (.int .u8 104) (.int .i64 sm) (.slice fo vs.length fc)
              have hD := (RR.out.put sm).fin (.int .u8 104) (.int .i64 sm) (.slice fo vs.length fc)
              obtain ⟨W, hW⟩ : ∃ W, ((((w2.setCell ⟨X, 1, none⟩ (.int .i64 sm)).setCell ⟨w.heap.size, 0, none⟩ (.int .u8 104)).setCell ⟨w.heap.size, 1, none⟩ (.int .i64 sm)).setCell ⟨w.heap.size, 2, none⟩ (.slice fo vs.length fc)) = W := ⟨_, rfl⟩
              rw [hW] at hF hD ⊢
              have f0 := cell_of_heap (i := 0) hF rfl
              have f1 := cell_of_heap (i := 1) hF rfl
              have f2 := cell_of_heap (i := 2) hF rfl
              exact bodyPost_ret (v := .tuple #[.agg #[.int .u8 104, .int .i64 sm, .slice fo vs.length fc], .bool true]) (by simp [results, Tryd.results41, go_sem, f0, f1, f2]) rfl ⟨_, rfl, hD.1.drew, hD.2.drew⟩
          · subst e; simp at hyn

set_option maxRecDepth 100000 in
set_option maxHeartbeats 1600000 in
theorem block_obj (y : UInt8) (t f : List UInt8) (hy : y = 113 ∨ y = 119 ∨ y = 104 ∨ (y = 115 ∧ t = [])) (ht : ∀ x ∈ t, x ≠ 91) (htl : t.length ≤ 12) (hsm : ¬ y = 115 → 0 ≤ smallL t) (hfl : f.length ≤ 1000) (hp : ∀ u ∈ splitL 44 f, u.length ≤ 1000 ∧ (u.getD 0 0 = 35 → u.length ≤ 12)) (w : World) :
    Calls Tryd.prog 41 #[str (y :: (t ++ 91 :: (f ++ [93])))] w fun e w' => ∃ v, e = .returned (.tuple #[.agg #[.int .u8 y.toNat, .int .i64 (if y = 115 then 0 else smallL t), v], .bool true]) ∧ w'.ownsRow w.heap.size 95 2 v (valuesL f).length ((valuesL f).flatMap valC) ∧ Below w.heap.size w w' := by
  obtain ⟨L, hL⟩ : ∃ L, y :: (t ++ 91 :: (f ++ [93])) = L := ⟨_, rfl⟩
  rw [hL]
  obtain ⟨S, hS⟩ : ∃ S : ByteArray, ⟨L.toArray⟩ = S := ⟨_, rfl⟩
  have hsz := ba_size hS
  have hstr : str L = .string S := by unfold str; rw [hS]
  rw [hstr]
  have hlen : L.length = t.length + f.length + 3 := by rw [← hL]; simp; omega
  have hne : (S.toList == [46]) = false := by
    rw [ba_toList hS, ← hL]
    simp
  have G : ∀ k (hk : k < S.size), S[k] = L[k]'(by omega) := fun k hk => ba_get hS k (by omega) hk
  have g0 : ∀ hk, S[0]'hk = y := fun hk => by rw [G 0 hk]; subst hL; rfl
  have NB : Hid (∀ k (hk : k < S.size), k < t.length + 1 → ((S[k]).toNat : Int) ≠ 91) := fun k hk hkt => by
    rw [G k hk]
    have hne91 : L[k]'(by omega) ≠ 91 := by
      subst hL
      cases k with
      | zero => rcases hy with e | e | e | ⟨e, _⟩ <;> simp [e]
      | succ k =>
        have : (y :: (t ++ 91 :: (f ++ [93])))[k + 1]'(by omega) = t[k]'(by omega) := by
          simp [List.getElem_append_left (show k < t.length by omega)]
        rw [this]
        exact ht _ (List.getElem_mem _)
    intro e
    exact hne91 (UInt8.toNat_inj.1 (by have : (L[k]'(by omega)).toNat = 91 := by omega
                                       rw [this]; rfl))
  have gp : ∀ hk, S[t.length + 1]'hk = 91 := fun hk => by
    rw [G _ hk]; subst hL
    simp
  have gl : ∀ hk, S[t.length + f.length + 2]'hk = 93 := fun hk => by
    rw [G _ hk]; subst hL
    have e : y :: (t ++ 91 :: (f ++ [93])) = (y :: (t ++ 91 :: f)) ++ [93] := by simp
    simp only [e]
    rw [List.getElem_append_right (by simp; omega)]
    simp
  have hxf : S.extract (t.length + 2) (t.length + f.length + 2) = ⟨f.toArray⟩ := by
    rw [ba_extract hS]
    congr 2
    subst hL
    have e : y :: (t ++ 91 :: (f ++ [93])) = ((y :: (t ++ [91])) ++ f) ++ [93] := by simp
    rw [e, List.take_append_of_le_length (by simp; omega), List.take_of_length_le (by simp; omega), List.drop_append_of_le_length (by simp), List.drop_of_length_le (by simp)]
    rfl
  have hxt : S.extract 1 (t.length + 1) = ⟨t.toArray⟩ := by
    rw [ba_extract hS]
    congr 2
    subst hL
    have e : y :: (t ++ 91 :: (f ++ [93])) = (y :: t) ++ (91 :: (f ++ [93])) := by simp
    rw [e, List.take_append_of_le_length (by simp), List.take_of_length_le (by simp)]
    rfl
  have VA : Hid (∀ W, Calls Tryd.prog 40 #[.string (S.extract (t.length + 2) (t.length + f.length + 2))] W fun e w' => ∃ v, e = .returned v ∧ w'.ownsRow W.heap.size 95 2 v (valuesL f).length ((valuesL f).flatMap valC) ∧ Below W.heap.size W w') := fun W => by
    rw [hxf]; exact values_any f (by omega) hp W
  have SM : Hid (∀ W, Calls Tryd.prog 66 #[.string (S.extract 1 (t.length + 1))] W fun e w' => e = .returned (.int .i64 (smallL t)) ∧ w' = W) := fun W => by
    rw [hxt]; exact small_any t htl W
  refine block_core y t.length f.length (smallL t) S (valuesL f) (by rw [hsz, hlen]) htl hfl hne (g0 _) (gp _) (gl _) NB.out VA.out SM.out (fun e => ?_) ?_ hsm w
  · rcases hy with h | h | h | ⟨_, h⟩
    · rw [h] at e; cases e
    · rw [h] at e; cases e
    · rw [h] at e; cases e
    · rw [h]; rfl
  · rcases hy with h | h | h | ⟨h, _⟩
    · exact .inl h
    · exact .inr (.inl h)
    · exact .inr (.inr (.inl h))
    · exact .inr (.inr (.inr h))

end Go.Proofs.YtpmkjeihbddfpabDoor

/- OUR OWN. A Dump read again: the record of a block of a state. -/
namespace Go.Proofs.YtpmkjeihbddfpabDoor
open Go.RowKit
set_option linter.unusedVariables false
set_option linter.unusedSimpArgs false

theorem digits_three (n : Nat) (hn : n ≤ 999) : (digits n).length ≤ 3 := by
  have h := small_digits n hn
  unfold smallL at h
  split at h
  · rename_i e
    simp only [Bool.and_eq_true, decide_eq_true_eq] at e
    exact e.2.2
  · omega
theorem split_parts {l : List (Int × Int)} (h : ∀ v ∈ l, v.1 = 0 ∨ v.1 = 1 ∨ (v.1 = 2 ∧ ∃ i : Nat, v.2 = i ∧ i ≤ 999)) :
    ∀ u ∈ splitL 44 (listL l), u.length ≤ 1000 ∧ (u.getD 0 0 = 35 → u.length ≤ 12) := by
  intro u hu
  rw [list_join] at hu
  by_cases hl : l = []
  · subst hl
    have : u = [] := by simpa [joinL, splitL, splitGo] using hu
    subst this
    simp
  · have h1 : l.map writtenL ≠ [] := by simpa using hl
    rw [split_join _ h1 fun a ha => by obtain ⟨v, _, rfl⟩ := List.mem_map.1 ha; exact written_no 44 (by simp)] at hu
    obtain ⟨v, hv, rfl⟩ := List.mem_map.1 hu
    have h22 := written_len v
    refine ⟨by omega, fun e => ?_⟩
    rcases h v hv with e0 | e1 | ⟨e2, i, hi, hin⟩
    · unfold writtenL; rw [if_pos e0]; simp
    · exfalso
      unfold writtenL at e
      rw [if_neg (by omega), if_pos e1] at e
      have hne := digits_ne v.2
      obtain ⟨x, xs, hx⟩ := List.exists_cons_of_ne_nil hne
      rw [hx] at e
      have hb := digits_bytes v.2 x (by rw [hx]; simp)
      have hx35 : x = 35 := by simpa using e
      rw [hx35] at hb
      rcases hb with hb | hb
      · cases hb
      · revert hb; decide
    · unfold writtenL
      rw [if_neg (by omega), if_neg (by omega), hi]
      have := digits_three i hin
      simp only [List.length_cons]
      omega
theorem queue_parts {s : St} {N : Nat} (g : s.Good N) (hN : N ≤ 99) : ∀ t ∈ splitL 44 (queueN s.queue s.queue.length), t.length ≤ 12 := by
  intro t ht
  rw [queue_join] at ht
  by_cases hl : s.queue = []
  · rw [hl] at ht
    have : t = [] := by simpa [joinL, splitL, splitGo] using ht
    subst this
    simp
  · have h1 : s.queue.map digits ≠ [] := by simpa using hl
    rw [split_join _ h1 fun a ha => by obtain ⟨v, _, rfl⟩ := List.mem_map.1 ha; exact digits_no _ 44 (by simp)] at ht
    obtain ⟨b, hb, rfl⟩ := List.mem_map.1 ht
    have h0 := g.nat b hb
    have hq := (g.inq b.toNat).1 (by rw [Int.toNat_of_nonneg h0]; exact hb)
    have hh : (s.ob b.toNat).here = true := by
      cases e : (s.ob b.toNat).here with
      | true => rfl
      | false => rw [g.gone _ e] at hq; cases hq
    have := g.ne_zero hh
    have h3 := digits_three b.toNat (by omega)
    rw [Int.toNat_of_nonneg h0] at h3
    omega

def cellV (c : Cell) (v : Value) : Value := .agg #[.int .u8 c.letter.toNat, .int .i64 c.count, v]
theorem block_of {s : St} {N : Nat} (g : s.Good N) (hN : N ≤ 99) (i : Nat) (w : World) :
    Calls Tryd.prog 41 #[str (bodyL s i)] w fun e w' => ∃ v, e = .returned (.tuple #[cellV (cellOf s i) v, .bool true]) ∧ w'.ownsRow w.heap.size 95 2 v (cellOf s i).fields.length ((cellOf s i).fields.flatMap valC) ∧ Below w.heap.size w w' := by
  have hf := values_fields g hN i
  have hc := g.count_le (i : Int)
  have hsm := small_digits (s.count i) (by omega)
  have hd := digits_no (s.count i) 91 (by simp)
  have h3 := digits_three (s.count i) (by omega)
  have hfl : (listL (s.ob i).fs).length ≤ 1000 := by have := list_len (s.ob i).fs; have := g.four i; omega
  have hp := split_parts (l := (s.ob i).fs) fun v hv => g.readable hN (g.fields i v hv)
  unfold bodyL cellOf
  by_cases hh : (s.ob i).here = true
  · rw [if_pos hh, if_pos hh]
    have key : ∀ y : UInt8, y = 113 ∨ y = 119 ∨ y = 104 → Calls Tryd.prog 41 #[str ((y :: digits (s.count i)) ++ 91 :: (listL (s.ob i).fs ++ [93]))] w fun e w' => ∃ v, e = .returned (.tuple #[cellV ⟨y, s.count i, (s.ob i).fs.map absV⟩ v, .bool true]) ∧ w'.ownsRow w.heap.size 95 2 v ((s.ob i).fs.map absV).length (((s.ob i).fs.map absV).flatMap valC) ∧ Below w.heap.size w w' := fun y hy => by
      have hy5 : ¬ y = 115 := by rcases hy with e | e | e <;> rw [e] <;> decide
      have h := block_obj y (digits (s.count i)) (listL (s.ob i).fs) (by rcases hy with e | e | e <;> simp [e]) hd (by omega) (fun _ => by rw [hsm]; omega) hfl hp w
      rw [hf, hsm, if_neg hy5] at h
      exact h
    unfold letterL
    by_cases hq : (s.ob i).queued = true
    · rw [if_pos hq, if_pos hq]; exact key 113 (.inl rfl)
    rw [if_neg hq, if_neg hq]
    by_cases hs : (s.ob i).stuck = true
    · rw [if_pos hs, if_pos hs]
      have h := block_obj 115 [] (listL (s.ob i).fs) (by simp) (by simp) (by simp) (fun e => absurd rfl e) hfl hp w
      rw [hf, if_pos rfl] at h
      exact h
    rw [if_neg hs, if_neg hs]
    by_cases hw : s.waits i = true
    · rw [if_pos hw, if_pos hw]; exact key 119 (.inr (.inl rfl))
    · rw [if_neg hw, if_neg hw]; exact key 104 (.inr (.inr rfl))
  · rw [if_neg hh, if_neg hh]
    refine Calls.mono (block_free w) ?_
    rintro e w' ⟨rfl, hb⟩
    exact ⟨_, rfl, World.ownsRow_nil _ _ _ _, hb⟩

end Go.Proofs.YtpmkjeihbddfpabDoor

/- OUR OWN. A Dump read again: the picture of a heap. -/
namespace Go.Proofs.YtpmkjeihbddfpabDoor
open Go.RowKit
set_option linter.unusedVariables false
set_option linter.unusedSimpArgs false

def cellC (x : Cell × Value) : List Value := [.int .u8 x.1.letter.toNat, .int .i64 x.1.count, x.2]
/-- the picture at L, of the cells cs (with their fields' rows), the queue q, the stack st, the globals gl; its rows lie from B on -/
structure PicAt (w : World) (B L : Nat) (cs : List (Cell × Value)) (q st gl : List (UInt8 × Int)) (vc vq vs vg : Value) : Prop where
  box : w.heap[L]? = some (.cells #[vc, vq, vs, vg] 74)
  cells : w.ownsRow B 76 3 vc cs.length (cs.flatMap cellC)
  fields : ∀ x ∈ cs, w.ownsRow B 95 2 x.2 x.1.fields.length (x.1.fields.flatMap valC)
  queue : w.ownsRow B 95 2 vq q.length (q.flatMap valC)
  stack : w.ownsRow B 95 2 vs st.length (st.flatMap valC)
  globals : w.ownsRow B 95 2 vg gl.length (gl.flatMap valC)
  le : B ≤ L
theorem PicAt.drew {w : World} {B L : Nat} {cs : List (Cell × Value)} {q st gl : List (UInt8 × Int)} {vc vq vs vg : Value} (h : PicAt w B L cs q st gl vc vq vs vg) : PicAt w.drew B L cs q st gl vc vq vs vg :=
  ⟨h.box, h.cells.drew, fun x hx => (h.fields x hx).drew, h.queue.drew, h.stack.drew, h.globals.drew, h.le⟩
theorem PicAt.below {w w' : World} {B L : Nat} {cs : List (Cell × Value)} {q st gl : List (UInt8 × Int)} {vc vq vs vg : Value} (h : PicAt w B L cs q st gl vc vq vs vg) (hb : Below w.heap.size w w') : PicAt w' B L cs q st gl vc vq vs vg := by
  have k : ∀ {e sz v n xs}, w.ownsRow B e sz v n xs → w'.ownsRow B e sz v n xs := fun r => own_carry r fun g hg => hb.block g (own_lt r hg).2
  exact ⟨(hb.block _ (lt_of_heap h.box)).trans h.box, k h.cells, fun x hx => k (h.fields x hx), k h.queue, k h.stack, k h.globals, h.le⟩

/-- blocks of rows of different types are not the same -/
theorem rows_apart {w : World} {B B' : Nat} {e e' : TypeId} {sz sz' : Nat} {v v' : Value} {n n' : Nat} {xs xs' : List Value} (h : w.ownsRow B e sz v n xs) (h' : w.ownsRow B' e' sz' v' n' xs') (he : e ≠ e') {g : Nat} (hg : v.ownBlock = some g) : v'.ownBlock ≠ some g := fun hg' => by
  obtain ⟨c, fz, hc⟩ := Go.Lib.ownsRow_kind h g hg
  obtain ⟨c', fz', hc'⟩ := Go.Lib.ownsRow_kind h' g hg'
  rw [hc] at hc'
  simp at hc'
  exact he hc'.2.1
theorem row_box {w : World} {B : Nat} {e e' : TypeId} {sz : Nat} {v : Value} {n : Nat} {xs : List Value} {L : Nat} {cs : Array Value} (h : w.ownsRow B e sz v n xs) (h' : w.heap[L]? = some (.cells cs e')) (he : e ≠ e') : v.ownBlock ≠ some L := fun hg => by
  obtain ⟨c, fz, hc⟩ := Go.Lib.ownsRow_kind h L hg
  rw [hc] at h'
  simp at h'
  exact he h'.2.1

/-- the picture while it is made: k records are read -/
structure Look (w1 wr : World) (bs : List (List UInt8)) (cells : List Cell) (k L : Nat) (cs : List (Cell × Value)) (q st gl : List (UInt8 × Int)) (vc vq vs vg vr : Value) : Prop where
  pic : PicAt wr w1.heap.size L cs q st gl vc vq vs vg
  recs : wr.ownsRow w1.heap.size 9 1 vr (bs.length + 1) ((bs ++ [[]]).map str)
  map : cs.map Prod.fst = cells.take k
  below : Below w1.heap.size w1 wr
theorem Look.on {w1 wr w' : World} {bs : List (List UInt8)} {cells : List Cell} {k L : Nat} {cs : List (Cell × Value)} {q st gl : List (UInt8 × Int)} {vc vq vs vg vr : Value} (h : Look w1 wr bs cells k L cs q st gl vc vq vs vg vr) (hb : Below wr.heap.size wr w') : Look w1 w' bs cells k L cs q st gl vc vq vs vg vr :=
  ⟨h.pic.below hb, own_carry h.recs fun g hg => hb.block g (own_lt h.recs hg).2, h.map, h.below.trans (hb.mono h.below.size)⟩
theorem Look.add {w1 w2 w3 : World} {bs : List (List UInt8)} {cells : List Cell} {k L : Nat} {cs : List (Cell × Value)} {q st gl : List (UInt8 × Int)} {vc vq vs vg vr v vc' : Value} (h : Look w1 w2 bs cells k L cs q st gl vc vq vs vg vr) (hk : k < cells.length)
    (hv : w2.ownsRow w1.heap.size 95 2 v cells[k].fields.length (cells[k].fields.flatMap valC))
    (hgr : w2.grownBy w3 vc.ownBlock) (hown : w3.ownsRow w1.heap.size 76 3 vc' (k + 1) (cs.flatMap cellC ++ cellC (cells[k], v))) :
    Look w1 (w3.setCell ⟨L, 0, none⟩ vc') bs cells (k + 1) L (cs ++ [(cells[k], v)]) q st gl vc' vq vs vg vr := by
  have O := off_grown hgr
  have hLb : w3.heap[L]? = w2.heap[L]? := O.block L (lt_of_heap h.pic.box) (fun hm => by
    have : vc.ownBlock = some L := by
      cases e : vc.ownBlock with
      | none => rw [e] at hm; simp at hm
      | some y => rw [e] at hm; simp at hm; rw [hm]
    exact row_box h.pic.cells h.pic.box (by decide) this)
  have hbox3 : w3.heap[L]? = some (.cells #[vc, vq, vs, vg] 74) := hLb.trans h.pic.box
  -- a row of another type goes on
  have keep : ∀ {e : TypeId} {sz : Nat} {u : Value} {n : Nat} {xs : List Value}, w2.ownsRow w1.heap.size e sz u n xs → e ≠ 76 → e ≠ 74 → (w3.setCell ⟨L, 0, none⟩ vc').ownsRow w1.heap.size e sz u n xs := fun r he he' => by
    refine own_carry r fun g hg => ?_
    rw [hso (fun e => row_box r h.pic.box he' (by rw [hg, e]))]
    refine O.block g (own_lt r hg).2 fun hm => ?_
    have : vc.ownBlock = some g := by
      cases e : vc.ownBlock with
      | none => rw [e] at hm; simp at hm
      | some y => rw [e] at hm; simp at hm; rw [hm]
    exact rows_apart r h.pic.cells he hg this
  have hlen : cs.length = k := by
    have := congrArg List.length h.map
    rw [List.length_map, List.length_take] at this
    omega
  refine ⟨⟨heap_setCell_at (i := 0) hbox3 vc', ?_, ?_, keep h.pic.queue (by decide) (by decide), keep h.pic.stack (by decide) (by decide), keep h.pic.globals (by decide) (by decide), h.pic.le⟩, keep h.recs (by decide) (by decide), ?_, ?_⟩
  · rw [List.length_append, List.length_singleton, hlen, List.flatMap_append, List.flatMap_singleton]
    exact own_carry hown fun g hg => hso (fun e => row_box hown hbox3 (by decide) (by rw [hg, e]))
  · intro y hy
    rcases List.mem_append.1 hy with hy | hy
    · exact keep (h.pic.fields y hy) (by decide) (by decide)
    · rw [List.mem_singleton.1 hy]; exact keep hv (by decide) (by decide)
  · rw [List.map_append, h.map, List.take_succ_eq_append_getElem hk]; rfl
  · refine Below.setCell ?_ h.pic.le _
    exact h.below.grown hgr h.below.size fun y hy => (own_lt h.pic.cells hy).1

theorem infoCell : (Tryd.prog.info? 76).map (fun i => (i.zero, i.size, i.bytes)) = some (some (.agg #[.int .u8 0, .int .i64 0, .slice none 0 0]), 3, 40) := by kernel_rfl

set_option maxRecDepth 100000 in
set_option maxHeartbeats 3200000 in
theorem seen_core (d rs qs ss gs : List UInt8) (N : Nat) (hN : N ≤ 99) (bs : List (List UInt8)) (hbs : bs.length = N) (cells : List Cell) (hcs : cells.length = N) (q st gl : List (UInt8 × Int)) (csz gsz bu ze ov : Int) (hst : (st.length : Int) ≤ csz) (hgl : (gl.length : Int) = gsz) (Z : World → World → Prop) (x : Nat) (w : World)
    (hst9 : st.length ≤ 16) (hgl9 : gl.length ≤ 8)
    (du : ∀ W, Below w.heap.size w W → Calls Tryd.prog 7 #[.pointer (some ⟨x, 0, none⟩)] W fun e w' => e = .returned (str d) ∧ Z W w' ∧ W.heap.size ≤ w'.heap.size ∧ ∀ k, w.heap.size ≤ k → k < W.heap.size → w'.heap[k]? = W.heap[k]?)
    (sp1 : ∀ W, Calls Tryd.prog 38 #[str d, .int .u8 124] W fun e w' => ∃ v, e = .returned v ∧ w'.ownsRow W.heap.size 9 1 v 4 [str rs, str qs, str ss, str gs] ∧ Below W.heap.size W w')
    (sp2 : ∀ W, Calls Tryd.prog 38 #[str rs, .int .u8 59] W fun e w' => ∃ v, e = .returned v ∧ w'.ownsRow W.heap.size 9 1 v (N + 1) ((bs ++ [[]]).map str) ∧ Below W.heap.size W w')
    (nu : ∀ W, Calls Tryd.prog 39 #[str qs] W fun e w' => ∃ v, e = .returned v ∧ w'.ownsRow W.heap.size 95 2 v q.length (q.flatMap valC) ∧ Below W.heap.size W w')
    (va : ∀ W, Calls Tryd.prog 40 #[str ss] W fun e w' => ∃ v, e = .returned v ∧ w'.ownsRow W.heap.size 95 2 v st.length (st.flatMap valC) ∧ Below W.heap.size W w')
    (vg : ∀ W, Calls Tryd.prog 40 #[str gs] W fun e w' => ∃ v, e = .returned v ∧ w'.ownsRow W.heap.size 95 2 v gl.length (gl.flatMap valC) ∧ Below W.heap.size W w')
    (bl : ∀ k (h1 : k < bs.length) (h2 : k < cells.length) W, Calls Tryd.prog 41 #[str bs[k]] W fun e w' => ∃ v, e = .returned (.tuple #[cellV cells[k] v, .bool true]) ∧ w'.ownsRow W.heap.size 95 2 v cells[k].fields.length (cells[k].fields.flatMap valC) ∧ Below W.heap.size W w') :
    Calls Tryd.prog 11 #[.pointer (some ⟨x, 0, none⟩), .agg #[.int .i64 N, .int .i64 csz, .int .i64 gsz, .int .i64 bu, .int .i64 ze, .int .i64 ov]] w fun e w' => ∃ W w1 L cs vc vq vs vg, e = .returned (.tuple #[.pointer (some ⟨L, 0, none⟩), .bool true]) ∧ Below w.heap.size w W ∧ Z W w1 ∧ Below w1.heap.size w1 w' ∧ cs.map Prod.fst = cells ∧ PicAt w' w1.heap.size L cs q st gl vc vq vs vg := by
  have SP1 : Hid _ := sp1
  have SP2 : Hid _ := sp2
  have NU : Hid _ := nu
  have VA : Hid _ := va
  have VG : Hid _ := vg
  have BL : Hid _ := bl
  have DU : Hid _ := du
  clear sp1 sp2 nu va vg bl du
  unfold str at SP1 SP2 NU VA VG DU
  go_enter Tryd.func11, Tryd.ntmps11
  go_wp2_with fail
  refine Calls.mono (DU.out _ ((Below.refl _ w).alloc (Nat.le_refl _) _)) ?_
  rintro e w1 ⟨rfl, hZ, hsz1, hk1⟩
  have Z1 : Hid (Below w.heap.size w (w.alloc (.cells #[.int .i64 N, .int .i64 csz, .int .i64 gsz, .int .i64 bu, .int .i64 ze, .int .i64 ov] 23)) ∧ Z (w.alloc (.cells #[.int .i64 N, .int .i64 csz, .int .i64 gsz, .int .i64 bu, .int .i64 ze, .int .i64 ov] 23)) w1) := ⟨(Below.refl _ w).alloc (Nat.le_refl _) _, hZ⟩
  have hbox : w1.heap[w.heap.size]? = some (.cells #[.int .i64 N, .int .i64 csz, .int .i64 gsz, .int .i64 bu, .int .i64 ze, .int .i64 ov] 23) := by
    rw [hk1 _ (Nat.le_refl _) (by simp)]
    exact heap_alloc_new w _
  have hBx := lt_of_heap hbox
  have BX : Hid (∀ wr, Below w1.heap.size w1 wr → wr.cell? ⟨w.heap.size, 0, none⟩ = some (.int .i64 N) ∧ wr.cell? ⟨w.heap.size, 1, none⟩ = some (.int .i64 csz) ∧ wr.cell? ⟨w.heap.size, 2, none⟩ = some (.int .i64 gsz)) := fun wr hb => by
    have h := (hb.block _ hBx).trans hbox
    exact ⟨cell_of_heap (i := 0) h rfl, cell_of_heap (i := 1) h rfl, cell_of_heap (i := 2) h rfl⟩
  clear hZ DU hk1 hsz1 hbox
  go_wp2_with fail
  refine Calls.mono (SP1.out _) ?_
  rintro e w2 ⟨v2, rfl, hrow2, hb2⟩
  obtain ⟨ao, cp, hv2⟩ := own_slice (own_base hrow2 (Nat.zero_le _))
  subst hv2
  obtain ⟨g, cap', hv', hg, _, _, hcell, _⟩ := own_view (own_base hrow2 (Nat.zero_le _)) (by omega)
  simp at hv'
  obtain ⟨rfl, rfl⟩ := hv'
  have CE : Hid (∀ wr, Below w2.heap.size w2 wr → wr.cell? ⟨g, 0, none⟩ = some (str rs) ∧ wr.cell? ⟨g, 1, none⟩ = some (str qs) ∧ wr.cell? ⟨g, 2, none⟩ = some (str ss) ∧ wr.cell? ⟨g, 3, none⟩ = some (str gs)) := fun wr hb =>
    ⟨(hb.cell (p := ⟨g, 0, none⟩) hg).trans (hcell 0 _ rfl), (hb.cell (p := ⟨g, 1, none⟩) hg).trans (hcell 1 _ rfl), (hb.cell (p := ⟨g, 2, none⟩) hg).trans (hcell 2 _ rfl), (hb.cell (p := ⟨g, 3, none⟩) hg).trans (hcell 3 _ rfl)⟩
  have B2 : Hid (Below w1.heap.size w1 w2) := hb2
  clear hrow2 hb2 hcell
  obtain ⟨c0, c1, c2, c3⟩ := CE.out w2 (Below.refl _ _)
  unfold str at c0 c1 c2 c3
  go_wp2_with fail
  go_region_held3 (fun w' => w'.cell? ⟨g, 1, none⟩ = some (.string ⟨qs.toArray⟩) ∧ w'.cell? ⟨g, 2, none⟩ = some (.string ⟨ss.toArray⟩) ∧ w'.cell? ⟨g, 3, none⟩ = some (.string ⟨gs.toArray⟩)) (go_keep)
    ((first
      | (go_at_call 39; refine Calls.mono (NU.out _) ?_; rintro e w3 ⟨vq, rfl, hq3, hb3⟩; obtain ⟨qo, qc, rfl⟩ := own_slice (own_base hq3 (Nat.zero_le _)); have B3 : Hid (Below w2.heap.size w2 w3) := (Below.refl _ w2).drew.trans hb3; have Q3 : Hid _ := hq3; have CE3 := CE.out w3 B3.out; unfold str at CE3; obtain ⟨d0, d1, d2, d3⟩ := CE3; clear hq3 hb3 d0)
      | (go_at_call_of 40 (Value.string ⟨ss.toArray⟩); refine Calls.mono (VA.out _) ?_; rintro e w4 ⟨vs, rfl, hs4, hb4⟩; obtain ⟨so, sc, rfl⟩ := own_slice (own_base hs4 (Nat.zero_le _)); have B4 : Hid (Below w3.heap.size w3 w4) := hb4; have S4 : Hid _ := hs4; have CE4 := CE.out w4 (B3.out.trans (B4.out.mono B3.out.size)); unfold str at CE4; obtain ⟨f0, f1, f2, f3⟩ := CE4; clear hs4 hb4 f0)
      | (go_at_call_of 40 (Value.string ⟨gs.toArray⟩); refine Calls.mono (VG.out _) ?_; rintro e w5 ⟨vg, rfl, hg5, hb5⟩; obtain ⟨go, gc, rfl⟩ := own_slice (own_base hg5 (Nat.zero_le _)); have B5 : Hid (Below w4.heap.size w4 w5) := hb5; have G5 : Hid _ := hg5; have CE5 := CE.out w5 (B3.out.trans ((B4.out.trans (B5.out.mono B4.out.size)).mono B3.out.size)); unfold str at CE5; obtain ⟨k0, k1, k2, k3⟩ := CE5; clear hg5 hb5)))
  have PIC : Hid (PicAt (w5.alloc (.cells #[.slice none 0 0, .slice qo q.length qc, .slice so st.length sc, .slice go gl.length gc] 74)) w1.heap.size w5.heap.size [] q st gl (.slice none 0 0) (.slice qo q.length qc) (.slice so st.length sc) (.slice go gl.length gc)) := by
    have l1 := B2.out.size
    have l2 := B3.out.size
    have l3 := B4.out.size
    have l4 := B5.out.size
    refine ⟨heap_alloc_new _ _, World.ownsRow_nil _ _ _ _, by simp, ?_, ?_, ?_, by omega⟩
    · exact (own_base (own_carry (own_carry Q3.out fun g hg => B4.out.block g (own_lt Q3.out hg).2) fun g hg => B5.out.block g (Nat.lt_of_lt_of_le (own_lt Q3.out hg).2 l3)) l1).alloc _
    · exact (own_base (own_carry S4.out fun g hg => B5.out.block g (own_lt S4.out hg).2) (by omega)).alloc _
    · exact (own_base G5.out (by omega)).alloc _
  have B6 : Hid (Below w1.heap.size w1 (w5.alloc (.cells #[.slice none 0 0, .slice qo q.length qc, .slice so st.length sc, .slice go gl.length gc] 74))) := by
    have l1 := B2.out.size
    have l2 := B3.out.size
    have l3 := B4.out.size
    have l4 := B5.out.size
    exact (B2.out.trans ((B3.out.trans ((B4.out.trans (B5.out.mono l3)).mono l2)).mono l1)).alloc (by omega) _
  have j0 : (w5.alloc (.cells #[.slice none 0 0, .slice qo q.length qc, .slice so st.length sc, .slice go gl.length gc] 74)).cell? ⟨g, 0, none⟩ = some (.string ⟨rs.toArray⟩) :=
    (CE.out _ ((B3.out.trans ((B4.out.trans (B5.out.mono B4.out.size)).mono B3.out.size)).alloc (by have := B3.out.size; have := B4.out.size; have := B5.out.size; omega) _)).1
  obtain ⟨w6, hw6⟩ : ∃ w6, (w5.alloc (.cells #[.slice none 0 0, .slice qo q.length qc, .slice so st.length sc, .slice go gl.length gc] 74)) = w6 := ⟨_, rfl⟩
  rw [hw6] at PIC B6 j0 ⊢
  clear hw6 Q3 S4 G5 B3 B4 B5 CE k0 k1 k2 k3 c0 c1 c2 c3 NU VA VG SP1
  go_wp2_with fail
  refine Calls.mono (SP2.out _) ?_
  rintro e w7 ⟨v7, rfl, hrow7, hb7⟩
  obtain ⟨ro, rc, rfl⟩ := own_slice (own_base hrow7 (Nat.zero_le _))
  have LK : Hid (Look w1 w7 bs cells 0 w5.heap.size [] q st gl (.slice none 0 0) (.slice qo q.length qc) (.slice so st.length sc) (.slice go gl.length gc) (.slice ro (N + 1) rc)) :=
    ⟨PIC.out.below hb7, by rw [hbs]; exact own_base hrow7 B6.out.size, by simp, B6.out.trans (hb7.mono B6.out.size)⟩
  obtain ⟨gr, cap7, hv7, _, _, _, _, _⟩ := own_view (own_base hrow7 (Nat.zero_le _)) (by omega)
  simp at hv7
  obtain ⟨rfl, rfl⟩ := hv7
  have RC : Hid (∀ (wr : World) (k : Nat) (hk : k < (bs ++ [[]]).length), wr.ownsRow w1.heap.size 9 1 (.slice (some ⟨gr, 0, none⟩) (N + 1) rc) (bs.length + 1) ((bs ++ [[]]).map str) → wr.cell? ⟨gr, k, none⟩ = some (str (bs ++ [[]])[k])) := fun wr k hk hr => by
    rw [hbs] at hr
    obtain ⟨gr2, cap2, hv2, _, _, _, hcell, _⟩ := own_view (own_base hr (Nat.zero_le _)) (Nat.succ_pos N)
    simp at hv2
    rw [hv2.1]
    exact hcell k _ (by rw [List.getElem?_map, List.getElem?_eq_getElem hk]; rfl)
  obtain ⟨b0, b1, b2⟩ := BX.out w7 LK.out.below
  have r0 := RC.out w7 N (by simp [hbs]) LK.out.recs
  rw [List.getElem_append_right (by omega)] at r0
  simp [hbs] at r0
  unfold str at r0
  clear hrow7 hb7 SP2 PIC B6 j0
  go_wp2_with fail
  clear b0 b1 b2 r0
  go_loopw [10] (fun i wr => ∃ (k : Nat) (cs : List (Cell × Value)) (vc : Value), k ≤ N ∧ i = .int .i64 k ∧ Look w1 wr bs cells k w5.heap.size cs q st gl vc (.slice qo q.length qc) (.slice so st.length sc) (.slice go gl.length gc) (.slice (some ⟨gr, 0, none⟩) (N + 1) rc)) (fun i _ => N - (intOf i).toNat)
  case atStart => exact ⟨0, [], _, Nat.zero_le _, rfl, LK.out⟩
  case round =>
    obtain ⟨k, cs, vc, hk, rfl, lk⟩ := hrel
    have LR : Hid _ := lk
    obtain ⟨b0, b1, b2⟩ := BX.out wr lk.below
    have hlen : cs.length = k := by
      have := congrArg List.length lk.map
      rw [List.length_map, List.length_take] at this
      omega
    obtain ⟨co, cc, rfl⟩ := own_slice (own_base lk.pic.cells (Nat.zero_le _))
    rw [hlen] at LR lk
    by_cases hlt : k < N
    · have r0 := RC.out wr k (by simp; omega) lk.recs
      rw [List.getElem_append_left (by omega)] at r0
      have BK : Hid _ := BL.out k (by omega) (by omega)
      obtain ⟨t, ht⟩ : ∃ t, bs[k]'(by omega) = t := ⟨_, rfl⟩
      rw [ht] at r0 BK
      obtain ⟨cl, hcl⟩ : ∃ cl, cells[k]'(by omega) = cl := ⟨_, rfl⟩
      have HCL : Hid (cells[k]'(by omega) = cl) := hcl
      rw [hcl] at BK
      unfold cellV at BK
      unfold str at r0 BK
      have hkI : (k : Int) < N := by omega
      clear lk ht hcl LK
      go_wp2_with fail
      refine Calls.mono (BK.out _) ?_
      rintro e w8 ⟨v8, rfl, hrow8, hb8⟩
      obtain ⟨fo, fc, rfl⟩ := own_slice (own_base hrow8 (Nat.zero_le _))
      have L8 : Hid _ := LR.out.on hb8
      have V8 : Hid (w8.ownsRow w1.heap.size 95 2 (.slice fo cl.fields.length fc) cl.fields.length (cl.fields.flatMap valC)) := own_base hrow8 LR.out.below.size
      have hLlt := lt_of_heap L8.out.pic.box
      have hp8 := L8.out.pic.box
      have p0 := cell_of_heap (i := 0) hp8 rfl
      have pf0 := frozen_of_heap (i := 0) hp8
      have hsz8 := L8.out.below.size
      have FIN : Hid (∀ W w3 g' cap', Below w8.heap.size w8 W → w3.ownsRow w1.heap.size 76 3 (.slice (some ⟨g', 0, none⟩) (k + 1) cap') (k + 1) (cs.flatMap cellC ++ cellC (cl, .slice fo cl.fields.length fc)) → W.grownBy w3 (Value.slice co k cc).ownBlock →
          Look w1 (w3.setCell ⟨w5.heap.size, 0, none⟩ (.slice (some ⟨g', 0, none⟩) (k + 1) cap')) bs cells (k + 1) w5.heap.size (cs ++ [(cl, .slice fo cl.fields.length fc)]) q st gl (.slice (some ⟨g', 0, none⟩) (k + 1) cap') (.slice qo q.length qc) (.slice so st.length sc) (.slice go gl.length gc) (.slice (some ⟨gr, 0, none⟩) (N + 1) rc) ∧ w3.cell? ⟨w5.heap.size, 0, none⟩ = some (.slice co k cc) ∧ w3.frozen? ⟨w5.heap.size, 0, none⟩ = false) := by
        intro W w3 g' cap' hb ho hgr
        have LW := L8.out.on hb
        have hh := HCL.out
        have hVW : W.ownsRow w1.heap.size 95 2 (.slice fo cl.fields.length fc) cl.fields.length (cl.fields.flatMap valC) := own_carry V8.out fun g hg => hb.block g (own_lt V8.out hg).2
        subst hh
        have hL3 : w3.heap[w5.heap.size]? = _ := (hgr.block w5.heap.size (lt_of_heap LW.pic.box) (fun e => row_box LW.pic.cells LW.pic.box (by decide) e.symm)).trans LW.pic.box
        exact ⟨LW.add (by omega) hVW hgr ho, cell_of_heap (i := 0) hL3 rfl, frozen_of_heap (i := 0) hL3⟩
      have OWN : Hid (∀ W, Below w8.heap.size w8 W → W.ownsRow w1.heap.size 76 3 (.slice co k cc) k (cs.flatMap cellC)) := fun W hb => by
        have := own_carry L8.out.pic.cells fun j hj => hb.block j (own_lt L8.out.pic.cells hj).2
        rw [hlen] at this
        exact this
      have hal : ∀ ob, (w8.alloc ob).cell? ⟨w5.heap.size, 0, none⟩ = w8.cell? ⟨w5.heap.size, 0, none⟩ := fun ob => World.cell?_of_block (hao hLlt)
      have hal2 : ∀ ob ob', ((w8.alloc ob).alloc ob').cell? ⟨w5.heap.size, 0, none⟩ = w8.cell? ⟨w5.heap.size, 0, none⟩ := fun ob ob' => World.cell?_of_block ((hao (by simp; omega)).trans (hao hLlt))
      clear hrow8 hb8 BK hp8 r0 b0 b1 b2
      obtain ⟨y1, y2, y3⟩ := cl
      simp only at FIN V8 HCL
      go_wp2_with fail
      obtain ⟨i1, hi1, hy0, hy1, hy2⟩ := info_parts infoCell
      have NEW : Hid (∀ j u, ([.int .u8 y1.toNat, .int .i64 y2, .slice fo y3.length fc] : List Value)[j]? = some u → ((w8.alloc (.cells #[.int .u8 y1.toNat, .int .i64 y2, .slice fo y3.length fc] 76)).alloc (.cells #[.int .u8 y1.toNat, .int .i64 y2, .slice fo y3.length fc] 76)).drew.cell? ((⟨w8.heap.size + 1, 0, none⟩ : Addr).add j) = some u) := by
        have h := news_new (w8.alloc (.cells #[.int .u8 y1.toNat, .int .i64 y2, .slice fo y3.length fc] 76)) [.int .u8 y1.toNat, .int .i64 y2, .slice fo y3.length fc] 76
        rw [show (w8.alloc (.cells #[.int .u8 y1.toNat, .int .i64 y2, .slice fo y3.length fc] 76)).heap.size = w8.heap.size + 1 by simp] at h
        exact h
      go_region_law (refine step_append_lies _ rfl (.tmp 72) (.tmp 74) 72 rfl w1.heap.size 76 i1 _ 3 40 Tryd.underlying72 hi1 hy0 hy1 hy2 rfl (by decide) _ _ _ (by simp [Act.eval, Act.put]) (OWN.out _ (((Below.refl _ w8).alloc (Nat.le_refl _) _).alloc (by simp) _).drew) ⟨w8.heap.size + 1, 0, none⟩ 1 1 [.int .u8 y1.toNat, .int .i64 y2, .slice fo y3.length fc] (by simp [Act.eval, Act.put]) rfl (NEW.out) (by intro u hu; simp at hu; rcases hu with rfl | rfl | rfl <;> rfl) (by decide) (by unfold maxLen; omega) (by omega) (by simp; omega) (w8.heap.size + 1 + 1) (by simp) ?_; intro g' cap1 w3 hown hgr hlie _; obtain ⟨T, hc, hf⟩ := FIN.out _ w3 g' cap1 (((Below.refl _ w8).alloc (Nat.le_refl _) _).alloc (by simp) _).drew hown hgr)
      all_goals go_wp2
      all_goals go_roundw
      all_goals first | exact ⟨k + 1, _, _, by omega, by go_num, T⟩ | (simp [intOf]; omega)
    · obtain rfl : k = N := by omega
      have p2 := cell_of_heap (i := 2) lk.pic.box rfl
      have p3 := cell_of_heap (i := 3) lk.pic.box rfl
      clear lk
      subst hgl
      go_wp2_with fail
      go_region_held3 (fun w' => w'.cell? ⟨w5.heap.size, 2, none⟩ = some (.slice so st.length sc) ∧ w'.cell? ⟨w5.heap.size, 3, none⟩ = some (.slice go gl.length gc) ∧ w'.cell? ⟨w.heap.size, 1, none⟩ = some (.int .i64 csz) ∧ w'.cell? ⟨w.heap.size, 2, none⟩ = some (.int .i64 gl.length)) (go_keep) (fail)
      all_goals go_wp2
      have hm := LR.out.map
      rw [← hcs, List.take_length] at hm
      exact bodyPost_ret (v := .tuple #[.pointer (some ⟨w5.heap.size, 0, none⟩), .bool true]) (by simp [results, Tryd.results11, go_sem]) rfl ⟨_, w1, _, cs, _, _, _, _, rfl, Z1.out.1, Z1.out.2, LR.out.below.drew, hm, LR.out.pic.drew⟩

end Go.Proofs.YtpmkjeihbddfpabDoor

/- OUR OWN. What is asked of a picture: refs, letters, sound. -/
namespace Go.Proofs.YtpmkjeihbddfpabDoor
open Go.RowKit
set_option linter.unusedVariables false
set_option linter.unusedSimpArgs false

theorem refsP_snoc (l : List (UInt8 × Int)) (v : UInt8 × Int) (b : Int) : refsP (l ++ [v]) b = refsP l b + if v.1 = 35 ∧ v.2 = b then 1 else 0 := by
  unfold refsP
  rw [List.countP_append, List.countP_singleton]
  by_cases h : v.1 = 35 ∧ v.2 = b
  · rw [if_pos h, if_pos (by simp [h.1, h.2])]
  · rw [if_neg h, if_neg (by simpa using h)]
theorem refsP_le (l : List (UInt8 × Int)) (b : Int) : refsP l b ≤ l.length := List.countP_le_length
theorem byte_ne {x : UInt8} {n : Nat} (hn : n < 256) (h : ¬ x = UInt8.ofNat n) : ((x.toNat : Int) == (n : Int)) = false := by
  have : x.toNat ≠ n := fun e => h (UInt8.toNat_inj.1 (by rw [e]; simp [UInt8.toNat_ofNat]; omega))
  have h' : (x.toNat : Int) ≠ n := by omega
  simpa using h'
/-- a row of values, cell by cell -/
theorem val_cells {w : World} {B : Nat} {v : Value} {l : List (UInt8 × Int)} (h : w.ownsRow B 95 2 v l.length (l.flatMap valC)) (h0 : 0 < l.length) :
    ∃ g cap, v = .slice (some ⟨g, 0, none⟩) l.length cap ∧ g < w.heap.size ∧ ∀ k (hk : k < l.length), w.cell? ⟨g, k * 2, none⟩ = some (.int .u8 (l[k]).1.toNat) ∧ w.cell? ⟨g, k * 2 + 1, none⟩ = some (.int .i64 (l[k]).2) := by
  obtain ⟨g, cap, rfl, hg, _, _, hcell, _⟩ := own_view (own_base h (Nat.zero_le _)) h0
  refine ⟨g, cap, rfl, hg, fun k hk => ⟨hcell _ _ ?_, hcell _ _ ?_⟩⟩
  · have := flat_get valC 2 (fun _ => rfl) l k 0 (by decide); simpa [hk, valC] using this
  · have := flat_get valC 2 (fun _ => rfl) l k 1 (by decide); simpa [hk, valC] using this

set_option maxHeartbeats 800000 in
theorem refs_seen {w : World} {B : Nat} {v : Value} {l : List (UInt8 × Int)} (h : w.ownsRow B 95 2 v l.length (l.flatMap valC)) (hn : l.length ≤ 1000) (b : Int) :
    Calls Tryd.prog 45 #[v, .int .i64 b] w fun e w' => e = .returned (.int .i64 (refsP l b)) ∧ w' = w := by
  rcases Nat.eq_zero_or_pos l.length with h0 | h0
  · obtain rfl : l = [] := List.eq_nil_of_length_eq_zero h0
    obtain ⟨ao, cap, rfl⟩ := own_empty (own_base h (Nat.zero_le _))
    clear h
    go_enter Tryd.func45, Tryd.ntmps45
    go_wp2
    go_loop [5, 6] (fun n i => n = .int .i64 0 ∧ i = .int .i64 0) (fun _ _ => 0)
    case atStart => exact ⟨rfl, rfl⟩
    case round =>
      obtain ⟨rfl, rfl⟩ := hrel
      go_wp2
      go_ret
      exact ⟨rfl, rfl⟩
  · obtain ⟨g, cap, rfl, _, hc⟩ := val_cells h h0
    have C : Hid _ := hc
    clear hc h
    obtain ⟨len, hlen⟩ : ∃ len, l.length = len := ⟨_, rfl⟩
    rw [hlen] at hn h0 ⊢
    have L : Hid (l.length = len) := hlen
    clear hlen
    go_enter Tryd.func45, Tryd.ntmps45
    go_wp2
    go_loop [5, 6] (fun n i => ∃ k : Nat, k ≤ len ∧ i = .int .i64 k ∧ n = .int .i64 (refsP (l.take k) b)) (fun _ i => len - (intOf i).toNat)
    case atStart => exact ⟨0, Nat.zero_le _, rfl, rfl⟩
    case round =>
      obtain ⟨k, hk, rfl, rfl⟩ := hrel
      by_cases hlt : k < len
      · have hk' : k < l.length := by rw [L.out]; exact hlt
        obtain ⟨c0, c1⟩ := C.out k hk'
        have hs := refsP_snoc (l.take k) l[k] b
        rw [← take_snoc l k hk'] at hs
        have hle := refsP_le (l.take k) b
        have hle2 : (l.take k).length ≤ k := List.length_take_le _ _
        obtain ⟨r, hr⟩ : ∃ r, r = refsP (l.take k) b := ⟨_, rfl⟩
        rw [← hr] at hs hle ⊢
        obtain ⟨x, hx⟩ : ∃ x, x = l[k] := ⟨_, rfl⟩
        rw [← hx] at c0 c1 hs
        obtain ⟨x1, x2⟩ := x
        simp only at c0 c1 hs
        have S : Hid (refsP (l.take (k + 1)) b = r + if x1 = 35 ∧ x2 = b then 1 else 0) := hs
        clear hs hr hx
        by_cases q1 : x1 = 35
        · by_cases q2 : x2 = b
          · subst q1 q2
            go_wp2
            go_round
            case rel => exact ⟨k + 1, by omega, by go_num, by rw [S.out, if_pos ⟨rfl, rfl⟩]; go_num⟩
            case measure => simp [intOf]; omega
          · have q3 : (x2 == b) = false := by simpa using q2
            subst q1
            go_wp2
            go_round
            case rel => exact ⟨k + 1, by omega, by go_num, by rw [S.out, if_neg (fun h => q2 h.2)]; rfl⟩
            case measure => simp [intOf]; omega
        · have q3 : ((x1.toNat : Int) == 35) = false := byte_ne (n := 35) (by omega) q1
          have C2 : Hid _ := C.out
          go_wp2
          go_round
          case rel => exact ⟨k + 1, by omega, by go_num, by rw [S.out, if_neg (fun h => q1 h.1)]; rfl⟩
          case measure => simp [intOf]; omega
      · go_wp2
        go_ret
        exact ⟨ret_int (by rw [List.take_of_length_le (by rw [L.out]; omega)]), rfl⟩

def lettersC (cs : List (Cell × Value)) (c : UInt8) : Nat := cs.countP fun x => x.1.letter == c
theorem lettersC_snoc (l : List (Cell × Value)) (v : Cell × Value) (c : UInt8) : lettersC (l ++ [v]) c = lettersC l c + if v.1.letter = c then 1 else 0 := by
  unfold lettersC
  rw [List.countP_append, List.countP_singleton]
  by_cases h : v.1.letter = c
  · rw [if_pos h, if_pos (by simp [h])]
  · rw [if_neg h, if_neg (by simpa using h)]
theorem lettersC_le (l : List (Cell × Value)) (c : UInt8) : lettersC l c ≤ l.length := List.countP_le_length
/-- the cells of a picture, cell by cell -/
theorem PicAt.view {w : World} {B L : Nat} {cs : List (Cell × Value)} {q st gl : List (UInt8 × Int)} {vc vq vs vg : Value} (h : PicAt w B L cs q st gl vc vq vs vg) (h0 : 0 < cs.length) :
    ∃ g cap, vc = .slice (some ⟨g, 0, none⟩) cs.length cap ∧ g < w.heap.size ∧ ∀ k (hk : k < cs.length), w.cell? ⟨g, k * 3, none⟩ = some (.int .u8 (cs[k]).1.letter.toNat) ∧ w.cell? ⟨g, k * 3 + 1, none⟩ = some (.int .i64 (cs[k]).1.count) ∧ w.cell? ⟨g, k * 3 + 2, none⟩ = some (cs[k]).2 := by
  obtain ⟨g, cap, rfl, hg, _, _, hcell, _⟩ := own_view (own_base h.cells (Nat.zero_le _)) h0
  refine ⟨g, cap, rfl, hg, fun k hk => ⟨hcell _ _ ?_, hcell _ _ ?_, hcell _ _ ?_⟩⟩
  · have := flat_get cellC 3 (fun _ => rfl) cs k 0 (by decide); simpa [hk, cellC] using this
  · have := flat_get cellC 3 (fun _ => rfl) cs k 1 (by decide); simpa [hk, cellC] using this
  · have := flat_get cellC 3 (fun _ => rfl) cs k 2 (by decide); simpa [hk, cellC] using this

set_option maxHeartbeats 800000 in
theorem letters_seen {w : World} {B L : Nat} {cs : List (Cell × Value)} {q st gl : List (UInt8 × Int)} {vc vq vs vg : Value} (h : PicAt w B L cs q st gl vc vq vs vg) (h0 : 0 < cs.length) (hn : cs.length ≤ 99) (c : UInt8) :
    Calls Tryd.prog 43 #[.pointer (some ⟨L, 0, none⟩), .int .u8 c.toNat] w fun e w' => e = .returned (.int .i64 (lettersC cs c)) ∧ w' = w := by
  obtain ⟨g, cap, rfl, _, hc⟩ := h.view h0
  have p0 := cell_of_heap (i := 0) h.box rfl
  have C : Hid _ := hc
  clear hc h
  obtain ⟨len, hlen⟩ : ∃ len, cs.length = len := ⟨_, rfl⟩
  rw [hlen] at hn h0 p0
  have LL : Hid (cs.length = len) := hlen
  clear hlen
  simp at p0
  go_enter Tryd.func43, Tryd.ntmps43
  go_wp2
  go_loop [5, 6] (fun n i => ∃ k : Nat, k ≤ len ∧ i = .int .i64 k ∧ n = .int .i64 (lettersC (cs.take k) c)) (fun _ i => len - (intOf i).toNat)
  case atStart => exact ⟨0, Nat.zero_le _, rfl, rfl⟩
  case round =>
    obtain ⟨k, hk, rfl, rfl⟩ := hrel
    by_cases hlt : k < len
    · have hk' : k < cs.length := by rw [LL.out]; exact hlt
      obtain ⟨c0, _, _⟩ := C.out k hk'
      have hs := lettersC_snoc (cs.take k) cs[k] c
      rw [← take_snoc cs k hk'] at hs
      have hle := lettersC_le (cs.take k) c
      have hle2 : (cs.take k).length ≤ k := List.length_take_le _ _
      obtain ⟨r, hr⟩ : ∃ r, r = lettersC (cs.take k) c := ⟨_, rfl⟩
      rw [← hr] at hs hle ⊢
      obtain ⟨x, hx⟩ : ∃ x, x = cs[k].1.letter := ⟨_, rfl⟩
      rw [← hx] at c0 hs
      have S : Hid (lettersC (cs.take (k + 1)) c = r + if x = c then 1 else 0) := hs
      have hkI : (k : Int) < len := by omega
      clear hs hr hx
      by_cases q1 : x = c
      · subst q1
        go_wp2
        go_round
        case rel => exact ⟨k + 1, by omega, by go_num, by rw [S.out, if_pos rfl]; go_num⟩
        case measure => simp [intOf]; omega
      · have q3 : ((x.toNat : Int) == (c.toNat : Int)) = false := by
          have : x.toNat ≠ c.toNat := fun e => q1 (UInt8.toNat_inj.1 e)
          have h' : (x.toNat : Int) ≠ c.toNat := by omega
          simpa using h'
        go_wp2
        go_round
        case rel => exact ⟨k + 1, by omega, by go_num, by rw [S.out, if_neg q1]; rfl⟩
        case measure => simp [intOf]; omega
    · have hkI : ¬ (k : Int) < len := by omega
      go_wp2
      go_ret
      exact ⟨ret_int (by rw [List.take_of_length_le (by rw [LL.out]; omega)]), rfl⟩

end Go.Proofs.YtpmkjeihbddfpabDoor

/- OUR OWN. What is asked of a picture: sound, wide. -/
namespace Go.Proofs.YtpmkjeihbddfpabDoor
open Go.RowKit
set_option linter.unusedVariables false
set_option linter.unusedSimpArgs false

/-- every reference leads to a block that has an object -/
def Leads (cs : List (Cell × Value)) (l : List (UInt8 × Int)) : Prop := ∀ v ∈ l, v.1 = 35 → ∃ i : Nat, v.2 = (i : Int) + 1 ∧ ∃ x, cs[i]? = some x ∧ x.1.letter ≠ 46

set_option maxHeartbeats 1600000 in
theorem sound_seen {w : World} {B L : Nat} {cs : List (Cell × Value)} {q st gl : List (UInt8 × Int)} {vc vq vs vg : Value} (h : PicAt w B L cs q st gl vc vq vs vg) (h0 : 0 < cs.length) (hn : cs.length ≤ 99) {v : Value} {l : List (UInt8 × Int)} (hr : w.ownsRow B 95 2 v l.length (l.flatMap valC)) (hl : l.length ≤ 1000) (hg : Leads cs l) :
    Calls Tryd.prog 42 #[.pointer (some ⟨L, 0, none⟩), v] w fun e w' => e = .returned (.bool true) ∧ Below w.heap.size w w' := by
  rcases Nat.eq_zero_or_pos l.length with h1 | h1
  · obtain rfl : l = [] := List.eq_nil_of_length_eq_zero h1
    obtain ⟨ao, cap, rfl⟩ := own_empty (own_base hr (Nat.zero_le _))
    clear hr h hg
    go_enter Tryd.func42, Tryd.ntmps42
    go_wp2
    go_loop [5] (fun i => i = .int .i64 0) (fun _ => 0)
    case atStart => exact rfl
    case round =>
      obtain rfl := hrel
      go_wp2
      go_ret
      exact ⟨rfl, Below.refl _ _⟩
  · obtain ⟨g, cap, rfl, hgl, hc⟩ := h.view h0
    obtain ⟨gv, capv, rfl, hgv, hcv⟩ := val_cells hr h1
    have hLl := lt_of_heap h.box
    have p00 := cell_of_heap (i := 0) h.box rfl
    obtain ⟨len, hlen⟩ : ∃ len, cs.length = len := ⟨_, rfl⟩
    rw [hlen] at hn h0 p00
    simp at p00
    have C : Hid (∀ wr : World, Below w.heap.size w wr → wr.cell? ⟨L, 0, none⟩ = some (.slice (some ⟨g, 0, none⟩) len cap) ∧ (∀ k (hk : k < cs.length), wr.cell? ⟨g, k * 3, none⟩ = some (.int .u8 (cs[k]).1.letter.toNat)) ∧ ∀ k (hk : k < l.length), wr.cell? ⟨gv, k * 2, none⟩ = some (.int .u8 (l[k]).1.toNat) ∧ wr.cell? ⟨gv, k * 2 + 1, none⟩ = some (.int .i64 (l[k]).2)) := fun wr hb =>
      ⟨(hb.cell (p := ⟨L, 0, none⟩) hLl).trans p00, fun k hk => (hb.cell (p := ⟨g, k * 3, none⟩) hgl).trans (hc k hk).1, fun k hk => ⟨(hb.cell (p := ⟨gv, k * 2, none⟩) hgv).trans (hcv k hk).1, (hb.cell (p := ⟨gv, k * 2 + 1, none⟩) hgv).trans (hcv k hk).2⟩⟩
    have GG : Hid _ := hg
    clear hc hcv h hr hg p00
    have LL : Hid (cs.length = len) := hlen
    obtain ⟨lv, hlv⟩ : ∃ lv, l.length = lv := ⟨_, rfl⟩
    rw [hlv] at hl h1 ⊢
    have LV : Hid (l.length = lv) := hlv
    clear hlen hlv
    go_enter Tryd.func42, Tryd.ntmps42
    go_wp2
    go_loopw [5] (fun i wr => ∃ k : Nat, k ≤ lv ∧ i = .int .i64 k ∧ Below w.heap.size w wr) (fun i _ => lv - (intOf i).toNat)
    case atStart => exact ⟨0, Nat.zero_le _, rfl, Below.refl _ _⟩
    case round =>
      obtain ⟨k, hk, rfl, hb⟩ := hrel
      have BB : Hid _ := hb
      by_cases hlt : k < lv
      · have hk' : k < l.length := by rw [LV.out]; exact hlt
        obtain ⟨p0, CC, CV⟩ := C.out wr hb
        obtain ⟨c0, c1⟩ := CV k hk'
        have hkI : (k : Int) < lv := by omega
        have HX : Hid (l[k].1 = 35 → ∃ i : Nat, l[k].2 = (i : Int) + 1 ∧ ∃ x, cs[i]? = some x ∧ x.1.letter ≠ 46) := GG.out _ (List.getElem_mem hk')
        obtain ⟨x, hx⟩ : ∃ x, x = l[k] := ⟨_, rfl⟩
        rw [← hx] at c0 c1 HX
        obtain ⟨x1, x2⟩ := x
        simp only at c0 c1 HX
        clear hx CV hb
        by_cases q1 : x1 = 35
        · obtain ⟨i, hxi, y, hy, hy46⟩ := HX.out q1
          obtain ⟨hi, hyi⟩ := List.getElem?_eq_some_iff.1 hy
          have d0 := CC i hi
          rw [hyi] at d0
          have hi2 : i < len := by rw [← LL.out]; exact hi
          have q4 : ((y.1.letter.toNat : Int) == 46) = false := byte_ne (n := 46) (by omega) hy46
          obtain ⟨z, hz⟩ : ∃ z, y.1.letter.toNat = z := ⟨_, rfl⟩
          rw [hz] at d0 q4
          have t1 : decide (x2 < 1) = false := by simp; omega
          have t2 : decide ((len : Int) < x2) = false := by simp; omega
          have t3 : x2 - 1 = i := by omega
          have t4 : IntKind.i64.wrap (x2 - 1) = i := by rw [t3]; exact wrapS (by omega) (by omega)
          have t5 : (0 : Int) ≤ i := by omega
          have t6 : (i : Int) < len := by omega
          have t7 : 0 ≤ x2 - 1 := by omega
          have t8 : x2 - 1 < len := by omega
          have t9 : (x2 - 1).toNat = i := by omega
          subst q1
          clear HX hy hyi hz hy46 hi CC hxi
          go_wp2_with fail
          go_region
          all_goals go_wp2
          all_goals go_roundw
          all_goals first | exact ⟨k + 1, by omega, by go_num, BB.out.drew⟩ | (simp [intOf]; omega)
        · have q3 : ((x1.toNat : Int) == 35) = false := byte_ne (n := 35) (by omega) q1
          clear HX CC
          go_wp2_with fail
          go_region
          all_goals go_wp2
          all_goals go_roundw
          all_goals first | exact ⟨k + 1, by omega, by go_num, BB.out.drew⟩ | (simp [intOf]; omega)
      · have hkI : ¬ (k : Int) < lv := by omega
        go_wp2
        go_ret
        exact ⟨rfl, BB.out⟩

end Go.Proofs.YtpmkjeihbddfpabDoor

/- OUR OWN. What is asked of a picture: wide. -/
namespace Go.Proofs.YtpmkjeihbddfpabDoor
open Go.RowKit
set_option linter.unusedVariables false
set_option linter.unusedSimpArgs false

set_option maxHeartbeats 1600000 in
theorem wide_seen {w : World} {B L : Nat} {cs : List (Cell × Value)} {q st gl : List (UInt8 × Int)} {vc vq vs vg : Value} (h : PicAt w B L cs q st gl vc vq vs vg) (h0 : 0 < cs.length) (hn : cs.length ≤ 99) (hq : Leads cs q) (hs : Leads cs st) (hg : Leads cs gl) (hf : ∀ x ∈ cs, Leads cs x.1.fields)
    (lq : q.length ≤ 1000) (ls : st.length ≤ 1000) (lg : gl.length ≤ 1000) (lf : ∀ x ∈ cs, x.1.fields.length ≤ 1000) :
    Calls Tryd.prog 12 #[.pointer (some ⟨L, 0, none⟩)] w fun e w' => e = .returned (.bool true) ∧ Below w.heap.size w w' := by
  obtain ⟨g, cap, hvc, hgl, hc⟩ := h.view h0
  have hLl := lt_of_heap h.box
  obtain ⟨qo, qc, rfl⟩ := own_slice (own_base h.queue (Nat.zero_le _))
  obtain ⟨so, sc, rfl⟩ := own_slice (own_base h.stack (Nat.zero_le _))
  obtain ⟨go, gc, rfl⟩ := own_slice (own_base h.globals (Nat.zero_le _))
  have P : Hid (∀ wr : World, Below w.heap.size w wr → PicAt wr B L cs q st gl vc (.slice qo q.length qc) (.slice so st.length sc) (.slice go gl.length gc)) := fun wr hb => h.below hb
  have SQ : Hid (∀ wr : World, Below w.heap.size w wr → Calls Tryd.prog 42 #[.pointer (some ⟨L, 0, none⟩), .slice qo q.length qc] wr fun e w' => e = .returned (.bool true) ∧ Below w.heap.size w w') := fun wr hb => Calls.mono (sound_seen (P.out wr hb) h0 hn (P.out wr hb).queue lq hq) fun e w' ⟨h1, h2⟩ => ⟨h1, hb.trans (h2.mono hb.size)⟩
  have SS : Hid (∀ wr : World, Below w.heap.size w wr → Calls Tryd.prog 42 #[.pointer (some ⟨L, 0, none⟩), .slice so st.length sc] wr fun e w' => e = .returned (.bool true) ∧ Below w.heap.size w w') := fun wr hb => Calls.mono (sound_seen (P.out wr hb) h0 hn (P.out wr hb).stack ls hs) fun e w' ⟨h1, h2⟩ => ⟨h1, hb.trans (h2.mono hb.size)⟩
  have SG : Hid (∀ wr : World, Below w.heap.size w wr → Calls Tryd.prog 42 #[.pointer (some ⟨L, 0, none⟩), .slice go gl.length gc] wr fun e w' => e = .returned (.bool true) ∧ Below w.heap.size w w') := fun wr hb => Calls.mono (sound_seen (P.out wr hb) h0 hn (P.out wr hb).globals lg hg) fun e w' ⟨h1, h2⟩ => ⟨h1, hb.trans (h2.mono hb.size)⟩
  have SF : Hid (∀ k (hk : k < cs.length), ∃ fo fc, (cs[k]).2 = .slice fo (cs[k]).1.fields.length fc ∧ ∀ wr : World, Below w.heap.size w wr → Calls Tryd.prog 42 #[.pointer (some ⟨L, 0, none⟩), (cs[k]).2] wr fun e w' => e = .returned (.bool true) ∧ Below w.heap.size w w') := fun k hk => by
    obtain ⟨fo, fc, hv⟩ := own_slice (own_base (h.fields cs[k] (List.getElem_mem hk)) (Nat.zero_le _))
    exact ⟨fo, fc, hv, fun wr hb => Calls.mono (sound_seen (P.out wr hb) h0 hn ((P.out wr hb).fields cs[k] (List.getElem_mem hk)) (lf _ (List.getElem_mem hk)) (hf _ (List.getElem_mem hk))) fun e w' ⟨h1, h2⟩ => ⟨h1, hb.trans (h2.mono hb.size)⟩⟩
  subst hvc
  have p00 := cell_of_heap (i := 0) h.box rfl
  have p01 := cell_of_heap (i := 1) h.box rfl
  have p02 := cell_of_heap (i := 2) h.box rfl
  have p03 := cell_of_heap (i := 3) h.box rfl
  obtain ⟨len, hlen⟩ : ∃ len, cs.length = len := ⟨_, rfl⟩
  rw [hlen] at hn h0 p00
  simp at p00 p01 p02 p03
  have C : Hid (∀ wr : World, Below w.heap.size w wr → wr.cell? ⟨L, 0, none⟩ = some (.slice (some ⟨g, 0, none⟩) len cap) ∧ wr.cell? ⟨L, 1, none⟩ = some (.slice qo q.length qc) ∧ wr.cell? ⟨L, 2, none⟩ = some (.slice so st.length sc) ∧ wr.cell? ⟨L, 3, none⟩ = some (.slice go gl.length gc) ∧ (∀ k (hk : k < cs.length), wr.cell? ⟨g, k * 3 + 2, none⟩ = some (cs[k]).2)) := fun wr hb =>
    ⟨(hb.cell (p := ⟨L, 0, none⟩) hLl).trans p00, (hb.cell (p := ⟨L, 1, none⟩) hLl).trans p01, (hb.cell (p := ⟨L, 2, none⟩) hLl).trans p02, (hb.cell (p := ⟨L, 3, none⟩) hLl).trans p03, fun k hk => (hb.cell (p := ⟨g, k * 3 + 2, none⟩) hgl).trans (hc k hk).2.2⟩
  have LL : Hid (cs.length = len) := hlen
  clear h hc hq hs hg hf lq ls lg lf P hlen p00 p02 p03
  go_enter Tryd.func12, Tryd.ntmps12
  go_wp2_with fail
  refine Calls.mono (SQ.out _ (Below.refl _ _)) ?_
  rintro e w1 ⟨rfl, hb1⟩
  obtain ⟨_, _, c2, _, _⟩ := C.out w1 hb1
  have B1 : Hid _ := hb1
  clear hb1 SQ p01
  go_wp2_with fail
  refine Calls.mono (SS.out _ B1.out) ?_
  rintro e w2 ⟨rfl, hb2⟩
  obtain ⟨_, _, _, c3, _⟩ := C.out w2 hb2
  have B2 : Hid _ := hb2
  clear hb2 SS c2 B1
  go_wp2_with fail
  refine Calls.mono (SG.out _ B2.out) ?_
  rintro e w3 ⟨rfl, hb3⟩
  have B3 : Hid _ := hb3
  clear hb3 SG c3 B2
  go_wp2
  go_loopw [6] (fun i wr => ∃ k : Nat, k ≤ len ∧ i = .int .i64 k ∧ Below w.heap.size w wr) (fun i _ => len - (intOf i).toNat)
  case atStart => exact ⟨0, Nat.zero_le _, rfl, B3.out⟩
  case round =>
    obtain ⟨k, hk, rfl, hb⟩ := hrel
    have BB : Hid _ := hb
    obtain ⟨p0, _, _, _, CC⟩ := C.out wr hb
    by_cases hlt : k < len
    · have hk' : k < cs.length := by rw [LL.out]; exact hlt
      have d0 := CC k hk'
      obtain ⟨fo, fc, hv, SK⟩ := SF.out k hk'
      rw [hv] at d0 SK
      have SKH : Hid _ := SK
      have hkI : (k : Int) < len := by omega
      obtain ⟨fl, hfl⟩ : ∃ fl, cs[k].1.fields.length = fl := ⟨_, rfl⟩
      rw [hfl] at d0 SKH
      clear CC hb SK hv hfl
      go_wp2_with fail
      refine Calls.mono (SKH.out _ BB.out) ?_
      rintro e w4 ⟨rfl, hb4⟩
      have B4 : Hid _ := hb4
      clear hb4
      go_wp2
      go_roundw
      case rel => exact ⟨k + 1, by omega, by go_num, B4.out⟩
      case measure => simp [intOf]; omega
    · have hkI : ¬ (k : Int) < len := by omega
      clear CC hb
      go_wp2
      go_ret
      exact ⟨rfl, BB.out⟩

end Go.Proofs.YtpmkjeihbddfpabDoor

/- OUR OWN. What is asked of a picture: exact. -/
namespace Go.Proofs.YtpmkjeihbddfpabDoor
open Go.RowKit
set_option linter.unusedVariables false
set_option linter.unusedSimpArgs false

def sumC (cs : List (Cell × Value)) (b : Int) : Nat := (cs.map fun x => refsP x.1.fields b).sum
theorem sumC_snoc (l : List (Cell × Value)) (v : Cell × Value) (b : Int) : sumC (l ++ [v]) b = sumC l b + refsP v.1.fields b := by
  unfold sumC
  simp
theorem sumC_le (l : List (Cell × Value)) (b : Int) (m : Nat) (h : ∀ x ∈ l, x.1.fields.length ≤ m) : sumC l b ≤ l.length * m := by
  induction l with
  | nil => simp [sumC]
  | cons a l ih =>
    have h1 := ih fun x hx => h x (by simp [hx])
    have h2 := refsP_le a.1.fields b
    have h3 := h a (by simp)
    unfold sumC at *
    simp only [List.map_cons, List.sum_cons, List.length_cons]
    rw [Nat.succ_mul]
    omega


end Go.Proofs.YtpmkjeihbddfpabDoor

/- OUR OWN. What is asked of a picture: gauged. -/
namespace Go.Proofs.YtpmkjeihbddfpabDoor
open Go.RowKit
set_option linter.unusedVariables false
set_option linter.unusedSimpArgs false

theorem PicAt.kept {w w' : World} {B L : Nat} {cs : List (Cell × Value)} {q st gl : List (UInt8 × Int)} {vc vq vs vg : Value} (h : PicAt w B L cs q st gl vc vq vs vg) (hk : ∀ k, B ≤ k → k < w.heap.size → w'.heap[k]? = w.heap[k]?) : PicAt w' B L cs q st gl vc vq vs vg := by
  have k : ∀ {e sz v n xs}, w.ownsRow B e sz v n xs → w'.ownsRow B e sz v n xs := fun r => own_carry r fun g hg => hk g (own_lt r hg).1 (own_lt r hg).2
  exact ⟨(hk _ h.le (lt_of_heap h.box)).trans h.box, k h.cells, fun x hx => k (h.fields x hx), k h.queue, k h.stack, k h.globals, h.le⟩
def extrasC (cs : List (Cell × Value)) : Nat := cs.countP fun x => x.1.letter == 104 && decide (7 < x.1.count)
theorem extrasC_snoc (l : List (Cell × Value)) (v : Cell × Value) : extrasC (l ++ [v]) = extrasC l + if v.1.letter = 104 ∧ 7 < v.1.count then 1 else 0 := by
  unfold extrasC
  rw [List.countP_append, List.countP_singleton]
  by_cases h : v.1.letter = 104 ∧ 7 < v.1.count
  · rw [if_pos h, if_pos (by simp [h.1, h.2])]
  · rw [if_neg h, if_neg (by simpa using h)]
theorem extrasC_le (l : List (Cell × Value)) : extrasC l ≤ l.length := List.countP_le_length


end Go.Proofs.YtpmkjeihbddfpabDoor

/- OUR OWN. The picture of a state. -/
namespace Go.Proofs.YtpmkjeihbddfpabDoor
open Go.RowKit
set_option linter.unusedVariables false
set_option linter.unusedSimpArgs false

def cellsOf (s : St) (N : Nat) : List Cell := (List.range N).map fun i => cellOf s (i + 1)
theorem cellsOf_len (s : St) (N : Nat) : (cellsOf s N).length = N := by simp [cellsOf]
theorem cellsOf_get (s : St) (N i : Nat) (hi : i < N) : (cellsOf s N)[i]? = some (cellOf s (i + 1)) := by simp [cellsOf, hi]
section
variable {s : St} {N : Nat} {cs : List (Cell × Value)}
theorem cs_len (h : cs.map Prod.fst = cellsOf s N) : cs.length = N := by
  have := congrArg List.length h
  rw [List.length_map, cellsOf_len] at this
  exact this
theorem cs_get (h : cs.map Prod.fst = cellsOf s N) {i : Nat} (hi : i < N) : ∃ v, cs[i]? = some (cellOf s (i + 1), v) := by
  have h1 := congrArg (·[i]?) h
  simp only [List.getElem?_map] at h1
  rw [cellsOf_get s N i hi] at h1
  cases e : cs[i]? with
  | none => rw [e] at h1; simp at h1
  | some x =>
    rw [e] at h1
    simp at h1
    exact ⟨x.2, by rw [← h1]⟩
theorem cs_mem (h : cs.map Prod.fst = cellsOf s N) {x : Cell × Value} (hx : x ∈ cs) : ∃ i, i < N ∧ x.1 = cellOf s (i + 1) := by
  have : x.1 ∈ cellsOf s N := by rw [← h]; exact List.mem_map_of_mem hx
  unfold cellsOf at this
  obtain ⟨i, hi, he⟩ := List.mem_map.1 this
  exact ⟨i, List.mem_range.1 hi, he.symm⟩
theorem letters_state (h : cs.map Prod.fst = cellsOf s N) (c : UInt8) : lettersC cs c = lettersP s N c := by
  have e : lettersC cs c = (cs.map Prod.fst).countP fun x => x.letter == c := by
    unfold lettersC; rw [List.countP_map]; rfl
  rw [e, h]
  unfold cellsOf lettersP countTo
  rw [List.countP_map]
  rfl
theorem extras_state (h : cs.map Prod.fst = cellsOf s N) : extrasC cs = countTo (fun b => (cellOf s b).letter == 104 && decide (7 < (cellOf s b).count)) N := by
  have e : extrasC cs = (cs.map Prod.fst).countP fun x => x.letter == 104 && decide (7 < x.count) := by
    unfold extrasC; rw [List.countP_map]; rfl
  rw [e, h]
  unfold cellsOf countTo
  rw [List.countP_map]
  rfl
theorem sum_state (g : s.Good N) (hN : N ≤ 99) (h : cs.map Prod.fst = cellsOf s N) (b : Int) : sumC cs b = s.count b := by
  have e : sumC cs b = ((cs.map Prod.fst).map fun c => refsP c.fields b).sum := by unfold sumC; rw [List.map_map]; rfl
  rw [e, h]
  unfold cellsOf
  rw [List.map_map]
  exact fields_sum g hN b
theorem letter_here {i : Nat} (h : (s.ob i).here = true) : (cellOf s i).letter ≠ 46 := by
  unfold cellOf
  rw [if_pos h]
  split
  · simp
  · split
    · simp
    · split <;> simp
theorem leads_state (g : s.Good N) (h : cs.map Prod.fst = cellsOf s N) {l : List (Int × Int)} (hl : ∀ v ∈ l, s.leads v) : Leads cs (l.map absV) := by
  intro v hv h35
  obtain ⟨u, hu, rfl⟩ := List.mem_map.1 hv
  rcases hl u hu with e | e | ⟨e, i, hi, ha⟩
  · rw [e] at h35; simp [absV] at h35
  · unfold absV at h35; rw [if_neg (by omega), if_pos e.1] at h35; simp at h35
  · have hz := g.ne_zero ha.1
    obtain ⟨y, hy⟩ := cs_get h (i := i - 1) (by omega)
    rw [show i - 1 + 1 = i by omega] at hy
    refine ⟨i - 1, ?_, _, hy, letter_here ha.1⟩
    unfold absV
    rw [if_neg (by omega), if_neg (by omega)]
    show u.2 = _
    omega
theorem leads_queue (g : s.Good N) (h : cs.map Prod.fst = cellsOf s N) : Leads cs (s.queue.map fun b => ((35 : UInt8), b)) := by
  intro v hv _
  obtain ⟨b, hb, rfl⟩ := List.mem_map.1 hv
  have h0 := g.nat b hb
  have hq := (g.inq b.toNat).1 (by rw [Int.toNat_of_nonneg h0]; exact hb)
  have hh : (s.ob b.toNat).here = true := by
    cases e : (s.ob b.toNat).here with
    | true => rfl
    | false => rw [g.gone _ e] at hq; cases hq
  have hz := g.ne_zero hh
  obtain ⟨y, hy⟩ := cs_get h (i := b.toNat - 1) (by omega)
  rw [show b.toNat - 1 + 1 = b.toNat by omega] at hy
  refine ⟨b.toNat - 1, ?_, _, hy, letter_here hh⟩
  show b = _
  omega
theorem cell_fields (i : Nat) : (cellOf s i).fields = (s.ob i).fs.map absV ∨ (cellOf s i).fields = [] := by
  unfold cellOf
  split
  · left
    split
    · rfl
    · split
      · rfl
      · split <;> rfl
  · right; rfl
theorem leads_fields (g : s.Good N) (h : cs.map Prod.fst = cellsOf s N) : ∀ x ∈ cs, Leads cs x.1.fields := by
  intro x hx
  obtain ⟨i, hi, e⟩ := cs_mem h hx
  rw [e]
  rcases cell_fields (s := s) (i + 1) with e | e
  · rw [e]; exact leads_state g h (g.fields (i + 1))
  · rw [e]; intro v hv; simp at hv
theorem fields_four (g : s.Good N) (h : cs.map Prod.fst = cellsOf s N) : ∀ x ∈ cs, x.1.fields.length ≤ 4 := by
  intro x hx
  obtain ⟨i, hi, e⟩ := cs_mem h hx
  rw [e]
  rcases cell_fields (s := s) (i + 1) with e | e
  · rw [e, List.length_map]; exact g.four (i + 1)
  · rw [e]; simp
end

end Go.Proofs.YtpmkjeihbddfpabDoor

/- OUR OWN. seen, of a heap that is a state. -/
namespace Go.Proofs.YtpmkjeihbddfpabDoor
open Go.RowKit
set_option linter.unusedVariables false
set_option linter.unusedSimpArgs false
section
variable {HS : HeapM → St → Cf → Nat → Prop}

def queueP (s : St) : List (UInt8 × Int) := s.queue.map fun b => (35, b)
theorem queue_le {s : St} {N : Nat} (g : s.Good N) : s.queue.length ≤ N := by
  rw [← letter_queued g]
  exact countTo_le _ _
/-- what a picture of the heap at x is -/
structure Shown (HS : HeapM → St → Cf → Nat → Prop) (w : World) (hm : HeapM) (w' : World) (x L B : Nat) (s : St) (c : Cf) (N : Nat) (cs : List (Cell × Value)) (vc vq vs vg : Value) (hm' : HeapM) : Prop where
  turn : HTurn x w hm w' hm'
  hs : HS hm' s c N
  low : w.heap.size ≤ B
  high : B ≤ w'.heap.size
  apart : ∀ g ∈ x :: hm'.foot, g < B
  map : cs.map Prod.fst = cellsOf s N
  pic : PicAt w' B L cs (queueP s) (s.stack.map absV) (s.globals.map absV) vc vq vs vg

theorem seen_of (dp : DumpPact HS) {x N Bt : Nat} {w : World} {hm : HeapM} {s : St} {c : Cf} (tab : Tab Bt w) (ha : HeapAt w x hm) (hs : HS hm s c N) (g : s.Good N) (hc : CfOk c) (hN : N ≤ 99) (hst : s.stack.length ≤ 16) (hgl : s.globals.length ≤ 8) (csz bu ze ov : Int) (hcs : (s.stack.length : Int) ≤ csz) :
    Calls Tryd.prog 11 #[.pointer (some ⟨x, 0, none⟩), .agg #[.int .i64 N, .int .i64 csz, .int .i64 s.globals.length, .int .i64 bu, .int .i64 ze, .int .i64 ov]] w fun e w' => ∃ L B cs vc vq vs vg hm', e = .returned (.tuple #[.pointer (some ⟨L, 0, none⟩), .bool true]) ∧ Shown HS w hm w' x L B s c N cs vc vq vs vg hm' := by
  have hql := queue_le g
  have hsN := g.sN
  have l1 := recs_len s N g.four
  have l2 := queueN_len s.queue s.queue.length
  have l3 := list_len s.stack
  have l4 := list_len s.globals
  have hdl : (dumpL s).length ≤ 100000 := by
    unfold dumpL
    rw [hsN]
    simp only [List.length_append, List.length_singleton]
    omega
  have hsp := split_dump s
  rw [hsN] at hsp
  refine Calls.mono (seen_core (dumpL s) (recsTo s N) (queueN s.queue s.queue.length) (listL s.stack) (listL s.globals) N hN ((List.range N).map fun i => bodyL s (i + 1)) (by simp) (cellsOf s N) (cellsOf_len s N) (queueP s) (s.stack.map absV) (s.globals.map absV) csz s.globals.length bu ze ov (by simpa using hcs) (by simp) (fun W w1 => ∃ hm', HTurn x W hm w1 hm' ∧ HS hm' s c N) x w (by simpa using hst) (by simpa using hgl) ?_ ?_ ?_ ?_ ?_ ?_ ?_) ?_
  · intro W hb
    have haW : HeapAt W x hm := ha.carry fun y hy => hb.block y (ha.lt y hy)
    refine Calls.mono (dp x N Bt W hm s c (tab.below hb) haW hs g hc hN hst hgl) ?_
    rintro e w' ⟨rfl, hm', ht, hs'⟩
    refine ⟨rfl, ⟨hm', ht, hs'⟩, ht.off.size, fun k h1 h2 => ht.off.block k h2 fun hk => ?_⟩
    have := ha.lt k hk
    omega
  · intro W
    have h := split_any (dumpL s) 124 hdl W
    rw [hsp] at h
    exact h
  · intro W
    have h := split_any (recsTo s N) 59 (by omega) W
    rw [split_recs s N] at h
    have e : (((List.range N).map fun i => bodyL s (i + 1)) ++ [[]]).length = N + 1 := by simp
    rw [e] at h
    exact h
  · intro W
    have h := numbers_any (queueN s.queue s.queue.length) (by omega) (queue_parts g hN) W
    rw [numbers_queue g hN] at h
    exact h
  · intro W
    have h := values_any (listL s.stack) (by omega) (split_parts fun v hv => g.readable hN (g.stack v hv)) W
    rw [values_stack g hN] at h
    exact h
  · intro W
    have h := values_any (listL s.globals) (by omega) (split_parts fun v hv => g.readable hN (g.globals v hv)) W
    rw [values_globals g hN] at h
    exact h
  · intro k h1 h2 W
    have h := block_of g hN (k + 1) W
    simp only [List.getElem_map, List.getElem_range, cellsOf]
    exact h
  · rintro e w' ⟨W, w1, L, cs, vc, vq, vs, vg, rfl, hb, ⟨hm', ht, hs'⟩, hb1, hmap, hp⟩
    refine ⟨L, w1.heap.size, cs, vc, vq, vs, vg, hm', rfl, ?_⟩
    have h1 := hb.size
    have h2 := ht.off.size
    exact ⟨((HTurn.of_below ha hb).trans ht).after hb1, hs', by omega, hb1.size, fun y hy => ht.here.lt y hy, hmap, hp⟩
end

end Go.Proofs.YtpmkjeihbddfpabDoor

/- OUR OWN. What is asked of the picture of a state. -/
namespace Go.Proofs.YtpmkjeihbddfpabDoor
open Go.RowKit
set_option linter.unusedVariables false
set_option linter.unusedSimpArgs false
section
variable {HS : HeapM → St → Cf → Nat → Prop}

/-- a picture of the state s, from block B on -/
structure PicOf (w : World) (L B : Nat) (s : St) (N : Nat) (cs : List (Cell × Value)) (vc vq vs vg : Value) : Prop where
  map : cs.map Prod.fst = cellsOf s N
  pic : PicAt w B L cs (queueP s) (s.stack.map absV) (s.globals.map absV) vc vq vs vg
theorem PicOf.below {w w' : World} {L B : Nat} {s : St} {N : Nat} {cs : List (Cell × Value)} {vc vq vs vg : Value} (h : PicOf w L B s N cs vc vq vs vg) (hb : Below w.heap.size w w') : PicOf w' L B s N cs vc vq vs vg := ⟨h.map, h.pic.below hb⟩
theorem PicOf.kept {w w' : World} {L B : Nat} {s : St} {N : Nat} {cs : List (Cell × Value)} {vc vq vs vg : Value} (h : PicOf w L B s N cs vc vq vs vg) (hk : ∀ k, B ≤ k → k < w.heap.size → w'.heap[k]? = w.heap[k]?) : PicOf w' L B s N cs vc vq vs vg := ⟨h.map, h.pic.kept hk⟩

theorem pic_wide {w : World} {L B : Nat} {s : St} {N : Nat} {cs : List (Cell × Value)} {vc vq vs vg : Value} (h : PicOf w L B s N cs vc vq vs vg) (g : s.Good N) (h1 : 1 ≤ N) (hN : N ≤ 99) (hst : s.stack.length ≤ 16) (hgl : s.globals.length ≤ 8) :
    Calls Tryd.prog 12 #[.pointer (some ⟨L, 0, none⟩)] w fun e w' => e = .returned (.bool true) ∧ Below w.heap.size w w' := by
  have hl := cs_len h.map
  have hq := queue_le g
  refine wide_seen h.pic (by omega) (by omega) (leads_queue g h.map) (leads_state g h.map g.stack) (leads_state g h.map g.globals) (leads_fields g h.map) ?_ (by simp; omega) (by simp; omega) fun x hx => by have := fields_four g h.map x hx; omega
  unfold queueP
  simp
  omega


end

end Go.Proofs.YtpmkjeihbddfpabDoor

/- OUR OWN. Counted, the steps. -/
namespace Go.Proofs.YtpmkjeihbddfpabDoor
open Go.RowKit
set_option linter.unusedVariables false
set_option linter.unusedSimpArgs false
section
variable {HS : HeapM → St → Cf → Nat → Prop}

/-- all that is asked of the program where it is looked at by Dump -/
structure PactsD (HS : HeapM → St → Cf → Nat → Prop) : Prop where
  all : Pacts HS
  dump : DumpPact HS

theorem act_globals {s : St} {N : Nat} (g : s.Good N) (c : Cf) (op n : Int) : (actS c s op n).1.globals.length = s.globals.length := by
  unfold actS
  split
  · show (s.safe c).1.globals.length = _
    rw [(same_safe g c).globals]
  · split
    · show (s.collect c.over).globals.length = _
      rw [(same_collect g c.over).globals]
    · exact do_globals g c op n

/-- the heap at x is some state -/
def Inv (HS : HeapM → St → Cf → Nat → Prop) (Bx x kg N : Nat) (c : Cf) (wr : World) : Prop := ∃ hm s, KAt HS Bx wr x hm s c N ∧ s.globals.length = kg
/-- and there is a picture of it at L -/
def Pic2 (HS : HeapM → St → Cf → Nat → Prop) (Bx x kg N : Nat) (c : Cf) (L : Nat) (wr : World) : Prop := ∃ B hm s cs vc vq vs vg, KAt HS Bx wr x hm s c N ∧ s.globals.length = kg ∧ (∀ y ∈ x :: hm.foot, y < B) ∧ B ≤ wr.heap.size ∧ PicOf wr L B s N cs vc vq vs vg
/-- a picture of some state at L -/
def Pic3 (N L : Nat) (wr : World) : Prop := ∃ B s cs vc vq vs vg, PicOf wr L B s N cs vc vq vs vg ∧ s.Good N ∧ s.stack.length ≤ 16 ∧ s.globals.length ≤ 8

theorem inv_act (P : PactsD HS) {Bx x kg N : Nat} {c : Cf} {wr : World} (h : Inv HS Bx x kg N c wr) (op n : Int) (hop : fits op) (hn : fits n) :
    Calls Tryd.prog 8 #[.pointer (some ⟨x, 0, none⟩), .agg #[.int .i64 op, .int .i64 n]] wr fun e w' => (∃ r1 r2, e = .returned (.tuple #[.int .i64 r1, .int .i64 r2])) ∧ Inv HS Bx x kg N c w' ∧ Below Bx wr w' := by
  obtain ⟨hm, s, k, hg⟩ := h
  refine Calls.mono (act_any P.all k op n hop hn) ?_
  rintro e w' ⟨rfl, hm', ht, hk⟩
  exact ⟨⟨_, _, rfl⟩, ⟨hm', _, hk, by rw [act_globals k.good]; exact hg⟩, ht.off.below k.size k.low⟩
theorem inv_seen (P : PactsD HS) {Bx x kg N Bt : Nat} {c : Cf} {wr : World} (h : Inv HS Bx x kg N c wr) (tab : Tab Bt wr) (bu : Int) :
    Calls Tryd.prog 11 #[.pointer (some ⟨x, 0, none⟩), .agg #[.int .i64 N, .int .i64 c.deep, .int .i64 kg, .int .i64 bu, .int .i64 c.zero, .int .i64 c.over]] wr fun e w' => ∃ L, e = .returned (.tuple #[.pointer (some ⟨L, 0, none⟩), .bool true]) ∧ Pic2 HS Bx x kg N c L w' ∧ Below Bx wr w' := by
  obtain ⟨hm, s, k, rfl⟩ := h
  refine Calls.mono (seen_of P.dump tab k.here k.hs k.good k.cf k.small k.stack k.gl c.deep bu c.zero c.over k.bound.roots) ?_
  rintro e w' ⟨L, B, cs, vc, vq, vs, vg, hm', rfl, sh⟩
  have hb := sh.turn.off.below k.size k.low
  have hz := sh.turn.off.size
  refine ⟨L, rfl, ⟨B, hm', s, cs, vc, vq, vs, vg, ⟨sh.turn.here, sh.hs, k.good, k.bound, k.cf, k.small, k.gl, fun y hy => ?_, by have := k.size; omega⟩, rfl, sh.apart, sh.high, sh.map, sh.pic⟩, hb⟩
  rcases List.mem_cons.1 hy with e | e
  · exact k.low y (by rw [e]; exact List.mem_cons_self)
  · rcases sh.turn.foot y e with e | e
    · exact k.low y (List.mem_cons_of_mem _ e)
    · have := k.size; omega
theorem pic2_wide {Bx x kg N L : Nat} {c : Cf} {wr : World} (h : Pic2 HS Bx x kg N c L wr) (h1 : 1 ≤ N) :
    Calls Tryd.prog 12 #[.pointer (some ⟨L, 0, none⟩)] wr fun e w' => e = .returned (.bool true) ∧ Pic2 HS Bx x kg N c L w' ∧ Below Bx wr w' := by
  obtain ⟨B, hm, s, cs, vc, vq, vs, vg, k, hg, hap, hB, hp⟩ := h
  refine Calls.mono (pic_wide hp k.good h1 k.small k.stack k.gl) ?_
  rintro e w' ⟨rfl, hb⟩
  exact ⟨rfl, ⟨B, hm, s, cs, vc, vq, vs, vg, k.below hb, hg, hap, by have := hb.size; omega, hp.below hb⟩, hb.mono k.size⟩
end

end Go.Proofs.YtpmkjeihbddfpabDoor

/- OUR OWN. What is asked of a picture: reached, the rows. -/
namespace Go.Proofs.YtpmkjeihbddfpabDoor
open Go.RowKit
set_option linter.unusedVariables false
set_option linter.unusedSimpArgs false

theorem infoBool : (Tryd.prog.info? 4).map (fun i => (i.zero, i.size, i.bytes)) = some (some (.bool false), 1, 1) := by kernel_rfl
theorem infoVal : (Tryd.prog.info? 95).map (fun i => (i.zero, i.size, i.bytes)) = some (some (.agg #[.int .u8 0, .int .i64 0]), 2, 16) := by kernel_rfl

def natRow (t : List Nat) : List Value := t.map fun (n : Nat) => Value.int .i64 (n : Int)
/-- which blocks are among those that were found -/
def inL (N : Nat) (t : List Nat) : List Value := (List.range (N + 1)).map fun b => Value.bool (decide (b ∈ t))
theorem inL_get {N b : Nat} (t : List Nat) (hb : b ≤ N) : (inL N t)[b]? = some (.bool (decide (b ∈ t))) := by
  unfold inL
  rw [List.getElem?_map, List.getElem?_range (by omega)]; rfl
theorem inL_nil (N : Nat) : inL N [] = List.replicate (N + 1) (.bool false) := by
  unfold inL
  apply List.ext_getElem?
  intro i
  rw [List.getElem?_map, List.getElem?_replicate]
  by_cases h : i < N + 1
  · rw [List.getElem?_range h, if_pos h]; simp
  · rw [List.getElem?_eq_none (by simpa using h), if_neg h]; rfl
theorem inL_add {N b : Nat} (t : List Nat) (hb : b ≤ N) : (inL N t).set b (.bool true) = inL N (t ++ [b]) := by
  apply List.ext_getElem?
  intro i
  unfold inL
  rw [List.getElem?_set, List.getElem?_map, List.getElem?_map, List.length_map, List.length_range]
  by_cases h : i < N + 1
  · rw [List.getElem?_range h]
    by_cases e : b = i
    · subst e; rw [if_pos rfl, if_pos h]; simp
    · rw [if_neg e]
      have : (i ∈ t ++ [b]) ↔ i ∈ t := by simp; intro x; exact absurd x.symm e
      simp only [Option.map_some, this]
  · rw [List.getElem?_eq_none (by simpa using h)]
    by_cases e : b = i
    · omega
    · rw [if_neg e]; rfl

/-- a row of another type stays -/
theorem own_other {w w' : World} {B B' : Nat} {e e' : TypeId} {sz sz' : Nat} {v v' : Value} {n n' : Nat} {xs xs' : List Value} (h : w.ownsRow B e sz v n xs) (h' : w.ownsRow B' e' sz' v' n' xs') (he : e ≠ e')
    (hc : ∀ k, k < w.heap.size → v'.ownBlock ≠ some k → w'.heap[k]? = w.heap[k]?) : w'.ownsRow B e sz v n xs := own_carry h fun g hg => hc g (own_lt h hg).2 (rows_apart h h' he hg)

/-- the rows of the search: 'in' in block I, todo -/
structure RS (w wr : World) (N I : Nat) (t1 t : List Nat) (vt : Value) : Prop where
  inn : wr.ownsRow w.heap.size 4 1 (.slice (some ⟨I, 0, none⟩) (N + 1) (N + 1)) (N + 1) (inL N t1)
  todo : wr.ownsRow w.heap.size 3 1 vt t.length (natRow t)
  below : Below w.heap.size w wr
def SR (wr : World) (l : List (UInt8 × Int)) (v : Value) : Prop := wr.ownsRow 0 95 2 v l.length (l.flatMap valC)
variable {w wr W : World} {N I : Nat} {t t1 : List Nat} {vt vl : Value} {l : List (UInt8 × Int)}
theorem RS.on (h : RS w wr N I t1 t vt) (hb : Below wr.heap.size wr W) : RS w W N I t1 t vt :=
  ⟨own_carry h.inn fun g hg => hb.block g (own_lt h.inn hg).2, own_carry h.todo fun g hg => hb.block g (own_lt h.todo hg).2, h.below.trans (hb.mono h.below.size)⟩
theorem SR.on (h : SR wr l vl) (hb : Below wr.heap.size wr W) : SR W l vl := own_carry h fun g hg => hb.block g (own_lt h hg).2
/-- block b is marked -/
theorem RS.mark (h : RS w wr N I t t vt) (b : Nat) (hb : b ≤ N) : RS w (wr.setCell ⟨I, b, none⟩ (.bool true)) N I (t ++ [b]) t vt := by
  have hI := own_lt h.inn (g := I) rfl
  refine ⟨?_, own_other h.todo h.inn (by decide) fun k _ hne => hso fun e => hne (by rw [e]; rfl), h.below.setCell hI.1 _⟩
  rw [← inL_add t hb]
  exact (h.inn.stored b _).1
theorem SR.mark (s : SR wr l vl) (h : RS w wr N I t1 t vt) (b : Nat) (u : Value) : SR (wr.setCell ⟨I, b, none⟩ u) l vl :=
  own_other s h.inn (by decide) fun k _ hne => hso fun e => hne (by rw [e]; rfl)
/-- and is to be looked at -/
theorem RS.grown (h : RS w wr N I t1 t vt) {w' : World} {g cap b : Nat} (hown : w'.ownsRow w.heap.size 3 1 (.slice (some ⟨g, 0, none⟩) (t.length + 1) cap) (t.length + 1) (natRow t ++ [.int .i64 b]))
    (hgr : wr.grownBy w' vt.ownBlock) : RS w w' N I t1 (t ++ [b]) (.slice (some ⟨g, 0, none⟩) (t.length + 1) cap) := by
  refine ⟨own_other h.inn h.todo (by decide) fun k hk hne => hgr.block k hk fun e => hne e.symm, ?_, h.below.grown hgr h.below.size fun k hk => (own_lt h.todo hk).1⟩
  have e : natRow (t ++ [b]) = natRow t ++ [.int .i64 b] := by unfold natRow; rw [List.map_append]; rfl
  rw [e, List.length_append, List.length_singleton]; exact hown
theorem SR.grown (s : SR wr l vl) (h : RS w wr N I t1 t vt) {w' : World} (hgr : wr.grownBy w' vt.ownBlock) : SR w' l vl :=
  own_other s h.todo (by decide) fun k hk hne => hgr.block k hk fun e => hne e.symm
theorem RS.cell (h : RS w wr N I t1 t vt) {b : Nat} (hb : b ≤ N) : wr.cell? ⟨I, b, none⟩ = some (.bool (decide (b ∈ t1))) ∧ wr.frozen? ⟨I, b, none⟩ = false ∧ I < wr.heap.size := by
  obtain ⟨g, cap, hv, hg, _, _, hcell, hfz⟩ := own_view (own_base h.inn (Nat.zero_le _)) (by omega)
  simp at hv
  obtain ⟨rfl, _⟩ := hv
  exact ⟨hcell b _ (inL_get t1 hb), hfz _, hg⟩
theorem RS.form (h : RS w wr N I t1 t vt) : ∃ ao cap, vt = .slice ao t.length cap := own_slice (own_base h.todo (Nat.zero_le _))
theorem RS.at_ (h : RS w wr N I t1 t vt) {n : Nat} (hn : n < t.length) : ∃ g cap, vt = .slice (some ⟨g, 0, none⟩) t.length cap ∧ wr.cell? ⟨g, n, none⟩ = some (.int .i64 (t[n] : Nat)) := by
  obtain ⟨g, cap, hv, hg, _, _, hcell, _⟩ := own_view (own_base h.todo (Nat.zero_le _)) (by omega)
  refine ⟨g, cap, hv, hcell n _ ?_⟩
  unfold natRow
  rw [List.getElem?_map, List.getElem?_eq_getElem hn]; rfl

theorem valC_one (l : List (UInt8 × Int)) : ∀ u ∈ l.flatMap valC, u.oneCell' = true := by
  intro u hu
  obtain ⟨v, _, hv⟩ := List.mem_flatMap.1 hu
  simp [valC] at hv
  rcases hv with rfl | rfl <;> rfl
theorem own_none (w : World) (e : TypeId) (B : Nat) (hB : B ≤ w.heap.size) : (w.alloc (.cells #[] e)).ownsRow B e 2 (.slice (some ⟨w.heap.size, 0, none⟩) 0 0) 0 [] :=
  ⟨rfl, .inr ⟨w.heap.size, 0, #[], rfl, hB, heap_alloc_new w _, Nat.le_refl _, by unfold maxLen; omega, by simp, by simp⟩⟩

end Go.Proofs.YtpmkjeihbddfpabDoor

/- OUR OWN. What is asked of a picture: reached. -/
namespace Go.Proofs.YtpmkjeihbddfpabDoor
open Go.RowKit
set_option linter.unusedVariables false
set_option linter.unusedSimpArgs false

set_option maxHeartbeats 3200000 in
set_option maxRecDepth 100000 in
theorem reached_seen {w : World} {L B : Nat} {s : St} {N : Nat} {cs : List (Cell × Value)} {vc vq vs vg : Value} (h : PicOf w L B s N cs vc vq vs vg) (g : s.Good N) (h1 : 1 ≤ N) (hN : N ≤ 99) (hst : s.stack.length ≤ 16) (hgl : s.globals.length ≤ 8) :
    Calls Tryd.prog 44 #[.pointer (some ⟨L, 0, none⟩)] w fun e w' => e = .returned (.int .i64 (reachN s)) ∧ Below w.heap.size w w' := by
  have hlen := cs_len h.map
  obtain ⟨gc, capc, rfl, hgc, hc⟩ := h.pic.view (by omega)
  have p0 := cell_of_heap (i := 0) h.pic.box rfl
  have p2 := cell_of_heap (i := 2) h.pic.box rfl
  have p3 := cell_of_heap (i := 3) h.pic.box rfl
  simp at p0 p2 p3
  rw [hlen] at p0
  have hL := lt_of_heap h.pic.box
  obtain ⟨so, sc, hvs⟩ := own_slice (own_base h.pic.stack (Nat.zero_le _))
  obtain ⟨go, gcap, hvg⟩ := own_slice (own_base h.pic.globals (Nat.zero_le _))
  rw [List.length_map] at hvs hvg
  rw [hvs] at p2
  rw [hvg] at p3
  have SRC1 : Hid (∀ V, Below w.heap.size w V → V.ownsRow 0 95 2 (.slice so s.stack.length sc) s.stack.length ((s.stack.map absV).flatMap valC)) := fun V hV => by
    have := own_base h.pic.stack (Nat.zero_le _)
    rw [List.length_map, hvs] at this
    exact own_carry this fun k hk => hV.block k (own_lt this hk).2
  have SRC2 : Hid (∀ V, Below w.heap.size w V → V.ownsRow 0 95 2 (.slice go s.globals.length gcap) s.globals.length ((s.globals.map absV).flatMap valC)) := fun V hV => by
    have := own_base h.pic.globals (Nat.zero_le _)
    rw [List.length_map, hvg] at this
    exact own_carry this fun k hk => hV.block k (own_lt this hk).2
  have CELLS : Hid (∀ V, Below w.heap.size w V → ∀ b, 1 ≤ b → b ≤ N → V.cell? ⟨L, 0, none⟩ = some (.slice (some ⟨gc, 0, none⟩) N capc) ∧ ∃ vf, V.cell? ⟨gc, (b - 1) * 3 + 2, none⟩ = some vf ∧ SR V (cellOf s b).fields vf) := fun V hV b hb1 hb2 => by
    obtain ⟨v, hv⟩ := cs_get h.map (i := b - 1) (by omega)
    have hi : b - 1 < cs.length := by omega
    have he : cs[b - 1] = (cellOf s b, v) := by
      have := (List.getElem?_eq_some_iff.1 hv).2
      rw [this, show b - 1 + 1 = b by omega]
    refine ⟨(hV.cell (p := ⟨L, 0, none⟩) hL).trans p0, v, ?_, ?_⟩
    · have := (hc (b - 1) hi).2.2
      rw [he] at this
      exact (hV.cell (p := ⟨gc, (b - 1) * 3 + 2, none⟩) hgc).trans this
    · have hf := h.pic.fields (cellOf s b, v) (by rw [← he]; exact List.getElem_mem hi)
      have hf2 := own_base hf (Nat.zero_le _)
      exact own_carry hf2 fun k hk => hV.block k (own_lt hf2 hk).2
  have F0 : Hid (Found s 0 (scanR (s.globals.map absV) (scanR (s.stack.map absV) []))) := found_start g hN
  have FN : Hid (∀ n t a, Found s n t → t[n]? = some a → Found s (n + 1) (scanR (cellOf s a).fields t) ∧ 1 ≤ a ∧ a ≤ N) := fun n t a f ha => ⟨found_next g hN f ha, by
    have := reach_range s s.N a (f.reach a (List.mem_of_getElem? ha))
    rw [g.sN] at this
    exact this⟩
  have FE : Hid (∀ t, Found s t.length t → t.length = reachN s) := fun t f => found_end g f
  have FOUR : Hid (∀ b, (cellOf s b).fields.length ≤ 4) := fun b => by
    rcases cell_fields (s := s) b with e | e
    · rw [e, List.length_map]; exact g.four b
    · rw [e]; simp
  have LF : Hid (∀ b, ∀ v ∈ (cellOf s b).fields, v.1 = 35 → ∃ b : Nat, v.2 = (b : Int) ∧ 1 ≤ b ∧ b ≤ N) := fun b v hv h35 => by
    rcases cell_fields (s := s) b with e | e
    · rw [e] at hv; exact lead_range g (g.fields b) hv h35
    · rw [e] at hv; cases hv
  have FS : Hid (∀ n t, Found s n t → t.length ≤ N) := fun n t f => f.small g
  have LEAD : Hid (∀ v, v ∈ s.stack.map absV ∨ v ∈ s.globals.map absV ∨ (∃ b, v ∈ (cellOf s b).fields) → v.1 = 35 → ∃ b : Nat, v.2 = (b : Int) ∧ 1 ≤ b ∧ b ≤ N) := fun v hv h35 => by
    rcases hv with hv | hv | ⟨b, hv⟩
    · exact lead_range g g.stack hv h35
    · exact lead_range g g.globals hv h35
    · rcases cell_fields (s := s) b with e | e
      · rw [e] at hv; exact lead_range g (g.fields b) hv h35
      · rw [e] at hv; cases hv
  have mk1 := run_make_one (P := Tryd.prog) 59 4 (.bool false) 1 Tryd.underlying59 infoBool rfl .i64 .i64 (N + 1) (by omega) (by omega)
  simp only [Int.natCast_add, Int.natCast_one, Nat.mul_one] at mk1
  have OM := own_made_one w 4 (.bool false) (N + 1) (by omega)
  simp only [Nat.mul_one] at OM
  have OMH : Hid _ := OM
  have al2 : ∀ (ob ob' : Obj), ((w.alloc ob).alloc ob').cell? ⟨L, 2, none⟩ = w.cell? ⟨L, 2, none⟩ := fun ob ob' => (World.cell?_of_block (hao (by simp; omega))).trans (World.cell?_of_block (hao hL))
  obtain ⟨i1, hi1, hy0, hy1, hy2⟩ := info_parts infoVal
  have IV : Hid _ := And.intro hi1 (And.intro hy0 (And.intro hy1 hy2))
  clear hi1 hy0 hy1 hy2 OM h g hc hvs hvg
  obtain ⟨nst, hnst⟩ : ∃ n, s.stack.length = n := ⟨_, rfl⟩
  obtain ⟨ngl, hngl⟩ : ∃ n, s.globals.length = n := ⟨_, rfl⟩
  rw [hnst] at p2 SRC1 hst
  rw [hngl] at p3 SRC2 hgl
  go_enter Tryd.func44, Tryd.ntmps44
  go_wp2_with (at_builtin; refine wpList_append_more _ rfl (.tmp 17) (.tmp 21) 70 rfl w.heap.size 95 i1 _ 2 16 Tryd.underlying70 IV.out.1 IV.out.2.1 IV.out.2.2.1 IV.out.2.2.2 rfl (by decide) (.slice (some ⟨w.heap.size + 1, 0, none⟩) 0 0) 0 [] rfl ?o1 (.slice so nst sc) nst _ rfl (SRC1.out _ (((Below.refl _ _).alloc (Nat.le_refl _) _).alloc (by simp) _)) ?o2 ?o3 ?o4 ?o5 ?_)
  case o1 =>
    have := own_none (w.alloc (.cells (madeCells #[.bool false] (N + 1)) 4)) 95 w.heap.size (by simp)
    simpa using this
  case o2 => exact valC_one _
  case o3 => unfold maxLen; omega
  case o4 => omega
  case o5 => simp; omega
  intro ao1 cap1 w2 hown hgr hlie
  try simp only [Nat.zero_add, List.nil_append] at hown
  have hsW : ((w.alloc (.cells (madeCells #[.bool false] (N + 1)) 4)).alloc (.cells #[] 95)).heap.size = w.heap.size + 2 := by simp
  have hnb : ∀ k, k < w.heap.size + 1 → w2.heap[k]? = ((w.alloc (.cells (madeCells #[.bool false] (N + 1)) 4)).alloc (.cells #[] 95)).heap[k]? := fun k hk => hgr.block k (by rw [hsW]; omega) (by
    intro e
    have : k = w.heap.size + 1 := by simpa [Value.ownBlock] using e
    omega)
  have R2 : Hid (RS w w2 N w.heap.size [] [] (.slice none 0 0)) := by
    refine ⟨?_, World.ownsRow_nil _ _ _ _, ?_⟩
    · rw [inL_nil]
      exact own_carry OMH.out fun k hk => by
        have : k = w.heap.size := by simpa [Value.ownBlock, eq_comm] using hk
        rw [hnb k (by omega), hao (by simp; omega)]
    · refine ⟨?_, ?_, ?_, by have := hgr.size; rw [hsW] at this; omega, fun k hk => ?_⟩
      · rw [hgr.os]; rfl
      · rw [hgr.tape]; rfl
      · rw [hgr.output]; rfl
      · rw [hnb k (by omega), hao (by simp; omega), hao hk]
  have O2 : Hid (w2.ownsRow w.heap.size 95 2 (.slice ao1 nst cap1) nst ((s.stack.map absV).flatMap valC)) := hown
  have q3 : w2.cell? ⟨L, 3, none⟩ = some (.slice go ngl gcap) := (R2.out.below.cell (p := ⟨L, 3, none⟩) hL).trans p3
  have hs2 : w.heap.size ≤ w2.heap.size := R2.out.below.size
  clear hown hgr hlie hnb hsW OMH SRC1 p2 p3 al2 mk1
  try simp only [Nat.zero_add]
  go_wp2_with (at_builtin; refine wpList_append_more _ rfl (.tmp 23) (.tmp 27) 70 rfl w.heap.size 95 i1 _ 2 16 Tryd.underlying70 IV.out.1 IV.out.2.1 IV.out.2.2.1 IV.out.2.2.2 rfl (by decide) (.slice ao1 nst cap1) nst _ rfl O2.out (.slice go ngl gcap) ngl _ rfl (SRC2.out _ R2.out.below) ?o2 ?o3 ?o4 ?o5 ?_)
  case o2 => exact valC_one _
  case o3 => unfold maxLen; omega
  case o4 => omega
  case o5 => exact hs2
  intro ao2 cap2 w3 hown hgr hlie
  obtain ⟨R, hR⟩ : ∃ R, s.stack.map absV ++ s.globals.map absV = R := ⟨_, rfl⟩
  have hRl : R.length = nst + ngl := by rw [← hR]; simp; omega
  have SR3 : Hid (SR w3 R (.slice ao2 (nst + ngl) cap2)) := by
    show w3.ownsRow 0 _ 2 _ R.length _
    rw [hRl, ← hR, List.flatMap_append]
    exact own_base hown (Nat.zero_le _)
  have R3 : Hid (RS w w3 N w.heap.size [] [] (.slice none 0 0)) := by
    refine ⟨own_other R2.out.inn O2.out (by decide) fun k hk hne => hgr.block k hk fun e => hne e.symm, World.ownsRow_nil _ _ _ _, R2.out.below.grown hgr hs2 fun k hk => (own_lt O2.out hk).1⟩
  have SCN : Hid (scanR R [] = scanR (s.globals.map absV) (scanR (s.stack.map absV) [])) := by show scanR R [] = _; rw [← hR]; unfold scanR; rw [List.foldl_append]
  have LR : Hid (∀ v ∈ R, v.1 = 35 → ∃ b : Nat, v.2 = (b : Int) ∧ 1 ≤ b ∧ b ≤ N) := fun v hv h35 => by
    rw [← hR] at hv
    rcases List.mem_append.1 hv with e | e
    · exact LEAD.out v (.inl e) h35
    · exact LEAD.out v (.inr (.inl e)) h35
  clear hown hgr hlie q3 O2 R2 SRC2 hs2 hR
  obtain ⟨rl, hrl⟩ : ∃ rl, nst + ngl = rl := ⟨_, rfl⟩
  rw [hrl] at SR3 hRl
  have hrl9 : rl ≤ 24 := by omega
  simp only [hrl]
  have STEP : Hid (∀ (l : List (UInt8 × Int)) (wr : World) (t : List Nat) (vt vl : Value), (∀ v ∈ l, v.1 = 35 → ∃ b : Nat, v.2 = (b : Int) ∧ 1 ≤ b ∧ b ≤ N) → RS w wr N w.heap.size t t vt → SR wr l vl → ∀ j (hj : j < l.length),
      ∃ lg lc, vl = .slice (some ⟨lg, 0, none⟩) l.length lc ∧ wr.cell? ⟨lg, j * 2, none⟩ = some (.int .u8 (l[j]).1.toNat) ∧ wr.cell? ⟨lg, j * 2 + 1, none⟩ = some (.int .i64 (l[j]).2) ∧
        ((l[j]).1 = 35 → ∃ b : Nat, (l[j]).2 = (b : Int) ∧ b ≤ N ∧ wr.cell? ⟨w.heap.size, b, none⟩ = some (.bool (decide (b ∈ t))) ∧ wr.frozen? ⟨w.heap.size, b, none⟩ = false ∧ (b ∈ t → stepR t l[j] = t) ∧
          (b ∉ t → stepR t l[j] = t ++ [b] ∧ ∀ W, Below (wr.setCell ⟨w.heap.size, b, none⟩ (.bool true)).heap.size (wr.setCell ⟨w.heap.size, b, none⟩ (.bool true)) W → RS w W N w.heap.size (t ++ [b]) t vt ∧ SR W l vl)) ∧
        (¬ (l[j]).1 = 35 → stepR t l[j] = t)) := fun l wr t vt vl hld rs sr j hj => by
    obtain ⟨lg, lc, hvl, _, hcl⟩ := val_cells (own_base sr (Nat.zero_le 0)) (by omega)
    obtain ⟨c0, c1⟩ := hcl j hj
    refine ⟨lg, lc, hvl, c0, c1, fun h35 => ?_, fun h35 => by unfold stepR; rw [if_neg (fun x => h35 x.1)]⟩
    obtain ⟨b, hb, hb1, hb2⟩ := hld _ (List.getElem_mem hj) h35
    obtain ⟨d0, d1, _⟩ := rs.cell hb2
    have hbn : (l[j]).2.toNat = b := by rw [hb, Int.toNat_natCast]
    refine ⟨b, hb, hb2, d0, d1, fun hin => by unfold stepR; rw [if_neg (fun x => x.2 (by rw [hbn]; exact hin))], fun hin => ⟨by unfold stepR; rw [if_pos ⟨h35, by rw [hbn]; exact hin⟩, hbn], fun W hW => ⟨(rs.mark b hb2).on hW, (sr.mark rs b _).on hW⟩⟩⟩
  obtain ⟨i3, hi3, hz0, hz1, hz2⟩ := info_parts infoInt
  have IN : Hid _ := And.intro hi3 (And.intro hz0 (And.intro hz1 hz2))
  have SMALL : Hid (∀ j t, t = scanR (R.take j) [] → t.length ≤ 24) := fun j t ht => by
    have key : ∀ (l : List (UInt8 × Int)) (t : List Nat), (scanR l t).length ≤ t.length + l.length := fun l => by
      induction l with
      | nil => intro t; simp [scanR]
      | cons a l ih =>
        intro t
        have h1 := ih (stepR t a)
        have h2 : (stepR t a).length ≤ t.length + 1 := by unfold stepR; split <;> simp
        show (scanR l (stepR t a)).length ≤ _
        simp only [List.length_cons]; omega
    have := key (R.take j) []
    rw [← ht] at this
    have h3 : (R.take j).length ≤ R.length := List.length_take_le' _ _
    simp at this
    omega
  clear hi3 hz0 hz1 hz2 LEAD IV
  go_wp2
  go_loopw [4, 7] (fun vt i wq => ∃ (j : Nat) (t : List Nat) (v : Value), j ≤ rl ∧ i = .int .i64 j ∧ v = vt ∧ t = scanR (R.take j) [] ∧ RS w wq N w.heap.size t t v ∧ SR wq R (.slice ao2 rl cap2)) (fun _ i _ => rl - (intOf i).toNat)
  case atStart => exact ⟨0, [], _, Nat.zero_le _, rfl, rfl, by simp [scanR], R3.out, SR3.out⟩
  case round =>
    obtain ⟨j, t, v, hj, rfl, rfl, ht, hrs, hsr⟩ := hrel
    have M : Hid (RS w wr N w.heap.size t t v ∧ SR wr R (.slice ao2 rl cap2)) := ⟨hrs, hsr⟩
    have htl := SMALL.out j t ht
    obtain ⟨tao, tc, hv⟩ := hrs.form
    subst hv
    by_cases hlt : j < rl
    · have hjR : j < R.length := by omega
      have HT : Hid (scanR (R.take (j + 1)) [] = stepR t R[j]) := by show _ = _; rw [take_snoc R j hjR, scanR_snoc, ← ht]
      obtain ⟨lg, lc, hvl, c0, c1, h35, hno⟩ := STEP.out R wr t _ _ LR.out hrs hsr j hjR
      simp at hvl
      obtain ⟨rfl, hdup, rfl⟩ := hvl
      clear hdup
      obtain ⟨x, hx⟩ : ∃ x, R[j] = x := ⟨_, rfl⟩
      rw [hx] at c0 c1 h35 hno HT
      obtain ⟨x1, x2⟩ := x
      simp only at c0 c1 h35 hno
      have hjI : (j : Int) < rl := by omega
      have TT : Hid (t = scanR (R.take j) []) := ht
      clear hrs hsr ht
      by_cases q1 : x1 = 35
      · subst q1
        obtain ⟨b, rfl, hbN, d0, d1, hin, hout⟩ := h35 rfl
        have hbI : (b : Int) < (N : Int) + 1 := by omega
        by_cases hb : b ∈ t
        · have hsame := hin hb
          have hd : decide (b ∈ t) = true := by simpa using hb
          rw [hd] at d0
          have HS' : Hid (scanR (R.take (j + 1)) [] = t) := by show _ = _; rw [HT.out, hsame]
          clear hin hout hno h35 hsame hd hb hx
          go_wp2
          go_roundw
          case rel => exact ⟨j + 1, t, _, by omega, by go_num, rfl, HS'.out.symm, M.out.1, M.out.2⟩
          case measure => simp [intOf]; omega
        · have hd : decide (b ∈ t) = false := by simpa using hb
          rw [hd] at d0
          obtain ⟨hnew, hmark⟩ := hout hb
          have MK : Hid _ := hmark
          have HS' : Hid (scanR (R.take (j + 1)) [] = t ++ [b]) := by show _ = _; rw [HT.out, hnew]
          have cm : (wr.setCell ⟨w.heap.size, b, none⟩ (.bool true)).cell? ⟨lg, j * 2 + 1, none⟩ = some (.int .i64 b) := by
            have sr1 := (MK.out _ (Below.refl _ _)).2
            obtain ⟨lg', lc', hvl', _, hcl'⟩ := val_cells (own_base sr1 (Nat.zero_le 0)) (by omega)
            simp at hvl'
            obtain ⟨rfl, _⟩ := hvl'
            have := (hcl' j hjR).2
            rw [hx] at this
            exact this
          have hszm : (wr.setCell ⟨w.heap.size, b, none⟩ (.bool true)).heap.size = wr.heap.size := by simp [World.setCell]
          have hwr : w.heap.size ≤ wr.heap.size := M.out.1.below.size
          clear hin hout hno h35 hnew hd hb hmark hx
          go_wp2_with (at_builtin; refine wpList_append_lies _ rfl (.tmp 59) (.tmp 65) 51 rfl w.heap.size 3 i3 _ 1 8 Tryd.underlying51 IN.out.1 IN.out.2.1 IN.out.2.2.1 IN.out.2.2.2 rfl (by decide) _ _ _ rfl (MK.out _ ((Below.refl _ _).alloc (Nat.le_refl _) _)).1.todo ⟨wr.heap.size, 0, none⟩ 1 1 [.int .i64 b] rfl rfl ?c1 ?c2 (by decide) ?c3 ?c4 ?c5 (wr.heap.size + 1) (by simp [hszm]) ?_)
          case c1 => have := news_new (wr.setCell ⟨w.heap.size, b, none⟩ (.bool true)) [.int .i64 b] 3; rw [hszm] at this; exact this
          case c2 => intro u hu; simp at hu; subst hu; rfl
          case c3 => unfold maxLen; omega
          case c4 => omega
          case c5 => simp [hszm]; omega
          intro g' cap' w5 hown hgr _ _
          have R5 : Hid (RS w w5 N w.heap.size (t ++ [b]) (t ++ [b]) (.slice (some ⟨g', 0, none⟩) (t.length + 1) cap') ∧ SR w5 R (.slice (some ⟨lg, 0, none⟩) rl cap2)) := by
            obtain ⟨r0, s0⟩ := MK.out _ ((Below.refl _ (wr.setCell ⟨w.heap.size, b, none⟩ (.bool true))).alloc (Nat.le_refl _) (.cells #[.int .i64 b] 3))
            exact ⟨r0.grown hown hgr, s0.grown r0 hgr⟩
          clear hown hgr MK cm d0 d1 c0 c1 M
          go_wp2
          go_roundw
          case rel => exact ⟨j + 1, t ++ [b], _, by omega, by go_num, rfl, HS'.out.symm, R5.out.1, R5.out.2⟩
          case measure => simp [intOf]; omega
      · have hq : ((x1.toNat : Int) == 35) = false := byte_ne (n := 35) (by omega) q1
        have HS' : Hid (scanR (R.take (j + 1)) [] = t) := by show _ = _; rw [HT.out, hno q1]
        clear h35 hno hx
        go_wp2
        go_roundw
        case rel => exact ⟨j + 1, t, _, by omega, by go_num, rfl, HS'.out.symm, M.out.1, M.out.2⟩
        case measure => simp [intOf]; omega
    · have hjR : R.take j = R := List.take_of_length_le (by omega)
      rw [hjR] at ht
      have F1 : Hid (Found s 0 t) := by
        show Found s 0 t
        rw [ht, SCN.out]
        exact F0.out
      have hjI : ¬ (j : Int) < rl := by omega
      have hpL : w.cell? ⟨L, 0, none⟩ = some (.slice (some ⟨gc, 0, none⟩) N capc) := p0
      clear hrs hsr ht hjR hlt hj htl SMALL SCN LR F0 R3 SR3
      go_wp2
      clear hjI
      go_loopw [4, 6] (fun vt i wq => ∃ (n : Nat) (t : List Nat) (v : Value), i = .int .i64 n ∧ v = vt ∧ Found s n t ∧ RS w wq N w.heap.size t t v) (fun _ i _ => N + 1 - (intOf i).toNat)
      case atStart => exact ⟨0, t, _, rfl, rfl, F1.out, M.out.1⟩
      case round =>
        obtain ⟨n, t, v, rfl, rfl, hf, hrs⟩ := hrel
        have htN := FS.out n t hf
        have hnl := hf.le
        obtain ⟨tao, tc, hv⟩ := hrs.form
        subst hv
        by_cases hlt : n < t.length
        · obtain ⟨tg, tcap, hv, cn⟩ := hrs.at_ hlt
          simp at hv
          obtain ⟨rfl, rfl⟩ := hv
          obtain ⟨hf1, hb1, hb2⟩ := FN.out n t t[n] hf (List.getElem?_eq_getElem hlt)
          obtain ⟨b, hb⟩ : ∃ b, t[n] = b := ⟨_, rfl⟩
          rw [hb] at cn hf1 hb1 hb2
          obtain ⟨cp, vf, cf, sf⟩ := CELLS.out wr hrs.below b hb1 hb2
          obtain ⟨fo, fc, hvf⟩ := own_slice sf
          have h4 := FOUR.out b
          obtain ⟨F, hF⟩ : ∃ F, (cellOf s b).fields = F := ⟨_, rfl⟩
          have LFb := LF.out b
          rw [hF] at hf1 sf hvf h4 LFb
          subst hvf
          obtain ⟨fl, hfl⟩ : ∃ fl, F.length = fl := ⟨_, rfl⟩
          rw [hfl] at h4 cf sf
          have M2 : Hid (RS w wr N w.heap.size t t (.slice (some ⟨tg, 0, none⟩) t.length tc) ∧ SR wr F (.slice fo fl fc) ∧ Found s (n + 1) (scanR F t) ∧ ∀ v ∈ F, v.1 = 35 → ∃ b : Nat, v.2 = (b : Int) ∧ 1 ≤ b ∧ b ≤ N) := ⟨hrs, sf, hf1, LFb⟩
          have hnI : (n : Int) < t.length := by omega
          obtain ⟨c, rfl⟩ : ∃ c, b = c + 1 := ⟨b - 1, by omega⟩
          rw [Nat.add_sub_cancel] at cf
          have hcI : (c : Int) < N := by omega
          have ec : ((c + 1 : Nat) : Int) = (c : Int) + 1 := by omega
          rw [ec] at cn
          have hwr : IntKind.i64.wrap ((c : Int) + 1 - 1) = c := by
            rw [show (c : Int) + 1 - 1 = c by omega]
            exact wrapS (by omega) (by omega)
          clear hrs sf hf1 LFb hf M F1 hb hF hb1 hb2 ec
          go_wp2_with fail
          go_region
          all_goals go_wp2
          have hfin := FS.out _ _ M2.out.2.2.1
          have PRE : Hid (∀ q, (scanR (F.take q) t).length ≤ 99) := fun q => by
            have e : scanR F t = scanR (F.drop q) (scanR (F.take q) t) := by
              unfold scanR
              rw [← List.foldl_append, List.take_append_drop]
            obtain ⟨x, hx⟩ := scanR_pre (F.drop q) (scanR (F.take q) t)
            rw [e, hx, List.length_append] at hfin
            omega
          clear cp cf cn hwr hfin CELLS
          go_loopw [4, 9] (fun vt i wq => ∃ (q : Nat) (t' : List Nat) (v : Value), q ≤ fl ∧ i = .int .i64 q ∧ v = vt ∧ t' = scanR (F.take q) t ∧ RS w wq N w.heap.size t' t' v ∧ SR wq F (.slice fo fl fc)) (fun _ i _ => fl - (intOf i).toNat)
          case atStart => exact ⟨0, t, _, Nat.zero_le _, rfl, rfl, by simp [scanR], M2.out.1.on (Below.refl _ _).drew, M2.out.2.1.on (Below.refl _ _).drew⟩
          case round =>
            obtain ⟨q, t', v, hq, rfl, rfl, ht', hrs, hsr⟩ := hrel
            have M3 : Hid (RS w wr N w.heap.size t' t' v ∧ SR wr F (.slice fo fl fc)) := ⟨hrs, hsr⟩
            have htl' : t'.length ≤ 99 := by rw [ht']; exact PRE.out q
            obtain ⟨tao2, tc2, hv⟩ := hrs.form
            subst hv
            by_cases hltq : q < fl
            · have hqF : q < F.length := by omega
              have HT : Hid (scanR (F.take (q + 1)) t = stepR t' F[q]) := by show _ = _; rw [take_snoc F q hqF, scanR_snoc, ← ht']
              obtain ⟨lg, lc, hvl, c0, c1, h35, hno⟩ := STEP.out F wr t' _ _ M2.out.2.2.2 hrs hsr q hqF
              simp at hvl
              obtain ⟨rfl, hdup, rfl⟩ := hvl
              clear hdup
              obtain ⟨x, hx⟩ : ∃ x, F[q] = x := ⟨_, rfl⟩
              rw [hx] at c0 c1 h35 hno HT
              obtain ⟨x1, x2⟩ := x
              simp only at c0 c1 h35 hno
              have hqI : (q : Int) < fl := by omega
              clear hrs hsr ht'
              by_cases q1 : x1 = 35
              · subst q1
                obtain ⟨b, rfl, hbN, d0, d1, hin, hout⟩ := h35 rfl
                have hbI : (b : Int) < (N : Int) + 1 := by omega
                by_cases hb : b ∈ t'
                · have hsame := hin hb
                  have hd : decide (b ∈ t') = true := by simpa using hb
                  rw [hd] at d0
                  have HS' : Hid (scanR (F.take (q + 1)) t = t') := by show _ = _; rw [HT.out, hsame]
                  clear hin hout hno h35 hsame hd hb hx
                  go_wp2
                  go_roundw
                  case rel => exact ⟨q + 1, t', _, by omega, by go_num, rfl, HS'.out.symm, M3.out.1, M3.out.2⟩
                  case measure => simp [intOf]; omega
                · have hd : decide (b ∈ t') = false := by simpa using hb
                  rw [hd] at d0
                  obtain ⟨hnew, hmark⟩ := hout hb
                  have MK : Hid _ := hmark
                  have HS' : Hid (scanR (F.take (q + 1)) t = t' ++ [b]) := by show _ = _; rw [HT.out, hnew]
                  have cm : (wr.setCell ⟨w.heap.size, b, none⟩ (.bool true)).cell? ⟨lg, q * 2 + 1, none⟩ = some (.int .i64 b) := by
                    have sr1 := (MK.out _ (Below.refl _ _)).2
                    obtain ⟨lg', lc', hvl', _, hcl'⟩ := val_cells (own_base sr1 (Nat.zero_le 0)) (by omega)
                    simp at hvl'
                    obtain ⟨rfl, _⟩ := hvl'
                    have := (hcl' q hqF).2
                    rw [hx] at this
                    exact this
                  have hszm : (wr.setCell ⟨w.heap.size, b, none⟩ (.bool true)).heap.size = wr.heap.size := by simp [World.setCell]
                  have hwr : w.heap.size ≤ wr.heap.size := M3.out.1.below.size
                  clear hin hout hno h35 hnew hd hb hmark hx
                  go_wp2_with (at_builtin; refine wpList_append_lies _ rfl (.tmp 113) (.tmp 119) 51 rfl w.heap.size 3 i3 _ 1 8 Tryd.underlying51 IN.out.1 IN.out.2.1 IN.out.2.2.1 IN.out.2.2.2 rfl (by decide) _ _ _ rfl (MK.out _ ((Below.refl _ _).alloc (Nat.le_refl _) _)).1.todo ⟨wr.heap.size, 0, none⟩ 1 1 [.int .i64 b] rfl rfl ?c1 ?c2 (by decide) ?c3 ?c4 ?c5 (wr.heap.size + 1) (by simp [hszm]) ?_)
                  case c1 => have := news_new (wr.setCell ⟨w.heap.size, b, none⟩ (.bool true)) [.int .i64 b] 3; rw [hszm] at this; exact this
                  case c2 => intro u hu; simp at hu; subst hu; rfl
                  case c3 => unfold maxLen; omega
                  case c4 => omega
                  case c5 => simp [hszm]; omega
                  intro g' cap' w5 hown hgr _ _
                  have R5 : Hid (RS w w5 N w.heap.size (t' ++ [b]) (t' ++ [b]) (.slice (some ⟨g', 0, none⟩) (t'.length + 1) cap') ∧ SR w5 F (.slice (some ⟨lg, 0, none⟩) fl fc)) := by
                    obtain ⟨r0, s0⟩ := MK.out _ ((Below.refl _ (wr.setCell ⟨w.heap.size, b, none⟩ (.bool true))).alloc (Nat.le_refl _) (.cells #[.int .i64 b] 3))
                    exact ⟨r0.grown hown hgr, s0.grown r0 hgr⟩
                  clear hown hgr MK cm d0 d1 c0 c1 M3
                  go_wp2
                  go_roundw
                  case rel => exact ⟨q + 1, t' ++ [b], _, by omega, by go_num, rfl, HS'.out.symm, R5.out.1, R5.out.2⟩
                  case measure => simp [intOf]; omega
              · have hqd : ((x1.toNat : Int) == 35) = false := byte_ne (n := 35) (by omega) q1
                have HS' : Hid (scanR (F.take (q + 1)) t = t') := by show _ = _; rw [HT.out, hno q1]
                clear h35 hno hx
                go_wp2
                go_roundw
                case rel => exact ⟨q + 1, t', _, by omega, by go_num, rfl, HS'.out.symm, M3.out.1, M3.out.2⟩
                case measure => simp [intOf]; omega
            · have hqF : F.take q = F := List.take_of_length_le (by omega)
              rw [hqF] at ht'
              have hqI : ¬ (q : Int) < fl := by omega
              have M4 : Hid (Found s (n + 1) t' ∧ RS w wr N w.heap.size t' t' (.slice tao2 t'.length tc2)) := ⟨by rw [ht']; exact M2.out.2.2.1, M3.out.1⟩
              clear hrs hsr ht' hqF
              go_wp2
              go_roundw
              case rel => exact ⟨n + 1, t', _, by go_num, rfl, M4.out.1, M4.out.2⟩
              case measure => simp [intOf]; omega
        · have hne : n = t.length := by omega
          have FIN : Hid ((n : Int) = (reachN s : Int) ∧ Below w.heap.size w wr) := ⟨by
            rw [hne] at hf
            rw [hne, FE.out t hf], hrs.below⟩
          have hnI : ¬ (n : Int) < t.length := by omega
          clear hrs hf hne hlt hnl
          go_wp2
          go_ret
          exact ⟨by rw [FIN.out.1]; rfl, FIN.out.2⟩

end Go.Proofs.YtpmkjeihbddfpabDoor

/- OUR OWN. Justified, the steps. -/
namespace Go.Proofs.YtpmkjeihbddfpabDoor
open Go.RowKit
set_option linter.unusedVariables false
set_option linter.unusedSimpArgs false
section
variable {HS : HeapM → St → Cf → Nat → Prop}

/-- the heap at x is the state s, and its picture is at L -/
def J1 (HS : HeapM → St → Cf → Nat → Prop) (Bx x kg N : Nat) (c : Cf) (L : Nat) (s : St) (w : World) : Prop := ∃ B hm cs va vb vd ve, KAt HS Bx w x hm s c N ∧ s.globals.length = kg ∧ (∀ y ∈ x :: hm.foot, y < B) ∧ B ≤ w.heap.size ∧ PicOf w L B s N cs va vb vd ve
/-- and at L0 there is the picture of the state s0 -/
def J3 (HS : HeapM → St → Cf → Nat → Prop) (Bx x kg N : Nat) (c : Cf) (L0 : Nat) (s0 : St) (L : Nat) (s : St) (w : World) : Prop := (∃ B cs va vb vd ve, PicOf w L0 B s0 N cs va vb vd ve ∧ s0.Good N ∧ (s0.stack.length : Int) ≤ c.deep ∧ s0.globals.length ≤ 8 ∧ c.deep ≤ 16) ∧ J1 HS Bx x kg N c L s w
variable {Bx x kg N L L0 : Nat} {c : Cf} {s s0 : St} {w W : World}
theorem J1.below (h : J1 HS Bx x kg N c L s w) (hb : Below w.heap.size w W) : J1 HS Bx x kg N c L s W := by
  obtain ⟨B, hm, cs, va, vb, vd, ve, k, hg, ha, hB, hp⟩ := h
  exact ⟨B, hm, cs, va, vb, vd, ve, k.below hb, hg, ha, Nat.le_trans hB hb.size, hp.below hb⟩
theorem J3.below (h : J3 HS Bx x kg N c L0 s0 L s w) (hb : Below w.heap.size w W) : J3 HS Bx x kg N c L0 s0 L s W := by
  obtain ⟨⟨B, cs, va, vb, vd, ve, hp, h1⟩, h2⟩ := h
  exact ⟨⟨B, cs, va, vb, vd, ve, hp.below hb, h1⟩, h2.below hb⟩
theorem J1.size (h : J1 HS Bx x kg N c L s w) : Bx ≤ w.heap.size := by
  obtain ⟨B, hm, cs, va, vb, vd, ve, k, _⟩ := h
  exact k.size

theorem j_seen (P : PactsD HS) {Bt : Nat} (tab : Tab Bt w) {hm : HeapM} (k : KAt HS Bx w x hm s c N) (hg : s.globals.length = kg) (bu : Int) :
    Calls Tryd.prog 11 #[.pointer (some ⟨x, 0, none⟩), .agg #[.int .i64 N, .int .i64 c.deep, .int .i64 kg, .int .i64 bu, .int .i64 c.zero, .int .i64 c.over]] w fun e w' => ∃ L, e = .returned (.tuple #[.pointer (some ⟨L, 0, none⟩), .bool true]) ∧ J1 HS Bx x kg N c L s w' ∧ Below Bx w w' ∧ Off (x :: hm.foot) w w' := by
  subst hg
  refine Calls.mono (seen_of P.dump tab k.here k.hs k.good k.cf k.small k.stack k.gl c.deep bu c.zero c.over k.bound.roots) ?_
  rintro e w' ⟨L, B, cs, vc, vq, vs, vg, hm', rfl, sh⟩
  have hb := sh.turn.off.below k.size k.low
  have hz := sh.turn.off.size
  refine ⟨L, rfl, ⟨B, hm', cs, vc, vq, vs, vg, ⟨sh.turn.here, sh.hs, k.good, k.bound, k.cf, k.small, k.gl, fun y hy => ?_, by have := k.size; omega⟩, rfl, sh.apart, sh.high, sh.map, sh.pic⟩, hb, sh.turn.off⟩
  rcases List.mem_cons.1 hy with e | e
  · exact k.low y (by rw [e]; exact List.mem_cons_self)
  · rcases sh.turn.foot y e with e | e
    · exact k.low y (List.mem_cons_of_mem _ e)
    · have := k.size; omega

/-- an act, and the picture behind it -/
theorem j_act (P : PactsD HS) (h : J1 HS Bx x kg N c L s w) (op n : Int) (hop : fits op) (hn : fits n) :
    Calls Tryd.prog 8 #[.pointer (some ⟨x, 0, none⟩), .agg #[.int .i64 op, .int .i64 n]] w fun e w1 => e = .returned (.tuple #[.int .i64 (actS c s op n).2.1, .int .i64 (actS c s op n).2.2]) ∧ Below Bx w w1 ∧
      ∀ W, Below w1.heap.size w1 W → ∀ Bt, Tab Bt W → ∀ bu, Calls Tryd.prog 11 #[.pointer (some ⟨x, 0, none⟩), .agg #[.int .i64 N, .int .i64 c.deep, .int .i64 kg, .int .i64 bu, .int .i64 c.zero, .int .i64 c.over]] W fun e w' => ∃ L', e = .returned (.tuple #[.pointer (some ⟨L', 0, none⟩), .bool true]) ∧ J3 HS Bx x kg N c L s L' (actS c s op n).1 w' ∧ Below Bx W w' := by
  obtain ⟨B, hm, cs, va, vb, vd, ve, k, hg, ha, hB, hp⟩ := h
  refine Calls.mono (act_any P.all k op n hop hn) ?_
  rintro e w1 ⟨he, hm1, t1, k1⟩
  refine ⟨he, t1.off.below k.size k.low, fun W hW Bt tab bu => ?_⟩
  refine Calls.mono (j_seen P tab (k1.below hW) (by rw [act_globals k.good]; exact hg) bu) ?_
  rintro e w' ⟨L', rfl, hj, hb, ho⟩
  refine ⟨L', rfl, ⟨⟨B, cs, va, vb, vd, ve, hp.kept fun y hy1 hy2 => ?_, k.good, k.bound.roots, k.gl, k.cf.deep.2⟩, hj⟩, hb⟩
  have hz1 := t1.off.size
  have hz2 := hW.size
  rw [ho.block y (by omega) (fun e => ?_), hW.block y (by omega), t1.off.block y hy2 (fun e => by have := ha y e; omega)]
  rcases List.mem_cons.1 e with e | e
  · have := ha y (by rw [e]; exact List.mem_cons_self); omega
  · rcases t1.foot y e with e | e
    · have := ha y (List.mem_cons_of_mem _ e); omega
    · omega
theorem j_wide (h : J1 HS Bx x kg N c L s w) (h1 : 1 ≤ N) :
    Calls Tryd.prog 12 #[.pointer (some ⟨L, 0, none⟩)] w fun e w' => e = .returned (.bool true) ∧ Below w.heap.size w w' := by
  obtain ⟨B, hm, cs, va, vb, vd, ve, k, hg, ha, hB, hp⟩ := h
  exact pic_wide hp k.good h1 k.small k.stack k.gl
end

end Go.Proofs.YtpmkjeihbddfpabDoor

/- OUR OWN. Freed: freed. -/
namespace Go.Proofs.YtpmkjeihbddfpabDoor
open Go.RowKit
set_option linter.unusedVariables false
set_option linter.unusedSimpArgs false

/-- what freed sees of two pictures -/
structure FreedEnv (w : World) (L1 L2 N F1 F2 R ql g cap : Nat) (qo : Option Addr) (qc : Nat) (vs vg : Value) (le rs rg : Nat → Nat) : Prop where
  l1 : ∀ V, Below w.heap.size w V → Calls Tryd.prog 43 #[.pointer (some ⟨L1, 0, none⟩), .int .u8 46] V fun e w' => e = .returned (.int .i64 F1) ∧ w' = V
  l2 : ∀ V, Below w.heap.size w V → Calls Tryd.prog 43 #[.pointer (some ⟨L2, 0, none⟩), .int .u8 46] V fun e w' => e = .returned (.int .i64 F2) ∧ w' = V
  r1 : ∀ V, Below w.heap.size w V → Calls Tryd.prog 44 #[.pointer (some ⟨L1, 0, none⟩)] V fun e w' => e = .returned (.int .i64 R) ∧ Below V.heap.size V w'
  r2 : ∀ V, Below w.heap.size w V → Calls Tryd.prog 44 #[.pointer (some ⟨L2, 0, none⟩)] V fun e w' => e = .returned (.int .i64 R) ∧ Below V.heap.size V w'
  refS : ∀ V (b : Nat), Below w.heap.size w V → Calls Tryd.prog 45 #[vs, .int .i64 ((b : Int) + 1)] V fun e w' => e = .returned (.int .i64 (rs b)) ∧ w' = V
  refG : ∀ V (b : Nat), Below w.heap.size w V → Calls Tryd.prog 45 #[vg, .int .i64 ((b : Int) + 1)] V fun e w' => e = .returned (.int .i64 (rg b)) ∧ w' = V
  low : L2 < w.heap.size ∧ g < w.heap.size
  cells : w.cell? ⟨L2, 0, none⟩ = some (.slice (some ⟨g, 0, none⟩) N cap)
  queue : w.cell? ⟨L2, 1, none⟩ = some (.slice qo ql qc)
  stack : w.cell? ⟨L2, 2, none⟩ = some vs
  globals : w.cell? ⟨L2, 3, none⟩ = some vg
  letter : ∀ b, b < N → w.cell? ⟨g, b * 3, none⟩ = some (.int .u8 (le b))
  small : N ≤ 99 ∧ F1 ≤ 99 ∧ F2 ≤ 99 ∧ R ≤ 99 ∧ ql ≤ 99 ∧ ∀ b, rs b ≤ 1000 ∧ rg b ≤ 1000

set_option maxHeartbeats 3200000 in
set_option maxRecDepth 100000 in
theorem freed_coll {w : World} {L1 L2 N F1 F2 R ql g cap : Nat} {qo : Option Addr} {qc : Nat} {vs vg : Value} {le rs rg : Nat → Nat} (E : FreedEnv w L1 L2 N F1 F2 R ql g cap qo qc vs vg le rs rg) {n : Nat} (hn : F2 = F1 + n) (hr : F2 + R = N) (d gs bu ze ov : Int) :
    Calls Tryd.prog 13 #[.pointer (some ⟨L1, 0, none⟩), .pointer (some ⟨L2, 0, none⟩), .agg #[.int .i64 N, .int .i64 d, .int .i64 gs, .int .i64 bu, .int .i64 ze, .int .i64 ov], .int .i64 (-2), .int .i64 n] w
      fun e w' => e = .returned (.bool true) ∧ Below w.heap.size w w' := by
  have EE : Hid _ := E
  obtain ⟨hN, hF1, hF2, hR, _⟩ := E.small
  have hd : (F2 : Int) - F1 = n := by omega
  have hn0 : ¬ (n : Int) < 0 := by omega
  have hr' : (N : Int) - R = F2 := by omega
  clear E hn hr
  go_enter Tryd.func13, Tryd.ntmps13
  go_wp2_with fail
  refine Calls.mono (EE.out.l1 _ ((Below.refl _ _).alloc (Nat.le_refl _) _)) ?_
  rintro e w1 ⟨rfl, rfl⟩
  go_wp2_with fail
  refine Calls.mono (EE.out.l2 _ ((Below.refl _ _).alloc (Nat.le_refl _) _)) ?_
  rintro e w1 ⟨rfl, rfl⟩
  go_wp2_with fail
  refine Calls.mono (EE.out.r1 _ ((Below.refl _ _).alloc (Nat.le_refl _) _)) ?_
  rintro e w1 ⟨rfl, hb1⟩
  have hL : w1.heap[w.heap.size]? = some (.cells #[.int .i64 N, .int .i64 d, .int .i64 gs, .int .i64 bu, .int .i64 ze, .int .i64 ov] 23) := (hb1.block _ (by simp)).trans (heap_alloc_new w _)
  have B1 : Hid (Below w.heap.size w w1 ∧ w1.heap[w.heap.size]? = some (.cells #[.int .i64 N, .int .i64 d, .int .i64 gs, .int .i64 bu, .int .i64 ze, .int .i64 ov] 23)) := ⟨((Below.refl _ _).alloc (Nat.le_refl _) _).trans (hb1.mono (by simp)), hL⟩
  clear hb1 hL
  go_wp2_with fail
  refine Calls.mono (EE.out.r2 _ B1.out.1) ?_
  rintro e w2 ⟨rfl, hb2⟩
  have x0 : w2.cell? ⟨w.heap.size, 0, none⟩ = some (.int .i64 N) := cell_of_heap ((hb2.block _ (lt_of_heap B1.out.2)).trans B1.out.2) rfl
  have B2 : Hid (Below w.heap.size w w2) := B1.out.1.trans (hb2.mono B1.out.1.size)
  clear hb2 B1
  go_wp2
  go_ret
  exact ⟨rfl, B2.out⟩

set_option maxHeartbeats 3200000 in
set_option maxRecDepth 100000 in
theorem freed_safe {w : World} {L1 L2 N F1 F2 R ql g cap : Nat} {qo : Option Addr} {qc : Nat} {vs vg : Value} {le rs rg : Nat → Nat} (E : FreedEnv w L1 L2 N F1 F2 R ql g cap qo qc vs vg le rs rg) {n bu : Nat} (hn : F2 = F1 + n) (hle : n ≤ bu) (hq : n < bu → ql = 0) (hh : n < bu → ∀ b, b < N → le b = 119 → 0 < rs b + rg b) (hbu : bu ≤ 99) (d gs ze ov : Int) :
    Calls Tryd.prog 13 #[.pointer (some ⟨L1, 0, none⟩), .pointer (some ⟨L2, 0, none⟩), .agg #[.int .i64 N, .int .i64 d, .int .i64 gs, .int .i64 bu, .int .i64 ze, .int .i64 ov], .int .i64 (-1), .int .i64 n] w
      fun e w' => e = .returned (.bool true) ∧ Below w.heap.size w w' := by
  have EE : Hid _ := E
  obtain ⟨hN, hF1, hF2, hR, hql, _⟩ := E.small
  have hd : (F2 : Int) - F1 = n := by omega
  have hn0 : ¬ (n : Int) < 0 := by omega
  clear E hn
  go_enter Tryd.func13, Tryd.ntmps13
  go_wp2_with fail
  refine Calls.mono (EE.out.l1 _ ((Below.refl _ _).alloc (Nat.le_refl _) _)) ?_
  rintro e w1 ⟨rfl, rfl⟩
  go_wp2_with fail
  refine Calls.mono (EE.out.l2 _ ((Below.refl _ _).alloc (Nat.le_refl _) _)) ?_
  rintro e w1 ⟨rfl, rfl⟩
  go_wp2_with fail
  refine Calls.mono (EE.out.r1 _ ((Below.refl _ _).alloc (Nat.le_refl _) _)) ?_
  rintro e w1 ⟨rfl, hb1⟩
  have hL : w1.heap[w.heap.size]? = some (.cells #[.int .i64 N, .int .i64 d, .int .i64 gs, .int .i64 bu, .int .i64 ze, .int .i64 ov] 23) := (hb1.block _ (by simp)).trans (heap_alloc_new w _)
  have B1 : Hid (Below w.heap.size w w1 ∧ w1.heap[w.heap.size]? = some (.cells #[.int .i64 N, .int .i64 d, .int .i64 gs, .int .i64 bu, .int .i64 ze, .int .i64 ov] 23)) := ⟨((Below.refl _ _).alloc (Nat.le_refl _) _).trans (hb1.mono (by simp)), hL⟩
  clear hb1 hL
  go_wp2_with fail
  refine Calls.mono (EE.out.r2 _ B1.out.1) ?_
  rintro e w2 ⟨rfl, hb2⟩
  have hL2 := (hb2.block _ (lt_of_heap B1.out.2)).trans B1.out.2
  have x0 : w2.cell? ⟨w.heap.size, 0, none⟩ = some (.int .i64 N) := cell_of_heap hL2 rfl
  have x3 : w2.cell? ⟨w.heap.size, 3, none⟩ = some (.int .i64 bu) := cell_of_heap hL2 rfl
  have hb02 : Below w.heap.size w w2 := B1.out.1.trans (hb2.mono B1.out.1.size)
  have B2 : Hid (Below w.heap.size w w2) := hb02
  have p1 : w2.cell? ⟨L2, 1, none⟩ = some (.slice qo ql qc) := (hb02.cell (p := ⟨L2, 1, none⟩) EE.out.low.1).trans EE.out.queue
  have hle' : ¬ (bu : Int) < n := by omega
  clear hb2 B1 hL2 hb02
  by_cases hlt : n < bu
  · have hltI : (n : Int) < bu := by omega
    have hneI : ¬ (n : Int) = bu := by omega
    have hneB : ((n : Int) == bu) = false := by simpa using hneI
    have hq0 := hq hlt
    subst hq0
    have p0 : w2.cell? ⟨L2, 0, none⟩ = some (.slice (some ⟨g, 0, none⟩) N cap) := (B2.out.cell (p := ⟨L2, 0, none⟩) EE.out.low.1).trans EE.out.cells
    have p2 : w2.cell? ⟨L2, 2, none⟩ = some vs := (B2.out.cell (p := ⟨L2, 2, none⟩) EE.out.low.1).trans EE.out.stack
    have p3 : w2.cell? ⟨L2, 3, none⟩ = some vg := (B2.out.cell (p := ⟨L2, 3, none⟩) EE.out.low.1).trans EE.out.globals
    have HH : Hid (∀ b, b < N → le b = 119 → 0 < rs b + rg b) := hh hlt
    have LE : Hid (∀ b, b < N → w2.cell? ⟨g, b * 3, none⟩ = some (.int .u8 (le b))) := fun b hb => (B2.out.cell (p := ⟨g, b * 3, none⟩) EE.out.low.2).trans (EE.out.letter b hb)
    clear hh hq
    go_wp2
    have e1 : decide ((n : Int) < 0) = false := decide_eq_false (by omega)
    have e2 : decide ((bu : Int) < n) = false := decide_eq_false (by omega)
    have e3 : decide ((n : Int) < bu) = true := decide_eq_true (by omega)
    have e4 : decide (bu < n) = false := decide_eq_false (by omega)
    try simp only [e1, e2, e3, e4]
    clear e1 e2 e3 e4
    go_loopw [15] (fun i wr => ∃ t : Nat, t ≤ N ∧ i = .int .i64 ((t : Int) + 1) ∧ wr = w2) (fun i _ => N + 1 - (intOf i).toNat)
    case atStart => exact ⟨0, Nat.zero_le _, rfl, rfl⟩
    case round =>
      obtain ⟨t, ht, rfl, hwr⟩ := hrel
      subst hwr
      by_cases htn : t < N
      · have htI : (t : Int) + 1 ≤ N := by omega
        have S0 : Hid _ := EE.out.refS wr t B2.out
        have G0 : Hid _ := EE.out.refG wr t B2.out
        have c0 := LE.out t htn
        obtain ⟨hr1, hr2⟩ := EE.out.small.2.2.2.2.2 t
        have HT : Hid (le t = 119 → 0 < rs t + rg t) := HH.out t htn
        obtain ⟨l, hl⟩ : ∃ l, le t = l := ⟨_, rfl⟩
        obtain ⟨r1, hr1'⟩ : ∃ r1, rs t = r1 := ⟨_, rfl⟩
        obtain ⟨r2, hr2'⟩ : ∃ r2, rg t = r2 := ⟨_, rfl⟩
        rw [hl] at c0 HT
        rw [hr1'] at S0 HT hr1
        rw [hr2'] at G0 HT hr2
        clear hl hr1' hr2'
        go_wp2_with fail
        refine Calls.mono S0.out ?_
        rintro e w3 ⟨rfl, hw⟩
        subst hw
        go_wp2_with fail
        refine Calls.mono G0.out ?_
        rintro e w4 ⟨rfl, hw⟩
        subst hw
        by_cases h119 : l = 119
        · have hpos := HT.out h119
          subst h119
          have hs0 : ¬ (r1 : Int) + r2 = 0 := by omega
          have hs0B : ((r1 : Int) + r2 == 0) = false := by simpa using hs0
          go_wp2
          go_roundw
          case rel => exact ⟨t + 1, by omega, by go_num, by trivial⟩
          case measure => simp [intOf]; omega
        · have hlI : ¬ (l : Int) = 119 := by omega
          have hlB : ((l : Int) == 119) = false := by simpa using hlI
          go_wp2
          go_roundw
          case rel => exact ⟨t + 1, by omega, by go_num, by trivial⟩
          case measure => simp [intOf]; omega
      · have htI : ¬ ((t : Int) + 1 ≤ N) := by omega
        go_wp2
        go_ret
        exact ⟨rfl, B2.out⟩
  · obtain rfl : n = bu := by omega
    have hltI : ¬ (n : Int) < n := by omega
    go_wp2
    go_ret
    exact ⟨rfl, B2.out⟩

end Go.Proofs.YtpmkjeihbddfpabDoor

/- OUR OWN. Freed, the steps. -/
namespace Go.Proofs.YtpmkjeihbddfpabDoor
open Go.RowKit
set_option linter.unusedVariables false
set_option linter.unusedSimpArgs false

theorem free_letters {s : St} {N : Nat} {cs : List (Cell × Value)} (g : s.Good N) (h : cs.map Prod.fst = cellsOf s N) : lettersC cs 46 = freeN s := by
  rw [letters_state h, letter_free g]
  unfold freeN
  rw [g.sN]
  rfl
theorem letter_waits {s : St} {i : Nat} (h : (cellOf s i).letter.toNat = 119) : s.waits i = true := by
  unfold cellOf at h
  by_cases h1 : (s.ob i).here = true
  · rw [if_pos h1] at h
    by_cases h2 : (s.ob i).queued = true
    · rw [if_pos h2] at h; simp at h
    rw [if_neg h2] at h
    by_cases h3 : (s.ob i).stuck = true
    · rw [if_pos h3] at h; simp at h
    rw [if_neg h3] at h
    by_cases h4 : s.waits i = true
    · exact h4
    rw [if_neg h4] at h; simp at h
  · rw [if_neg h1] at h; simp at h

theorem freed_env {w : World} {N L1 L2 B1 B2 : Nat} {s t : St} {cs1 cs2 : List (Cell × Value)} {va vb vc vd ve vf vs vg : Value} (hN : N ≤ 99) (h1 : 1 ≤ N) (g : s.Good N) (g' : t.Good N) (hs : s.stack.length ≤ 16) (hg : s.globals.length ≤ 8) (hs' : t.stack.length ≤ 16) (hg' : t.globals.length ≤ 8) (hR : reachN t = reachN s)
    (p1 : PicOf w L1 B1 s N cs1 va vb vc vd) (p2 : PicOf w L2 B2 t N cs2 ve vf vs vg) : ∃ gg cap qo qc, FreedEnv w L1 L2 N (freeN s) (freeN t) (reachN s) t.queue.length gg cap qo qc vs vg (fun b => (cellOf t (b + 1)).letter.toNat) (fun b => refsN t.stack ((b : Int) + 1)) (fun b => refsN t.globals ((b : Int) + 1)) := by
  have hl1 := cs_len p1.map
  have hl2 := cs_len p2.map
  obtain ⟨gg, cap, hvc, hgg, hcl⟩ := p2.pic.view (by omega)
  obtain ⟨qo, qc, hvq⟩ := own_slice (own_base p2.pic.queue (Nat.zero_le _))
  have hql : (queueP t).length = t.queue.length := by unfold queueP; simp
  rw [hql] at hvq
  have c0 := cell_of_heap (i := 0) p2.pic.box rfl
  have c1 := cell_of_heap (i := 1) p2.pic.box rfl
  have c2 := cell_of_heap (i := 2) p2.pic.box rfl
  have c3 := cell_of_heap (i := 3) p2.pic.box rfl
  simp at c0 c1 c2 c3
  have hq := queue_le g'
  refine ⟨gg, cap, qo, qc, ⟨fun V hV => ?_, fun V hV => ?_, fun V hV => reached_seen (p1.below hV) g h1 hN hs hg, fun V hV => ?_, fun V b hV => ?_, fun V b hV => ?_, ⟨lt_of_heap p2.pic.box, hgg⟩, by rw [c0, hvc, hl2], by rw [c1, hvq], c2, c3, fun b hb => ?_, ?_⟩⟩
  · have := letters_seen (p1.below hV).pic (by omega) (by omega) 46
    rw [free_letters g p1.map] at this
    exact this
  · have := letters_seen (p2.below hV).pic (by omega) (by omega) 46
    rw [free_letters g' p2.map] at this
    exact this
  · rw [← hR]
    exact reached_seen (p2.below hV) g' h1 hN hs' hg'
  · have := refs_seen (p2.below hV).pic.stack (by simp; omega) ((b : Int) + 1)
    rw [refsP_abs g' hN g'.stack] at this
    exact this
  · have := refs_seen (p2.below hV).pic.globals (by simp; omega) ((b : Int) + 1)
    rw [refsP_abs g' hN g'.globals] at this
    exact this
  · obtain ⟨v, hcv⟩ := cs_get p2.map hb
    have hi : b < cs2.length := by omega
    have he : cs2[b] = (cellOf t (b + 1), v) := (List.getElem?_eq_some_iff.1 hcv).2
    have := (hcl b hi).1
    rw [he] at this
    exact this
  · have f1 := freeN_le s
    have f2 := freeN_le t
    have f3 : reachN s ≤ s.N := countTo_le _ _
    rw [g.sN] at f1 f3
    rw [g'.sN] at f2
    refine ⟨hN, by omega, by omega, by omega, by omega, fun b => ?_⟩
    have r1 := refsN_le t.stack ((b : Int) + 1)
    have r2 := refsN_le t.globals ((b : Int) + 1)
    exact ⟨by omega, by omega⟩

section
variable {HS : HeapM → St → Cf → Nat → Prop} {Bx x kg N L L0 : Nat} {c : Cf} {s s0 : St} {w W : World}
theorem j_freed_safe {bu : Nat} (h : J3 HS Bx x kg N c L0 s L (s.safe c).1 w) (hN : N ≤ 99) (h1 : 1 ≤ N) (hb : c.budget = bu) (hbu : bu ≤ 99) (d gs ze ov : Int) :
    Calls Tryd.prog 13 #[.pointer (some ⟨L0, 0, none⟩), .pointer (some ⟨L, 0, none⟩), .agg #[.int .i64 N, .int .i64 d, .int .i64 gs, .int .i64 bu, .int .i64 ze, .int .i64 ov], .int .i64 (-1), .int .i64 ((s.safe c).2 : Nat)] w
      fun e w' => e = .returned (.bool true) ∧ Below w.heap.size w w' := by
  obtain ⟨⟨B, cs, va, vb, vd, ve, hp, g, h2, h3, h4⟩, ⟨B', hm, cs', va', vb', vd', ve', k, _, _, _, hp'⟩⟩ := h
  obtain ⟨gg, cap, qo, qc, E⟩ := freed_env hN h1 g k.good (by omega) h3 k.stack k.gl (safe_reachN g c) hp hp'
  obtain ⟨f1, f2, f3⟩ := freeN_safe g c
  rw [hb, Int.toNat_natCast] at f2 f3
  refine freed_safe E f1 f2 f3 (fun hlt b hbN hw => ?_) hbu d gs ze ov
  have hh := held_safe g c (b + 1) (letter_waits hw)
  unfold St.rooted at hh
  simpa using hh
theorem j_freed_coll (h : J3 HS Bx x kg N c L0 s L (s.collect c.over) w) (hN : N ≤ 99) (h1 : 1 ≤ N) (d gs bu ze ov : Int) :
    Calls Tryd.prog 13 #[.pointer (some ⟨L0, 0, none⟩), .pointer (some ⟨L, 0, none⟩), .agg #[.int .i64 N, .int .i64 d, .int .i64 gs, .int .i64 bu, .int .i64 ze, .int .i64 ov], .int .i64 (-2), .int .i64 (s.gone : Nat)] w
      fun e w' => e = .returned (.bool true) ∧ Below w.heap.size w w' := by
  obtain ⟨⟨B, cs, va, vb, vd, ve, hp, g, h2, h3, h4⟩, ⟨B', hm, cs', va', vb', vd', ve', k, _, _, _, hp'⟩⟩ := h
  obtain ⟨gg, cap, qo, qc, E⟩ := freed_env hN h1 g k.good (by omega) h3 k.stack k.gl (collect_reachN g c.over) hp hp'
  obtain ⟨f1, f2⟩ := freeN_collect g c.over
  exact freed_coll E f2 f1 d gs bu ze ov

theorem J1.inv (h : J1 HS Bx x kg N c L s w) : Inv HS Bx x kg N c w := by
  obtain ⟨B, hm, cs, va, vb, vd, ve, k, hg, _⟩ := h
  exact ⟨hm, s, k, hg⟩
theorem inv_below (h : Inv HS Bx x kg N c w) (hb : Below w.heap.size w W) : Inv HS Bx x kg N c W := by
  obtain ⟨hm, s, k, hg⟩ := h
  exact ⟨hm, s, k.below hb, hg⟩
/-- an act, the heap and the picture behind it -/
theorem j_act2 (P : PactsD HS) (h : J1 HS Bx x kg N c L s w) (op n : Int) (hop : fits op) (hn : fits n) :
    Calls Tryd.prog 8 #[.pointer (some ⟨x, 0, none⟩), .agg #[.int .i64 op, .int .i64 n]] w fun e w1 => e = .returned (.tuple #[.int .i64 (actS c s op n).2.1, .int .i64 (actS c s op n).2.2]) ∧ Below Bx w w1 ∧ Inv HS Bx x kg N c w1 ∧
      ∀ W, Below w1.heap.size w1 W → ∀ Bt, Tab Bt W → ∀ bu, Calls Tryd.prog 11 #[.pointer (some ⟨x, 0, none⟩), .agg #[.int .i64 N, .int .i64 c.deep, .int .i64 kg, .int .i64 bu, .int .i64 c.zero, .int .i64 c.over]] W fun e w' => ∃ L', e = .returned (.tuple #[.pointer (some ⟨L', 0, none⟩), .bool true]) ∧ J3 HS Bx x kg N c L s L' (actS c s op n).1 w' ∧ Below Bx W w' := by
  obtain ⟨B, hm, cs, va, vb, vd, ve, k, hg, ha, hB, hp⟩ := h
  refine Calls.mono (act_any P.all k op n hop hn) ?_
  rintro e w1 ⟨he, hm1, t1, k1⟩
  have hg1 : (actS c s op n).1.globals.length = kg := by rw [act_globals k.good]; exact hg
  refine ⟨he, t1.off.below k.size k.low, ⟨hm1, _, k1, hg1⟩, fun W hW Bt tab bu => ?_⟩
  refine Calls.mono (j_seen P tab (k1.below hW) hg1 bu) ?_
  rintro e w' ⟨L', rfl, hj, hb, ho⟩
  refine ⟨L', rfl, ⟨⟨B, cs, va, vb, vd, ve, hp.kept fun y hy1 hy2 => ?_, k.good, k.bound.roots, k.gl, k.cf.deep.2⟩, hj⟩, hb⟩
  have hz1 := t1.off.size
  have hz2 := hW.size
  rw [ho.block y (by omega) (fun e => ?_), hW.block y (by omega), t1.off.block y hy2 (fun e => by have := ha y e; omega)]
  rcases List.mem_cons.1 e with e | e
  · have := ha y (by rw [e]; exact List.mem_cons_self); omega
  · rcases t1.foot y e with e | e
    · have := ha y (List.mem_cons_of_mem _ e); omega
    · omega
/-- the picture ahead of it, from a heap -/
theorem i_seen (P : PactsD HS) {Bt : Nat} (tab : Tab Bt w) (h : Inv HS Bx x kg N c w) (bu : Int) :
    Calls Tryd.prog 11 #[.pointer (some ⟨x, 0, none⟩), .agg #[.int .i64 N, .int .i64 c.deep, .int .i64 kg, .int .i64 bu, .int .i64 c.zero, .int .i64 c.over]] w fun e w' => ∃ L s, e = .returned (.tuple #[.pointer (some ⟨L, 0, none⟩), .bool true]) ∧ J1 HS Bx x kg N c L s w' ∧ Below Bx w w' := by
  obtain ⟨hm, s, k, hg⟩ := h
  refine (j_seen P tab k hg bu).mono ?_
  rintro e w' ⟨L, he, hj, hb, _⟩
  exact ⟨L, s, he, hj, hb⟩
theorem j_wide0 (h : J3 HS Bx x kg N c L0 s0 L s w) (h1 : 1 ≤ N) (hN : N ≤ 99) :
    Calls Tryd.prog 12 #[.pointer (some ⟨L0, 0, none⟩)] w fun e w' => e = .returned (.bool true) ∧ Below w.heap.size w w' := by
  obtain ⟨⟨B, cs, va, vb, vd, ve, hp, g, h2, h3, h4⟩, _⟩ := h
  exact pic_wide hp g h1 hN (by omega) h3
/-- the end: a safepoint, then Gauge -/
theorem i_end (P : PactsD HS) (h : Inv HS Bx x kg N c w) {bu : Nat} (hb : c.budget = bu) :
    Calls Tryd.prog 14 #[.pointer (some ⟨x, 0, none⟩)] w fun e w1 => ∃ n : Nat, e = .returned (.int .i64 n) ∧ n ≤ bu ∧ Below Bx w w1 ∧
      ∀ W, Below w1.heap.size w1 W → Calls Tryd.prog 15 #[.pointer (some ⟨x, 0, none⟩)] W fun e w2 => ∃ F a b d f : Nat, e = .returned (.agg #[.int .i64 F, .int .i64 a, .int .i64 b, .int .i64 d, .int .i64 f]) ∧ n ≤ F ∧ F ≤ N ∧ Below Bx W w2 := by
  obtain ⟨hm, s, k, hg⟩ := h
  obtain ⟨f1, f2, _⟩ := freeN_safe k.good c
  rw [hb, Int.toNat_natCast] at f2
  refine (k_safe P.all k).mono ?_
  rintro e w1 ⟨he, st⟩
  obtain ⟨hm1, t1, k1⟩ := st.at_
  refine ⟨_, he, f2, st.keep, fun W hW => ?_⟩
  refine (k_gauge3 P.all.base (k1.below hW)).mono ?_
  rintro e w2 ⟨he2, st2⟩
  have hF : (gaugeS (s.safe c).1).1 = freeN (s.safe c).1 := rfl
  have h3 := freeN_le (s.safe c).1
  rw [k1.good.sN] at h3
  exact ⟨_, _, _, _, _, he2, by rw [hF]; omega, by rw [hF]; exact h3, st2.keep⟩
end

end Go.Proofs.YtpmkjeihbddfpabDoor

/- OUR OWN. Freed, the walk. -/
namespace Go.Proofs.YtpmkjeihbddfpabDoor
open Go.RowKit
set_option linter.unusedVariables false
set_option linter.unusedSimpArgs false
section
variable {HS : HeapM → St → Cf → Nat → Prop}

set_option maxHeartbeats 4000000 in
set_option maxRecDepth 100000 in
theorem freed_all_walk (P : PactsD HS) (b s g u z o : Int) (fb : fits b) (fs : fits s) (fg : fits g) (fu : fits u) (fz : fits z) (fo : fits o) (a0 : Option Addr) (alen acap : Nat) (hal : alen ≤ 20000000000000) (w : World) (acts : Nat → Int × Int) (HA : ActsIn w a0 alen acts) (Bt : Nat) (tab : Tab Bt w) (hBt : Bt ≤ w.heap.size) :
    Calls Tryd.prog 4 #[.agg #[.int .i64 b, .int .i64 s, .int .i64 g, .int .i64 u, .int .i64 z, .int .i64 o], .slice a0 alen acap] w
      fun e w' => e = .returned (.bool true) ∧ Below w.heap.size w w' := by
  have CF : Hid (∀ W, Calls Tryd.prog 5 #[.agg #[.int .i64 b, .int .i64 s, .int .i64 g, .int .i64 u, .int .i64 z, .int .i64 o]] W fun e w' => (∃ k : CfgM, e = .returned k.val ∧ k.ok) ∧ Below W.heap.size W w') := fun W => config_any b s g u z o W fb fs fg fu fz fo
  have FR : Hid (∀ (k : CfgM) (W : World), k.ok → Calls Tryd.prog 6 #[.agg #[.int .i64 k.b, .int .i64 k.s, .int .i64 k.g, .int .i64 k.u, .int .i64 k.z, .int .i64 k.o]] W fun e w' => ∃ x hm, e = .returned (.pointer (some ⟨x, 0, none⟩)) ∧ Below W.heap.size W w' ∧ KAt HS W.heap.size w' x hm (st0 k) k.cf k.b) := fun k W hk => fresh_keep P.all.base k hk W
  have H : Hid (ActsIn w a0 alen acts ∧ PactsD HS) := ⟨HA, P⟩
  have TB : Hid (∀ wr, Below w.heap.size w wr → Tab Bt wr) := fun wr hb => tab.keep hb.size fun k hk _ => hb.block k (by omega)
  clear HA P fb fs fg fu fz fo tab hBt
  go_enter Tryd.func4, Tryd.ntmps4
  go_wp2_with fail
  refine Calls.mono (CF.out _) ?_
  rintro e w1 ⟨⟨k, rfl, hk⟩, hb⟩
  have hL : w1.heap[w.heap.size]? = some (.cells #[.int .i64 b, .int .i64 s, .int .i64 g, .int .i64 u, .int .i64 z, .int .i64 o] 23) := by rw [hb.block _ (by simp)]; exact heap_alloc_new w _
  obtain ⟨kb, ks, kg, ku, kz, ko⟩ := k
  have hB := CfgM.bounds hk
  simp only at hB
  have hs1 : w.heap.size + 1 ≤ w1.heap.size := by have := hb.size; simpa using this
  have B1 : Hid (Below w.heap.size w w1) := ((Below.refl _ _).alloc (Nat.le_refl _) _).trans (hb.mono (by simp))
  obtain ⟨x0, x1, x2, x3, x4, x5, xf⟩ := box6 hL
  have f0 := xf 0
  have f1 := xf 1
  have f2 := xf 2
  have f3 := xf 3
  have f4 := xf 4
  have f5 := xf 5
  have HL : Hid (w1.heap[w.heap.size]? = some (.cells #[.int .i64 b, .int .i64 s, .int .i64 g, .int .i64 u, .int .i64 z, .int .i64 o] 23)) := hL
  have HK : Hid (CfgM.ok ⟨kb, ks, kg, ku, kz, ko⟩) := hk
  clear hb hL hk xf CF
  unfold CfgM.val
  simp only
  go_wp2_with fail
  obtain ⟨w2, hw2⟩ : ∃ w2, w2 = ((((((w1.setCell ⟨w.heap.size, 0, none⟩ (.int .i64 kb)).setCell ⟨w.heap.size, 1, none⟩ (.int .i64 ks)).setCell ⟨w.heap.size, 2, none⟩ (.int .i64 kg)).setCell ⟨w.heap.size, 3, none⟩ (.int .i64 ku)).setCell ⟨w.heap.size, 4, none⟩ (.int .i64 kz)).setCell ⟨w.heap.size, 5, none⟩ (.int .i64 ko)) := ⟨_, rfl⟩
  rw [← hw2]
  have hL2 : w2.heap[w.heap.size]? = some (.cells #[.int .i64 kb, .int .i64 ks, .int .i64 kg, .int .i64 ku, .int .i64 kz, .int .i64 ko] 23) := by rw [hw2]; exact set6_heap HL.out _ _ _ _ _ _
  have B2 : Hid (Below w.heap.size w w2) := by rw [hw2]; exact set6_below B1.out (Nat.le_refl _) _ _ _ _ _ _
  have hs2 : w.heap.size + 1 ≤ w2.heap.size := by rw [hw2, set6_size]; exact hs1
  clear x0 x1 x2 x3 x4 x5 f0 f1 f2 f3 f4 f5 HL B1 hw2 hs1
  refine Calls.mono (FR.out ⟨kb, ks, kg, ku, kz, ko⟩ w2 HK.out) ?_
  rintro e w3 ⟨x, hm, rfl, hb3, ka⟩
  have BX : Hid (∀ wr, Below w2.heap.size w3 wr → Box6 wr w.heap.size (.int .i64 kb) (.int .i64 ks) (.int .i64 kg) (.int .i64 ku) (.int .i64 kz) (.int .i64 ko) ∧ Below w.heap.size w wr) := fun wr hb => by
    have h23 := (hb3.trans hb)
    exact ⟨box6 ((h23.block _ (by omega)).trans hL2), B2.out.trans (h23.mono (by omega))⟩
  have IV : Hid (Inv HS w2.heap.size x kg kb ⟨ks, ku, kz, ko⟩ w3) := ⟨hm, _, ka, by simp [st0]⟩
  have hw23 := hb3.size
  have h1 : 1 ≤ kb := hB.1
  have h99 : kb ≤ 99 := hB.2.1
  have hku : ku ≤ 99 := by have := hB; omega
  have BZ : Hid (∀ wr, Below w2.heap.size w3 wr → Tab Bt wr) := fun wr hb => TB.out wr (BX.out wr hb).2
  clear hb3 ka hL2 FR HK B2 TB hB
  go_wp2
  go_loopw [6] (fun i wr => ∃ j : Nat, j ≤ alen ∧ i = .int .i64 j ∧ Inv HS w2.heap.size x kg kb ⟨ks, ku, kz, ko⟩ wr ∧ Below w2.heap.size w3 wr) (fun i _ => alen - (intOf i).toNat)
  case atStart => exact ⟨0, Nat.zero_le _, rfl, IV.out, Below.refl _ _⟩
  case round =>
    obtain ⟨j, hj, rfl, hi, hbr⟩ := hrel
    have IB : Hid (Inv HS w2.heap.size x kg kb ⟨ks, ku, kz, ko⟩ wr ∧ Below w2.heap.size w3 wr) := ⟨hi, hbr⟩
    by_cases hlt : j < alen
    · obtain ⟨sb, off, ha0, hsb, ff1, ff2, d0, d1⟩ := H.out.1 j hlt
      obtain ⟨op, hop⟩ : ∃ op, (acts j).1 = op := ⟨_, rfl⟩
      obtain ⟨nn, hnn⟩ : ∃ nn, (acts j).2 = nn := ⟨_, rfl⟩
      rw [hop] at ff1 d0
      rw [hnn] at ff2 d1
      subst ha0
      have CE : Hid (∀ V, Below w2.heap.size w3 V → V.cell? ⟨sb, off + j * 2, none⟩ = some (.int .i64 op) ∧ V.cell? ⟨sb, off + j * 2 + 1, none⟩ = some (.int .i64 nn)) := fun V hV => ⟨((BX.out V hV).2.cell (p := ⟨sb, off + j * 2, none⟩) hsb).trans d0, ((BX.out V hV).2.cell (p := ⟨sb, off + j * 2 + 1, none⟩) hsb).trans d1⟩
      have SE : Hid _ := i_seen H.out.2 (BZ.out wr hbr) hi (ku : Int)
      have FF : Hid (fits op ∧ fits nn) := ⟨ff1, ff2⟩
      obtain ⟨⟨y0, y1, y2, y3, y4, y5, _⟩, _⟩ := BX.out wr hbr
      have hjI : (j : Int) < alen := by omega
      clear hi hbr d0 d1 ff1 ff2 hop hnn IV
      go_wp2_with fail
      refine Calls.mono SE.out ?_
      rintro e w4 ⟨L, st, rfl, hj4, hb4⟩
      have J4 : Hid (J1 HS w2.heap.size x kg kb ⟨ks, ku, kz, ko⟩ L st w4 ∧ Below w2.heap.size w3 w4) := ⟨hj4, IB.out.2.trans hb4⟩
      have RS : Hid (op = -1 → actS ⟨ks, ku, kz, ko⟩ st op nn = ((st.safe ⟨ks, ku, kz, ko⟩).1, ((st.safe ⟨ks, ku, kz, ko⟩).2 : Int), 0)) := fun e => by unfold actS; rw [if_pos e]
      have RC : Hid (op = -2 → actS ⟨ks, ku, kz, ko⟩ st op nn = (st.collect ko, (st.gone : Int), 0)) := fun e => by unfold actS; rw [if_neg (by omega), if_pos e]
      have AC := j_act2 H.out.2 hj4 op nn FF.out.1 FF.out.2
      obtain ⟨r, hr⟩ : ∃ r, actS ⟨ks, ku, kz, ko⟩ st op nn = r := ⟨_, rfl⟩
      rw [hr] at AC RS RC
      obtain ⟨s2, r1, r2⟩ := r
      have AD : Hid _ := AC
      simp only at AD
      obtain ⟨q0, q1⟩ := CE.out w4 J4.out.2
      clear AC hj4 hb4 hr SE y0 y1 y2 y3 y4 y5
      go_wp2_with fail
      refine Calls.mono AD.out ?_
      rintro e w6 ⟨rfl, hb6, hi6, hs6⟩
      have I6 : Hid (Inv HS w2.heap.size x kg kb ⟨ks, ku, kz, ko⟩ w6 ∧ Below w2.heap.size w3 w6) := ⟨hi6, J4.out.2.trans hb6⟩
      obtain ⟨⟨y0, y1, y2, y3, y4, y5, _⟩, _⟩ := BX.out w6 I6.out.2
      have SN : Hid _ := hs6 w6 (Below.refl _ _) Bt (BZ.out w6 I6.out.2) (ku : Int)
      obtain ⟨q0, q1⟩ := CE.out w6 I6.out.2
      clear hb6 hi6 hs6 AD J4
      by_cases hop : op = -1 ∨ op = -2
      · have FD : Hid (∀ V L2, J3 HS w2.heap.size x kg kb ⟨ks, ku, kz, ko⟩ L st L2 s2 V → Calls Tryd.prog 13 #[.pointer (some ⟨L, 0, none⟩), .pointer (some ⟨L2, 0, none⟩), .agg #[.int .i64 kb, .int .i64 ks, .int .i64 kg, .int .i64 ku, .int .i64 kz, .int .i64 ko], .int .i64 op, .int .i64 r1] V fun e w' => e = .returned (.bool true) ∧ J1 HS w2.heap.size x kg kb ⟨ks, ku, kz, ko⟩ L2 s2 w' ∧ Below w2.heap.size V w') := fun V L2 hJ => by
          rcases hop with ho | ho
          · have hr := RS.out ho
            simp only [Prod.mk.injEq] at hr
            obtain ⟨e1, e2, _⟩ := hr
            subst e1 e2 ho
            exact (j_freed_safe hJ h99 h1 rfl hku _ _ _ _).mono fun e w' ⟨h1, h2⟩ => ⟨h1, hJ.2.below h2, h2.mono hJ.2.size⟩
          · have hr := RC.out ho
            simp only [Prod.mk.injEq] at hr
            obtain ⟨e1, e2, _⟩ := hr
            subst e1 e2 ho
            exact (j_freed_coll hJ h99 h1 _ _ _ _ _).mono fun e w' ⟨h1, h2⟩ => ⟨h1, hJ.2.below h2, h2.mono hJ.2.size⟩
        clear RS RC
        have hA : (op = -1) ∨ (¬ op = -1 ∧ op = -2) := by omega
        clear hop
        rcases hA with hA | ⟨hA1, hA⟩
        · subst hA
          go_wp2_with fail
          refine Calls.mono SN.out ?_
          rintro e w7 ⟨L2, rfl, hj7, hb7⟩
          have J7 : Hid (J3 HS w2.heap.size x kg kb ⟨ks, ku, kz, ko⟩ L st L2 s2 w7 ∧ Below w2.heap.size w3 w7) := ⟨hj7, I6.out.2.trans hb7⟩
          clear hj7 hb7 SN y0 y1 y2 y3 y4 y5 q0 q1
          go_wp2_with fail
          refine Calls.mono (j_wide0 J7.out.1 h1 h99) ?_
          rintro e w8 ⟨rfl, hb8⟩
          have J8 : Hid (J3 HS w2.heap.size x kg kb ⟨ks, ku, kz, ko⟩ L st L2 s2 w8 ∧ Below w2.heap.size w3 w8) := ⟨J7.out.1.below hb8, J7.out.2.trans (hb8.mono J7.out.1.2.size)⟩
          clear hb8 J7
          go_wp2_with fail
          refine Calls.mono (j_wide J8.out.1.2 h1) ?_
          rintro e w9 ⟨rfl, hb9⟩
          have J9 : Hid (J3 HS w2.heap.size x kg kb ⟨ks, ku, kz, ko⟩ L st L2 s2 w9 ∧ Below w2.heap.size w3 w9) := ⟨J8.out.1.below hb9, J8.out.2.trans (hb9.mono J8.out.1.2.size)⟩
          obtain ⟨q0, q1⟩ := CE.out w9 J9.out.2
          obtain ⟨⟨y0, y1, y2, y3, y4, y5, _⟩, _⟩ := BX.out w9 J9.out.2
          have FV : Hid (∀ V, Below w9.heap.size w9 V → Calls Tryd.prog 13 #[.pointer (some ⟨L, 0, none⟩), .pointer (some ⟨L2, 0, none⟩), .agg #[.int .i64 kb, .int .i64 ks, .int .i64 kg, .int .i64 ku, .int .i64 kz, .int .i64 ko], .int .i64 (-1), .int .i64 r1] V fun e w' => e = .returned (.bool true) ∧ Inv HS w2.heap.size x kg kb ⟨ks, ku, kz, ko⟩ w' ∧ Below w2.heap.size w3 w') := fun V hV => (FD.out V L2 (J9.out.1.below hV)).mono fun e w' ⟨h1, h2, h3⟩ => ⟨h1, h2.inv, (J9.out.2.trans (hV.mono J9.out.1.2.size)).trans h3⟩
          clear hb9 J8 FD
          go_wp2_with fail
          go_region_held3 (fun w' => w'.cell? ⟨sb, off + j * 2, none⟩ = some (.int .i64 (-1)) ∧ w'.cell? ⟨w.heap.size, 0, none⟩ = some (.int .i64 kb) ∧ w'.cell? ⟨w.heap.size, 1, none⟩ = some (.int .i64 ks) ∧ w'.cell? ⟨w.heap.size, 2, none⟩ = some (.int .i64 kg) ∧ w'.cell? ⟨w.heap.size, 3, none⟩ = some (.int .i64 ku) ∧ w'.cell? ⟨w.heap.size, 4, none⟩ = some (.int .i64 kz) ∧ w'.cell? ⟨w.heap.size, 5, none⟩ = some (.int .i64 ko)) (go_keep)
            ((go_at_call 13; refine Calls.mono (FV.out _ ((Below.refl _ _).drew)) ?_; rintro e w10 ⟨rfl, hi10, hb10⟩; obtain ⟨⟨z0, z1, z2, z3, z4, z5, _⟩, _⟩ := BX.out w10 hb10; obtain ⟨r0, r1'⟩ := CE.out w10 hb10; have I10 : Hid (Inv HS w2.heap.size x kg kb ⟨ks, ku, kz, ko⟩ w10 ∧ Below w2.heap.size w3 w10) := ⟨hi10, hb10⟩; clear hi10 hb10))
          clear J9 FV y0 y1 y2 y3 y4 y5 q0 q1
          go_wp2
          go_roundw
          case rel => exact ⟨j + 1, by omega, by go_num, I10.out.1, I10.out.2⟩
          case measure => simp [intOf]; omega
        · subst hA
          go_wp2_with fail
          refine Calls.mono SN.out ?_
          rintro e w7 ⟨L2, rfl, hj7, hb7⟩
          have J7 : Hid (J3 HS w2.heap.size x kg kb ⟨ks, ku, kz, ko⟩ L st L2 s2 w7 ∧ Below w2.heap.size w3 w7) := ⟨hj7, I6.out.2.trans hb7⟩
          clear hj7 hb7 SN y0 y1 y2 y3 y4 y5 q0 q1
          go_wp2_with fail
          refine Calls.mono (j_wide0 J7.out.1 h1 h99) ?_
          rintro e w8 ⟨rfl, hb8⟩
          have J8 : Hid (J3 HS w2.heap.size x kg kb ⟨ks, ku, kz, ko⟩ L st L2 s2 w8 ∧ Below w2.heap.size w3 w8) := ⟨J7.out.1.below hb8, J7.out.2.trans (hb8.mono J7.out.1.2.size)⟩
          clear hb8 J7
          go_wp2_with fail
          refine Calls.mono (j_wide J8.out.1.2 h1) ?_
          rintro e w9 ⟨rfl, hb9⟩
          have J9 : Hid (J3 HS w2.heap.size x kg kb ⟨ks, ku, kz, ko⟩ L st L2 s2 w9 ∧ Below w2.heap.size w3 w9) := ⟨J8.out.1.below hb9, J8.out.2.trans (hb9.mono J8.out.1.2.size)⟩
          obtain ⟨q0, q1⟩ := CE.out w9 J9.out.2
          obtain ⟨⟨y0, y1, y2, y3, y4, y5, _⟩, _⟩ := BX.out w9 J9.out.2
          have FV : Hid (∀ V, Below w9.heap.size w9 V → Calls Tryd.prog 13 #[.pointer (some ⟨L, 0, none⟩), .pointer (some ⟨L2, 0, none⟩), .agg #[.int .i64 kb, .int .i64 ks, .int .i64 kg, .int .i64 ku, .int .i64 kz, .int .i64 ko], .int .i64 (-2), .int .i64 r1] V fun e w' => e = .returned (.bool true) ∧ Inv HS w2.heap.size x kg kb ⟨ks, ku, kz, ko⟩ w' ∧ Below w2.heap.size w3 w') := fun V hV => (FD.out V L2 (J9.out.1.below hV)).mono fun e w' ⟨h1, h2, h3⟩ => ⟨h1, h2.inv, (J9.out.2.trans (hV.mono J9.out.1.2.size)).trans h3⟩
          clear hb9 J8 FD
          go_wp2_with fail
          go_region_held3 (fun w' => w'.cell? ⟨sb, off + j * 2, none⟩ = some (.int .i64 (-2)) ∧ w'.cell? ⟨w.heap.size, 0, none⟩ = some (.int .i64 kb) ∧ w'.cell? ⟨w.heap.size, 1, none⟩ = some (.int .i64 ks) ∧ w'.cell? ⟨w.heap.size, 2, none⟩ = some (.int .i64 kg) ∧ w'.cell? ⟨w.heap.size, 3, none⟩ = some (.int .i64 ku) ∧ w'.cell? ⟨w.heap.size, 4, none⟩ = some (.int .i64 kz) ∧ w'.cell? ⟨w.heap.size, 5, none⟩ = some (.int .i64 ko)) (go_keep)
            ((go_at_call 13; refine Calls.mono (FV.out _ ((Below.refl _ _).drew)) ?_; rintro e w10 ⟨rfl, hi10, hb10⟩; obtain ⟨⟨z0, z1, z2, z3, z4, z5, _⟩, _⟩ := BX.out w10 hb10; obtain ⟨r0, r1'⟩ := CE.out w10 hb10; have I10 : Hid (Inv HS w2.heap.size x kg kb ⟨ks, ku, kz, ko⟩ w10 ∧ Below w2.heap.size w3 w10) := ⟨hi10, hb10⟩; clear hi10 hb10))
          clear J9 FV y0 y1 y2 y3 y4 y5 q0 q1
          go_wp2
          go_roundw
          case rel => exact ⟨j + 1, by omega, by go_num, I10.out.1, I10.out.2⟩
          case measure => simp [intOf]; omega
      · have ho1 : ¬ op = -1 := by omega
        have ho2 : ¬ op = -2 := by omega
        have ho1N : (op != -1) = true := by simpa using ho1
        have ho2N : (op != -2) = true := by simpa using ho2
        clear RS RC SN hop y0 y1 y2 y3 y4 y5
        go_wp2
        go_roundw
        case rel => exact ⟨j + 1, by omega, by go_num, I6.out.1, I6.out.2⟩
        case measure => simp [intOf]; omega
    · have hjI : ¬ (j : Int) < alen := by omega
      have EN : Hid _ := i_end H.out.2 hi (bu := ku) rfl
      clear hi hbr IV
      go_wp2_with fail
      refine Calls.mono EN.out ?_
      rintro e w4 ⟨n, rfl, hn, hb4, hg4⟩
      have G4 : Hid _ := hg4 w4 (Below.refl _ _)
      have B4 : Hid (Below w2.heap.size w3 w4) := IB.out.2.trans hb4
      clear hb4 hg4 EN
      go_wp2_with fail
      refine Calls.mono G4.out ?_
      rintro e w5 ⟨F, ga, gb, gd, gf, rfl, hF1, hF2, hb5⟩
      have B5 : Hid (Below w2.heap.size w3 w5) := B4.out.trans hb5
      obtain ⟨⟨y0, y1, y2, y3, y4, y5, _⟩, hbw5⟩ := BX.out w5 B5.out
      have BE : Hid (Below w.heap.size w w5) := hbw5
      have hsz : w.heap.size < w5.heap.size := by have := B5.out.size; omega
      have a0 : ∀ ob, (w5.alloc ob).cell? ⟨w.heap.size, 0, none⟩ = w5.cell? ⟨w.heap.size, 0, none⟩ := fun ob => World.cell?_of_block (hao hsz)
      have a3 : ∀ ob, (w5.alloc ob).cell? ⟨w.heap.size, 3, none⟩ = w5.cell? ⟨w.heap.size, 3, none⟩ := fun ob => World.cell?_of_block (hao hsz)
      clear hb5 hbw5 y1 y2 y4 y5
      have g1 : ¬ (n : Int) < 0 := by omega
      have g2 : (n : Int) ≤ ku := by omega
      have g3 : (n : Int) ≤ F := by omega
      have g4 : (F : Int) ≤ kb := by omega
      go_wp2
      go_ret
      exact ⟨rfl, BE.out.alloc (Nat.le_of_lt hsz) _⟩
end

end Go.Proofs.YtpmkjeihbddfpabDoor

