import Derived.Test.YtpmkjeihbddfpabGreatDoorAllB6
import Derived.OwnWalk
import Derived.Laws.OwnMore
/- OUR OWN. The document's heap: Reached. -/
namespace Go.Proofs.YtpmkjeihbddfpabGreatDoor
open Go.RowKit
set_option linter.unusedVariables false
set_option linter.unusedSimpArgs false

/-- a block of bools: at b, for b from 0 to N, f b -/
def Mark (N G : Nat) (f : Nat → Bool) (W : World) : Prop := ∃ cur e, W.heap[G]? = some (.cells cur e (0, 0)) ∧ ∀ b, b ≤ N → cur[b]? = some (.bool (f b))
def setF (f : Nat → Bool) (k : Nat) (v : Bool) (b : Nat) : Bool := if b = k then v else f b
theorem Mark.cell {N G : Nat} {f : Nat → Bool} {W : World} (h : Mark N G f W) (b : Nat) (hb : b ≤ N) : W.cell? ⟨G, b, none⟩ = some (.bool (f b)) := by
  obtain ⟨cur, e, h1, h2⟩ := h
  exact cell_of_heap h1 (h2 b hb)
theorem Mark.frozen {N G : Nat} {f : Nat → Bool} {W : World} (h : Mark N G f W) (b : Nat) : W.frozen? ⟨G, b, none⟩ = false := by
  obtain ⟨cur, e, h1, h2⟩ := h
  exact frozen_of_heap h1
theorem Mark.lt {N G : Nat} {f : Nat → Bool} {W : World} (h : Mark N G f W) : G < W.heap.size := by
  obtain ⟨cur, e, h1, h2⟩ := h
  exact lt_of_heap h1
theorem Mark.set {N G : Nat} {f : Nat → Bool} {W : World} (h : Mark N G f W) (k : Nat) (v : Bool) : Mark N G (setF f k v) (W.setCell ⟨G, k, none⟩ (.bool v)) := by
  obtain ⟨cur, e, h1, h2⟩ := h
  refine ⟨_, e, heap_setCell_at h1 _, fun b hb => ?_⟩
  have hl : b < cur.size := (Array.getElem?_eq_some_iff.1 (h2 b hb)).1
  unfold setF
  rw [Array.getElem?_setIfInBounds]
  by_cases hk : k = b
  · subst hk; rw [if_pos rfl, if_pos hl, if_pos rfl]
  · rw [if_neg hk, if_neg (fun e => hk e.symm)]; exact h2 b hb
theorem Mark.ext {N G : Nat} {f f' : Nat → Bool} {W : World} (h : Mark N G f W) (he : ∀ b, b ≤ N → f b = f' b) : Mark N G f' W := by
  obtain ⟨cur, e, h1, h2⟩ := h
  exact ⟨cur, e, h1, fun b hb => by rw [← he b hb]; exact h2 b hb⟩
theorem Mark.carry {N G : Nat} {f : Nat → Bool} {W W' : World} (h : Mark N G f W) (hb : W'.heap[G]? = W.heap[G]?) : Mark N G f W' := by
  obtain ⟨cur, e, h1, h2⟩ := h
  exact ⟨cur, e, by rw [hb]; exact h1, h2⟩
theorem mark_made {N G base : Nat} {e : TypeId} {W : World} (h : W.ownsRow base e 1 (.slice (some ⟨G, 0, none⟩) (N + 1) (N + 1)) (N + 1) (madeCells #[Value.bool false] (N + 1)).toList) : Mark N G (fun _ => false) W := by
  rw [toList_madeCells_one] at h
  rcases h.2 with ⟨hv, _⟩ | ⟨g, cap, cur, hv, _, h1, h2, h3, h4, h5⟩
  · cases hv
  · simp at hv
    obtain ⟨rfl, rfl⟩ := hv
    refine ⟨cur, e, h1, fun b hb => ?_⟩
    have h6 := congrArg (fun l => l[b]?) h5
    simp only [Nat.mul_one, List.getElem?_take, List.getElem?_replicate] at h6
    rw [if_pos (by omega), if_pos (by omega)] at h6
    simpa using h6

/-- how many of the blocks 1 to N are not marked, in a world -/
def unmarked (N G : Nat) (W : World) : Nat := N - countTo (fun b => match W.cell? ⟨G, b, none⟩ with | some (.bool true) => true | _ => false) N
theorem countTo_ext {p q : Nat → Bool} {k : Nat} (h : ∀ b, b ≤ k → p b = q b) : countTo p k = countTo q k := by
  induction k with
  | zero => simp [countTo]
  | succ k ih => rw [countTo_succ, countTo_succ, ih (fun b hb => h b (by omega)), h (k + 1) (by omega)]
theorem Mark.unmarked {N G : Nat} {f : Nat → Bool} {W : World} (h : Mark N G f W) : unmarked N G W = N - countTo f N := by
  unfold YtpmkjeihbddfpabGreatDoor.unmarked
  congr 1
  refine countTo_ext fun b hb => ?_
  rw [h.cell b hb]
  cases f b <;> rfl

/-- what is marked: the roots' objects, and nothing but what is reachable -/
structure Marked (s : St) (N : Nat) (f : Nat → Bool) : Prop where
  root : ∀ b, 1 ≤ b → b ≤ N → s.rooted b = true → f b = true
  sound : ∀ b, f b = true → s.reachB b = true
/-- closed, as far as the fields of the blocks below a, and those of a's that lead to blocks below c -/
def ClosedTo (s : St) (N : Nat) (f : Nat → Bool) (a c : Nat) : Prop := ∀ x y, 1 ≤ x → 1 ≤ y → y ≤ N → (x < a ∨ (x = a ∧ y < c)) → f x = true → 0 < refsN (s.ob x).fs y → f y = true

theorem Marked.reach {s : St} {N : Nat} {f : Nat → Bool} (h : Marked s N f) (hN : s.N = N) (hc : ClosedTo s N f (N + 1) 1) (b : Nat) : f b = s.reachB b := by
  cases e : f b with
  | true => rw [h.sound b e]
  | false =>
    cases e2 : s.reachB b with
    | false => rfl
    | true =>
      have := reach_least (P := fun b => f b = true) (fun b h1 h2 hr => h.root b h1 (by omega) hr) (fun x y hx h1 h2 h3 h4 hr => hc x y h1 h3 (by omega) (.inl (by omega)) hx hr) e2
      rw [e] at this; cases this
theorem Marked.add {s : St} {N : Nat} {f : Nat → Bool} (h : Marked s N f) (hN : s.N = N) {a c : Nat} (ha : f a = true) (h1 : 1 ≤ c) (h2 : c ≤ N) (hr : 0 < refsN (s.ob a).fs c) : Marked s N (setF f c true) := by
  refine ⟨fun b b1 b2 hb => ?_, fun b hb => ?_⟩
  · unfold setF
    split
    · rfl
    · exact h.root b b1 b2 hb
  · unfold setF at hb
    split at hb
    · rename_i e; rw [e]; exact reach_closed (h.sound a ha) h1 (by omega) hr
    · exact h.sound b hb
theorem count_add {N : Nat} {f : Nat → Bool} {c : Nat} (h1 : 1 ≤ c) (h2 : c ≤ N) (hf : f c = false) : countTo f N < countTo (setF f c true) N :=
  countTo_lt (fun j hj => by unfold setF; split; · rfl
                             · exact hj) h1 h2 hf (by unfold setF; rw [if_pos rfl])

theorem infoBool : (Tryz.prog.info? 4).map (fun i => (i.zero, i.size, i.bytes)) = some (some (.bool false), 1, 1) := by kernel_rfl

end Go.Proofs.YtpmkjeihbddfpabGreatDoor

/- OUR OWN. The document's heap: Reached, the walk. -/
namespace Go.Proofs.YtpmkjeihbddfpabGreatDoor
open Go.RowKit
set_option linter.unusedVariables false
set_option linter.unusedSimpArgs false

/-- what the walk wants of the heap, in every world that has it as it was -/
structure ReachEnv (h N g capB : Nat) (s : St) (w : World) : Prop where
  cells : ∀ W, Below w.heap.size w W → W.cell? ⟨h, 0, none⟩ = some (.int .i64 N) ∧ W.cell? ⟨h, 5, none⟩ = some (.slice (some ⟨g, 0, none⟩) (N + 1) capB)
  root : ∀ W (b : Int), Below w.heap.size w W → Calls Tryz.prog 68 #[.pointer (some ⟨h, 0, none⟩), .int .i64 b] W fun e w' => e = .returned (.bool (s.rooted b)) ∧ w' = W
  refs : ∀ W (a : Nat), Below w.heap.size w W → a ≤ N → ∃ v, W.cell? ⟨g, a * 4 + 1, none⟩ = some v ∧ ∀ c : Int, Calls Tryz.prog 73 #[v, .int .i64 c] W fun e w' => e = .returned (.int .i64 (refsN (s.ob a).fs c)) ∧ w' = W
  sN : s.N = N
  small : N ≤ 99

def boolN : Value → Nat
  | .bool true => 1
  | _ => 0
structure Rnd (s : St) (N G : Nat) (w : World) (f0 : Nat → Bool) (a c : Nat) (mo : Bool) (f : Nat → Bool) (W : World) : Prop where
  mark : Mark N G f W
  below : Below G w W
  ok : Marked s N f
  more : mo = true → countTo f0 N < countTo f N
  still : mo = false → countTo f0 N = countTo f N ∧ ClosedTo s N f a c

theorem Rnd.skip {s : St} {N G : Nat} {w : World} {f0 f : Nat → Bool} {a c : Nat} {mo : Bool} {W : World} (t : Rnd s N G w f0 a c mo f W) (h : ¬ (f a = true ∧ f c = false ∧ 0 < refsN (s.ob a).fs c)) : Rnd s N G w f0 a (c + 1) mo f W := by
  refine ⟨t.mark, t.below, t.ok, t.more, fun hm => ⟨(t.still hm).1, fun x y h1 h2 h3 hlt hf hr => ?_⟩⟩
  by_cases e : x = a ∧ y = c
  · obtain ⟨rfl, rfl⟩ := e
    cases e2 : f y with
    | true => rfl
    | false => exact absurd ⟨hf, e2, hr⟩ h
  · exact (t.still hm).2 x y h1 h2 h3 (by omega) hf hr
theorem Rnd.add {s : St} {N G : Nat} {w : World} {f0 f : Nat → Bool} {a c : Nat} {mo : Bool} {W : World} (t : Rnd s N G w f0 a c mo f W) (hN : s.N = N) (h1 : 1 ≤ c) (h2 : c ≤ N) (ha : f a = true) (hc : f c = false) (hr : 0 < refsN (s.ob a).fs c) :
    Rnd s N G w f0 a (c + 1) true (setF f c true) (W.setCell ⟨G, c, none⟩ (.bool true)) := by
  refine ⟨t.mark.set c true, t.below.setCell (Nat.le_refl _) _, t.ok.add hN ha h1 h2 hr, fun _ => ?_, fun hm => by cases hm⟩
  have := count_add h1 h2 hc
  cases mo with
  | true => have := t.more rfl; omega
  | false => have := (t.still rfl).1; omega
theorem Rnd.next {s : St} {N G : Nat} {w : World} {f0 f : Nat → Bool} {a : Nat} {mo : Bool} {W : World} (t : Rnd s N G w f0 a (N + 1) mo f W) : Rnd s N G w f0 (a + 1) 1 mo f W :=
  ⟨t.mark, t.below, t.ok, t.more, fun hm => ⟨(t.still hm).1, fun x y h1 h2 h3 hlt hf hr => (t.still hm).2 x y h1 h2 h3 (by omega) hf hr⟩⟩

set_option maxHeartbeats 4000000 in
set_option maxRecDepth 10000 in
theorem reached_walk (h N g capB G : Nat) (s : St) (w : World) (hG : w.heap.size = G) (E : Hid (ReachEnv h N g capB s w)) :
    Calls Tryz.prog 32 #[.pointer (some ⟨h, 0, none⟩)] w fun e w' => e = .returned (.slice (some ⟨G, 0, none⟩) (N + 1) (N + 1)) ∧ Below G w w' ∧ Mark N G (fun b => s.reachB b) w' := by
  have hN := E.out.small
  obtain ⟨c0, c5⟩ := E.out.cells w (Below.refl _ _)
  clear c5
  go_enter Tryz.func32, Tryz.ntmps32
  obtain ⟨i1, hi1, hy0, hy1, hy2⟩ := info_parts infoBool
  go_wp2_with (at_make; refine wpList_make_full _ rfl _ _ 69 rfl 0 4 i1 _ 1 Tryz.underlying69 hi1 hy0 hy1 .i64 .i64 _ _ (N + 1) rfl rfl (by omega) (by omega) (by rw [hy2]; omega) (by unfold maxLen; omega) (Nat.zero_le _) ?_)
  intro w1 hown hgr
  have M1 : Hid (Mark N G (fun _ => false) w1 ∧ Below G w w1) := ⟨mark_made hown, (Below.refl _ _).grown hgr (by rw [hG]; exact Nat.le_refl _) (fun k hk => by cases hk)⟩
  clear hown hgr hi1 hy0 hy1 hy2 c0
  go_wp2
  go_loopw [4] (fun i wr => ∃ j : Nat, j ≤ N ∧ i = .int .i64 (j + 1) ∧ Mark N G (fun b => decide (1 ≤ b ∧ b ≤ j) && s.rooted b) wr ∧ Below G w wr) (fun i _ => N + 1 - (intOf i).toNat)
  case atStart => exact ⟨0, Nat.zero_le _, rfl, M1.out.1.ext (fun b hb => by simp; omega), M1.out.2⟩
  case round =>
    obtain ⟨j, hj, rfl, hm, hb⟩ := hrel
    have K : Hid (Mark N G (fun b => decide (1 ≤ b ∧ b ≤ j) && s.rooted b) wr ∧ Below G w wr) := ⟨hm, hb⟩
    obtain ⟨d0, d5⟩ := E.out.cells wr (by rw [hG]; exact hb)
    by_cases hlt : j < N
    · have R : Hid _ := E.out.root wr ((j : Int) + 1) (by rw [hG]; exact hb)
      have x1 := hm.cell (j + 1) (by omega)
      have x2 := hm.frozen (j + 1)
      obtain ⟨u1, hu1⟩ : ∃ u, (decide (1 ≤ j + 1 ∧ j + 1 ≤ j) && s.rooted ((j + 1 : Nat) : Int)) = u := ⟨_, rfl⟩
      rw [hu1] at x1
      clear hm hb d5 hu1 M1
      go_wp2_with fail
      refine Calls.mono R.out ?_
      rintro e w2 ⟨rfl, hw2⟩
      subst hw2
      clear R
      go_wp2
      go_roundw
      case rel =>
        refine ⟨j + 1, by omega, by go_num, (K.out.1.set (j + 1) (s.rooted ((j : Int) + 1))).ext (fun b hb => ?_), K.out.2.setCell (Nat.le_refl _) _⟩
        unfold setF
        by_cases e : b = j + 1
        · subst e; simp
        · rw [if_neg e]
          show (decide (1 ≤ b ∧ b ≤ j) && s.rooted b) = (decide (1 ≤ b ∧ b ≤ j + 1) && s.rooted b)
          rw [show decide (1 ≤ b ∧ b ≤ j) = decide (1 ≤ b ∧ b ≤ j + 1) from decide_eq_decide.2 (by omega)]
      case measure => simp [intOf]; omega
    · obtain rfl : j = N := by omega
      have S1 : Hid (∃ f, Mark j G f wr ∧ Below G w wr ∧ Marked s j f) := ⟨_, K.out.1, K.out.2, ⟨fun b h1 h2 hr => by simp [h1, h2, hr], fun b hb => by
        simp at hb
        exact reach_rooted hb.1.1 (by rw [E.out.sN]; exact hb.1.2) hb.2⟩⟩
      clear hm hb d5 M1 K
      go_wp2
      go_loopw [5] (fun v wx => ∃ (f : Nat → Bool) (mo : Bool), v = .bool mo ∧ Mark j G f wx ∧ Below G w wx ∧ Marked s j f ∧ (mo = false → ClosedTo s j f (j + 1) 1)) (fun v wx => unmarked j G wx + boolN v)
      case atStart =>
        obtain ⟨f, h1, h2, h3⟩ := S1.out
        exact ⟨f, true, rfl, h1, h2, h3, fun h => by cases h⟩
      case round =>
        obtain ⟨f0, mo0, rfl, hm, hb, hk, hcl⟩ := hrel
        cases mo0 with
        | false =>
          have FIN : Hid (Below G w wr ∧ Mark j G (fun b => s.reachB b) wr) := ⟨hb, hm.ext (fun b _ => hk.reach E.out.sN (hcl rfl) b)⟩
          clear hm hb hk hcl S1
          go_wp2
          go_ret
          exact ⟨rfl, FIN.out⟩
        | true =>
          have T0 : Hid (Rnd s j G w f0 1 1 false f0 wr) := ⟨hm, hb, hk, (fun h => by cases h), fun _ => ⟨rfl, fun x y h1 h2 h3 h4 _ _ => by omega⟩⟩
          clear hm hb hk hcl S1
          go_wp2
          go_loopw [5, 6] (fun v b wx => ∃ (a : Nat) (mo : Bool) (f : Nat → Bool), a ≤ j ∧ v = .bool mo ∧ b = .int .i64 (a + 1) ∧ Rnd s j G w f0 (a + 1) 1 mo f wx) (fun _ b _ => j + 1 - (intOf b).toNat)
          case atStart => exact ⟨0, false, f0, Nat.zero_le _, rfl, rfl, T0.out⟩
          case round =>
            obtain ⟨a, mo, f, haj, rfl, rfl, t⟩ := hrel
            obtain ⟨d0, _⟩ := E.out.cells wr (by rw [hG]; exact t.below)
            have T : Hid (Rnd s j G w f0 (a + 1) 1 mo f wr) := t
            clear t
            by_cases hlt3 : a < j
            · have haI : (a : Int) + 1 < (j : Int) + 1 := by omega
              have haJ : (a : Int) + 1 ≤ (j : Int) := by omega
              have haD : decide ((a : Int) + 1 ≤ (j : Int)) = true := by simpa using haJ
              go_wp2
              go_loopw [5, 7] (fun v c wy => ∃ (k : Nat) (mo : Bool) (f : Nat → Bool), k ≤ j ∧ v = .bool mo ∧ c = .int .i64 (k + 1) ∧ Rnd s j G w f0 (a + 1) (k + 1) mo f wy) (fun _ c _ => j + 1 - (intOf c).toNat)
              case atStart => exact ⟨0, mo, f, Nat.zero_le _, rfl, rfl, T.out⟩
              case round =>
                obtain ⟨k, mo2, f2, hkj, rfl, rfl, t⟩ := hrel
                obtain ⟨b0, b5⟩ := E.out.cells wr (by rw [hG]; exact t.below)
                have T2 : Hid (Rnd s j G w f0 (a + 1) (k + 1) mo2 f2 wr) := t
                by_cases hlt4 : k < j
                · obtain ⟨v, hv, hR⟩ := E.out.refs wr (a + 1) (by rw [hG]; exact t.below) (by omega)
                  have RR : Hid _ := hR ((k : Int) + 1)
                  have x1 := t.mark.cell (a + 1) (by omega)
                  have x2 := t.mark.cell (k + 1) (by omega)
                  have z2 := t.mark.frozen (k + 1)
                  obtain ⟨n, hn⟩ : ∃ n, refsN (s.ob (a + 1)).fs ((k : Int) + 1) = n := ⟨_, rfl⟩
                  rw [hn] at RR
                  obtain ⟨p1, hp1⟩ : ∃ p, f2 (a + 1) = p := ⟨_, rfl⟩
                  obtain ⟨p2, hp2⟩ : ∃ p, f2 (k + 1) = p := ⟨_, rfl⟩
                  rw [hp1] at x1
                  rw [hp2] at x2
                  have SKIP : Hid (¬ (p1 = true ∧ p2 = false ∧ 0 < n) → Rnd s j G w f0 (a + 1) (k + 1 + 1) mo2 f2 wr) := fun hn2 => T2.out.skip (fun h => hn2 ⟨by rw [← hp1]; exact h.1, by rw [← hp2]; exact h.2.1, by rw [← hn]; exact h.2.2⟩)
                  have ADD : Hid (p1 = true → p2 = false → 0 < n → Rnd s j G w f0 (a + 1) (k + 1 + 1) true (setF f2 (k + 1) true) (wr.setCell ⟨G, k + 1, none⟩ (.bool true))) := fun q1 q2 q3 => T2.out.add E.out.sN (by omega) (by omega) (by rw [hp1]; exact q1) (by rw [hp2]; exact q2) (by
                    have e : ((k + 1 : Nat) : Int) = (k : Int) + 1 := by omega
                    rw [e, hn]; exact q3)
                  clear t hR hp1 hp2 hn T T0 d0 T2
                  have hkI : (k : Int) + 1 < (j : Int) + 1 := by omega
                  go_wp2_with fail
                  refine Calls.mono RR.out ?_
                  rintro e w3 ⟨rfl, hw3⟩
                  subst hw3
                  clear RR
                  by_cases hc : p1 = true ∧ p2 = false ∧ 0 < n
                  · obtain ⟨rfl, rfl, hn0⟩ := hc
                    have A : Hid _ := ADD.out rfl rfl hn0
                    have hnI : (0 : Int) < n := by omega
                    have hnd : decide ((0 : Int) < n) = true := by simpa using hnI
                    clear ADD SKIP
                    go_wp2
                    go_roundw
                    case rel => exact ⟨k + 1, true, _, by omega, rfl, by go_num, A.out⟩
                    case measure => simp [intOf]; omega
                  · have A : Hid _ := SKIP.out hc
                    clear ADD SKIP
                    cases p1 with
                    | false =>
                      go_wp2
                      go_roundw
                      case rel => exact ⟨k + 1, mo2, f2, by omega, rfl, by go_num, A.out⟩
                      case measure => simp [intOf]; omega
                    | true =>
                      cases p2 with
                      | true =>
                        go_wp2
                        go_roundw
                        case rel => exact ⟨k + 1, mo2, f2, by omega, rfl, by go_num, A.out⟩
                        case measure => simp [intOf]; omega
                      | false =>
                        have hn0 : n = 0 := by
                          rcases Nat.eq_zero_or_pos n with e | e
                          · exact e
                          · exact absurd ⟨rfl, rfl, e⟩ hc
                        subst hn0
                        clear hc
                        go_wp2
                        go_roundw
                        case rel => exact ⟨k + 1, mo2, f2, by omega, rfl, by go_num, A.out⟩
                        case measure => simp [intOf]; omega
                · obtain rfl : k = j := by omega
                  have A : Hid (Rnd s k G w f0 (a + 1 + 1) 1 mo2 f2 wr) := T2.out.next
                  clear t T T0 d0 T2 b5
                  go_wp2
                  go_roundw
                  case rel => exact ⟨a + 1, mo2, f2, by omega, rfl, by go_num, A.out⟩
                  case measure => simp [intOf]; omega
            · obtain rfl : a = j := by omega
              have U0 := T0.out.mark.unmarked
              have U1 := T.out.mark.unmarked
              have L1 := countTo_le f a
              have L0 := countTo_le f0 a
              have MM : Hid (unmarked a G wr + boolN (.bool mo) < a - countTo f0 a + 1) := by
                show unmarked a G wr + boolN (.bool mo) < a - countTo f0 a + 1
                rw [U1]
                cases mo with
                | true => have := T.out.more rfl; simp [boolN]; omega
                | false => have := (T.out.still rfl).1; simp [boolN]; omega
              have UU : Hid _ := U0
              clear T0 U0 U1 L1 L0
              go_wp2
              go_roundw
              case rel => exact ⟨f, mo, rfl, T.out.mark, T.out.below, T.out.ok, fun hm => (T.out.still hm).2⟩
              case measure =>
                have h1 := MM.out
                have h2 := UU.out
                simp only [boolN] at h1 ⊢
                simp
                omega

end Go.Proofs.YtpmkjeihbddfpabGreatDoor

/- OUR OWN. The document's heap: Collect, the walk over what is turned. -/
namespace Go.Proofs.YtpmkjeihbddfpabGreatDoor
open Go.RowKit
set_option linter.unusedVariables false
set_option linter.unusedSimpArgs false

/-- A j: the blocks up to j are swept; B j: the blocks up to j have their extras, or are stuck. -/
structure CollEnv (h N g capB G ov : Nat) (here f : Nat → Bool) (c : Nat → Nat) (A B : Nat → World → Prop) (Done : World → Prop) : Prop where
  cells : ∀ j W, A j W → W.cell? ⟨h, 0, none⟩ = some (.int .i64 N) ∧ W.cell? ⟨h, 5, none⟩ = some (.slice (some ⟨g, 0, none⟩) (N + 1) capB)
  acell : ∀ j W, A j W → j < N → W.cell? ⟨g, (j + 1) * 4, none⟩ = some (.bool (here (j + 1))) ∧ (∃ u1 u2 u3, W.cell? ⟨g, (j + 1) * 4 + 1, none⟩ = some u1 ∧ W.cell? ⟨g, (j + 1) * 4 + 2, none⟩ = some u2 ∧ W.cell? ⟨g, (j + 1) * 4 + 3, none⟩ = some u3) ∧
    (∀ o, W.frozen? ⟨g, o, none⟩ = false) ∧ W.cell? ⟨G, j + 1, none⟩ = some (.bool (f (j + 1)))
  afree : ∀ j W, A j W → j < N → here (j + 1) = true → f (j + 1) = false → A (j + 1) (((layObj W g (j + 1) noObj).setCell ⟨g, (j + 1) * 4 + 2, none⟩ (.bool false)).setCell ⟨g, (j + 1) * 4 + 3, none⟩ (.bool false))
  akeep : ∀ j W, A j W → j < N → ¬ (here (j + 1) = true ∧ f (j + 1) = false) → A (j + 1) ((W.setCell ⟨g, (j + 1) * 4 + 2, none⟩ (.bool false)).setCell ⟨g, (j + 1) * 4 + 3, none⟩ (.bool false))
  amid : ∀ W, A N W → (∃ u, W.cell? ⟨h, 6, none⟩ = some u) ∧ W.frozen? ⟨h, 6, none⟩ = false ∧ B 0 (W.setCell ⟨h, 6, none⟩ (.slice none 0 0))
  bcells : ∀ j W, B j W → W.cell? ⟨h, 0, none⟩ = some (.int .i64 N) ∧ W.cell? ⟨h, 5, none⟩ = some (.slice (some ⟨g, 0, none⟩) (N + 1) capB) ∧ W.cell? ⟨h, 4, none⟩ = some (.int .i64 ov)
  bstuck : ∀ j W, B j W → j < N → (∃ u, W.cell? ⟨g, (j + 1) * 4 + 2, none⟩ = some u) ∧ W.frozen? ⟨g, (j + 1) * 4 + 2, none⟩ = false
  bcount : ∀ j W, B j W → j < N → Calls Tryz.prog 33 #[.pointer (some ⟨h, 0, none⟩), .int .i64 ((j : Int) + 1)] W fun e w' => e = .returned (.int .i64 (c (j + 1))) ∧ w' = W
  bkeep : ∀ j W, B j W → j < N → ¬ (7 < c (j + 1) ∧ ov ≤ countTo (fun b => decide (7 < c b)) j) → B (j + 1) W
  bstick : ∀ j W, B j W → j < N → 7 < c (j + 1) → ov ≤ countTo (fun b => decide (7 < c b)) j → B (j + 1) (W.setCell ⟨g, (j + 1) * 4 + 2, none⟩ (.bool true))
  done : ∀ W, B N W → Done W

set_option maxHeartbeats 4000000 in
set_option maxRecDepth 10000 in
theorem collect_walk (h N g capB G ov : Nat) (here f : Nat → Bool) (c : Nat → Nat) (A B : Nat → World → Prop) (Done : World → Prop) (w : World) (E : Hid (CollEnv h N g capB G ov here f c A B Done)) (hN : N ≤ 99) (hov : ov ≤ 9) (hgh : ¬ g = h)
    (R : Hid (Calls Tryz.prog 32 #[.pointer (some ⟨h, 0, none⟩)] w fun e w' => e = .returned (.slice (some ⟨G, 0, none⟩) (N + 1) (N + 1)) ∧ A 0 w')) :
    Calls Tryz.prog 13 #[.pointer (some ⟨h, 0, none⟩)] w fun e w' => e = .returned (.int .i64 (countTo (fun b => here b && !f b) N)) ∧ Done w' := by
  go_enter Tryz.func13, Tryz.ntmps13
  go_wp2_with fail
  refine Calls.mono R.out ?_
  rintro e w1 ⟨rfl, hA⟩
  have A0 : Hid (A 0 w1) := hA
  clear hA R
  go_wp2
  go_loopw [4, 5] (fun n i wr => ∃ j : Nat, j ≤ N ∧ n = .int .i64 (countTo (fun b => here b && !f b) j) ∧ i = .int .i64 (j + 1) ∧ A j wr) (fun _ i _ => N + 1 - (intOf i).toNat)
  case atStart => exact ⟨0, Nat.zero_le _, rfl, rfl, A0.out⟩
  case round =>
    obtain ⟨j, hj, rfl, rfl, hA⟩ := hrel
    have K : Hid (A j wr) := hA
    obtain ⟨d0, d5⟩ := E.out.cells j wr hA
    have hcl := countTo_le (fun b => here b && !f b) j
    obtain ⟨n, hn⟩ : ∃ n, countTo (fun b => here b && !f b) j = n := ⟨_, rfl⟩
    have NX : Hid (countTo (fun b => here b && !f b) (j + 1) = n + if here (j + 1) && !f (j + 1) then 1 else 0) := by
      show countTo (fun b => here b && !f b) (j + 1) = _
      rw [countTo_succ, hn]
    rw [hn] at hcl
    have HN : Hid (countTo (fun b => here b && !f b) j = n) := hn
    rw [hn]
    clear hA A0
    by_cases hlt : j < N
    · obtain ⟨e0, ⟨u1, u2, u3, e1, e2, e3⟩, fz, eG⟩ := E.out.acell j wr K.out hlt
      have f0 := fz ((j + 1) * 4)
      have f1 := fz ((j + 1) * 4 + 1)
      have f2 := fz ((j + 1) * 4 + 2)
      have f3 := fz ((j + 1) * 4 + 3)
      have FR : Hid (here (j + 1) = true → f (j + 1) = false → A (j + 1) (((layObj wr g (j + 1) noObj).setCell ⟨g, (j + 1) * 4 + 2, none⟩ (.bool false)).setCell ⟨g, (j + 1) * 4 + 3, none⟩ (.bool false))) := E.out.afree j wr K.out hlt
      have KE : Hid (¬ (here (j + 1) = true ∧ f (j + 1) = false) → A (j + 1) ((wr.setCell ⟨g, (j + 1) * 4 + 2, none⟩ (.bool false)).setCell ⟨g, (j + 1) * 4 + 3, none⟩ (.bool false))) := E.out.akeep j wr K.out hlt
      obtain ⟨p1, hp1⟩ : ∃ p, here (j + 1) = p := ⟨_, rfl⟩
      obtain ⟨p2, hp2⟩ : ∃ p, f (j + 1) = p := ⟨_, rfl⟩
      rw [hp1] at e0 FR KE NX
      rw [hp2] at eG FR KE NX
      have hjI : (j : Int) + 1 < (N : Int) + 1 := by omega
      have hgN : ¬ h = g := fun e => hgh e.symm
      clear fz hp1 hp2 hn K
      cases p1 with
      | false =>
        have AA : Hid _ := KE.out (by simp)
        have NN : Hid (countTo (fun b => here b && !f b) (j + 1) = n) := by
          show countTo (fun b => here b && !f b) (j + 1) = n
          rw [NX.out]; simp
        clear KE FR NX
        go_wp2
        go_roundw
        case rel => exact ⟨j + 1, by omega, by rw [NN.out], by go_num, AA.out⟩
        case measure => simp [intOf]; omega
      | true =>
        cases p2 with
        | true =>
          have AA : Hid _ := KE.out (by simp)
          have NN : Hid (countTo (fun b => here b && !f b) (j + 1) = n) := by
            show countTo (fun b => here b && !f b) (j + 1) = n
            rw [NX.out]; simp
          clear KE FR NX
          go_wp2
          go_roundw
          case rel => exact ⟨j + 1, by omega, by rw [NN.out], by go_num, AA.out⟩
          case measure => simp [intOf]; omega
        | false =>
          have AA : Hid _ := FR.out rfl rfl
          have NN : Hid (countTo (fun b => here b && !f b) (j + 1) = n + 1) := by
            show countTo (fun b => here b && !f b) (j + 1) = n + 1
            rw [NX.out]; simp
          clear KE FR NX
          go_wp2
          go_roundw
          case rel =>
            refine ⟨j + 1, by omega, by rw [NN.out]; go_num, by go_num, ?_⟩
            have := AA.out
            unfold layObj noObj at this
            exact this
          case measure => simp [intOf]; omega
    · obtain rfl : j = N := by omega
      obtain ⟨⟨u, e6⟩, f6, hB⟩ := E.out.amid wr K.out
      have B0 : Hid (B 0 (wr.setCell ⟨h, 6, none⟩ (.slice none 0 0))) := hB
      have HN2 : Hid _ := HN.out
      clear hB K hn NX HN
      go_wp2
      go_loopw [6, 7] (fun v i wx => ∃ k : Nat, k ≤ j ∧ v = .int .i64 ((min (countTo (fun b => decide (7 < c b)) k) ov : Nat) : Int) ∧ i = .int .i64 (k + 1) ∧ B k wx) (fun _ i _ => j + 1 - (intOf i).toNat)
      case atStart => exact ⟨0, Nat.zero_le _, by simp [countTo], rfl, B0.out⟩
      case round =>
        obtain ⟨k, hk, rfl, rfl, hB⟩ := hrel
        have K : Hid (B k wr) := hB
        obtain ⟨b0, b5, b4⟩ := E.out.bcells k wr hB
        have cl := countTo_le (fun b => decide (7 < c b)) k
        have NX : Hid (countTo (fun b => decide (7 < c b)) (k + 1) = countTo (fun b => decide (7 < c b)) k + if decide (7 < c (k + 1)) = true then 1 else 0) := countTo_succ _ _
        obtain ⟨q, hq⟩ : ∃ q, countTo (fun b => decide (7 < c b)) k = q := ⟨_, rfl⟩
        rw [hq] at cl NX
        rw [hq]
        clear hB d0 d5 e6 f6 B0
        by_cases hlt2 : k < j
        · have CNT : Hid _ := E.out.bcount k wr K.out hlt2
          obtain ⟨⟨u2, e2⟩, f2⟩ := E.out.bstuck k wr K.out hlt2
          have KE : Hid (¬ (7 < c (k + 1) ∧ ov ≤ q) → B (k + 1) wr) := by have := E.out.bkeep k wr K.out hlt2; rw [hq] at this; exact this
          have ST : Hid (7 < c (k + 1) → ov ≤ q → B (k + 1) (wr.setCell ⟨g, (k + 1) * 4 + 2, none⟩ (.bool true))) := by have := E.out.bstick k wr K.out hlt2; rw [hq] at this; exact this
          obtain ⟨x, hx⟩ : ∃ x, c (k + 1) = x := ⟨_, rfl⟩
          rw [hx] at CNT KE ST NX
          have hkI : (k : Int) + 1 < (j : Int) + 1 := by omega
          clear hq hx K
          go_wp2_with fail
          refine Calls.mono CNT.out ?_
          rintro e w3 ⟨rfl, hw3⟩
          subst hw3
          clear CNT
          by_cases h7 : 7 < x
          · have h7I : (7 : Int) < x := by omega
            have h7d : decide ((7 : Int) < x) = true := by simpa using h7I
            have NN : Hid (countTo (fun b => decide (7 < c b)) (k + 1) = q + 1) := by
              show countTo (fun b => decide (7 < c b)) (k + 1) = q + 1
              rw [NX.out]; simp [h7]
            by_cases ho : ov ≤ q
            · have BB : Hid _ := ST.out h7 ho
              have em : min q ov = ov := by omega
              rw [em]
              have ho2 : ¬ (ov : Int) < ov := by omega
              have hod : decide ((ov : Int) < ov) = false := by simp
              clear KE ST NX
              go_wp2
              go_roundw
              case rel => exact ⟨k + 1, by omega, by rw [NN.out]; congr 2; omega, by go_num, BB.out⟩
              case measure => simp [intOf]; omega
            · have BB : Hid _ := KE.out (fun h2 => ho h2.2)
              have em : min q ov = q := by omega
              rw [em]
              have ho2 : (q : Int) < ov := by omega
              have hod : decide ((q : Int) < ov) = true := by simpa using ho2
              clear KE ST NX
              go_wp2
              go_roundw
              case rel =>
                refine ⟨k + 1, by omega, ?_, by go_num, BB.out⟩
                rw [NN.out, show min (q + 1) ov = q + 1 by omega]
                go_num
              case measure => simp [intOf]; omega
          · have h7I : ¬ (7 : Int) < x := by omega
            have h7d : decide ((7 : Int) < x) = false := by simpa using h7I
            have NN : Hid (countTo (fun b => decide (7 < c b)) (k + 1) = q) := by
              show countTo (fun b => decide (7 < c b)) (k + 1) = q
              rw [NX.out]; simp [h7]
            have BB : Hid _ := KE.out (fun h2 => h7 h2.1)
            obtain ⟨mq, hmq⟩ : ∃ mq, min q ov = mq := ⟨_, rfl⟩
            rw [hmq]
            have MQ : Hid (min q ov = mq) := hmq
            clear KE ST NX hmq
            go_wp2
            go_roundw
            case rel => exact ⟨k + 1, by omega, by rw [NN.out, MQ.out], by go_num, BB.out⟩
            case measure => simp [intOf]; omega
        · obtain rfl : k = j := by omega
          have DD : Hid _ := E.out.done wr K.out
          clear K hq NX
          go_wp2
          go_ret
          exact ⟨ret_int (congrArg Int.ofNat HN2.out.symm), DD.out⟩

end Go.Proofs.YtpmkjeihbddfpabGreatDoor

/- OUR OWN. The document's heap: Collect, exact. -/
namespace Go.Proofs.YtpmkjeihbddfpabGreatDoor
open Go.RowKit
set_option linter.unusedVariables false
set_option linter.unusedSimpArgs false

theorem reached_do {h N : Nat} {w : World} {m : RefM} (p : RPre h N w m) (G : Nat) (hG : w.heap.size = G) :
    Calls Tryz.prog 32 #[.pointer (some ⟨h, 0, none⟩)] w fun e w' => e = .returned (.slice (some ⟨G, 0, none⟩) (N + 1) (N + 1)) ∧ Below G w w' ∧ Mark N G (fun b => m.st.reachB b) w' := by
  obtain ⟨g, capB, hvB, hg, hgh, hgo, hfz, hobj⟩ := p.r.view p.ok
  refine reached_walk h N g capB G m.st w hG ⟨fun W hb => ?_, fun W b hb => ?_, fun W a hb ha => ?_, st_N p.ok, p.ok.small⟩
  · have p' := p.below hb
    exact ⟨by rw [p'.r.cell.1, p.ok.most], by rw [p'.r.cell.2.2.2.2.2.1, hvB]⟩
  · exact rooted_any (p.below hb).r p.ok b
  · have hal : a < m.objs.length := by rw [p.ok.len]; omega
    refine ⟨(m.objs[a]).vF, (hb.cell (p := ⟨g, a * 4 + 1, none⟩) hg).trans (hobj a hal).2.1, fun c => ?_⟩
    have hf := p.ok.fields _ (List.getElem_mem hal)
    have := refs_any (m.objs[a]).vF (m.objs[a]).fs c W ((p.below hb).r.fields _ (List.getElem_mem hal)) (by omega)
    rw [st_ob (List.getElem?_eq_getElem hal)]
    exact this

/-! ### The sweep -/
def sweptR (v : Bool) (o : RObj) : RObj := if o.here && !v then noObj else { o with stuck := false, queued := false }
def sweepR (f : Nat → Bool) (m : RefM) (j : Nat) : RefM := { m with objs := m.objs.mapIdx fun i o => if 1 ≤ i ∧ i ≤ j then sweptR (f i) o else o }
theorem sweep_get (f : Nat → Bool) (m : RefM) (j i : Nat) : (sweepR f m j).objs[i]? = (m.objs[i]?).map fun o => if 1 ≤ i ∧ i ≤ j then sweptR (f i) o else o := by simp [sweepR, List.getElem?_mapIdx]
theorem sweep_len (f : Nat → Bool) (m : RefM) (j : Nat) : (sweepR f m j).objs.length = m.objs.length := by simp [sweepR]
theorem sweep_zero (f : Nat → Bool) (m : RefM) : sweepR f m 0 = m := by
  have : (sweepR f m 0).objs = m.objs := List.ext_getElem? fun i => by
    rw [sweep_get]
    cases h : m.objs[i]? with
    | none => rfl
    | some o => rw [Option.map_some, if_neg (by omega)]
  show ({ m with objs := (sweepR f m 0).objs } : RefM) = m
  rw [this]
theorem sweep_old {f : Nat → Bool} {m : RefM} {j : Nat} {o : RObj} (h : m.objs[j + 1]? = some o) : (sweepR f m j).objs[j + 1]? = some o := by
  rw [sweep_get, h, Option.map_some, if_neg (by omega)]
theorem sweep_step {f : Nat → Bool} {m : RefM} {j : Nat} {o : RObj} (h : m.objs[j + 1]? = some o) : (sweepR f m j).put (j + 1) (sweptR (f (j + 1)) o) = sweepR f m (j + 1) := by
  have hl : j + 1 < m.objs.length := (List.getElem?_eq_some_iff.1 h).1
  have : (sweepR f m j).objs.set (j + 1) (sweptR (f (j + 1)) o) = (sweepR f m (j + 1)).objs := List.ext_getElem? fun i => by
    rw [sweep_get]
    by_cases hi : i = j + 1
    · subst hi
      rw [List.getElem?_set_self (by rw [sweep_len]; exact hl), h, Option.map_some, if_pos (by omega)]
    · rw [List.getElem?_set_ne (fun e => hi e.symm), sweep_get]
      congr 1
      funext o'
      by_cases hj : 1 ≤ i ∧ i ≤ j
      · rw [if_pos hj, if_pos (by omega)]
      · rw [if_neg hj, if_neg (by omega)]
  show ({ m with objs := (sweepR f m j).objs.set (j + 1) (sweptR (f (j + 1)) o) } : RefM) = { m with objs := (sweepR f m (j + 1)).objs }
  rw [this]

/-- the queue is empty, behind the sweep -/
def emptied (m : RefM) : RefM := { m with vQ := .slice none 0 0, queue := [] }
theorem swept_st {m : RefM} {N : Nat} (ok : m.Ok N) (f : Nat → Bool) (hf : f = fun b => m.st.reachB b) : (emptied (sweepR f m N)).st = m.st.swept := by
  have : (sweepR f m N).objs.map RObj.ob = (m.objs.map RObj.ob).mapIdx (sweptOb m.st) := List.ext_getElem? fun i => by
    rw [List.getElem?_map, sweep_get, List.getElem?_mapIdx, List.getElem?_map]
    cases h : m.objs[i]? with
    | none => rfl
    | some o =>
      have hl : i < m.objs.length := (List.getElem?_eq_some_iff.1 h).1
      rw [ok.len] at hl
      simp only [Option.map_some]
      congr 1
      unfold sweptOb
      by_cases h0 : i = 0
      · rw [if_neg (by omega), if_pos h0]
      · rw [if_pos (by omega), if_neg h0, hf]
        unfold sweptR
        show RObj.ob (if o.here && !(m.st.reachB i) then noObj else { o with stuck := false, queued := false }) = if o.here && !(m.st.reachB i) then Ob.free else { o.ob with stuck := false, queued := false }
        by_cases hc : (o.here && !(m.st.reachB i)) = true
        · rw [if_pos hc, if_pos hc]; rfl
        · rw [if_neg hc, if_neg hc]; rfl
  show (⟨m.stack, m.globals, (sweepR f m N).objs.map RObj.ob, []⟩ : St) = ⟨m.stack, m.globals, (m.objs.map RObj.ob).mapIdx (sweptOb m.st), []⟩
  rw [this]

/-! ### The extras -/
def stuckTo (over : Int) (s : St) (j : Nat) : St := { s with objs := s.objs.mapIdx fun i o => if i ≤ j then stuckOb over s i o else o }
theorem stuckTo_get (over : Int) (s : St) (j i : Nat) : (stuckTo over s j).objs[i]? = (s.objs[i]?).map fun o => if i ≤ j then stuckOb over s i o else o := by simp [stuckTo, List.getElem?_mapIdx]
theorem stuckTo_zero (over : Int) (s : St) : stuckTo over s 0 = s := by
  have : (stuckTo over s 0).objs = s.objs := List.ext_getElem? fun i => by
    rw [stuckTo_get]
    cases h : s.objs[i]? with
    | none => rfl
    | some o =>
      rw [Option.map_some]
      by_cases h0 : i ≤ 0
      · rw [if_pos h0]; unfold stuckOb; rw [if_neg (by omega)]
      · rw [if_neg h0]
  show ({ s with objs := (stuckTo over s 0).objs } : St) = s
  rw [this]
theorem stuckTo_all (over : Int) (s : St) {N : Nat} (hl : s.objs.length = N + 1) : stuckTo over s N = s.restuck over := by
  have : (stuckTo over s N).objs = (s.restuck over).objs := List.ext_getElem? fun i => by
    rw [stuckTo_get]
    unfold St.restuck
    rw [List.getElem?_mapIdx]
    cases h : s.objs[i]? with
    | none => rfl
    | some o =>
      have := (List.getElem?_eq_some_iff.1 h).1
      rw [Option.map_some, Option.map_some, if_pos (by omega)]
  show ({ s with objs := (stuckTo over s N).objs } : St) = { s with objs := (s.restuck over).objs }
  rw [this]
theorem stuckTo_next {over : Int} {s : St} {j : Nat} {o : Ob} (h : s.objs[j + 1]? = some o) : stuckTo over s (j + 1) = (stuckTo over s j).put (j + 1) (stuckOb over s (j + 1) o) := by
  have hl : j + 1 < s.objs.length := (List.getElem?_eq_some_iff.1 h).1
  have : (stuckTo over s (j + 1)).objs = (stuckTo over s j).objs.set (j + 1) (stuckOb over s (j + 1) o) := List.ext_getElem? fun i => by
    rw [stuckTo_get]
    by_cases hi : i = j + 1
    · subst hi
      rw [List.getElem?_set_self (by simp [stuckTo]; exact hl), h, Option.map_some, if_pos (Nat.le_refl _)]
    · rw [List.getElem?_set_ne (fun e => hi e.symm), stuckTo_get]
      congr 1
      funext o'
      by_cases hj : i ≤ j
      · rw [if_pos hj, if_pos (by omega)]
      · rw [if_neg hj, if_neg (by omega)]
  show ({ s with objs := (stuckTo over s (j + 1)).objs } : St) = { s with objs := (stuckTo over s j).objs.set (j + 1) (stuckOb over s (j + 1) o) }
  rw [this]
theorem stuckTo_old {over : Int} {s : St} {j : Nat} {o : Ob} (h : s.objs[j + 1]? = some o) : (stuckTo over s j).objs[j + 1]? = some o := by
  rw [stuckTo_get, h, Option.map_some, if_neg (by omega)]
theorem stuckTo_count (over : Int) (s : St) (j : Nat) (b : Int) : (stuckTo over s j).count b = s.count b := by
  unfold St.count
  rw [List.map_tail, List.map_tail]
  have : (stuckTo over s j).objs.map (obCount b) = s.objs.map (obCount b) := List.ext_getElem? fun i => by
    rw [List.getElem?_map, List.getElem?_map, stuckTo_get]
    cases h : s.objs[i]? with
    | none => rfl
    | some o =>
      simp only [Option.map_some]
      congr 1
      by_cases hj : i ≤ j
      · rw [if_pos hj]; unfold stuckOb; split <;> rfl
      · rw [if_neg hj]
  rw [this]
theorem stuckTo_inv {over : Int} {s : St} {N j : Nat} (h : s.Inv N) : (stuckTo over s j).Inv N := h.mapped _ fun i o v hv => by
  split at hv
  · unfold stuckOb at hv; split at hv <;> exact hv
  · exact hv

/-! ### Collect -/
structure SwA (h N G : Nat) (w : World) (m : RefM) (f : Nat → Bool) (j : Nat) (W : World) : Prop where
  turn : Turn h w m W (sweepR f m j)
  mark : Mark N G f W
structure SwB (h N : Nat) (w : World) (m : RefM) (j : Nat) (W : World) (m3 : RefM) : Prop where
  pre : RPre h N W m3
  step : RStep h N w m W m3
  vB : m3.vB = m.vB
  st : m3.st = stuckTo m.over m.st.swept j

theorem noObj_row (W : World) : noObj.row.At W := World.ownsRow_nil _ _ _ _

theorem collect_any {h N : Nat} {w : World} {m : RefM} (p : RPre h N w m) (gd : m.st.Good N) (ho : 0 ≤ m.over ∧ m.over ≤ 9) :
    Calls Tryz.prog 13 #[.pointer (some ⟨h, 0, none⟩)] w fun e w' => e = .returned (.int .i64 m.st.gone) ∧ ∃ m', RStep h N w m w' m' ∧ m'.st = m.st.collect m.over ∧ m'.vB = m.vB := by
  obtain ⟨g, capB, hvB, hg, hgh, hgo, hfz, hobj⟩ := p.r.view p.ok
  obtain ⟨G, hG⟩ : ∃ G, w.heap.size = G := ⟨_, rfl⟩
  obtain ⟨f, hf⟩ : ∃ f : Nat → Bool, f = fun b => m.st.reachB b := ⟨_, rfl⟩
  obtain ⟨ov, hov⟩ : ∃ ov : Nat, m.over = ov := ⟨m.over.toNat, by omega⟩
  have hlen := p.ok.len
  have gsw := gd.swept
  have hGg : G ≠ g := by omega
  have OBJ : ∀ j, j < N → ∃ o, m.objs[j + 1]? = some o ∧ (m.st.ob (j + 1)).here = o.here := fun j hj => by
    have hl : j + 1 < m.objs.length := by omega
    exact ⟨m.objs[j + 1], List.getElem?_eq_getElem hl, by rw [st_ob (List.getElem?_eq_getElem hl)]; rfl⟩
  have LEN : ∀ j, (sweepR f m j).objs.length = N + 1 := fun j => by rw [sweep_len]; exact hlen
  have VIEW : ∀ j W, SwA h N G w m f j W → (∀ o, W.frozen? ⟨g, o, none⟩ = false) ∧ ∀ i (hi : i < (sweepR f m j).objs.length), W.cell? ⟨g, i * 4, none⟩ = some (.bool ((sweepR f m j).objs[i]).here) ∧ W.cell? ⟨g, i * 4 + 1, none⟩ = some ((sweepR f m j).objs[i]).vF ∧
      W.cell? ⟨g, i * 4 + 2, none⟩ = some (.bool ((sweepR f m j).objs[i]).stuck) ∧ W.cell? ⟨g, i * 4 + 3, none⟩ = some (.bool ((sweepR f m j).objs[i]).queued) := fun j W t => by
    obtain ⟨g', capB', hvB', _, _, _, hfz', hobj'⟩ := t.turn.here.view0 (LEN j)
    have e1 : (Value.slice (some ⟨g', 0, none⟩) (N + 1) capB') = .slice (some ⟨g, 0, none⟩) (N + 1) capB := hvB'.symm.trans hvB
    simp at e1
    obtain ⟨rfl, rfl⟩ := e1
    exact ⟨hfz', hobj'⟩
  have ENV : CollEnv h N g capB G ov (fun b => (m.st.ob b).here) f (fun b => m.st.swept.count b) (SwA h N G w m f) (fun j W => ∃ m3, SwB h N w m j W m3) (fun W => ∃ m', RStep h N w m W m' ∧ m'.st = m.st.collect m.over ∧ m'.vB = m.vB) := by
    refine ⟨fun j W t => ?_, fun j W t hj => ?_, fun j W t hj h1 h2 => ?_, fun j W t hj hn => ?_, fun W t => ?_, ?_, ?_, ?_, ?_, ?_, ?_⟩
    · have c := t.turn.here.cell
      exact ⟨by rw [c.1]; show some (Value.int .i64 m.most) = _; rw [p.ok.most], by rw [c.2.2.2.2.2.1]; exact congrArg some hvB⟩
    · obtain ⟨o, ho1, ho2⟩ := OBJ j hj
      obtain ⟨vf, vo⟩ := VIEW j W t
      have hl : j + 1 < (sweepR f m j).objs.length := by rw [LEN]; omega
      have eo : (sweepR f m j).objs[j + 1] = o := (List.getElem?_eq_some_iff.1 (sweep_old ho1)).2
      obtain ⟨a0, a1, a2, a3⟩ := vo (j + 1) hl
      exact ⟨by rw [a0, eo, ho2], ⟨_, _, _, a1, a2, a3⟩, vf, t.mark.cell (j + 1) (by omega)⟩
    · obtain ⟨o, ho1, ho2⟩ := OBJ j hj
      have hi := sweep_old (f := f) ho1
      have hl : j + 1 < (sweepR f m j).objs.length := by rw [LEN]; omega
      have t1 := t.turn.here.placed0 (LEN j) (Below.refl _ _) hvB (j + 1) hi noObj (noObj_row W) (fun x hx => by cases hx)
      have hi1 : ((sweepR f m j).put (j + 1) noObj).objs[j + 1]? = some noObj := by simp [RefM.put, hl]
      have hl1 : ((sweepR f m j).put (j + 1) noObj).objs.length = N + 1 := by simp [RefM.put, LEN]
      have t2 := t1.here.flagged0 hl1 hvB (j + 1) hi1 noObj 2 (by decide) (.bool false) rfl rfl
      have e2 : ({ (sweepR f m j).put (j + 1) noObj with objs := ((sweepR f m j).put (j + 1) noObj).objs.set (j + 1) noObj } : RefM) = (sweepR f m j).put (j + 1) noObj := by simp [RefM.put, List.set_set]
      rw [e2] at t2
      have t3 := t2.here.flagged0 hl1 hvB (j + 1) hi1 noObj 3 (by decide) (.bool false) rfl rfl
      rw [e2] at t3
      have es : (sweepR f m j).put (j + 1) noObj = sweepR f m (j + 1) := by
        rw [← sweep_step ho1]
        unfold sweptR
        rw [if_pos (by rw [← ho2, h1, h2]; rfl)]
      rw [es] at t3 t2 t1
      refine ⟨t.turn.trans (t1.trans (t2.trans t3)), t.mark.carry ?_⟩
      rw [hso hGg, hso hGg]
      unfold layObj
      rw [hso hGg, hso hGg, hso hGg, hso hGg]
    · obtain ⟨o, ho1, ho2⟩ := OBJ j hj
      have hi := sweep_old (f := f) ho1
      have hl : j + 1 < (sweepR f m j).objs.length := by rw [LEN]; omega
      have t1 := t.turn.here.flagged0 (LEN j) hvB (j + 1) hi { o with stuck := false } 2 (by decide) (.bool false) rfl rfl
      have hi1 : ((sweepR f m j).put (j + 1) { o with stuck := false }).objs[j + 1]? = some { o with stuck := false } := by simp [RefM.put, hl]
      have hl1 : ((sweepR f m j).put (j + 1) { o with stuck := false }).objs.length = N + 1 := by simp [RefM.put, LEN]
      have t1' : Turn h W (sweepR f m j) (W.setCell ⟨g, (j + 1) * 4 + 2, none⟩ (.bool false)) ((sweepR f m j).put (j + 1) { o with stuck := false }) := t1
      have t2 := t1'.here.flagged0 hl1 hvB (j + 1) hi1 { o with stuck := false, queued := false } 3 (by decide) (.bool false) rfl rfl
      have es : ({ (sweepR f m j).put (j + 1) { o with stuck := false } with objs := ((sweepR f m j).put (j + 1) { o with stuck := false }).objs.set (j + 1) { o with stuck := false, queued := false } } : RefM) = sweepR f m (j + 1) := by
        rw [← sweep_step ho1]
        unfold sweptR
        rw [if_neg (by rw [← ho2]; intro hc; simp at hc; exact hn hc)]
        simp [RefM.put, List.set_set]
      rw [es] at t2
      refine ⟨t.turn.trans (t1'.trans t2), t.mark.carry ?_⟩
      rw [hso hGg, hso hGg]
    · have c := t.turn.here.cell
      refine ⟨⟨_, c.2.2.2.2.2.2.1⟩, frozen_of_heap t.turn.here.head, emptied (sweepR f m N), ?_⟩
      have t2 := t.turn.here.requeued (w1 := W) (.slice none 0 0) [] win_nil (Off.refl _ _) (fun x hx => by cases hx)
      have t3 : Turn h w m (W.setCell ⟨h, 6, none⟩ (.slice none 0 0)) (emptied (sweepR f m N)) := t.turn.trans t2
      have st : (emptied (sweepR f m N)).st = m.st.swept := swept_st p.ok f hf
      have ok : (emptied (sweepR f m N)).Ok N := ⟨p.ok.most, LEN N, p.ok.small, fun o ho => by
        have h4 := gsw.four
        obtain ⟨i, hi, rfl⟩ := List.getElem_of_mem ho
        have := h4 i
        rw [← st, st_ob (List.getElem?_eq_getElem hi)] at this
        exact this, p.ok.stack, p.ok.globals, Nat.zero_le _⟩
      have clean : FreeClean (emptied (sweepR f m N)) := fun o ho hh => by
        obtain ⟨i, hi, rfl⟩ := List.getElem_of_mem ho
        have e := st_ob (m := emptied (sweepR f m N)) (List.getElem?_eq_getElem hi)
        have := gsw.gone i (by rw [← st, e]; exact hh)
        rw [← st, e] at this
        exact congrArg Ob.queued this
      have s : RStep h N w m _ (emptied (sweepR f m N)) := ⟨t3, ok, rfl, clean⟩
      exact ⟨s.pre p (by rw [st]; exact gsw.inv), s, rfl, by rw [st, stuckTo_zero]⟩
    · rintro j W ⟨m3, t⟩
      have c := t.pre.r.cell
      have e : m3.over = ov := (congrArg Cf.over t.step.cf).trans hov
      exact ⟨by rw [c.1, t.pre.ok.most], by rw [c.2.2.2.2.2.1, t.vB, hvB], by rw [c.2.2.2.2.1, e]⟩
    · rintro j W ⟨m3, t⟩ hj
      obtain ⟨o, _, h2, h3⟩ := t.pre.stuckCell (t.vB.trans hvB) (j + 1) (by omega)
      exact ⟨⟨_, h2⟩, h3⟩
    · rintro j W ⟨m3, t⟩ hj
      have := count_any t.pre.r t.pre.ok ((j : Int) + 1)
      have e : m3.count ((j : Int) + 1) = m.st.swept.count ((j + 1 : Nat) : Int) := by
        rw [← st_count, t.st, stuckTo_count]; rfl
      rw [e] at this
      exact this
    · rintro j W ⟨m3, t⟩ hj hn
      refine ⟨m3, t.pre, t.step, t.vB, ?_⟩
      have hl : j + 1 < m.st.swept.objs.length := by rw [gsw.len]; omega
      have hi : m.st.swept.objs[j + 1]? = some m.st.swept.objs[j + 1] := List.getElem?_eq_getElem hl
      rw [t.st, stuckTo_next hi]
      have e : stuckOb m.over m.st.swept (j + 1) m.st.swept.objs[j + 1] = m.st.swept.objs[j + 1] := by
        unfold stuckOb
        refine if_neg fun hc => hn ?_
        have h1 : m.st.swept.over7 (j + 1) = true := hc.2.1
        have h2 := hc.2.2
        unfold St.over7 at h1
        rw [hov, Nat.add_sub_cancel] at h2
        refine ⟨by simpa using h1, ?_⟩
        have h3 : m.st.swept.over7 = fun b : Nat => decide (7 < m.st.swept.count b) := rfl
        rw [h3] at h2
        omega
      rw [e]
      have ho1 := stuckTo_old (over := m.over) hi
      unfold St.put
      have : (stuckTo m.over m.st.swept j).objs.set (j + 1) m.st.swept.objs[j + 1] = (stuckTo m.over m.st.swept j).objs := List.ext_getElem? fun i => by
        by_cases hij : i = j + 1
        · subst hij
          rw [List.getElem?_set_self (by rw [(stuckTo_inv gsw.inv).len]; omega), ho1]
        · rw [List.getElem?_set_ne (fun e => hij e.symm)]
      rw [this]
    · rintro j W ⟨m3, t⟩ hj h7 ho2
      obtain ⟨o, hio, _, _⟩ := t.pre.stuckCell (t.vB.trans hvB) (j + 1) (by omega)
      obtain ⟨s, st⟩ := RStep.stuck t.pre (t.vB.trans hvB) (j + 1) hio
      have hl : j + 1 < m.st.swept.objs.length := by rw [gsw.len]; omega
      have hi : m.st.swept.objs[j + 1]? = some m.st.swept.objs[j + 1] := List.getElem?_eq_getElem hl
      have e : (m3.put (j + 1) { o with stuck := true }).st = stuckTo m.over m.st.swept (j + 1) := by
        rw [st, t.st, stuckTo_next hi]
        unfold St.stick
        rw [ob_of (stuckTo_old hi)]
        have : stuckOb m.over m.st.swept (j + 1) m.st.swept.objs[j + 1] = { m.st.swept.objs[j + 1] with stuck := true } := by
          unfold stuckOb
          refine if_pos ⟨by omega, ?_, ?_⟩
          · unfold St.over7; simpa using h7
          · rw [hov, Nat.add_sub_cancel]
            have h3 : m.st.swept.over7 = fun b : Nat => decide (7 < m.st.swept.count b) := rfl
            rw [h3]
            omega
        rw [this]
      exact ⟨_, s.pre t.pre (by rw [e]; exact stuckTo_inv gsw.inv), t.step.trans s, t.vB, e⟩
    · rintro W ⟨m3, t⟩
      exact ⟨m3, t.step, by rw [t.st, stuckTo_all _ _ gsw.len]; rfl, t.vB⟩
  have R : Calls Tryz.prog 32 #[.pointer (some ⟨h, 0, none⟩)] w fun e w' => e = .returned (.slice (some ⟨G, 0, none⟩) (N + 1) (N + 1)) ∧ SwA h N G w m f 0 w' := by
    refine (reached_do p G hG).mono ?_
    rintro e w' ⟨he, hb, hm⟩
    refine ⟨he, ?_, by rw [hf]; exact hm⟩
    rw [sweep_zero]
    exact .of_below p.r (by rw [hG]; exact hb)
  refine (collect_walk h N g capB G ov _ f _ _ _ _ w ENV p.ok.small (by omega) hgh R).mono ?_
  rintro e w' ⟨he, hd⟩
  refine ⟨he.trans (ret_int ?_), hd⟩
  unfold St.gone
  rw [st_N p.ok, hf]

end Go.Proofs.YtpmkjeihbddfpabGreatDoor

/- OUR OWN. The document's heap: made, where no block is free: the walks. -/
namespace Go.Proofs.YtpmkjeihbddfpabGreatDoor
open Go.RowKit
set_option linter.unusedVariables false
set_option linter.unusedSimpArgs false

/-- P: a block is free; Q: the object lies there; R: ahead of the push. -/
structure LayEnv (h N g cap k j : Nat) (P Q R : World → Prop) (Done : World → Prop) : Prop where
  lt : ∀ W, P W → h < W.heap.size ∧ g < W.heap.size
  cells : ∀ W, P W → W.cell? ⟨h, 5, none⟩ = some (.slice (some ⟨g, 0, none⟩) (N + 1) cap) ∧ (∃ u0 u1 u2 u3, W.cell? ⟨g, (k + 1) * 4, none⟩ = some u0 ∧ W.cell? ⟨g, (k + 1) * 4 + 1, none⟩ = some u1 ∧ W.cell? ⟨g, (k + 1) * 4 + 2, none⟩ = some u2 ∧ W.cell? ⟨g, (k + 1) * 4 + 3, none⟩ = some u3) ∧ ∀ o, W.frozen? ⟨g, o, none⟩ = false
  lay : ∀ W W' vo vc, P W → Below W.heap.size W W' → W'.ownsRow (W.heap.size + 1) 84 2 (.slice vo j vc) j (nilCells j) → Q (layObj W' g (k + 1) ⟨true, .slice vo j vc, List.replicate j (0, 0), false, false⟩)
  qbelow : ∀ W W', Q W → Below W.heap.size W W' → Q W'
  enter : ∀ W, Q W → Calls Tryz.prog 70 #[.pointer (some ⟨h, 0, none⟩), .int .i64 ((k : Int) + 1)] W fun e w' => e = .returned (.tuple #[]) ∧ R w'
  push : ∀ W, R W → Calls Tryz.prog 91 #[.pointer (some ⟨h, 0, none⟩), .agg #[.int .i64 2, .int .i64 ((k : Int) + 1)]] W fun e w' => e = .returned (.int .i64 0) ∧ Done w'

set_option maxHeartbeats 4000000 in
set_option maxRecDepth 10000 in
theorem made_walk_free (h N g cap k n len ql : Nat) (ao qo : Option Addr) (cp qc : Nat) (D : Int) (P Q R Done : World → Prop) (w : World) (E : Hid (LayEnv h N g cap k n P Q R Done)) (cS : w.cell? ⟨h, 7, none⟩ = some (.slice ao len cp)) (cD : w.cell? ⟨h, 1, none⟩ = some (.int .i64 D)) (cQ : w.cell? ⟨h, 6, none⟩ = some (.slice qo ql qc))
    (hN : N ≤ 99) (hk : k < N) (hn : n ≤ 4) (hl16 : len ≤ 16) (hd3 : ¬ D ≤ (len : Int)) (hql : 0 < ql) (hq100 : ql ≤ 100)
    (ROOM : Hid (∀ W, Below w.heap.size w W → Calls Tryz.prog 90 #[.pointer (some ⟨h, 0, none⟩)] W fun e w' => e = .returned (.int .i64 0) ∧ w' = W))
    (ACT : Hid (∀ W, Below w.heap.size w W → Calls Tryz.prog 27 #[.pointer (some ⟨h, 0, none⟩)] W fun e w' => e = .returned (.tuple #[]) ∧ P w'))
    (ROOM2 : Hid (∀ W, P W → Calls Tryz.prog 90 #[.pointer (some ⟨h, 0, none⟩)] W fun e w' => e = .returned (.int .i64 ((k : Int) + 1)) ∧ w' = W)) :
    Calls Tryz.prog 58 #[.pointer (some ⟨h, 0, none⟩), .int .i64 n] w fun e w' => e = .returned (.int .i64 0) ∧ Done w' := by
  have hnI : ¬ (n : Int) < 0 := by omega
  have hn4 : ¬ (4 : Int) < n := by omega
  have hd2 : decide (D ≤ (len : Int)) = false := by simpa using hd3
  have hqI : (0 : Int) < ql := by omega
  have hqd : decide ((0 : Int) < ql) = true := by simpa using hqI
  go_enter Tryz.func58, Tryz.ntmps58
  go_wp2
  go_quiet (fail)
  go_wp2_with fail
  refine (ROOM.out _ (below_drewN (Below.refl _ _) _)).mono ?_
  rintro e wa ⟨rfl, hwa⟩
  have Ba : Hid (Below w.heap.size w wa) := by rw [hwa]; exact below_drewN (Below.refl _ _) _
  have cQ' : wa.cell? ⟨h, 6, none⟩ = some (.slice qo ql qc) := by rw [hwa]; exact cQ
  clear hwa cS cD cQ ROOM
  go_wp2_with fail
  refine (ACT.out _ Ba.out).mono ?_
  rintro e w1 ⟨rfl, hp⟩
  have P1 : Hid (P w1) := hp
  clear hp ACT Ba cQ'
  go_wp2_with fail
  refine (ROOM2.out _ P1.out).mono ?_
  rintro e w1' ⟨rfl, hw1⟩
  subst hw1
  clear ROOM2
  have hk0 : ((k : Int) + 1 == 0) = false := by simp; omega
  have hk1 : ¬ ((k : Int) + 1 = 0) := by omega
  go_wp2
  go_loopw [7] (fun i wr => ∃ (j : Nat) (v : Value), j ≤ n ∧ i = .int .i64 j ∧ Making w1'.heap.size w1' wr v j) (fun i _ => n - (intOf i).toNat)
  case atStart => exact ⟨0, _, Nat.zero_le _, rfl, ⟨heap_alloc_new w1' _, World.ownsRow_nil _ _ _ _, (Below.refl _ _).alloc (Nat.le_refl _) _⟩⟩
  case round =>
    obtain ⟨j, v, hj, rfl, hm⟩ := hrel
    by_cases hlt : j < n
    · have hcell : wr.cell? ⟨w1'.heap.size, 1, none⟩ = some v := cell_of_heap hm.head rfl
      obtain ⟨i1, hi1, hy0, hy1, hy2⟩ := info_parts infoRValue
      go_wp2_with (at_builtin; refine wpList_append_lies _ rfl (.tmp 55) (.tmp 57) 66 rfl (w1'.heap.size + 1) 84 i1 _ 2 16 Tryz.underlying66 hi1 hy0 hy1 hy2 rfl (by decide) _ _ _ rfl (hm.row.alloc _) ⟨wr.heap.size, 0, none⟩ 1 1 [.int .i64 0, .int .i64 0] rfl rfl ?c1 ?c2 (by decide) ?c3 ?c4 ?c5 (wr.heap.size + 1) (by simp) ?_)
      case c1 => exact news_new _ [.int .i64 0, .int .i64 0] _
      case c2 => intro u hu; simp at hu; subst hu; rfl
      case c3 => unfold maxLen; omega
      case c4 => omega
      case c5 => have := lt_of_heap hm.head; simp; omega
      intro g' cap' w2 hown hgr _ _
      obtain ⟨hm', hc', hf'⟩ := hm.step hown hgr
      have M : Hid _ := hm'
      clear hown hgr hcell hm hm' hi1 hy0 hy1 hy2
      go_wp2
      go_roundw
      case rel => exact ⟨j + 1, _, by omega, by go_num, M.out⟩
      case measure => simp [intOf]; omega
    · obtain rfl : j = n := by omega
      obtain ⟨vo, vc, hvv⟩ := own_slice (own_base hm.row (Nat.zero_le _))
      subst hvv
      have hb1 : Below w1'.heap.size w1' wr := hm.below
      obtain ⟨hh, hg⟩ := E.out.lt w1' P1.out
      have QQ : Hid (Q (layObj wr g (k + 1) ⟨true, .slice vo j vc, List.replicate j (0, 0), false, false⟩)) := E.out.lay w1' wr vo vc P1.out hb1 hm.row
      obtain ⟨cB, ⟨u0, u1, u2, u3, b0, b1, b2, b3⟩, hfz⟩ := E.out.cells w1' P1.out
      have old : ∀ b o, b < w1'.heap.size → wr.cell? ⟨b, o, none⟩ = w1'.cell? ⟨b, o, none⟩ := fun b o hlt => hb1.cell (p := ⟨b, o, none⟩) hlt
      have cB' := (old h 5 hh).trans cB
      have b0' := (old g ((k + 1) * 4) hg).trans b0
      have b1' := (old g ((k + 1) * 4 + 1) hg).trans b1
      have b2' := (old g ((k + 1) * 4 + 2) hg).trans b2
      have b3' := (old g ((k + 1) * 4 + 3) hg).trans b3
      have fz : ∀ o, wr.frozen? ⟨g, o, none⟩ = false := fun o => (hb1.frozen (p := ⟨g, o, none⟩) hg).trans (hfz o)
      have f0 := fz ((k + 1) * 4)
      have f1 := fz ((k + 1) * 4 + 1)
      have f2 := fz ((k + 1) * 4 + 2)
      have f3 := fz ((k + 1) * 4 + 3)
      have x0 := cell_of_heap (i := 0) hm.head rfl
      have x1 := cell_of_heap (i := 1) hm.head rfl
      have x2 := cell_of_heap (i := 2) hm.head rfl
      have x3 := cell_of_heap (i := 3) hm.head rfl
      have hgX : ¬ w1'.heap.size = g := by omega
      have hkI : (k : Int) + 1 < (N : Int) + 1 := by omega
      have Q2 : Hid (∀ W, W = layObj wr g (k + 1) ⟨true, .slice vo j vc, List.replicate j (0, 0), false, false⟩ → Q W.drew) := fun W e => by rw [e]; exact E.out.qbelow _ _ QQ.out ⟨rfl, rfl, rfl, Nat.le_refl _, fun _ _ => rfl⟩
      clear cB b0 b1 b2 b3 hfz old fz hm hb1 QQ P1
      go_wp2
      go_region
      go_wp2_with fail
      refine (E.out.enter _ (Q2.out _ rfl)).mono ?_
      rintro e w3 ⟨rfl, hR⟩
      have R3 : Hid (R w3) := hR
      clear hR Q2 cB' b0' b1' b2' b3' f0 f1 f2 f3 x0 x1 x2 x3
      go_wp2_with fail
      refine (E.out.push _ R3.out).mono ?_
      rintro e w4 ⟨rfl, hD⟩
      have DD : Hid (Done w4) := hD
      clear hD R3
      go_wp2
      go_ret
      exact ⟨rfl, DD.out⟩

set_option maxHeartbeats 4000000 in
set_option maxRecDepth 10000 in
theorem made_walk_full (h N g cap k n len ql : Nat) (ao qo : Option Addr) (cp qc : Nat) (D : Int) (P Q R Done : World → Prop) (w : World) (cS : w.cell? ⟨h, 7, none⟩ = some (.slice ao len cp)) (cD : w.cell? ⟨h, 1, none⟩ = some (.int .i64 D)) (cQ : w.cell? ⟨h, 6, none⟩ = some (.slice qo ql qc))
    (hN : N ≤ 99) (hn : n ≤ 4) (hl16 : len ≤ 16) (hd3 : ¬ D ≤ (len : Int)) (hql : ql = 0) (hq100 : ql ≤ 100)
    (ROOM : Hid (∀ W, Below w.heap.size w W → Calls Tryz.prog 90 #[.pointer (some ⟨h, 0, none⟩)] W fun e w' => e = .returned (.int .i64 0) ∧ w' = W))
    (ACT : Hid (∀ W, Below w.heap.size w W → Calls Tryz.prog 13 #[.pointer (some ⟨h, 0, none⟩)] W fun e w' => (∃ x : Int, e = .returned (.int .i64 x)) ∧ P w'))
    (ROOM2 : Hid (∀ W, P W → Calls Tryz.prog 90 #[.pointer (some ⟨h, 0, none⟩)] W fun e w' => e = .returned (.int .i64 0) ∧ w' = W))
    (FIN : Hid (∀ W, P W → Done W)) :
    Calls Tryz.prog 58 #[.pointer (some ⟨h, 0, none⟩), .int .i64 n] w fun e w' => e = .returned (.int .i64 8) ∧ Done w' := by
  have hnI : ¬ (n : Int) < 0 := by omega
  have hn4 : ¬ (4 : Int) < n := by omega
  have hd2 : decide (D ≤ (len : Int)) = false := by simpa using hd3
  subst hql
  go_enter Tryz.func58, Tryz.ntmps58
  go_wp2
  go_quiet (fail)
  go_wp2_with fail
  refine (ROOM.out _ (below_drewN (Below.refl _ _) _)).mono ?_
  rintro e wa ⟨rfl, hwa⟩
  have Ba : Hid (Below w.heap.size w wa) := by rw [hwa]; exact below_drewN (Below.refl _ _) _
  have cQ' : wa.cell? ⟨h, 6, none⟩ = some (.slice qo 0 qc) := by rw [hwa]; exact cQ
  clear hwa cS cD cQ ROOM
  go_wp2_with fail
  refine (ACT.out _ Ba.out).mono ?_
  rintro e w1 ⟨⟨x, rfl⟩, hp⟩
  have P1 : Hid (P w1) := hp
  clear hp ACT Ba cQ'
  go_wp2_with fail
  refine (ROOM2.out _ P1.out).mono ?_
  rintro e w1' ⟨rfl, hw1⟩
  subst hw1
  clear ROOM2
  have DD : Hid _ := FIN.out _ P1.out
  go_wp2
  go_ret
  exact ⟨rfl, DD.out⟩

end Go.Proofs.YtpmkjeihbddfpabGreatDoor

/- OUR OWN. The document's heap: made, where no block is free and the queue is empty: the walk. -/
namespace Go.Proofs.YtpmkjeihbddfpabGreatDoor
open Go.RowKit
set_option linter.unusedVariables false
set_option linter.unusedSimpArgs false

set_option maxHeartbeats 4000000 in
set_option maxRecDepth 10000 in
theorem made_walk_coll (h N g cap k n len ql : Nat) (ao qo : Option Addr) (cp qc : Nat) (D : Int) (P Q R Done : World → Prop) (w : World) (E : Hid (LayEnv h N g cap k n P Q R Done)) (cS : w.cell? ⟨h, 7, none⟩ = some (.slice ao len cp)) (cD : w.cell? ⟨h, 1, none⟩ = some (.int .i64 D)) (cQ : w.cell? ⟨h, 6, none⟩ = some (.slice qo ql qc))
    (hN : N ≤ 99) (hk : k < N) (hn : n ≤ 4) (hl16 : len ≤ 16) (hd3 : ¬ D ≤ (len : Int)) (hql : ql = 0) (hq100 : ql ≤ 100)
    (ROOM : Hid (∀ W, Below w.heap.size w W → Calls Tryz.prog 90 #[.pointer (some ⟨h, 0, none⟩)] W fun e w' => e = .returned (.int .i64 0) ∧ w' = W))
    (ACT : Hid (∀ W, Below w.heap.size w W → Calls Tryz.prog 13 #[.pointer (some ⟨h, 0, none⟩)] W fun e w' => (∃ x : Int, e = .returned (.int .i64 x)) ∧ P w'))
    (ROOM2 : Hid (∀ W, P W → Calls Tryz.prog 90 #[.pointer (some ⟨h, 0, none⟩)] W fun e w' => e = .returned (.int .i64 ((k : Int) + 1)) ∧ w' = W)) :
    Calls Tryz.prog 58 #[.pointer (some ⟨h, 0, none⟩), .int .i64 n] w fun e w' => e = .returned (.int .i64 0) ∧ Done w' := by
  have hnI : ¬ (n : Int) < 0 := by omega
  have hn4 : ¬ (4 : Int) < n := by omega
  have hd2 : decide (D ≤ (len : Int)) = false := by simpa using hd3
  subst hql
  go_enter Tryz.func58, Tryz.ntmps58
  go_wp2
  go_quiet (fail)
  go_wp2_with fail
  refine (ROOM.out _ (below_drewN (Below.refl _ _) _)).mono ?_
  rintro e wa ⟨rfl, hwa⟩
  have Ba : Hid (Below w.heap.size w wa) := by rw [hwa]; exact below_drewN (Below.refl _ _) _
  have cQ' : wa.cell? ⟨h, 6, none⟩ = some (.slice qo 0 qc) := by rw [hwa]; exact cQ
  clear hwa cS cD cQ ROOM
  go_wp2_with fail
  refine (ACT.out _ Ba.out).mono ?_
  rintro e w1 ⟨⟨x, rfl⟩, hp⟩
  have P1 : Hid (P w1) := hp
  clear hp ACT Ba cQ'
  go_wp2_with fail
  refine (ROOM2.out _ P1.out).mono ?_
  rintro e w1' ⟨rfl, hw1⟩
  subst hw1
  clear ROOM2
  have hk0 : ((k : Int) + 1 == 0) = false := by simp; omega
  have hk1 : ¬ ((k : Int) + 1 = 0) := by omega
  go_wp2
  go_loopw [7] (fun i wr => ∃ (j : Nat) (v : Value), j ≤ n ∧ i = .int .i64 j ∧ Making w1'.heap.size w1' wr v j) (fun i _ => n - (intOf i).toNat)
  case atStart => exact ⟨0, _, Nat.zero_le _, rfl, ⟨heap_alloc_new w1' _, World.ownsRow_nil _ _ _ _, (Below.refl _ _).alloc (Nat.le_refl _) _⟩⟩
  case round =>
    obtain ⟨j, v, hj, rfl, hm⟩ := hrel
    by_cases hlt : j < n
    · have hcell : wr.cell? ⟨w1'.heap.size, 1, none⟩ = some v := cell_of_heap hm.head rfl
      obtain ⟨i1, hi1, hy0, hy1, hy2⟩ := info_parts infoRValue
      go_wp2_with (at_builtin; refine wpList_append_lies _ rfl (.tmp 55) (.tmp 57) 66 rfl (w1'.heap.size + 1) 84 i1 _ 2 16 Tryz.underlying66 hi1 hy0 hy1 hy2 rfl (by decide) _ _ _ rfl (hm.row.alloc _) ⟨wr.heap.size, 0, none⟩ 1 1 [.int .i64 0, .int .i64 0] rfl rfl ?c1 ?c2 (by decide) ?c3 ?c4 ?c5 (wr.heap.size + 1) (by simp) ?_)
      case c1 => exact news_new _ [.int .i64 0, .int .i64 0] _
      case c2 => intro u hu; simp at hu; subst hu; rfl
      case c3 => unfold maxLen; omega
      case c4 => omega
      case c5 => have := lt_of_heap hm.head; simp; omega
      intro g' cap' w2 hown hgr _ _
      obtain ⟨hm', hc', hf'⟩ := hm.step hown hgr
      have M : Hid _ := hm'
      clear hown hgr hcell hm hm' hi1 hy0 hy1 hy2
      go_wp2
      go_roundw
      case rel => exact ⟨j + 1, _, by omega, by go_num, M.out⟩
      case measure => simp [intOf]; omega
    · obtain rfl : j = n := by omega
      obtain ⟨vo, vc, hvv⟩ := own_slice (own_base hm.row (Nat.zero_le _))
      subst hvv
      have hb1 : Below w1'.heap.size w1' wr := hm.below
      obtain ⟨hh, hg⟩ := E.out.lt w1' P1.out
      have QQ : Hid (Q (layObj wr g (k + 1) ⟨true, .slice vo j vc, List.replicate j (0, 0), false, false⟩)) := E.out.lay w1' wr vo vc P1.out hb1 hm.row
      obtain ⟨cB, ⟨u0, u1, u2, u3, b0, b1, b2, b3⟩, hfz⟩ := E.out.cells w1' P1.out
      have old : ∀ b o, b < w1'.heap.size → wr.cell? ⟨b, o, none⟩ = w1'.cell? ⟨b, o, none⟩ := fun b o hlt => hb1.cell (p := ⟨b, o, none⟩) hlt
      have cB' := (old h 5 hh).trans cB
      have b0' := (old g ((k + 1) * 4) hg).trans b0
      have b1' := (old g ((k + 1) * 4 + 1) hg).trans b1
      have b2' := (old g ((k + 1) * 4 + 2) hg).trans b2
      have b3' := (old g ((k + 1) * 4 + 3) hg).trans b3
      have fz : ∀ o, wr.frozen? ⟨g, o, none⟩ = false := fun o => (hb1.frozen (p := ⟨g, o, none⟩) hg).trans (hfz o)
      have f0 := fz ((k + 1) * 4)
      have f1 := fz ((k + 1) * 4 + 1)
      have f2 := fz ((k + 1) * 4 + 2)
      have f3 := fz ((k + 1) * 4 + 3)
      have x0 := cell_of_heap (i := 0) hm.head rfl
      have x1 := cell_of_heap (i := 1) hm.head rfl
      have x2 := cell_of_heap (i := 2) hm.head rfl
      have x3 := cell_of_heap (i := 3) hm.head rfl
      have hgX : ¬ w1'.heap.size = g := by omega
      have hkI : (k : Int) + 1 < (N : Int) + 1 := by omega
      have Q2 : Hid (∀ W, W = layObj wr g (k + 1) ⟨true, .slice vo j vc, List.replicate j (0, 0), false, false⟩ → Q W.drew) := fun W e => by rw [e]; exact E.out.qbelow _ _ QQ.out ⟨rfl, rfl, rfl, Nat.le_refl _, fun _ _ => rfl⟩
      clear cB b0 b1 b2 b3 hfz old fz hm hb1 QQ P1
      go_wp2
      go_region
      go_wp2_with fail
      refine (E.out.enter _ (Q2.out _ rfl)).mono ?_
      rintro e w3 ⟨rfl, hR⟩
      have R3 : Hid (R w3) := hR
      clear hR Q2 cB' b0' b1' b2' b3' f0 f1 f2 f3 x0 x1 x2 x3
      go_wp2_with fail
      refine (E.out.push _ R3.out).mono ?_
      rintro e w4 ⟨rfl, hD⟩
      have DD : Hid (Done w4) := hD
      clear hD R3
      go_wp2
      go_ret
      exact ⟨rfl, DD.out⟩

end Go.Proofs.YtpmkjeihbddfpabGreatDoor

/- OUR OWN. The document's heap: made, exact; Do, whole. -/
namespace Go.Proofs.YtpmkjeihbddfpabGreatDoor
open Go.RowKit
set_option linter.unusedVariables false
set_option linter.unusedSimpArgs false

def roomV (s : St) : Int := match free? s with
  | some k => (k : Int) + 1
  | none => 0
theorem free_none {m : RefM} {N : Nat} (ok : m.Ok N) (hk : free? m.st = none) : ∀ j, j < N → ∃ o, m.objs[j + 1]? = some o ∧ o.here = true := by
  intro j hj
  have hl : j + 1 < m.objs.length := by rw [ok.len]; omega
  refine ⟨m.objs[j + 1], List.getElem?_eq_getElem hl, ?_⟩
  unfold free? at hk
  rw [List.findIdx?_eq_none_iff] at hk
  have := hk (m.objs[j + 1]).ob (by
    show (m.objs[j + 1]).ob ∈ (m.objs.map RObj.ob).tail
    rw [← List.map_tail]
    refine List.mem_map_of_mem ?_
    have e : m.objs[j + 1] = m.objs.tail[j]'(by rw [List.length_tail]; omega) := by rw [List.getElem_tail]
    rw [e]
    exact List.getElem_mem _)
  simpa [RObj.ob] using this
theorem room_do {h N : Nat} {w : World} {m : RefM} (p : RPre h N w m) :
    Calls Tryz.prog 90 #[.pointer (some ⟨h, 0, none⟩)] w fun e w' => e = .returned (.int .i64 (roomV m.st)) ∧ w' = w := by
  refine (room_any p.r p.ok).mono ?_
  rintro e w' ⟨v, rfl, hs, rfl⟩
  refine ⟨ret_int ?_, rfl⟩
  unfold roomV
  cases hk : free? m.st with
  | none =>
    rcases hs with ⟨hs, _⟩ | ⟨k', hk', rfl, ⟨o1, ho1, hf1⟩, hs⟩
    · exact hs
    · obtain ⟨o, ho, ht⟩ := free_none p.ok hk k' hk'
      rw [ho1] at ho; cases ho; rw [hf1] at ht; cases ht
  | some k =>
    obtain ⟨hkN, o0, ho0, hfr, hall⟩ := free_first p.ok hk
    rcases hs with ⟨_, hs⟩ | ⟨k', hk', rfl, ⟨o1, ho1, hf1⟩, hs⟩
    · obtain ⟨o, ho, ht⟩ := hs k hkN
      rw [ho0] at ho; cases ho; rw [hfr] at ht; cases ht
    · have : k' = k := by
        rcases Nat.lt_trichotomy k' k with e | e | e
        · obtain ⟨o, ho, ht⟩ := hall k' e
          rw [ho1] at ho; cases ho; rw [hf1] at ht; cases ht
        · exact e
        · obtain ⟨o, ho, ht⟩ := hs k e
          rw [ho0] at ho; cases ho; rw [hfr] at ht; cases ht
      rw [this]

/-- behind what a heap does that has no free block -/
structure Rm (h N : Nat) (w : World) (m : RefM) (s1 : St) (W : World) (m1 : RefM) : Prop where
  pre : RPre h N W m1
  step : RStep h N w m W m1
  st : m1.st = s1
  vB : m1.vB = m.vB

theorem lay_env {h N g cap k j : Nat} {w : World} {m : RefM} {s1 : St} (hv : m.vB = .slice (some ⟨g, 0, none⟩) (N + 1) cap) (hk : free? s1 = some k) (hj : j ≤ 4) (hst : s1.stack = m.stack) (hd : (m.stack.length : Int) < m.deep) :
    LayEnv h N g cap k j (fun W => ∃ m1, Rm h N w m s1 W m1) (fun W => ∃ m1 W1 vF, Rm h N w m s1 W1 m1 ∧ Turn h W1 m1 W (m1.put (k + 1) ⟨true, vF, List.replicate j (0, 0), false, false⟩))
      (fun W => ∃ m1 W1 vF m2, Rm h N w m s1 W1 m1 ∧ EnterRel ((k : Int) + 1) (m1.put (k + 1) ⟨true, vF, List.replicate j (0, 0), false, false⟩) N m2 ∧ Turn h W1 m1 W m2 ∧ m2.Ok N)
      (fun W => ∃ m', RStep h N w m W m' ∧ m'.st = layS m.zero s1 (k + 1) j) := by
  have VIEW : ∀ W m1, Rm h N w m s1 W m1 → W.cell? ⟨h, 5, none⟩ = some (.slice (some ⟨g, 0, none⟩) (N + 1) cap) ∧ g < W.heap.size ∧ (∀ o, W.frozen? ⟨g, o, none⟩ = false) ∧ ∃ o0, m1.objs[k + 1]? = some o0 ∧ o0.queued = false ∧
      W.cell? ⟨g, (k + 1) * 4, none⟩ = some (.bool o0.here) ∧ W.cell? ⟨g, (k + 1) * 4 + 1, none⟩ = some o0.vF ∧ W.cell? ⟨g, (k + 1) * 4 + 2, none⟩ = some (.bool o0.stuck) ∧ W.cell? ⟨g, (k + 1) * 4 + 3, none⟩ = some (.bool o0.queued) := fun W m1 t => by
    obtain ⟨g', cap', hvB', hg', _, _, hfz', hobj'⟩ := t.pre.r.view t.pre.ok
    have e1 : (Value.slice (some ⟨g', 0, none⟩) (N + 1) cap') = .slice (some ⟨g, 0, none⟩) (N + 1) cap := hvB'.symm.trans (t.vB.trans hv)
    simp at e1
    obtain ⟨rfl, rfl⟩ := e1
    obtain ⟨hkN, o0, ho0, hfr, _⟩ := free_first t.pre.ok (by rw [t.st]; exact hk)
    have hl : k + 1 < m1.objs.length := (List.getElem?_eq_some_iff.1 ho0).1
    have eo : m1.objs[k + 1] = o0 := (List.getElem?_eq_some_iff.1 ho0).2
    obtain ⟨a0, a1, a2, a3⟩ := hobj' (k + 1) hl
    rw [eo] at a0 a1 a2 a3
    exact ⟨by rw [t.pre.r.cell.2.2.2.2.2.1, hvB'], hg', hfz', o0, ho0, t.pre.clean _ (List.mem_of_getElem? ho0) hfr, a0, a1, a2, a3⟩
  refine ⟨?_, ?_, ?_, ?_, ?_, ?_⟩
  · rintro W ⟨m1, t⟩; exact ⟨lt_of_heap t.pre.r.head, (VIEW W m1 t).2.1⟩
  · rintro W ⟨m1, t⟩
    obtain ⟨c5, _, fz, o0, _, _, a0, a1, a2, a3⟩ := VIEW W m1 t
    exact ⟨c5, ⟨_, _, _, _, a0, a1, a2, a3⟩, fz⟩
  · rintro W W' vo vc ⟨m1, t⟩ hb hown
    obtain ⟨_, _, _, o0, ho0, hoq, _⟩ := VIEW W m1 t
    refine ⟨m1, W, .slice vo j vc, t, t.pre.r.placed t.pre.ok hb (t.vB.trans hv) (k + 1) ho0 _ ?_ (fun b hb' => by have := (own_lt hown hb').1; omega)⟩
    show W'.ownsRow 0 _ 2 _ (List.replicate j (0, 0)).length _
    have := own_base hown (Nat.zero_le _)
    simpa [nilCells, RObj.row, vrow] using this
  · rintro W W' ⟨m1, W1, vF, t, hT⟩ hb
    exact ⟨m1, W1, vF, t, hT.after hb⟩
  · rintro W ⟨m1, W1, vF, t, hT⟩
    obtain ⟨_, _, _, o0, ho0, hoq, _⟩ := VIEW W1 m1 t
    have ok1 := t.pre.ok.put ho0 hoq ⟨true, vF, List.replicate j (0, 0), false, false⟩ (by simpa using hj)
    refine (enter_any hT.here ok1 ((k : Int) + 1)).mono ?_
    rintro e w' ⟨he, m2, hE, hT2, hok⟩
    exact ⟨he, m1, W1, vF, m2, t, hE, hT.trans hT2, hok⟩
  · rintro W ⟨m1, W1, vF, m2, t, hE, hT, hok⟩
    obtain ⟨_, _, _, o0, ho0, hoq, _⟩ := VIEW W1 m1 t
    have al := hE.alike
    have hs1 : m1.stack = m.stack := by have : m1.st.stack = m.stack := by rw [t.st]; exact hst
                                        exact this
    have hd1 : m1.deep = m.deep := congrArg Cf.deep t.step.cf
    have hd16 := t.pre.deep
    have hs2 : m2.stack = m.stack := al.stack.trans hs1
    have hd2 : m2.deep = m.deep := al.deep.trans hd1
    have hlen : (m2.stack.length : Int) < m2.deep := by rw [hs2, hd2]; exact hd
    refine (push_room hT.here hok.stack (2, (k : Int) + 1) hlen).mono ?_
    rintro e w' ⟨he, v', hT2⟩
    have hok2 : RefM.Ok { m2 with vS := v', stack := m2.stack ++ [(2, (k : Int) + 1)] } N := ⟨hok.most, hok.len, hok.small, hok.fields, by
      rw [hd1] at hd16
      rw [hd2, hs2] at hlen
      simp [hs2]; omega, hok.globals, hok.queue⟩
    obtain ⟨s, st⟩ := laid_st t.pre ho0 hoq hj hE (hT.trans hT2) hok2
    have hz : m1.zero = m.zero := congrArg Cf.zero t.step.cf
    exact ⟨he, _, t.step.trans s, by rw [st, t.st, hz]⟩

theorem collect_stack (s : St) (o : Int) : (s.collect o).stack = s.stack := rfl

/-- OpNew -/
theorem made_all {h N : Nat} {w : World} {m : RefM} (p : RPre h N w m) (gd : m.st.Good N) (ho : 0 ≤ m.over ∧ m.over ≤ 9) (n : Int) : MadeSays h N w m n := by
  by_cases h1 : n < 0 ∨ 4 < n
  · exact made_do p n fun h => absurd h1 h
  by_cases h2 : m.deep ≤ m.stack.length
  · exact made_do p n fun _ h => absurd h2 h
  cases hf : free? m.st with
  | some k => exact made_do p n fun _ _ => ⟨k, hf⟩
  | none =>
    unfold MadeSays
    obtain ⟨j, rfl⟩ : ∃ j : Nat, n = j := ⟨n.toNat, by omega⟩
    obtain ⟨g, cap, hvB, hg, hgh, hgo, hfz, hobj⟩ := p.r.view p.ok
    obtain ⟨ao, cp, hvS⟩ := own_slice p.r.stack
    obtain ⟨qo, qc, hvQ⟩ := win_slice p.r.queue
    have cS : w.cell? ⟨h, 7, none⟩ = some (.slice ao m.stack.length cp) := by rw [p.r.cell.2.2.2.2.2.2.2.1, hvS]
    have cQ : w.cell? ⟨h, 6, none⟩ = some (.slice qo m.queue.length qc) := by rw [p.r.cell.2.2.2.2.2.2.1, hvQ]
    have cD := p.r.cell.2.1
    have hql : m.queue.length ≤ 100 := by
      have h1 := p.ok.queue
      have h2 : m.objs.countP RObj.queued ≤ m.objs.length := List.countP_le_length
      have := p.ok.len; have := p.ok.small; omega
    have ROOM : ∀ W, Below w.heap.size w W → Calls Tryz.prog 90 #[.pointer (some ⟨h, 0, none⟩)] W fun e w' => e = .returned (.int .i64 0) ∧ w' = W := fun W hb => by
      have := room_do (p.below hb)
      unfold roomV at this
      rw [hf] at this
      exact this
    have ROOM2 : ∀ (s1 : St) W, (∃ m1, Rm h N w m s1 W m1) → Calls Tryz.prog 90 #[.pointer (some ⟨h, 0, none⟩)] W fun e w' => e = .returned (.int .i64 (roomV s1)) ∧ w' = W := fun s1 W ⟨m1, t⟩ => by
      rw [← t.st]; exact room_do t.pre
    by_cases hq : m.queue.length = 0
    · have COLL : ∀ W, Below w.heap.size w W → Calls Tryz.prog 13 #[.pointer (some ⟨h, 0, none⟩)] W fun e w' => (∃ x : Int, e = .returned (.int .i64 x)) ∧ ∃ m1, Rm h N w m (m.st.collect m.over) w' m1 := fun W hb => by
        refine (collect_any (p.below hb) gd ho).mono ?_
        rintro e w' ⟨he, m1, s, st, vb⟩
        have s' := (RStep.of_below p hb).trans s
        exact ⟨⟨_, he⟩, m1, s'.pre p (by rw [st]; exact (gd.collect _).inv), s', st, vb⟩
      have er : roomS m.cf m.st = m.st.collect m.over := by
        unfold roomS
        rw [hf]
        exact if_neg (by show ¬ 0 < m.queue.length; omega)
      cases hk : free? (m.st.collect m.over) with
      | none =>
        have e : newS m.cf m.st j = (m.st.collect m.over, 0, 8) := by
          unfold newS
          refine (if_neg h1).trans ((if_neg h2).trans ?_)
          rw [er, hk]
        rw [e]
        refine made_walk_full h N g cap 0 j m.stack.length m.queue.length ao qo cp qc m.deep (fun W => ∃ m1, Rm h N w m (m.st.collect m.over) W m1) (fun _ => True) (fun _ => True) (fun W => ∃ m', RStep h N w m W m' ∧ m'.st = m.st.collect m.over) w cS cD cQ p.ok.small (by omega) p.ok.stack h2 hq hql ROOM COLL (fun W hP => ?_) (fun W ⟨m1, t⟩ => ⟨m1, t.step, t.st⟩)
        have := ROOM2 _ W hP
        unfold roomV at this
        rw [hk] at this
        exact this
      | some k =>
        have e : newS m.cf m.st j = (layS m.zero (m.st.collect m.over) (k + 1) j, 0, 0) := by
          unfold newS
          refine (if_neg h1).trans ((if_neg h2).trans ?_)
          rw [er, hk, Int.toNat_natCast]; rfl
        rw [e]
        have hkN := free_lt (gd.collect m.over).len hk
        refine made_walk_coll h N g cap k j m.stack.length m.queue.length ao qo cp qc m.deep _ _ _ _ w (lay_env hvB hk (by omega) (collect_stack _ _) (by omega)) cS cD cQ p.ok.small hkN (by omega) p.ok.stack h2 hq hql ROOM COLL (fun W hP => ?_)
        have := ROOM2 _ W hP
        unfold roomV at this
        rw [hk] at this
        exact this
    · obtain ⟨k, hk⟩ := freed_room gd m.zero hq
      have FREE : ∀ W, Below w.heap.size w W → Calls Tryz.prog 27 #[.pointer (some ⟨h, 0, none⟩)] W fun e w' => e = .returned (.tuple #[]) ∧ ∃ m1, Rm h N w m (m.st.free m.zero) w' m1 := fun W hb => by
        refine (free_any (p.below hb) gd hq).mono ?_
        rintro e w' ⟨he, m1, s, st, vb⟩
        have s' := (RStep.of_below p hb).trans s
        exact ⟨he, m1, s'.pre p (by rw [st]; exact (gd.freed _ hq).inv), s', st, vb⟩
      have er : roomS m.cf m.st = m.st.free m.zero := by
        unfold roomS
        rw [hf]
        exact if_pos (by show 0 < m.queue.length; omega)
      have e : newS m.cf m.st j = (layS m.zero (m.st.free m.zero) (k + 1) j, 0, 0) := by
        unfold newS
        refine (if_neg h1).trans ((if_neg h2).trans ?_)
        rw [er, hk, Int.toNat_natCast]; rfl
      rw [e]
      have hkN := free_lt (gd.freed m.zero hq).len hk
      refine made_walk_free h N g cap k j m.stack.length m.queue.length ao qo cp qc m.deep _ _ _ _ w (lay_env hvB hk (by omega) (free_stack _ _) (by omega)) cS cD cQ p.ok.small hkN (by omega) p.ok.stack h2 (by omega) hql ROOM FREE (fun W hP => ?_)
      have := ROOM2 _ W hP
      unfold roomV at this
      rw [hk] at this
      exact this

end Go.Proofs.YtpmkjeihbddfpabGreatDoor

