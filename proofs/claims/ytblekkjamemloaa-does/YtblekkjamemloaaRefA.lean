/- OUR OWN. The document's heap: what is counted (refs, Count, rooted, Waits, Extra, extras). -/
import Derived.Test.YtblekkjamemloaaBase
import Derived.WalkSmall
namespace Go.Proofs.Ytblekkjamemloaa
open Go.RowKit
set_option linter.unusedVariables false
set_option linter.unusedSimpArgs false

/-! ### Rows read by index -/
theorem flat_get {α : Type} (f : α → List Value) (c : Nat) (hc : ∀ x, (f x).length = c) (l : List α) (i j : Nat) (hj : j < c) : (l.flatMap f)[i * c + j]? = (l[i]?).bind fun x => (f x)[j]? := by
  induction l generalizing i with
  | nil => simp
  | cons x l ih =>
    rw [List.flatMap_cons]
    cases i with
    | zero => rw [List.getElem?_append_left (by rw [hc]; omega)]; simp
    | succ i =>
      rw [List.getElem?_append_right (by rw [hc, Nat.succ_mul]; omega), hc, show (i + 1) * c + j - c = i * c + j by rw [Nat.succ_mul]; omega, ih]
      simp

theorem own_view {w : World} {e : TypeId} {size : Nat} {v : Value} {n : Nat} {xs : List Value} (h : w.ownsRow 0 e size v n xs) (hn : 0 < n) :
    ∃ g cap, v = .slice (some ⟨g, 0, none⟩) n cap ∧ g < w.heap.size ∧ v.ownBlock = some g ∧ n ≤ cap ∧ (∀ j u, xs[j]? = some u → w.cell? ⟨g, j, none⟩ = some u) ∧ ∀ j, w.frozen? ⟨g, j, none⟩ = false := by
  rcases h.2 with ⟨_, h0⟩ | ⟨g, cap, cur, rfl, _, hg, hnc, _, _, _⟩
  · omega
  · refine ⟨g, cap, rfl, lt_of_heap hg, rfl, hnc, fun j u hu => ?_, fun j => frozen_of_heap hg⟩
    have := h.cells (g := g) rfl j u hu
    rwa [show (⟨g, 0, none⟩ : Addr).add j = ⟨g, j, none⟩ by unfold Addr.add; split <;> simp_all] at this

theorem own_empty {w : World} {e : TypeId} {size : Nat} {v : Value} {xs : List Value} (h : w.ownsRow 0 e size v 0 xs) : ∃ ao cap, v = .slice ao 0 cap := by
  rcases h.2 with ⟨hv, _⟩ | ⟨g, cap, cur, hv, _⟩
  · exact ⟨_, _, hv⟩
  · exact ⟨_, _, hv⟩

theorem own_slice {w : World} {e : TypeId} {size : Nat} {v : Value} {n : Nat} {xs : List Value} (h : w.ownsRow 0 e size v n xs) : ∃ ao cap, v = .slice ao n cap := by
  rcases h.2 with ⟨hv, hn⟩ | ⟨g, cap, cur, hv, _⟩
  · exact ⟨none, 0, by rw [hv, hn]⟩
  · exact ⟨_, _, hv⟩

/-! ### What is counted -/
def refsN (l : List (Int × Int)) (b : Int) : Nat := l.countP fun v => v.1 == 2 && v.2 == b

theorem refsN_snoc (l : List (Int × Int)) (v : Int × Int) (b : Int) : refsN (l ++ [v]) b = refsN l b + if v.1 = 2 ∧ v.2 = b then 1 else 0 := by
  unfold refsN
  rw [List.countP_append]
  by_cases h : v.1 = 2 ∧ v.2 = b
  · simp [List.countP_cons, h]
  · rw [if_neg h]
    simp [List.countP_cons]
    intro h1 h2
    exact h ⟨h1, h2⟩

theorem refsN_le (l : List (Int × Int)) (b : Int) : refsN l b ≤ l.length := List.countP_le_length

theorem take_snoc {α : Type} (l : List α) (k : Nat) (h : k < l.length) : l.take (k + 1) = l.take k ++ [l[k]] := List.take_succ_eq_append_getElem h

set_option maxHeartbeats 400000 in
theorem refs_any (v : Value) (l : List (Int × Int)) (b : Int) (w : World) (ho : w.ownsRow 0 96 2 v l.length (l.flatMap valCells)) (hn : l.length ≤ 1000) :
    Calls Try.prog 75 #[v, .int .i64 b] w fun e w' => e = .returned (.int .i64 (refsN l b)) ∧ w' = w := by
  rcases Nat.eq_zero_or_pos l.length with h0 | h0
  · obtain rfl : l = [] := List.eq_nil_of_length_eq_zero h0
    obtain ⟨ao, cap, rfl⟩ := own_empty ho
    clear ho
    go_enter Try.func75, Try.ntmps75
    go_wp2
    go_loop [5, 6] (fun n i => n = .int .i64 0 ∧ i = .int .i64 0) (fun _ _ => 0)
    case atStart => exact ⟨rfl, rfl⟩
    case round =>
      obtain ⟨rfl, rfl⟩ := hrel
      go_wp2
      go_ret
      exact ⟨rfl, rfl⟩
  · obtain ⟨g, cap, rfl, _, _, _, hcell, _⟩ := own_view ho h0
    have hc0 : ∀ k (hk : k < l.length), w.cell? ⟨g, k * 2, none⟩ = some (.int .i64 (l[k]).1) := fun k hk => hcell _ _ (by have := flat_get valCells 2 (fun _ => rfl) l k 0 (by decide); simpa [hk, valCells] using this)
    have hc1 : ∀ k (hk : k < l.length), w.cell? ⟨g, k * 2 + 1, none⟩ = some (.int .i64 (l[k]).2) := fun k hk => hcell _ _ (by have := flat_get valCells 2 (fun _ => rfl) l k 1 (by decide); simpa [hk, valCells] using this)
    have C : Hid (∀ k (hk : k < l.length), w.cell? ⟨g, k * 2, none⟩ = some (.int .i64 (l[k]).1) ∧ w.cell? ⟨g, k * 2 + 1, none⟩ = some (.int .i64 (l[k]).2)) := fun k hk => ⟨hc0 k hk, hc1 k hk⟩
    clear hcell ho hc0 hc1
    obtain ⟨len, hlen⟩ : ∃ len, l.length = len := ⟨_, rfl⟩
    rw [hlen] at hn h0 ⊢
    have L : Hid (l.length = len) := hlen
    clear hlen
    go_enter Try.func75, Try.ntmps75
    go_wp2
    go_loop [5, 6] (fun n i => ∃ k : Nat, k ≤ len ∧ i = .int .i64 k ∧ n = .int .i64 (refsN (l.take k) b)) (fun _ i => len - (intOf i).toNat)
    case atStart => exact ⟨0, Nat.zero_le _, rfl, rfl⟩
    case round =>
      obtain ⟨k, hk, rfl, rfl⟩ := hrel
      by_cases hlt : k < len
      · have hk' : k < l.length := by rw [L.out]; exact hlt
        obtain ⟨c0, c1⟩ := C.out k hk'
        have hs := refsN_snoc (l.take k) l[k] b
        rw [← take_snoc l k hk'] at hs
        have hle := refsN_le (l.take k) b
        have hle2 : (l.take k).length ≤ k := List.length_take_le _ _
        obtain ⟨r, hr⟩ : ∃ r, r = refsN (l.take k) b := ⟨_, rfl⟩
        rw [← hr] at hs hle ⊢
        obtain ⟨x, hx⟩ : ∃ x, x = l[k] := ⟨_, rfl⟩
        rw [← hx] at c0 c1 hs
        obtain ⟨x1, x2⟩ := x
        simp only at c0 c1 hs
        have S : Hid (refsN (l.take (k + 1)) b = r + if x1 = 2 ∧ x2 = b then 1 else 0) := hs
        clear hs hr hx
        by_cases q1 : x1 = 2
        · by_cases q2 : x2 = b
          · subst q1 q2
            go_wp2
            go_round
            case rel => exact ⟨k + 1, by omega, by go_num, by rw [S.out, if_pos ⟨rfl, rfl⟩]; go_num⟩
            case measure => simp [intOf]; omega
          · have q3 : (x2 == b) = false := by simpa using q2
            subst q1
            go_wp2
            go_round
            case rel => exact ⟨k + 1, by omega, by go_num, by rw [S.out, if_neg (fun h => q2 h.2)]; rfl⟩
            case measure => simp [intOf]; omega
        · have q3 : (x1 == 2) = false := by simpa using q1
          go_wp2
          go_round
          case rel => exact ⟨k + 1, by omega, by go_num, by rw [S.out, if_neg (fun h => q1 h.1)]; rfl⟩
          case measure => simp [intOf]; omega
      · go_wp2
        go_ret
        exact ⟨ret_int (by rw [List.take_of_length_le (by rw [L.out]; omega)]), rfl⟩

end Go.Proofs.Ytblekkjamemloaa
