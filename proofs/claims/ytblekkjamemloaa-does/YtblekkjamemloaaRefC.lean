/- OUR OWN. The document's heap: rooted, Waits, Extra, extras, room. -/
import Derived.Test.YtblekkjamemloaaRefB
namespace Go.Proofs.Ytblekkjamemloaa
open Go.RowKit
set_option linter.unusedVariables false
set_option linter.unusedSimpArgs false

def RefM.rootedB (m : RefM) (b : Int) : Bool := decide (0 < refsN m.stack b + refsN m.globals b)

set_option maxHeartbeats 400000 in
theorem rooted_any {w : World} {h : Nat} {m : RefM} {N : Nat} (r : RefAt w h m) (ok : m.Ok N) (b : Int) :
    Calls Try.prog 72 #[.pointer (some ⟨h, 0, none⟩), .int .i64 b] w fun e w' => e = .returned (.bool (m.rootedB b)) ∧ w' = w := by
  have cS := r.cell.2.2.2.2.2.2.2.1
  have cG := r.cell.2.2.2.2.2.2.2.2.1
  have R1 : Hid (Calls Try.prog 75 #[m.vS, .int .i64 b] w fun e w' => e = .returned (.int .i64 (refsN m.stack b)) ∧ w' = w) := refs_any _ _ b w r.stack (by have := ok.stack; omega)
  have R2 : Hid (Calls Try.prog 75 #[m.vG, .int .i64 b] w fun e w' => e = .returned (.int .i64 (refsN m.globals b)) ∧ w' = w) := refs_any _ _ b w r.globals (by have := ok.globals; omega)
  have h1 := refsN_le m.stack b
  have h2 := refsN_le m.globals b
  have h3 := ok.stack
  have h4 := ok.globals
  have E : Hid (m.rootedB b = decide (0 < refsN m.stack b + refsN m.globals b)) := rfl
  obtain ⟨x, hx⟩ : ∃ x, refsN m.stack b = x := ⟨_, rfl⟩
  obtain ⟨y, hy⟩ : ∃ y, refsN m.globals b = y := ⟨_, rfl⟩
  rw [hx] at R1 h1 E
  rw [hy] at R2 h2 E
  clear r ok hx hy
  go_enter Try.func72, Try.ntmps72
  go_wp2_with fail
  refine R1.out.mono ?_
  rintro e w' ⟨rfl, hw1⟩
  subst hw1
  go_wp2_with fail
  refine R2.out.mono ?_
  rintro e w' ⟨rfl, hw1⟩
  subst hw1
  go_wp2
  go_ret
  exact ⟨ret_bool (by rw [E.out]; simp; omega), rfl⟩

def RefM.waitsB (m : RefM) (i : Nat) : Bool := match m.objs[i]? with
  | some o => o.here && !o.stuck && !o.queued && decide (m.count i = 0)
  | none => false
def RefM.extraB (m : RefM) (i : Nat) : Bool := match m.objs[i]? with
  | some o => o.here && !o.stuck && decide (7 < m.count i)
  | none => false

set_option maxHeartbeats 800000 in
theorem waits_any {w : World} {h : Nat} {m : RefM} {N : Nat} (r : RefAt w h m) (ok : m.Ok N) (i : Nat) (hi : i ≤ N) :
    Calls Try.prog 49 #[.pointer (some ⟨h, 0, none⟩), .int .i64 i] w fun e w' => e = .returned (.bool (m.waitsB i)) ∧ Below w.heap.size w w' := by
  obtain ⟨g, cap, hv, hg, _, _, _, hobj⟩ := r.view ok
  have hil : i < m.objs.length := by rw [ok.len]; omega
  obtain ⟨c0, c1, c2, c3⟩ := hobj i hil
  have cB : w.cell? ⟨h, 5, none⟩ = some (.slice (some ⟨g, 0, none⟩) (N + 1) cap) := by rw [r.cell.2.2.2.2.2.1, hv]
  have hh := lt_of_heap r.head
  have CNT : Hid (∀ ob, Calls Try.prog 61 #[.pointer (some ⟨h, 0, none⟩), .int .i64 i] (w.alloc ob) fun e w' => e = .returned (.int .i64 (m.count i)) ∧ w' = w.alloc ob) :=
    fun ob => count_any (r.carry fun x hx => hao (r.lt x hx)) ok i
  have E : Hid (m.waitsB i = ((m.objs[i]).here && !(m.objs[i]).stuck && !(m.objs[i]).queued && decide (m.count i = 0))) := by
    show m.waitsB i = _
    unfold RefM.waitsB
    rw [List.getElem?_eq_getElem hil]
  have hN := ok.small
  obtain ⟨ao, cp, hvF⟩ := own_slice (r.fields _ (List.getElem_mem hil))
  obtain ⟨o, ho⟩ : ∃ o, o = m.objs[i] := ⟨_, rfl⟩
  rw [← ho] at c0 c1 c2 c3 E hvF
  obtain ⟨n, hn⟩ : ∃ n, m.count i = n := ⟨_, rfl⟩
  rw [hn] at E CNT
  obtain ⟨here, vF, fs, stuck, queued⟩ := o
  simp only at c0 c1 c2 c3 E hvF
  subst hvF
  have hiI : (i : Int) < (N : Int) + 1 := by omega
  clear r ok hv hobj ho hn hil
  by_cases hn0 : n = 0
  · subst hn0
    cases here <;> cases stuck <;> cases queued
    all_goals
      go_enter Try.func49, Try.ntmps49
      go_wp2_with fail
      refine (CNT.out _).mono ?_
      rintro e w' ⟨rfl, hw1⟩
      subst hw1
      go_wp2
      go_ret
      exact ⟨ret_bool (by rw [E.out]; rfl), (Below.refl _ _).alloc (Nat.le_refl _) _⟩
  · have hn1 : ((n : Int) == 0) = false := by simp; omega
    cases here <;> cases stuck <;> cases queued
    all_goals
      go_enter Try.func49, Try.ntmps49
      go_wp2_with fail
      refine (CNT.out _).mono ?_
      rintro e w' ⟨rfl, hw1⟩
      subst hw1
      go_wp2
      go_ret
      exact ⟨ret_bool (by rw [E.out]; simp [hn0]), (Below.refl _ _).alloc (Nat.le_refl _) _⟩

set_option maxHeartbeats 800000 in
theorem extra_any {w : World} {h : Nat} {m : RefM} {N : Nat} (r : RefAt w h m) (ok : m.Ok N) (i : Nat) (hi : i ≤ N) :
    Calls Try.prog 63 #[.pointer (some ⟨h, 0, none⟩), .int .i64 i] w fun e w' => e = .returned (.bool (m.extraB i)) ∧ Below w.heap.size w w' := by
  obtain ⟨g, cap, hv, hg, _, _, _, hobj⟩ := r.view ok
  have hil : i < m.objs.length := by rw [ok.len]; omega
  obtain ⟨c0, c1, c2, c3⟩ := hobj i hil
  have cB : w.cell? ⟨h, 5, none⟩ = some (.slice (some ⟨g, 0, none⟩) (N + 1) cap) := by rw [r.cell.2.2.2.2.2.1, hv]
  have hh := lt_of_heap r.head
  have CNT : Hid (∀ ob, Calls Try.prog 61 #[.pointer (some ⟨h, 0, none⟩), .int .i64 i] (w.alloc ob) fun e w' => e = .returned (.int .i64 (m.count i)) ∧ w' = w.alloc ob) :=
    fun ob => count_any (r.carry fun x hx => hao (r.lt x hx)) ok i
  have E : Hid (m.extraB i = ((m.objs[i]).here && !(m.objs[i]).stuck && decide (7 < m.count i))) := by
    show m.extraB i = _
    unfold RefM.extraB
    rw [List.getElem?_eq_getElem hil]
  have hN := ok.small
  obtain ⟨ao, cp, hvF⟩ := own_slice (r.fields _ (List.getElem_mem hil))
  obtain ⟨o, ho⟩ : ∃ o, o = m.objs[i] := ⟨_, rfl⟩
  rw [← ho] at c0 c1 c2 c3 E hvF
  obtain ⟨n, hn⟩ : ∃ n, m.count i = n := ⟨_, rfl⟩
  rw [hn] at E CNT
  obtain ⟨here, vF, fs, stuck, queued⟩ := o
  simp only at c0 c1 c2 c3 E hvF
  subst hvF
  have hiI : (i : Int) < (N : Int) + 1 := by omega
  clear r ok hv hobj ho hn hil
  by_cases hn0 : (7 : Int) < n
  all_goals
    cases here <;> cases stuck
  all_goals
    go_enter Try.func63, Try.ntmps63
    go_wp2_with fail
    refine (CNT.out _).mono ?_
    rintro e w' ⟨rfl, hw1⟩
    subst hw1
    go_wp2
    go_ret
    exact ⟨ret_bool (by rw [E.out]; simp; try omega), (Below.refl _ _).alloc (Nat.le_refl _) _⟩

/-- how many of the blocks 1 to k -/
def countTo (p : Nat → Bool) (k : Nat) : Nat := (List.range k).countP fun j => p (j + 1)
theorem countTo_succ (p : Nat → Bool) (k : Nat) : countTo p (k + 1) = countTo p k + if p (k + 1) then 1 else 0 := by
  unfold countTo
  rw [List.range_succ, List.countP_append, List.countP_cons, List.countP_nil]
  simp
theorem countTo_le (p : Nat → Bool) (k : Nat) : countTo p k ≤ k := by
  have := List.countP_le_length (p := fun j => p (j + 1)) (l := List.range k)
  simpa [countTo] using this

def RefM.extrasN (m : RefM) (N : Nat) : Nat := countTo m.extraB N

set_option maxHeartbeats 800000 in
theorem extras_any {w : World} {h : Nat} {m : RefM} {N : Nat} (r : RefAt w h m) (ok : m.Ok N) :
    Calls Try.prog 50 #[.pointer (some ⟨h, 0, none⟩)] w fun e w' => e = .returned (.int .i64 (m.extrasN N)) ∧ Below w.heap.size w w' := by
  have hh := lt_of_heap r.head
  have hN := ok.small
  have KEEP : Hid (∀ wr, Below w.heap.size w wr → RefAt wr h m) := fun wr hb => r.carry fun x hx => hb.block x (r.lt x hx)
  have X : Hid (∀ wr (i : Nat), RefAt wr h m → i ≤ N → Calls Try.prog 63 #[.pointer (some ⟨h, 0, none⟩), .int .i64 i] wr fun e w' => e = .returned (.bool (m.extraB i)) ∧ Below wr.heap.size wr w') := fun wr i hr hi => extra_any hr ok i hi
  have cM : ∀ wr, RefAt wr h m → wr.cell? ⟨h, 0, none⟩ = some (.int .i64 N) := fun wr hr => by rw [hr.cell.1, ok.most]
  have CM : Hid _ := cM
  clear r ok cM
  go_enter Try.func50, Try.ntmps50
  go_wp2
  go_loopw [3, 4] (fun n i wr => ∃ j : Nat, j ≤ N ∧ i = .int .i64 (j + 1) ∧ n = .int .i64 (countTo m.extraB j) ∧ Below w.heap.size w wr) (fun _ i _ => N + 1 - (intOf i).toNat)
  case atStart => exact ⟨0, Nat.zero_le _, rfl, rfl, Below.refl _ _⟩
  case round =>
    obtain ⟨j, hj, rfl, rfl, hb⟩ := hrel
    have hr := KEEP.out wr hb
    have cM := CM.out wr hr
    have hle := countTo_le m.extraB j
    have HB : Hid (Below w.heap.size w wr ∧ RefAt wr h m) := ⟨hb, hr⟩
    have hsz := hb.size
    clear hb hr
    obtain ⟨c, hc⟩ : ∃ c, c = countTo m.extraB j := ⟨_, rfl⟩
    rw [← hc] at hle ⊢
    have S : Hid (countTo m.extraB (j + 1) = c + if m.extraB (j + 1) then 1 else 0) := by rw [hc]; exact countTo_succ _ _
    by_cases hlt : j < N
    · clear hc
      have X1 : Hid (Calls Try.prog 63 #[.pointer (some ⟨h, 0, none⟩), .int .i64 ((j : Int) + 1)] wr fun e w' => e = .returned (.bool (m.extraB (j + 1))) ∧ Below wr.heap.size wr w') := X.out wr (j + 1) HB.out.2 (by omega)
      go_wp2_with fail
      refine X1.out.mono ?_
      rintro e w1 ⟨rfl, hb1⟩
      have HB1 : Hid (Below w.heap.size w w1) := HB.out.1.trans (hb1.mono hsz)
      clear hb1 X1
      cases hx : m.extraB (j + 1) with
      | true =>
        rw [hx] at S
        go_wp2
        go_roundw
        case rel => exact ⟨j + 1, by omega, by go_num, by rw [S.out]; go_num, HB1.out⟩
        case measure => simp [intOf]; omega
      | false =>
        rw [hx] at S
        go_wp2
        go_roundw
        case rel => exact ⟨j + 1, by omega, by go_num, by rw [S.out]; go_num, HB1.out⟩
        case measure => simp [intOf]; omega
    · obtain rfl : j = N := by omega
      have HC : Hid (c = countTo m.extraB j) := hc
      clear hc
      go_wp2
      go_ret
      exact ⟨ret_int (by rw [HC.out]; rfl), HB.out.1⟩

end Go.Proofs.Ytblekkjamemloaa
