/- OUR OWN. The document's heap: Count, rooted, Waits, Extra, extras. -/
import Derived.Test.YtblekkjamemloaaRefA
namespace Go.Proofs.Ytblekkjamemloaa
open Go.RowKit
set_option linter.unusedVariables false
set_option linter.unusedSimpArgs false

/-- What is always so of the document's heap: how great its parts are. -/
structure RefM.Ok (m : RefM) (N : Nat) : Prop where
  most : m.most = N
  len : m.objs.length = N + 1
  small : N ≤ 99
  fields : ∀ o ∈ m.objs, o.fs.length ≤ 4
  stack : m.stack.length ≤ 16
  globals : m.globals.length ≤ 8
  queue : m.queue.length ≤ m.objs.countP RObj.queued

def objCount (b : Int) (o : RObj) : Nat := if o.here then refsN o.fs b else 0
def countObjs (l : List RObj) (b : Int) : Nat := (l.map (objCount b)).sum
/-- the objects of the blocks from 1 on -/
def RefM.live (m : RefM) : List RObj := m.objs.tail
def RefM.count (m : RefM) (b : Int) : Nat := countObjs m.live b

theorem live_get (m : RefM) (j : Nat) : m.live[j]? = m.objs[j + 1]? := by simp [RefM.live]
theorem live_mem {m : RefM} {o : RObj} (h : o ∈ m.live) : o ∈ m.objs := List.mem_of_mem_tail h
theorem RefM.Ok.live {m : RefM} {N : Nat} (ok : m.Ok N) : m.live.length = N := by simp [RefM.live, ok.len]

theorem countObjs_snoc (l : List RObj) (o : RObj) (b : Int) : countObjs (l ++ [o]) b = countObjs l b + objCount b o := by
  simp [countObjs, List.sum_append]

theorem countObjs_le (l : List RObj) (b : Int) (h : ∀ o ∈ l, o.fs.length ≤ 4) : countObjs l b ≤ 4 * l.length := by
  induction l with
  | nil => simp [countObjs]
  | cons o l ih =>
    have h1 := ih fun o ho => h o (List.mem_cons_of_mem _ ho)
    have h2 := h o (by simp)
    have h3 : objCount b o ≤ o.fs.length := by unfold objCount; split; · exact refsN_le _ _
                                               · omega
    simp only [countObjs, List.map_cons, List.sum_cons, List.length_cons] at *
    omega

/-- the blocks' row, and what the walk wants of it -/
theorem RefAt.view {w : World} {h : Nat} {m : RefM} {N : Nat} (r : RefAt w h m) (ok : m.Ok N) :
    ∃ g cap, m.vB = .slice (some ⟨g, 0, none⟩) (N + 1) cap ∧ g < w.heap.size ∧ g ≠ h ∧ m.vB.ownBlock = some g ∧ (∀ j, w.frozen? ⟨g, j, none⟩ = false) ∧
      ∀ i (hi : i < m.objs.length), w.cell? ⟨g, i * 4, none⟩ = some (.bool (m.objs[i]).here) ∧ w.cell? ⟨g, i * 4 + 1, none⟩ = some (m.objs[i]).vF ∧
        w.cell? ⟨g, i * 4 + 2, none⟩ = some (.bool (m.objs[i]).stuck) ∧ w.cell? ⟨g, i * 4 + 3, none⟩ = some (.bool (m.objs[i]).queued) := by
  obtain ⟨g, cap, hv, hg, hb, _, hc, hf⟩ := own_view r.blocks (by rw [ok.len]; omega)
  rw [ok.len] at hv
  refine ⟨g, cap, hv, hg, ?_, hb, hf, fun i hi => ?_⟩
  · intro e
    have := r.apart
    simp only [RefM.foot, List.nodup_cons] at this
    exact this.1 (by rw [← e]; exact List.mem_filterMap.2 ⟨m.vB, by simp, hb⟩)
  · have key : ∀ j, j < 4 → ∀ u, (m.objs[i]).cells[j]? = some u → w.cell? ⟨g, i * 4 + j, none⟩ = some u := fun j hj u hu =>
      hc _ _ (by rw [flat_get RObj.cells 4 (fun _ => rfl) m.objs i j hj, List.getElem?_eq_getElem hi]; exact hu)
    exact ⟨key 0 (by decide) _ rfl, key 1 (by decide) _ rfl, key 2 (by decide) _ rfl, key 3 (by decide) _ rfl⟩

theorem RefAt.cell {w : World} {h : Nat} {m : RefM} (r : RefAt w h m) : w.cell? ⟨h, 0, none⟩ = some (.int .i64 m.most) ∧ w.cell? ⟨h, 1, none⟩ = some (.int .i64 m.deep) ∧ w.cell? ⟨h, 2, none⟩ = some (.int .i64 m.budget) ∧
    w.cell? ⟨h, 3, none⟩ = some (.int .i64 m.zero) ∧ w.cell? ⟨h, 4, none⟩ = some (.int .i64 m.over) ∧ w.cell? ⟨h, 5, none⟩ = some m.vB ∧ w.cell? ⟨h, 6, none⟩ = some m.vQ ∧ w.cell? ⟨h, 7, none⟩ = some m.vS ∧ w.cell? ⟨h, 8, none⟩ = some m.vG ∧
    ∀ j, w.frozen? ⟨h, j, none⟩ = false :=
  ⟨cell_of_heap r.head rfl, cell_of_heap r.head rfl, cell_of_heap r.head rfl, cell_of_heap r.head rfl, cell_of_heap r.head rfl, cell_of_heap r.head rfl, cell_of_heap r.head rfl, cell_of_heap r.head rfl, cell_of_heap r.head rfl, fun _ => frozen_of_heap r.head⟩

set_option maxHeartbeats 400000 in
theorem count_any {w : World} {h : Nat} {m : RefM} {N : Nat} (r : RefAt w h m) (ok : m.Ok N) (b : Int) :
    Calls Try.prog 61 #[.pointer (some ⟨h, 0, none⟩), .int .i64 b] w fun e w' => e = .returned (.int .i64 (m.count b)) ∧ w' = w := by
  obtain ⟨g, cap, hv, _, _, _, _, hobj⟩ := r.view ok
  have cM : w.cell? ⟨h, 0, none⟩ = some (.int .i64 N) := by rw [r.cell.1, ok.most]
  have cB : w.cell? ⟨h, 5, none⟩ = some (.slice (some ⟨g, 0, none⟩) (N + 1) cap) := by rw [r.cell.2.2.2.2.2.1, hv]
  have hlen : m.live.length = N := ok.live
  have OBJ : Hid (∀ j (hj : j < N), ∃ o : RObj, o ∈ m.objs ∧ m.live[j]? = some o ∧ w.cell? ⟨g, (j + 1) * 4, none⟩ = some (.bool o.here) ∧ w.cell? ⟨g, (j + 1) * 4 + 1, none⟩ = some o.vF ∧ w.ownsRow 0 96 2 o.vF o.fs.length (o.fs.flatMap valCells) ∧ o.fs.length ≤ 4 ∧
      countObjs (m.live.take (j + 1)) b = countObjs (m.live.take j) b + objCount b o ∧ countObjs (m.live.take j) b ≤ 4 * j) := by
    intro j hj
    have hi : j + 1 < m.objs.length := by rw [ok.len]; omega
    obtain ⟨c0, c1, _, _⟩ := hobj (j + 1) hi
    have hd : m.live[j]? = some m.objs[j + 1] := by rw [live_get, List.getElem?_eq_getElem hi]
    have hjl : j < m.live.length := by rw [hlen]; exact hj
    refine ⟨m.objs[j + 1], List.getElem_mem hi, hd, c0, c1, r.fields _ (List.getElem_mem hi), ok.fields _ (List.getElem_mem hi), ?_, ?_⟩
    · rw [take_snoc _ j hjl, countObjs_snoc]
      have : m.live[j] = m.objs[j + 1] := by rw [List.getElem?_eq_getElem hjl] at hd; exact Option.some.inj hd
      rw [this]
    · have h1 := countObjs_le (m.live.take j) b fun o ho => ok.fields o (live_mem (List.mem_of_mem_take ho))
      have h2 : (m.live.take j).length ≤ j := List.length_take_le _ _
      omega
  have FIN : Hid (countObjs (m.live.take N) b = m.count b) := by
    have : m.live.take N = m.live := List.take_of_length_le (by omega)
    show countObjs (m.live.take N) b = m.count b
    rw [this]; rfl
  have hN := ok.small
  clear hobj hlen r ok hv
  go_enter Try.func61, Try.ntmps61
  go_wp2
  go_loop [5, 6] (fun n i => ∃ j : Nat, j ≤ N ∧ i = .int .i64 (j + 1) ∧ n = .int .i64 (countObjs (m.live.take j) b)) (fun _ i => N + 1 - (intOf i).toNat)
  case atStart => exact ⟨0, Nat.zero_le _, rfl, rfl⟩
  case round =>
    obtain ⟨j, hj, rfl, rfl⟩ := hrel
    by_cases hlt : j < N
    · obtain ⟨o, _, _, c0, c1, hown, hfs, hs, hle⟩ := OBJ.out j hlt
      have hrl := refsN_le o.fs b
      obtain ⟨s0, hs0⟩ : ∃ s0, s0 = countObjs (m.live.take j) b := ⟨_, rfl⟩
      rw [← hs0] at hs hle ⊢
      have S : Hid (countObjs (m.live.take (j + 1)) b = s0 + objCount b o) := hs
      have R := refs_any o.vF o.fs b
      have R' : Hid (∀ w, w.ownsRow 0 96 2 o.vF o.fs.length (o.fs.flatMap valCells) → Calls Try.prog 75 #[o.vF, .int .i64 b] w fun e w' => e = .returned (.int .i64 (refsN o.fs b)) ∧ w' = w) := fun w hw => R w hw (by omega)
      have O : Hid (w.ownsRow 0 96 2 o.vF o.fs.length (o.fs.flatMap valCells)) := hown
      have hE : Hid (objCount b o = if o.here then refsN o.fs b else 0) := rfl
      clear hs R hown hs0
      obtain ⟨here, vF, fs, stuck, queued⟩ := o
      simp only at *
      cases here with
      | true =>
        go_wp2_with (go_at_call 75; refine (R'.out _ O.out).mono ?_; rintro e w' ⟨rfl, rfl⟩)
        go_round
        case rel => exact ⟨j + 1, by omega, by go_num, by rw [S.out, hE.out]; go_num⟩
        case measure => simp [intOf]; omega
      | false =>
        go_wp2_with (go_at_call 75; refine (R'.out _ O.out).mono ?_; rintro e w' ⟨rfl, rfl⟩)
        go_round
        case rel => exact ⟨j + 1, by omega, by go_num, by rw [S.out, hE.out]; go_num⟩
        case measure => simp [intOf]; omega
    · obtain rfl : j = N := by omega
      go_wp2
      go_ret
      exact ⟨ret_int (by rw [FIN.out]), rfl⟩

end Go.Proofs.Ytblekkjamemloaa
