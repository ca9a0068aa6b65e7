import Derived.Test.YtpmkjeihbddfpabGreatDoorAllB12
import Derived.Lib.OwnKind
/- OUR OWN. The program's heap: the marking; add. -/
namespace Go.Proofs.YtpmkjeihbddfpabGreatDoor
open Go.RowKit
set_option linter.unusedVariables false
set_option linter.unusedSimpArgs false

theorem infoMark : (Tryz.prog.info? 4).map (fun i => (i.zero, i.size, i.bytes)) = some (some (.bool false), 1, 1) := by kernel_rfl

def numRow (t : List Nat) : List Value := t.map fun (n : Nat) => Value.int .i64 (n : Int)
/-- which blocks are among those that were found -/
def inM (N : Nat) (t : List Nat) : List Value := (List.range (N + 1)).map fun b => Value.bool (decide (b ∈ t))
theorem inM_get {N b : Nat} (t : List Nat) (hb : b ≤ N) : (inM N t)[b]? = some (.bool (decide (b ∈ t))) := by
  unfold inM
  rw [List.getElem?_map, List.getElem?_range (by omega)]; rfl
theorem inM_nil (N : Nat) : inM N [] = List.replicate (N + 1) (.bool false) := by
  unfold inM
  apply List.ext_getElem?
  intro i
  rw [List.getElem?_map, List.getElem?_replicate]
  by_cases h : i < N + 1
  · rw [List.getElem?_range h, if_pos h]; simp
  · rw [List.getElem?_eq_none (by simpa using h), if_neg h]; rfl
theorem inM_add {N b : Nat} (t : List Nat) (hb : b ≤ N) : (inM N t).set b (.bool true) = inM N (t ++ [b]) := by
  apply List.ext_getElem?
  intro i
  unfold inM
  rw [List.getElem?_set, List.getElem?_map, List.getElem?_map, List.length_map, List.length_range]
  by_cases h : i < N + 1
  · rw [List.getElem?_range h]
    by_cases e : b = i
    · subst e; rw [if_pos rfl, if_pos h]; simp
    · rw [if_neg e]
      have : (i ∈ t ++ [b]) ↔ i ∈ t := by simp; intro x; exact absurd x.symm e
      simp only [Option.map_some, this]
  · rw [List.getElem?_eq_none (by simpa using h)]
    by_cases e : b = i
    · omega
    · rw [if_neg e]; rfl

/-- blocks of different element types are not the same -/
theorem kinds_apart {w : World} {B B' : Nat} {e e' : TypeId} {sz sz' : Nat} {v v' : Value} {n n' : Nat} {xs xs' : List Value} (h : w.ownsRow B e sz v n xs) (h' : w.ownsRow B' e' sz' v' n' xs') (he : e ≠ e') {g : Nat} (hg : v.ownBlock = some g) : v'.ownBlock ≠ some g := fun hg' => by
  obtain ⟨c, fz, hc⟩ := Go.Lib.ownsRow_kind h g hg
  obtain ⟨c', fz', hc'⟩ := Go.Lib.ownsRow_kind h' g hg'
  rw [hc] at hc'
  simp at hc'
  exact he hc'.2.1
theorem kind_box {w : World} {B : Nat} {e e' : TypeId} {sz : Nat} {v : Value} {n : Nat} {xs : List Value} {L : Nat} {cs : Array Value} (h : w.ownsRow B e sz v n xs) (h' : w.heap[L]? = some (.cells cs e')) (he : e ≠ e') : v.ownBlock ≠ some L := fun hg => by
  obtain ⟨c, fz, hc⟩ := Go.Lib.ownsRow_kind h L hg
  rw [hc] at h'
  simp at h'
  exact he h'.2.1

/-- the marking in block x: what is marked (F), in block G; what was found (T) -/
structure MkAt (w0 : World) (N x G : Nat) (F T : List Nat) (v : Value) (W : World) : Prop where
  box : W.heap[x]? = some (.cells #[.slice (some ⟨G, 0, none⟩) (N + 1) (N + 1), v] 94)
  inn : W.ownsRow w0.heap.size 4 1 (.slice (some ⟨G, 0, none⟩) (N + 1) (N + 1)) (N + 1) (inM N F)
  found : W.ownsRow w0.heap.size 3 1 v T.length (numRow T)
  below : Below w0.heap.size w0 W
  le : w0.heap.size ≤ x
section
variable {w0 W W' : World} {N x G : Nat} {F T : List Nat} {v : Value}
theorem MkAt.on (h : MkAt w0 N x G F T v W) (hb : Below W.heap.size W W') : MkAt w0 N x G F T v W' :=
  ⟨(hb.block _ (lt_of_heap h.box)).trans h.box, own_carry h.inn fun g hg => hb.block g (own_lt h.inn hg).2, own_carry h.found fun g hg => hb.block g (own_lt h.found hg).2, h.below.trans (hb.mono h.below.size), h.le⟩
theorem MkAt.xG (h : MkAt w0 N x G F T v W) : x ≠ G := fun e => kind_box h.inn h.box (by decide) (by rw [e]; rfl)
theorem MkAt.mark (h : MkAt w0 N x G F T v W) (b : Nat) (hb : b ≤ N) : MkAt w0 N x G (F ++ [b]) T v (W.setCell ⟨G, b, none⟩ (.bool true)) := by
  have hI := own_lt h.inn (g := G) rfl
  refine ⟨by rw [hso h.xG]; exact h.box, ?_, own_carry h.found fun g hg => hso fun e => kinds_apart h.found h.inn (by decide) hg (by rw [e]; rfl), h.below.setCell hI.1 _, h.le⟩
  rw [← inM_add F hb]
  exact (h.inn.stored b _).1
/-- one more is found -/
theorem MkAt.grown (h : MkAt w0 N x G F T v W) {w' : World} {g cap b : Nat} (hown : w'.ownsRow w0.heap.size 3 1 (.slice (some ⟨g, 0, none⟩) (T.length + 1) cap) (T.length + 1) (numRow T ++ [.int .i64 b])) (hgr : W.grownBy w' v.ownBlock) :
    MkAt w0 N x G F (T ++ [b]) (.slice (some ⟨g, 0, none⟩) (T.length + 1) cap) (w'.setCell ⟨x, 1, none⟩ (.slice (some ⟨g, 0, none⟩) (T.length + 1) cap)) ∧ w'.cell? ⟨x, 1, none⟩ = some v ∧ w'.frozen? ⟨x, 1, none⟩ = false := by
  have hbx : w'.heap[x]? = some (.cells #[.slice (some ⟨G, 0, none⟩) (N + 1) (N + 1), v] 94) := by
    rw [hgr.block x (lt_of_heap h.box) (fun e => kind_box h.found h.box (by decide) e.symm)]; exact h.box
  have hinn : w'.ownsRow w0.heap.size 4 1 (.slice (some ⟨G, 0, none⟩) (N + 1) (N + 1)) (N + 1) (inM N F) := own_carry h.inn fun k hk => hgr.block k (own_lt h.inn hk).2 fun e => kinds_apart h.inn h.found (by decide) hk e.symm
  refine ⟨⟨heap_setCell_at (i := 1) hbx _, own_carry hinn fun k hk => hso fun e => kind_box hinn hbx (by decide) (by rw [hk, e]), ?_, (h.below.grown hgr h.below.size fun k hk => (own_lt h.found hk).1).setCell h.le _, h.le⟩, cell_of_heap hbx rfl, frozen_of_heap hbx⟩
  have e : numRow (T ++ [b]) = numRow T ++ [.int .i64 b] := by unfold numRow; rw [List.map_append]; rfl
  rw [e, List.length_append, List.length_singleton]
  exact own_carry hown fun k hk => hso fun e => kind_box hown hbx (by decide) (by rw [hk, e])
theorem MkAt.cell (h : MkAt w0 N x G F T v W) {b : Nat} (hb : b ≤ N) : W.cell? ⟨G, b, none⟩ = some (.bool (decide (b ∈ F))) ∧ W.frozen? ⟨G, b, none⟩ = false ∧ G < W.heap.size := by
  obtain ⟨g, cap, hv, hg, _, _, hcell, hfz⟩ := own_view (own_base h.inn (Nat.zero_le _)) (by omega)
  simp at hv
  obtain ⟨rfl, _⟩ := hv
  exact ⟨hcell b _ (inM_get F hb), hfz _, hg⟩
theorem MkAt.head (h : MkAt w0 N x G F T v W) : W.cell? ⟨x, 0, none⟩ = some (.slice (some ⟨G, 0, none⟩) (N + 1) (N + 1)) ∧ W.cell? ⟨x, 1, none⟩ = some v ∧ W.frozen? ⟨x, 1, none⟩ = false ∧ x < W.heap.size :=
  ⟨cell_of_heap h.box rfl, cell_of_heap h.box rfl, frozen_of_heap h.box, lt_of_heap h.box⟩
theorem MkAt.form (h : MkAt w0 N x G F T v W) : ∃ ao cap, v = .slice ao T.length cap := own_slice (own_base h.found (Nat.zero_le _))
theorem MkAt.at_ (h : MkAt w0 N x G F T v W) {n : Nat} (hn : n < T.length) : ∃ g cap, v = .slice (some ⟨g, 0, none⟩) T.length cap ∧ W.cell? ⟨g, n, none⟩ = some (.int .i64 (T[n] : Nat)) := by
  obtain ⟨g, cap, hv, hg, _, _, hcell, _⟩ := own_view (own_base h.found (Nat.zero_le _)) (by omega)
  refine ⟨g, cap, hv, hcell n _ ?_⟩
  unfold numRow
  rw [List.getElem?_map, List.getElem?_eq_getElem hn]; rfl
end

set_option maxHeartbeats 1600000 in
set_option maxRecDepth 10000 in
theorem add_any {w0 w : World} {N x G : Nat} {T : List Nat} {vT : Value} (M0 : MkAt w0 N x G T T vT w) (v : Value) (l : List (Int × Int)) (row : w0.ownsRow 0 87 2 v l.length (l.flatMap valCells)) (hl : l.length ≤ 100) (hN : N ≤ 99) (hT : T.length ≤ 200)
    (lead : ∀ u ∈ l, u.1 = 2 → ∃ b : Nat, u.2 = (b : Int) ∧ 1 ≤ b ∧ b ≤ N) :
    Calls Tryz.prog 71 #[.pointer (some ⟨x, 0, none⟩), v] w fun e w' => e = .returned (.tuple #[]) ∧ ∃ vT', MkAt w0 N x G (scanM l T) (scanM l T) vT' w' := by
  obtain ⟨ao, cap, hv⟩ := own_slice row
  have CELL : Hid (∀ wr j, Below w0.heap.size w0 wr → ∀ hj : j < l.length, ∃ lg, ao = some ⟨lg, 0, none⟩ ∧ wr.cell? ⟨lg, j * 2, none⟩ = some (.int .i64 (l[j]).1) ∧ wr.cell? ⟨lg, j * 2 + 1, none⟩ = some (.int .i64 (l[j]).2)) := fun wr j hb hj => by
    obtain ⟨g, cap', hv', hg, _, _, hcell, _⟩ := own_view row (by omega)
    rw [hv] at hv'
    simp at hv'
    refine ⟨g, hv'.1, (hb.cell (p := ⟨g, _, none⟩) hg).trans (hcell _ _ ?_), (hb.cell (p := ⟨g, _, none⟩) hg).trans (hcell _ _ ?_)⟩
    · have := flat_get valCells 2 (fun _ => rfl) l j 0 (by decide); simpa [hj, valCells] using this
    · have := flat_get valCells 2 (fun _ => rfl) l j 1 (by decide); simpa [hj, valCells] using this
  have LEAD : Hid (∀ u ∈ l, u.1 = 2 → ∃ b : Nat, u.2 = (b : Int) ∧ 1 ≤ b ∧ b ≤ N) := lead
  have SMALL : Hid (∀ j, (scanM (l.take j) T).length ≤ 400) := fun j => by
    have h1 := scanM_len (l.take j) T
    have h2 : (l.take j).length ≤ l.length := List.length_take_le' _ _
    omega
  have START : Hid (MkAt w0 N x G (scanM (l.take 0) T) (scanM (l.take 0) T) vT w) := M0
  obtain ⟨i3, hi3, hz0, hz1, hz2⟩ := info_parts infoInt
  have IN : Hid _ := And.intro hi3 (And.intro hz0 (And.intro hz1 hz2))
  obtain ⟨len, hlen⟩ : ∃ len, l.length = len := ⟨_, rfl⟩
  have LEN : Hid (l.length = len) := hlen
  subst hv
  rw [hlen] at hl ⊢
  clear row lead M0 hlen hT hi3 hz0 hz1 hz2
  go_enter Tryz.func71, Tryz.ntmps71
  go_wp2
  go_loopw [4] (fun i wr => ∃ j : Nat, j ≤ len ∧ i = .int .i64 j ∧ ∃ v, MkAt w0 N x G (scanM (l.take j) T) (scanM (l.take j) T) v wr) (fun i _ => len - (intOf i).toNat)
  case atStart => exact ⟨0, Nat.zero_le _, rfl, _, START.out⟩
  case round =>
    obtain ⟨j, hj, rfl, v, hm⟩ := hrel
    obtain ⟨t, ht⟩ : ∃ t, scanM (l.take j) T = t := ⟨_, rfl⟩
    have ht4 := SMALL.out j
    rw [ht] at hm ht4
    have M : Hid (MkAt w0 N x G t t v wr) := hm
    by_cases hlt : j < len
    · have hjl : j < l.length := by rw [LEN.out]; exact hlt
      obtain ⟨lg, rfl, c0, c1⟩ := CELL.out wr j hm.below hjl
      have NX : Hid (scanM (l.take (j + 1)) T = stepM t l[j]) := by show _ = _; rw [take_snoc l j hjl, scanM_snoc, ht]
      have LD := LEAD.out _ (List.getElem_mem hjl)
      obtain ⟨y, hy⟩ : ∃ y, l[j] = y := ⟨_, rfl⟩
      rw [hy] at c0 c1 NX LD
      obtain ⟨y1, y2⟩ := y
      simp only at c0 c1 LD
      obtain ⟨m0, m1, m2, hx⟩ := hm.head
      obtain ⟨tao, tc, hv⟩ := hm.form
      subst hv
      have hjI : (j : Int) < len := by omega
      by_cases hk : y1 = 2
      · subst hk
        obtain ⟨b, rfl, hb1, hbN⟩ := LD rfl
        obtain ⟨d0, d1, hG⟩ := hm.cell hbN
        have hbI : (b : Int) < (N : Int) + 1 := by omega
        by_cases hin : b ∈ t
        · have hd : decide (b ∈ t) = true := by simpa using hin
          rw [hd] at d0
          have E : Hid (scanM (l.take (j + 1)) T = t) := by show _ = _; rw [NX.out]; unfold stepM; rw [if_neg (fun e => e.2 (by simpa using hin))]
          clear hm hin hd NX LD hy ht SMALL LEAD CELL START
          go_wp2
          go_roundw
          case rel => exact ⟨j + 1, by omega, by go_num, _, by rw [E.out]; exact M.out⟩
          case measure => simp [intOf]; omega
        · have hd : decide (b ∈ t) = false := by simpa using hin
          rw [hd] at d0
          have E : Hid (scanM (l.take (j + 1)) T = t ++ [b]) := by show _ = _; rw [NX.out]; unfold stepM; rw [if_pos ⟨rfl, by simpa using hin⟩]; simp
          have MK : Hid (MkAt w0 N x G (t ++ [b]) t (.slice tao t.length tc) (wr.setCell ⟨G, b, none⟩ (.bool true))) := hm.mark b hbN
          obtain ⟨n0, n1, n2, _⟩ := MK.out.head
          have hszm : (wr.setCell ⟨G, b, none⟩ (.bool true)).heap.size = wr.heap.size := by simp [World.setCell]
          have hwr : w0.heap.size ≤ wr.heap.size := hm.below.size
          clear hm hin hd NX LD hy ht SMALL LEAD CELL START
          go_wp2_with (at_builtin; refine wpList_append_lies _ rfl (.tmp 42) (.tmp 44) 61 rfl w0.heap.size 3 i3 _ 1 8 Tryz.underlying61 IN.out.1 IN.out.2.1 IN.out.2.2.1 IN.out.2.2.2 rfl (by decide) _ _ _ rfl (MK.out.on ((Below.refl _ _).alloc (Nat.le_refl _) _)).found ⟨wr.heap.size, 0, none⟩ 1 1 [.int .i64 b] rfl rfl ?c1 ?c2 (by decide) ?c3 ?c4 ?c5 (wr.heap.size + 1) (by simp [hszm]) ?_)
          case c1 => have := news_new (wr.setCell ⟨G, b, none⟩ (.bool true)) [.int .i64 b] 3; rw [hszm] at this; exact this
          case c2 => intro u hu; simp at hu; subst hu; rfl
          case c3 => unfold maxLen; omega
          case c4 => omega
          case c5 => simp [hszm]; omega
          intro g' cap' w5 hown hgr _ _
          obtain ⟨R, hc, hf⟩ := (MK.out.on ((Below.refl _ (wr.setCell ⟨G, b, none⟩ (.bool true))).alloc (Nat.le_refl _) (.cells #[.int .i64 b] 3))).grown hown hgr
          have R5 : Hid _ := R
          clear hown hgr MK d0 d1 c0 c1 M R n0 n1 n2 m0 m1 m2
          go_wp2
          go_roundw
          case rel => exact ⟨j + 1, by omega, by go_num, _, by rw [E.out]; exact R5.out⟩
          case measure => simp [intOf]; omega
      · have hk1 : (y1 == 2) = false := by simpa using hk
        have hk2 : (y1 != 2) = true := by simp [hk]
        have E : Hid (scanM (l.take (j + 1)) T = t) := by show _ = _; rw [NX.out]; unfold stepM; rw [if_neg (fun e => hk e.1)]
        clear hm NX LD hy ht SMALL LEAD CELL START
        go_wp2
        go_roundw
        case rel => exact ⟨j + 1, by omega, by go_num, _, by rw [E.out]; exact M.out⟩
        case measure => simp [intOf]; omega
    · have hjl : l.take j = l := List.take_of_length_le (by rw [LEN.out]; omega)
      have E : Hid (scanM l T = t) := by show _ = _; rw [← ht, hjl]
      have hjI : ¬ (j : Int) < len := by omega
      clear hm ht hjl SMALL LEAD CELL START
      go_wp2
      go_end0
      exact ⟨rfl, _, by rw [E.out]; exact M.out⟩

end Go.Proofs.YtpmkjeihbddfpabGreatDoor

/- OUR OWN. The program's heap: mark. -/
namespace Go.Proofs.YtpmkjeihbddfpabGreatDoor
open Go.RowKit
set_option linter.unusedVariables false
set_option linter.unusedSimpArgs false

set_option maxHeartbeats 3200000 in
set_option maxRecDepth 10000 in
theorem mark_any {but : Int} {h : Nat} {w : World} {m : HeapM} {s : St} {c : Cf} {N : Nat} (p : HB but h w m s c N) :
    Calls Tryz.prog 28 #[.pointer (some ⟨h, 0, none⟩)] w fun e w' => ∃ G, e = .returned (.slice (some ⟨G, 0, none⟩) (N + 1) (N + 1)) ∧ Below w.heap.size w w' ∧ w.heap.size ≤ G ∧ HMark N G s.reachB w' := by
  have hN := p.small
  have gd := p.good
  obtain ⟨g, cap, cB, hg, hobj⟩ := p.cells
  have hh := lt_of_heap p.r.head
  obtain ⟨so, sc, hvS⟩ := own_slice p.r.stack
  obtain ⟨go, gc, hvG⟩ := own_slice p.r.globals
  have CS : Hid (∀ W, Below w.heap.size w W → W.cell? ⟨h, 4, none⟩ = some (.slice so m.stack.length sc) ∧ W.cell? ⟨h, 5, none⟩ = some (.slice go m.globals.length gc) ∧ W.cell? ⟨h, 6, none⟩ = some (.slice (some ⟨g, 0, none⟩) (N + 1) cap)) := fun W hb =>
    ⟨(hb.cell (p := ⟨h, 4, none⟩) hh).trans (by rw [p.r.cell.2.1, hvS]), (hb.cell (p := ⟨h, 5, none⟩) hh).trans (by rw [p.r.cell.2.2.1, hvG]), (hb.cell (p := ⟨h, 6, none⟩) hh).trans cB⟩
  have A1 : Hid (∀ W x G, MkAt w N x G [] [] (.slice none 0 0) W → Calls Tryz.prog 71 #[.pointer (some ⟨x, 0, none⟩), .slice so m.stack.length sc] W fun e w' => e = .returned (.tuple #[]) ∧ ∃ v, MkAt w N x G (scanM s.stack []) (scanM s.stack []) v w') := fun W x G M => by
    have row := p.r.stack
    rw [hvS, p.mstack] at row
    rw [p.mstack]
    exact add_any M _ s.stack row (by have := p.stack; omega) hN (by simp) (fun u hu h2 => leadM gd (gd.stack u hu) h2)
  have A2 : Hid (∀ W x G v, MkAt w N x G (scanM s.stack []) (scanM s.stack []) v W → Calls Tryz.prog 71 #[.pointer (some ⟨x, 0, none⟩), .slice go m.globals.length gc] W fun e w' => e = .returned (.tuple #[]) ∧ ∃ v, MkAt w N x G (scanM s.globals (scanM s.stack [])) (scanM s.globals (scanM s.stack [])) v w') := fun W x G v M => by
    have row := p.r.globals
    rw [hvG, p.mglobals] at row
    rw [p.mglobals]
    have := scanM_len s.stack []
    exact add_any M _ s.globals row (by have := p.globals; omega) hN (by have := p.stack; simp only [List.length_nil] at *; omega) (fun u hu h2 => leadM gd (gd.globals u hu) h2)
  have F0 : Hid (FoundM s 0 (scanM s.globals (scanM s.stack []))) := foundM_start gd
  have FS : Hid (∀ n T, FoundM s n T → T.length ≤ N ∧ n ≤ T.length) := fun n T f => ⟨f.small gd, f.le⟩
  have A3 : Hid (∀ wr x G n T v, FoundM s n T → MkAt w N x G T T v wr → ∀ hn : n < T.length, ∃ b ao fl fc, T[n] = b ∧ b ≤ N ∧ fl ≤ 4 ∧ wr.cell? ⟨g, b * 3 + 2, none⟩ = some (.slice ao fl fc) ∧
      Calls Tryz.prog 71 #[.pointer (some ⟨x, 0, none⟩), .slice ao fl fc] wr fun e w' => e = .returned (.tuple #[]) ∧ ∃ T' v', FoundM s (n + 1) T' ∧ MkAt w N x G T' T' v' w') := fun wr x G n T v f M hn => by
    have hb := f.range gd (List.getElem_mem hn)
    obtain ⟨o, ao, fl, fc, ho, hvF, hfl, _, _, c2⟩ := hobj T[n] hb.2
    have hob := p.ob ho
    have hfs : (s.ob T[n]).fs = o.fs := by rw [hob]; rfl
    have h4 := gd.four T[n]
    rw [hfs] at h4
    refine ⟨T[n], ao, fl, fc, rfl, hb.2, by omega, (M.below.cell (p := ⟨g, _, none⟩) hg).trans c2, ?_⟩
    have row := p.r.fields o (List.mem_of_getElem? ho)
    rw [hvF, hfl] at row
    rw [hfl]
    refine (add_any M _ o.fs row (by omega) hN (by have := f.small gd; omega) (fun u hu h2 => leadM gd (gd.fields T[n] u (by rw [hfs]; exact hu)) h2)).mono ?_
    rintro e w' ⟨he, v', hm⟩
    have := foundM_next gd f (List.getElem?_eq_getElem hn)
    rw [hfs] at this
    exact ⟨he, _, v', this, hm⟩
  have FE : Hid (∀ wr x G n T v, FoundM s n T → MkAt w N x G T T v wr → ¬ n < T.length → Below w.heap.size w wr ∧ w.heap.size ≤ G ∧ HMark N G s.reachB wr) := fun wr x G n T v f M hn => by
    have hle := f.le
    obtain rfl : n = T.length := by omega
    refine ⟨M.below, (own_lt M.inn (g := G) rfl).1, ?_⟩
    have e : inM N T = (List.range (N + 1)).map fun b => Value.bool (s.reachB b) := by
      unfold inM
      refine List.map_congr_left fun b hb => ?_
      rw [foundM_end gd f b]
    have := own_base M.inn (Nat.zero_le _)
    rw [e] at this
    exact this
  have mk1 := run_make_one (P := Tryz.prog) 69 4 (.bool false) 1 Tryz.underlying69 infoMark rfl .i64 .i64 (N + 1) (by omega) (by omega)
  simp only [Int.natCast_add, Int.natCast_one, Nat.mul_one] at mk1
  have OM := own_made_one w 4 (.bool false) (N + 1) (by omega)
  simp only [Nat.mul_one] at OM
  have OMH : Hid _ := OM
  obtain ⟨nst, hnst⟩ : ∃ n, m.stack.length = n := ⟨_, rfl⟩
  obtain ⟨ngl, hngl⟩ : ∃ n, m.globals.length = n := ⟨_, rfl⟩
  rw [hnst] at CS A1
  rw [hngl] at CS A2
  have cB := (CS.out w (Below.refl _ _)).2.2
  have cS1 := (CS.out w (Below.refl _ _)).1
  have al2 : ∀ (ob ob' : Obj), ((w.alloc ob).alloc ob').cell? ⟨h, 4, none⟩ = w.cell? ⟨h, 4, none⟩ := fun ob ob' => (World.cell?_of_block (hao (by simp; omega))).trans (World.cell?_of_block (hao hh))
  have hne1 : ¬ h = w.heap.size + 1 := by omega
  have hne2 : ¬ w.heap.size + 1 = h := by omega
  clear p gd hobj hvS hvG OM hnst hngl
  go_enter Tryz.func28, Tryz.ntmps28
  go_wp2_with fail
  have M0 : MkAt w N (w.heap.size + 1) w.heap.size [] [] (.slice none 0 0) ((w.alloc (.cells (madeCells #[.bool false] (N + 1)) 4)).alloc (.cells #[.slice (some ⟨w.heap.size, 0, none⟩) (N + 1) (N + 1), .slice none 0 0] 94)) := by
    refine ⟨?_, ?_, World.ownsRow_nil _ _ _ _, ((Below.refl _ _).alloc (Nat.le_refl _) _).alloc (by simp) _, by omega⟩
    · have := heap_alloc_new (w.alloc (.cells (madeCells #[.bool false] (N + 1)) 4)) (.cells #[.slice (some ⟨w.heap.size, 0, none⟩) (N + 1) (N + 1), .slice none 0 0] 94)
      simpa using this
    · rw [inM_nil]
      exact own_carry OMH.out fun k hk => by
        have : k = w.heap.size := by simpa [Value.ownBlock, eq_comm] using hk
        exact hao (by simp; omega)
  have C1 : Hid _ := A1.out _ _ _ M0
  clear M0 OMH al2 mk1 cS1 cB hne1 hne2 A1
  refine Calls.mono C1.out ?_
  rintro e w1 ⟨rfl, v1, hm⟩
  obtain ⟨_, cG, cB⟩ := CS.out w1 hm.below
  have C2 : Hid _ := A2.out w1 _ _ v1 hm
  clear hm C1 A2
  go_wp2_with fail
  refine Calls.mono C2.out ?_
  rintro e w2 ⟨rfl, v2, hm⟩
  have I0 : Hid (∃ T v, FoundM s 0 T ∧ MkAt w N (w.heap.size + 1) w.heap.size T T v w2) := ⟨_, v2, F0.out, hm⟩
  clear hm C2 cG cB F0
  go_wp2
  go_loopw [4] (fun i wr => ∃ n : Nat, i = .int .i64 n ∧ ∃ T v, FoundM s n T ∧ MkAt w N (w.heap.size + 1) w.heap.size T T v wr) (fun i _ => N + 1 - (intOf i).toNat)
  case atStart => exact ⟨0, rfl, I0.out⟩
  case round =>
    obtain ⟨n, rfl, T, v, hf, hm⟩ := hrel
    obtain ⟨hTN, hnT⟩ := FS.out n T hf
    obtain ⟨x0, x1, x2, hx⟩ := hm.head
    obtain ⟨_, _, cB⟩ := CS.out wr hm.below
    by_cases hlt : n < T.length
    · obtain ⟨tg, tc, hv, ct⟩ := hm.at_ hlt
      obtain ⟨b, ao, fl, fc, hb, hbN, hfl, cF, hc⟩ := A3.out wr _ _ n T v hf hm hlt
      have C3 : Hid _ := hc
      rw [hb] at ct
      rw [hv] at x1
      obtain ⟨tl, htl⟩ : ∃ tl, T.length = tl := ⟨_, rfl⟩
      rw [htl] at x1 hTN hlt
      have hnI : (n : Int) < tl := by omega
      have hbI : (b : Int) < (N : Int) + 1 := by omega
      clear hf hm hc hv hb htl hnT x0 x2 I0
      go_wp2_with fail
      refine Calls.mono C3.out ?_
      rintro e w3 ⟨rfl, T', v', hf, hm⟩
      have K : Hid (∃ T v, FoundM s (n + 1) T ∧ MkAt w N (w.heap.size + 1) w.heap.size T T v w3) := ⟨T', v', hf, hm⟩
      clear hf hm C3 x1 ct cF cB
      go_wp2
      go_roundw
      case rel => exact ⟨n + 1, by go_num, K.out⟩
      case measure => simp [intOf]; omega
    · have E : Hid _ := FE.out wr _ _ n T v hf hm hlt
      obtain ⟨tao, tc, hv⟩ := hm.form
      obtain rfl : n = T.length := by omega
      rw [hv] at x1
      obtain ⟨tl, htl⟩ : ∃ tl, T.length = tl := ⟨_, rfl⟩
      rw [htl] at x1 hTN ⊢
      clear hf hm hv htl hnT x2 I0 cB hlt
      go_wp2
      go_ret
      exact ⟨_, rfl, E.out⟩

end Go.Proofs.YtpmkjeihbddfpabGreatDoor

/- OUR OWN. The program's heap: Collect. -/
namespace Go.Proofs.YtpmkjeihbddfpabGreatDoor
open Go.RowKit
set_option linter.unusedVariables false
set_option linter.unusedSimpArgs false

theorem hfoot_lt {w : World} {h : Nat} {m : HeapM} (r : HeapAt w h m) {G : Nat} (hG : w.heap.size ≤ G) : G ∉ h :: m.foot := fun e => by have := r.lt G e; omega

set_option maxHeartbeats 1600000 in
theorem collect_hb {h : Nat} {w : World} {m : HeapM} {s : St} {c : Cf} {N : Nat} (p : HB 0 h w m s c N) :
    Calls Tryz.prog 12 #[.pointer (some ⟨h, 0, none⟩)] w fun e w' => e = .returned (.int .i64 s.gone) ∧ ∃ m', HTurn h w m w' m' ∧ HB 0 h w' m' (s.collect c.over) c N := by
  have hN := p.small
  have gs := p.good.swept
  have hsN := p.good.sN
  have MARK : Hid (Calls Tryz.prog 28 #[.pointer (some ⟨h, 0, none⟩)] w fun e w' => ∃ G, e = .returned (.slice (some ⟨G, 0, none⟩) (N + 1) (N + 1)) ∧ Below w.heap.size w w' ∧ w.heap.size ≤ G ∧ HMark N G s.reachB w') := mark_any p
  have gone : countTo (m.goes s.reachB) N = s.gone := by
    unfold St.gone
    rw [hsN]
    refine countTo_congr fun b h1 h2 => ?_
    have hb : b < m.blks.length := by rw [p.len]; omega
    have ho : m.blks[b]? = some m.blks[b] := List.getElem?_eq_getElem hb
    rw [goes_at ho, p.ob ho]
    rfl
  have SWEEP : Hid (∀ w1 G, Below w.heap.size w w1 → w.heap.size ≤ G → HMark N G s.reachB w1 → Calls Tryz.prog 29 #[.pointer (some ⟨h, 0, none⟩), .slice (some ⟨G, 0, none⟩) (N + 1) (N + 1)] w1 fun e w2 => e = .returned (.int .i64 s.gone) ∧
      Calls Tryz.prog 30 #[.pointer (some ⟨h, 0, none⟩)] w2 fun e w3 => e = .returned (.tuple #[]) ∧
      Calls Tryz.prog 31 #[.pointer (some ⟨h, 0, none⟩)] w3 fun e w4 => e = .returned (.tuple #[]) ∧ ∃ m', HTurn h w m w4 m' ∧ HB 0 h w4 m' (s.collect c.over) c N) := fun w1 G hb hG mk => by
    have q := p.below hb
    have S := sweep_any (h := h) ⟨q.r, q.len, hN, by rw [q.mqueue]; have := q.good.queue_len; omega⟩ s.reachB mk (fun e => by have := p.r.lt G e; omega)
    rw [gone] at S
    refine S.mono ?_
    rintro e w2 ⟨he, v, t1⟩
    refine ⟨he, ?_⟩
    have fs1 : ∀ (i : Nat) (o : HObj), ((m.upTo (sweepF s.reachB) N).noQueue v).blks[i]? = some o → 1 ≤ i → (s.swept.ob i).fs = o.fs := fun i o ho h1 => by
      rw [noQueue_blks, upTo_get] at ho
      cases hm : m.blks[i]? with
      | none => rw [hm] at ho; cases ho
      | some o0 =>
        have hl := (List.getElem?_eq_some_iff.1 hm).1
        rw [p.len] at hl
        rw [hm, Option.map_some, if_pos (by omega)] at ho
        have ho := Option.some.inj ho
        rw [← (zero_ob p.hs p.good hm h1).1, ← ho]
        rfl
    have len1 : ((m.upTo (sweepF s.reachB) N).noQueue v).blks.length = N + 1 := by rw [noQueue_blks, upTo_len]; exact p.len
    refine (recount_any (t := s.swept) ⟨t1.here, len1, hN, gs, fs1⟩).mono ?_
    rintro e w3 ⟨he, t2⟩
    refine ⟨he, ?_⟩
    have cnt : ∀ (i : Nat) (o : HObj), ((((m.upTo (sweepF s.reachB) N).noQueue v).upTo zeroF N).upTo (cntF fun i => s.swept.count i) N).blks[i]? = some o → 1 ≤ i → o.count = ((s.swept.count i : Nat) : Int) := fun i o ho h1 => by
      have hl := (List.getElem?_eq_some_iff.1 ho).1
      rw [upTo_len, upTo_len, len1] at hl
      rw [upTo_get] at ho
      cases hm : ((((m.upTo (sweepF s.reachB) N).noQueue v).upTo zeroF N)).blks[i]? with
      | none => rw [hm] at ho; cases ho
      | some o0 =>
        rw [hm, Option.map_some, if_pos (by omega)] at ho
        have ho := Option.some.inj ho
        rw [← ho]; rfl
    have hov : ((((m.upTo (sweepF s.reachB) N).noQueue v).upTo zeroF N).upTo (cntF fun i => s.swept.count i) N).over = c.over := p.hs.over
    refine (handOut_any (fun i => s.swept.count i) t2.here (by rw [upTo_len, upTo_len]; exact len1) hN cnt (by rw [hov]; exact p.cf.over)).mono ?_
    rintro e w4 ⟨he, t3⟩
    refine ⟨he, m.collected s N c.over v, ?_⟩
    rw [hov] at t3
    have T : HTurn h w m w4 (m.collected s N c.over v) := (HTurn.of_below p.r hb).trans (t1.trans (t2.trans t3))
    exact ⟨T, T.here, collected_hs p.hs p.good v, p.good.collect c.over, p.cf, p.small, p.stack, p.globals⟩
  clear p gs hsN gone
  go_enter Tryz.func12, Tryz.ntmps12
  go_wp2_with fail
  refine Calls.mono MARK.out ?_
  rintro e w1 ⟨G, rfl, hb, hG, mk⟩
  have SW : Hid _ := SWEEP.out w1 G hb hG mk
  clear hb hG mk MARK SWEEP
  go_wp2_with fail
  refine Calls.mono SW.out ?_
  rintro e w2 ⟨rfl, h2⟩
  have R : Hid _ := h2
  clear h2 SW
  go_wp2_with fail
  refine Calls.mono R.out ?_
  rintro e w3 ⟨rfl, h3⟩
  have X : Hid _ := h3
  clear h3 R
  go_wp2_with fail
  refine Calls.mono X.out ?_
  rintro e w4 ⟨rfl, hm⟩
  have M : Hid _ := hm
  clear hm X
  go_wp2
  go_ret
  exact ⟨rfl, M.out⟩

theorem coll_pact : CollPact HS := by
  intro x N w hm s c hat hs g cf hN h16 h8
  refine (collect_hb ⟨hat, hs, g, cf, hN, h16, h8⟩).mono ?_
  rintro e w' ⟨he, m', t, q⟩
  exact ⟨he, m', t, q.hs⟩

end Go.Proofs.YtpmkjeihbddfpabGreatDoor

/- OUR OWN. The program's heap: blockToFill. -/
namespace Go.Proofs.YtpmkjeihbddfpabGreatDoor
open Go.RowKit
set_option linter.unusedVariables false
set_option linter.unusedSimpArgs false

theorem freeBlock_st {h N : Nat} {w : World} {m : HeapM} {s : St} {c : Cf} (p : HB 0 h w m s c N) :
    Calls Tryz.prog 99 #[.pointer (some ⟨h, 0, none⟩)] w fun e w' => w' = w ∧ ((∃ k : Nat, free? s = some k ∧ e = .returned (.int .i64 ((k : Int) + 1))) ∨ (free? s = none ∧ e = .returned (.int .i64 0))) := by
  have stOf : ∀ {j : Nat} {o : HObj}, m.blks[j]? = some o → (s.ob j).here = decide (o.state ≠ 0) := fun ho => by rw [p.ob ho]; rfl
  refine (freeBlock_any p.r p.len p.small).mono ?_
  rintro e w' ⟨v, rfl, hs, rfl⟩
  refine ⟨rfl, ?_⟩
  cases hk : free? s with
  | none =>
    refine .inr ⟨rfl, ?_⟩
    rcases hs with ⟨rfl, _⟩ | ⟨k, hkN, rfl, ⟨o, ho, h0⟩, _⟩
    · rfl
    · obtain ⟨k', hk'⟩ := free_exists (s := s) (b := k + 1) (by omega) (by rw [p.good.len]; omega) (by rw [stOf ho]; simp [h0])
      rw [hk] at hk'; cases hk'
  | some k =>
    obtain ⟨hkl, hkf, hkt⟩ := free_iff hk
    have hkN : k < N := by rw [p.good.len] at hkl; omega
    refine .inl ⟨k, rfl, ?_⟩
    rcases hs with ⟨_, hs⟩ | ⟨k', hk', rfl, ⟨o1, ho1, hf1⟩, hs⟩
    · obtain ⟨o, ho, ht⟩ := hs k hkN
      rw [stOf ho] at hkf; simp at hkf; exact absurd hkf ht
    · have : k' = k := by
        rcases Nat.lt_trichotomy k' k with e | e | e
        · have := hkt k' e
          rw [stOf ho1] at this; simp at this; exact absurd hf1 this
        · exact e
        · obtain ⟨o, ho, ht⟩ := hs k e
          rw [stOf ho] at hkf; simp at hkf; exact absurd hkf ht
      rw [this]

theorem room_of_none {c : Cf} {s : St} (hk : free? s = none) (hq : s.queue.length = 0) : roomS c s = s.collect c.over := by unfold roomS; rw [hk]; exact if_neg (by omega)

set_option maxHeartbeats 800000 in
theorem fill_says {h N : Nat} {w : World} {m : HeapM} {s : St} {c : Cf} (p : HB 0 h w m s c N) : FillSays h N w m s c := by
  intro W hb
  have q := p.below hb
  cases hk : free? s with
  | some k =>
    have e : roomS c s = s := room_of_free hk
    rw [e]
    have F : Hid (Calls Tryz.prog 99 #[.pointer (some ⟨h, 0, none⟩)] W fun e w' => w' = W ∧ e = .returned (.int .i64 ((k : Int) + 1))) := (freeBlock_st q).mono fun e w' ⟨h1, h2⟩ => ⟨h1, by
      rcases h2 with ⟨k', h3, h4⟩ | ⟨h3, _⟩
      · rw [hk] at h3; cases h3; exact h4
      · rw [hk] at h3; cases h3⟩
    have K : Hid (∃ m', HTurn h W m W m' ∧ HB 0 h W m' s c N ∧ ((∃ k' : Nat, free? s = some k' ∧ (Ending.returned (.int .i64 ((k : Int) + 1))) = .returned (.int .i64 ((k' : Int) + 1))) ∨ (free? s = none ∧ (Ending.returned (.int .i64 ((k : Int) + 1))) = .returned (.int .i64 0)))) := ⟨m, .refl q.r, q, .inl ⟨k, hk, rfl⟩⟩
    have hk0 : ((k : Int) + 1 == 0) = false := by simp; omega
    have hk1 : ¬ ((k : Int) + 1 = 0) := by omega
    have hk2 : ((k : Int) + 1 != 0) = true := by simp; omega
    clear p e hk q hb
    go_enter Tryz.func82, Tryz.ntmps82
    go_wp2_with fail
    refine Calls.mono F.out ?_
    rintro e w1 ⟨hw, rfl⟩
    subst hw
    clear F
    go_wp2
    go_ret
    exact K.out
  | none =>
    have F : Hid (Calls Tryz.prog 99 #[.pointer (some ⟨h, 0, none⟩)] W fun e w' => w' = W ∧ e = .returned (.int .i64 0)) := (freeBlock_st q).mono fun e w' ⟨h1, h2⟩ => ⟨h1, by
      rcases h2 with ⟨k', h3, h4⟩ | ⟨_, h4⟩
      · rw [hk] at h3; cases h3
      · exact h4⟩
    obtain ⟨ao, qc, hvQ⟩ := win_slice q.r.queue
    have cQ : W.cell? ⟨h, 7, none⟩ = some (.slice ao s.queue.length qc) := by rw [q.r.cell.2.2.2.2.1, hvQ, q.mqueue]
    have hql : s.queue.length ≤ 100 := by have := p.good.queue_len; have := p.small; omega
    -- what freeBlock answers behind either
    have LAST : ∀ (w1 : World) (m1 : HeapM) (S : St), HTurn h W m w1 m1 → HB 0 h w1 m1 S c N → Calls Tryz.prog 99 #[.pointer (some ⟨h, 0, none⟩)] w1 fun e w2 => (∃ v, e = .returned (.int .i64 v)) ∧
        ∃ m', HTurn h W m w2 m' ∧ HB 0 h w2 m' S c N ∧ ((∃ k : Nat, free? S = some k ∧ e = .returned (.int .i64 ((k : Int) + 1))) ∨ (free? S = none ∧ e = .returned (.int .i64 0))) := fun w1 m1 S t1 q1 => by
      refine (freeBlock_st q1).mono ?_
      rintro e w2 ⟨rfl, h2⟩
      refine ⟨?_, m1, t1, q1, h2⟩
      rcases h2 with ⟨k, _, h4⟩ | ⟨_, h4⟩
      · exact ⟨_, h4⟩
      · exact ⟨_, h4⟩
    by_cases hq : s.queue.length = 0
    · rw [room_of_none hk hq]
      have FF : Hid (Calls Tryz.prog 12 #[.pointer (some ⟨h, 0, none⟩)] W fun e w1 => (∃ v, e = .returned (.int .i64 v)) ∧ Calls Tryz.prog 99 #[.pointer (some ⟨h, 0, none⟩)] w1 fun e w2 => (∃ v, e = .returned (.int .i64 v)) ∧
          ∃ m', HTurn h W m w2 m' ∧ HB 0 h w2 m' (s.collect c.over) c N ∧ ((∃ k : Nat, free? (s.collect c.over) = some k ∧ e = .returned (.int .i64 ((k : Int) + 1))) ∨ (free? (s.collect c.over) = none ∧ e = .returned (.int .i64 0)))) := by
        refine (collect_hb q).mono ?_
        rintro e w1 ⟨he, m1, t1, q1⟩
        exact ⟨⟨_, he⟩, LAST w1 m1 _ t1 q1⟩
      rw [hq] at cQ
      clear p hk q hb hvQ hql LAST hq
      go_enter Tryz.func82, Tryz.ntmps82
      go_wp2_with fail
      refine Calls.mono F.out ?_
      rintro e w1 ⟨hw, rfl⟩
      subst hw
      clear F
      go_wp2_with fail
      refine Calls.mono FF.out ?_
      rintro e w2 ⟨⟨u, rfl⟩, h2⟩
      have H2 : Hid _ := h2
      clear h2 FF cQ
      go_wp2_with fail
      refine Calls.mono H2.out ?_
      rintro e w3 ⟨⟨v, rfl⟩, hm⟩
      have M : Hid _ := hm
      clear hm H2
      go_wp2
      go_ret
      exact M.out
    · have e : roomS c s = s.free c.zero := by unfold roomS; rw [hk]; exact if_pos (by omega)
      rw [e]
      have FF : Hid (Calls Tryz.prog 25 #[.pointer (some ⟨h, 0, none⟩)] W fun e w1 => e = .returned (.tuple #[]) ∧ Calls Tryz.prog 99 #[.pointer (some ⟨h, 0, none⟩)] w1 fun e w2 => (∃ v, e = .returned (.int .i64 v)) ∧
          ∃ m', HTurn h W m w2 m' ∧ HB 0 h w2 m' (s.free c.zero) c N ∧ ((∃ k : Nat, free? (s.free c.zero) = some k ∧ e = .returned (.int .i64 ((k : Int) + 1))) ∨ (free? (s.free c.zero) = none ∧ e = .returned (.int .i64 0)))) := by
        refine (freeFirst_any q hq).mono ?_
        rintro e w1 ⟨he, m1, t1, q1⟩
        exact ⟨he, LAST w1 m1 _ t1 q1⟩
      obtain ⟨ql, hqle⟩ : ∃ ql, s.queue.length = ql := ⟨_, rfl⟩
      rw [hqle] at cQ hq hql
      have hqI : (0 : Int) < ql := by omega
      clear p e hk q hb hvQ hqle LAST
      go_enter Tryz.func82, Tryz.ntmps82
      go_wp2_with fail
      refine Calls.mono F.out ?_
      rintro e w1 ⟨hw, rfl⟩
      subst hw
      clear F
      go_wp2_with fail
      refine Calls.mono FF.out ?_
      rintro e w2 ⟨rfl, h2⟩
      have H2 : Hid _ := h2
      clear h2 FF cQ
      go_wp2_with fail
      refine Calls.mono H2.out ?_
      rintro e w3 ⟨⟨v, rfl⟩, hm⟩
      have M : Hid _ := hm
      clear hm H2
      go_wp2
      go_ret
      exact M.out

end Go.Proofs.YtpmkjeihbddfpabGreatDoor

/- OUR OWN. The program's heap: store; what an operation's parts do, as the document's state. -/
namespace Go.Proofs.YtpmkjeihbddfpabGreatDoor
open Go.RowKit
set_option linter.unusedVariables false
set_option linter.unusedSimpArgs false

def HDone (h N : Nat) (w : World) (m : HeapM) (c : Cf) (r : St × Int × Int) (e : Ending) (w' : World) : Prop := e = .returned (.int .i64 r.2.2) ∧ ∃ m', HTurn h w m w' m' ∧ HS m' r.1 c N
def HDone2 (h N : Nat) (w : World) (m : HeapM) (c : Cf) (r : St × Int × Int) (e : Ending) (w' : World) : Prop := e = .returned (.tuple #[.int .i64 r.2.1, .int .i64 r.2.2]) ∧ ∃ m', HTurn h w m w' m' ∧ HS m' r.1 c N

/-- the blocks are as they were: so are the counts -/
theorem HStep.hs {h N : Nat} {w w' : World} {m m' : HeapM} {s : St} {c : Cf} (a : HStep h N w m w' m') (p : HSb 0 m s c N) {t : St} (ht : m'.st = t) : HS m' t c N := by
  have hr := a.rest
  unfold HeapM.rest at hr
  simp only [Prod.mk.injEq] at hr
  obtain ⟨h1, h6, h2, h3, h4, h5⟩ := hr
  refine ⟨ht, h1.trans p.deep, h2.trans p.zero, h3.trans p.over, h6.trans p.budget, by rw [h4]; exact p.state, fun i o hi hs => ?_⟩
  rw [h4] at hi
  rw [p.cnt i o hi hs]
  have : t.count i = s.count i := by
    unfold St.count
    rw [← ht, ← p.st]
    unfold HeapM.st
    simp only
    rw [h4]
  rw [this]
theorem HDid.done {h N : Nat} {w w' : World} {m : HeapM} {s : St} {c : Cf} {r : St × Int × Int} {e : Ending} (p : HSb 0 m s c N) (d : HDid h N w m r e w') : HDone h N w m c r e w' := by
  obtain ⟨he, m', hs, hm⟩ := d
  exact ⟨he, m', hs.turn, hs.hs p hm⟩
theorem HDid2.done {h N : Nat} {w w' : World} {m : HeapM} {s : St} {c : Cf} {r : St × Int × Int} {e : Ending} (p : HSb 0 m s c N) (d : HDid2 h N w m r e w') : HDone2 h N w m c r e w' := by
  obtain ⟨he, m', hs, hm⟩ := d
  exact ⟨he, m', hs.turn, hs.hs p hm⟩

theorem new_done {h N : Nat} {w : World} {m : HeapM} {s : St} {c : Cf} (p : HB 0 h w m s c N) (n : Int) :
    Calls Tryz.prog 47 #[.pointer (some ⟨h, 0, none⟩), .int .i64 n] w (HDone h N w m c (newS c s n)) := by
  by_cases h1 : n < 0 ∨ 4 < n
  · have e : newS c s n = (s, 0, 6) := by unfold newS; exact if_pos h1
    rw [e]
    exact (hnew_index n h1).mono fun e w' ⟨he, hw⟩ => ⟨he, m, by rw [hw]; exact .refl p.r, p.hs⟩
  by_cases h2 : c.deep ≤ s.stack.length
  · have e : newS c s n = (s, 0, 7) := by unfold newS; exact (if_neg h1).trans (if_pos h2)
    rw [e]
    exact (hnew_deep p.r n (by omega) (by omega) (by rw [p.hs.deep, p.mstack]; exact h2)).mono fun e w' ⟨he, hb⟩ => ⟨he, m, .of_below p.r hb, p.hs⟩
  obtain ⟨j, rfl⟩ : ∃ j : Nat, n = j := ⟨n.toNat, by omega⟩
  exact (hnew_do p j (by omega) (by omega) (fill_says p)).mono fun e w' ⟨he, m', ht, hs⟩ => ⟨he, m', ht, hs⟩

theorem HB.of_step {h N : Nat} {w w' : World} {m m' : HeapM} {s t : St} {c : Cf} (p : HB 0 h w m s c N) (a : HStep h N w m w' m') (ht : m'.st = t) (g : t.Good N) : HB 0 h w' m' t c N :=
  ⟨a.turn.here, a.hs p.hs ht, g, p.cf, p.small, by have := a.ok.stack; rw [← ht]; exact this, by have := a.ok.globals; rw [← ht]; exact this⟩

set_option maxHeartbeats 1600000 in
theorem store_done {h N : Nat} {w : World} {m : HeapM} {s : St} {c : Cf} (p : HB 0 h w m s c N) (n : Int) :
    Calls Tryz.prog 53 #[.pointer (some ⟨h, 0, none⟩), .int .i64 n] w (HDone h N w m c (storeS c s n)) := by
  obtain ⟨ao, cap, cS⟩ := p.pre.stackCell
  have hl := p.pre.ok.stack
  have hms := p.mstack
  by_cases hc : m.stack.length < 2
  · have e : storeS c s n = (s, 0, 3) := by unfold storeS; exact if_pos (by rw [← hms]; exact hc)
    rw [e]
    have K : Hid (∃ m', HTurn h w m w m' ∧ HS m' s c N) := ⟨m, .refl p.r, p.hs⟩
    obtain ⟨len, hlen⟩ : ∃ len, m.stack.length = len := ⟨_, rfl⟩
    rw [hlen] at hc cS hl
    clear p hlen e hms
    have hcI : (len : Int) < 2 := by omega
    go_enter Tryz.func53, Tryz.ntmps53
    go_wp2
    go_ret
    exact ⟨rfl, K.out⟩
  have hst := p.hs.st
  have hcs : ¬ s.stack.length < 2 := by rw [← hms]; exact hc
  have D0 : Hid _ := hdown_do p.pre 0 (by omega)
  have D1 : Hid (∀ W, Below w.heap.size w W → Calls Tryz.prog 84 #[.pointer (some ⟨h, 0, none⟩), .int .i64 1] W fun e w' => e = .returned (.agg #[.int .i64 (m.st.down 1).1, .int .i64 (m.st.down 1).2]) ∧ Below W.heap.size W w') := fun W hb => hdown_do (p.pre.below hb) 1 (by show 1 < m.stack.length; omega)
  have K : Hid (∀ W, Below w.heap.size w W → ∃ m', HTurn h w m W m' ∧ HS m' s c N) := fun W hb => ⟨m, .of_below p.r hb, p.hs⟩
  have hv := p.pre.inv.down 1
  have CK : Hid (∀ W, Below w.heap.size w W → Calls Tryz.prog 86 #[.pointer (some ⟨h, 0, none⟩), .agg #[.int .i64 (m.st.down 1).1, .int .i64 (m.st.down 1).2], .int .i64 n] W fun e w' => e = .returned (.int .i64 (fieldErr m.st (m.st.down 1) n)) ∧ Below W.heap.size W w') := fun W hb => checkField_any h N W m (p.pre.below hb) _ n hv
  rw [hst] at D0 D1 CK hv
  have hcI0 : ¬ (m.stack.length : Int) < 2 := by omega
  by_cases he : fieldErr s (s.down 1) n ≠ 0
  · rw [storeS_err hcs he]
    obtain ⟨len, hlen⟩ : ∃ len, m.stack.length = len := ⟨_, rfl⟩
    rw [hlen] at cS hcI0 hl
    obtain ⟨er, her⟩ : ∃ er, fieldErr s (s.down 1) n = er := ⟨_, rfl⟩
    rw [her] at he CK ⊢
    obtain ⟨x, hx⟩ : ∃ x, s.down 0 = x := ⟨_, rfl⟩
    rw [hx] at D0
    obtain ⟨q, hq⟩ : ∃ q, s.down 1 = q := ⟨_, rfl⟩
    rw [hq] at D1 CK
    obtain ⟨x1, x2⟩ := x
    obtain ⟨q1, q2⟩ := q
    have he2 : (er == 0) = false := by simpa using he
    clear p hlen hx hq hv her hc hms hst hcs
    go_enter Tryz.func53, Tryz.ntmps53
    go_wp2_with fail
    refine Calls.mono D0.out ?_
    rintro e w1 ⟨rfl, hb⟩
    have B : Hid (Below w.heap.size w w1) := hb
    clear hb D0
    go_wp2_with fail
    refine Calls.mono (D1.out _ (B.out.alloc B.out.size _)) ?_
    rintro e w2 ⟨rfl, hb⟩
    have B2 : Hid (Below w.heap.size w w2) := (B.out.alloc B.out.size _).trans (hb.mono (by simp; have := B.out.size; omega))
    clear hb D1
    go_wp2_with fail
    refine Calls.mono (CK.out _ (B2.out.alloc B2.out.size _)) ?_
    rintro e w3 ⟨rfl, hb⟩
    have B3 : Hid (Below w.heap.size w w3) := (B2.out.alloc B2.out.size _).trans (hb.mono (by simp; have := B2.out.size; omega))
    clear hb CK
    go_wp2
    go_ret
    exact ⟨rfl, K.out _ B3.out⟩
  have he : fieldErr s (s.down 1) n = 0 := by omega
  obtain ⟨ho, hn0, hnl⟩ := field_ok he
  obtain ⟨k, rfl⟩ : ∃ k : Nat, n = k := ⟨n.toNat, by omega⟩
  obtain ⟨hq1, hq2⟩ := ref_of hv ho
  obtain ⟨i, hi⟩ : ∃ i : Nat, (s.down 1).2 = i := ⟨(s.down 1).2.toNat, by omega⟩
  have hkf : k < (s.ob i).fs.length := by
    have : s.fields (s.down 1).2 = (s.ob i).fs := by unfold St.fields; rw [hi, Int.toNat_natCast]
    rw [this] at hnl; omega
  have e : storeS c s k = (putS c (s.pop 2) i k (s.down 0) (((s.pop 2).ob i).fs.getD k (0, 0)), 0, 0) := by
    unfold storeS
    refine (if_neg hcs).trans ((if_neg (by omega)).trans ((if_neg (by omega)).trans ?_))
    unfold St.fields
    rw [hi, Int.toNat_natCast, Int.toNat_natCast]
    rfl
  rw [e]
  have AFTER : Hid (∀ W, Below w.heap.size w W → Calls Tryz.prog 85 #[.pointer (some ⟨h, 0, none⟩), .int .i64 2] W fun e w' => e = .returned (.tuple #[]) ∧
      (∀ L ob, w.heap.size ≤ L → W.heap[L]? = some ob → w'.heap[L]? = some ob) ∧
      Calls Tryz.prog 87 #[.pointer (some ⟨h, 0, none⟩), .int .i64 i, .int .i64 k, .agg #[.int .i64 (s.down 0).1, .int .i64 (s.down 0).2]] w' fun e w2 => e = .returned (.tuple #[]) ∧
        ∃ m', HTurn h w m w2 m' ∧ HS m' (putS c (s.pop 2) i k (s.down 0) (((s.pop 2).ob i).fs.getD k (0, 0))) c N) := by
    intro W hb
    refine (hpop_do (p.pre.below hb) 2 (by omega) (by omega)).mono ?_
    rintro e w' ⟨he, v', hs⟩
    have s1 : HStep h N w m w' _ := (HStep.of_below p.pre hb).trans hs
    have q := p.of_step s1 (t := s.pop 2) (by
      unfold St.pop
      rw [← hst]
      rfl) (p.good.pop 2)
    refine ⟨he, fun L ob hL hW => hturn_local p.pre hb hW hL hs.turn, ?_⟩
    refine (setField_any q i k (s.down 0) hkf (p.good.down 0)).mono ?_
    rintro e w2 ⟨he, m', t, q2⟩
    exact ⟨he, m', s1.turn.trans t, q2.hs⟩
  rw [he] at CK
  obtain ⟨tgt, htgt⟩ : ∃ t : St, putS c (s.pop 2) i k (s.down 0) (((s.pop 2).ob i).fs.getD k (0, 0)) = t := ⟨_, rfl⟩
  rw [htgt] at AFTER ⊢
  obtain ⟨len, hlen⟩ : ∃ len, m.stack.length = len := ⟨_, rfl⟩
  rw [hlen] at cS hcI0 hl
  obtain ⟨x, hx⟩ : ∃ x, s.down 0 = x := ⟨_, rfl⟩
  rw [hx] at D0 AFTER
  obtain ⟨q, hq⟩ : ∃ q, s.down 1 = q := ⟨_, rfl⟩
  rw [hq] at D1 CK hi
  obtain ⟨x1, x2⟩ := x
  obtain ⟨q1, q2⟩ := q
  simp only at hi
  subst hi
  clear p hlen e hx hq hv he K hc hn0 hnl ho hkf htgt hms hst hcs hq1 hq2
  go_enter Tryz.func53, Tryz.ntmps53
  go_wp2_with fail
  refine Calls.mono D0.out ?_
  rintro e w1 ⟨rfl, hb⟩
  have B : Hid (Below w.heap.size w w1) := hb
  clear hb D0
  go_wp2_with fail
  refine Calls.mono (D1.out _ (B.out.alloc B.out.size _)) ?_
  rintro e w2 ⟨rfl, hb⟩
  have B2 : Hid (Below w.heap.size w w2 ∧ w1.heap.size + 1 ≤ w2.heap.size ∧ w2.heap[w1.heap.size]? = some (.cells #[.int .i64 x1, .int .i64 x2] 87)) := ⟨(B.out.alloc B.out.size _).trans (hb.mono (by simp; have := B.out.size; omega)), by have := hb.size; simpa using this, boxed' hb⟩
  clear hb D1
  go_wp2_with fail
  refine Calls.mono (CK.out _ (B2.out.1.alloc B2.out.1.size _)) ?_
  rintro e w3 ⟨rfl, hb⟩
  have B3 : Hid (Below w.heap.size w w3 ∧ w3.heap[w2.heap.size]? = some (.cells #[.int .i64 q1, .int .i64 i] 87) ∧ w3.heap[w1.heap.size]? = some (.cells #[.int .i64 x1, .int .i64 x2] 87)) :=
    ⟨(B2.out.1.alloc B2.out.1.size _).trans (hb.mono (by simp; have := B2.out.1.size; omega)), boxed' hb, by
      have h1 := B2.out.2.1
      rw [hb.block _ (by simp; omega), hao (by omega)]; exact B2.out.2.2⟩
  clear hb CK
  go_wp2_with fail
  refine Calls.mono (AFTER.out _ B3.out.1) ?_
  rintro e w4 ⟨rfl, hloc, hset⟩
  have l0 := hloc _ _ B.out.size B3.out.2.2
  have l1 := hloc _ _ B2.out.1.size B3.out.2.1
  have v0 : w4.cell? ⟨w1.heap.size, 0, none⟩ = some (.int .i64 x1) := cell_of_heap l0 rfl
  have v1 : w4.cell? ⟨w1.heap.size, 1, none⟩ = some (.int .i64 x2) := cell_of_heap l0 rfl
  have u1 : w4.cell? ⟨w2.heap.size, 1, none⟩ = some (.int .i64 i) := cell_of_heap l1 rfl
  have S : Hid _ := hset
  clear hset hloc AFTER B B2 B3 l0 l1
  go_wp2_with fail
  refine Calls.mono S.out ?_
  rintro e w5 ⟨rfl, hm⟩
  have M : Hid _ := hm
  clear hm S
  go_wp2
  go_ret
  exact ⟨rfl, M.out⟩

end Go.Proofs.YtpmkjeihbddfpabGreatDoor

