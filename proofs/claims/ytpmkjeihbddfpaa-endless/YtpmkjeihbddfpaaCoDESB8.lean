import Derived.Test.YtpmkjeihbddfpaaCoDESB7
import Derived.Lib.OwnKind
/- OUR OWN. The program's heap: the marking; add. -/
namespace Go.Proofs.Ytpmkjeihbddfpaa
open Go.RowKit
set_option linter.unusedVariables false
set_option linter.unusedSimpArgs false

theorem infoMark : (Try.prog.info? 4).map (fun i => (i.zero, i.size, i.bytes)) = some (some (.bool false), 1, 1) := by kernel_rfl

def numRow (t : List Nat) : List Value := t.map fun (n : Nat) => Value.int .i64 (n : Int)
/-- which blocks are among those that were found -/
def inM (N : Nat) (t : List Nat) : List Value := (List.range (N + 1)).map fun b => Value.bool (decide (b ∈ t))
theorem inM_get {N b : Nat} (t : List Nat) (hb : b ≤ N) : (inM N t)[b]? = some (.bool (decide (b ∈ t))) := by
  unfold inM
  rw [List.getElem?_map, List.getElem?_range (by omega)]; rfl
theorem inM_nil (N : Nat) : inM N [] = List.replicate (N + 1) (.bool false) := by
  unfold inM
  apply List.ext_getElem?
  intro i
  rw [List.getElem?_map, List.getElem?_replicate]
  by_cases h : i < N + 1
  · rw [List.getElem?_range h, if_pos h]; simp
  · rw [List.getElem?_eq_none (by simpa using h), if_neg h]; rfl
theorem inM_add {N b : Nat} (t : List Nat) (hb : b ≤ N) : (inM N t).set b (.bool true) = inM N (t ++ [b]) := by
  apply List.ext_getElem?
  intro i
  unfold inM
  rw [List.getElem?_set, List.getElem?_map, List.getElem?_map, List.length_map, List.length_range]
  by_cases h : i < N + 1
  · rw [List.getElem?_range h]
    by_cases e : b = i
    · subst e; rw [if_pos rfl, if_pos h]; simp
    · rw [if_neg e]
      have : (i ∈ t ++ [b]) ↔ i ∈ t := by simp; intro x; exact absurd x.symm e
      simp only [Option.map_some, this]
  · rw [List.getElem?_eq_none (by simpa using h)]
    by_cases e : b = i
    · omega
    · rw [if_neg e]; rfl

/-- blocks of different element types are not the same -/
theorem kinds_apart {w : World} {B B' : Nat} {e e' : TypeId} {sz sz' : Nat} {v v' : Value} {n n' : Nat} {xs xs' : List Value} (h : w.ownsRow B e sz v n xs) (h' : w.ownsRow B' e' sz' v' n' xs') (he : e ≠ e') {g : Nat} (hg : v.ownBlock = some g) : v'.ownBlock ≠ some g := fun hg' => by
  obtain ⟨c, fz, hc⟩ := Go.Lib.ownsRow_kind h g hg
  obtain ⟨c', fz', hc'⟩ := Go.Lib.ownsRow_kind h' g hg'
  rw [hc] at hc'
  simp at hc'
  exact he hc'.2.1
theorem kind_box {w : World} {B : Nat} {e e' : TypeId} {sz : Nat} {v : Value} {n : Nat} {xs : List Value} {L : Nat} {cs : Array Value} (h : w.ownsRow B e sz v n xs) (h' : w.heap[L]? = some (.cells cs e')) (he : e ≠ e') : v.ownBlock ≠ some L := fun hg => by
  obtain ⟨c, fz, hc⟩ := Go.Lib.ownsRow_kind h L hg
  rw [hc] at h'
  simp at h'
  exact he h'.2.1

/-- the marking in block x: what is marked (F), in block G; what was found (T) -/
structure MkAt (w0 : World) (N x G : Nat) (F T : List Nat) (v : Value) (W : World) : Prop where
  box : W.heap[x]? = some (.cells #[.slice (some ⟨G, 0, none⟩) (N + 1) (N + 1), v] 75)
  inn : W.ownsRow w0.heap.size 4 1 (.slice (some ⟨G, 0, none⟩) (N + 1) (N + 1)) (N + 1) (inM N F)
  found : W.ownsRow w0.heap.size 3 1 v T.length (numRow T)
  below : Below w0.heap.size w0 W
  le : w0.heap.size ≤ x
section
variable {w0 W W' : World} {N x G : Nat} {F T : List Nat} {v : Value}
theorem MkAt.on (h : MkAt w0 N x G F T v W) (hb : Below W.heap.size W W') : MkAt w0 N x G F T v W' :=
  ⟨(hb.block _ (lt_of_heap h.box)).trans h.box, own_carry h.inn fun g hg => hb.block g (own_lt h.inn hg).2, own_carry h.found fun g hg => hb.block g (own_lt h.found hg).2, h.below.trans (hb.mono h.below.size), h.le⟩
theorem MkAt.xG (h : MkAt w0 N x G F T v W) : x ≠ G := fun e => kind_box h.inn h.box (by decide) (by rw [e]; rfl)
theorem MkAt.mark (h : MkAt w0 N x G F T v W) (b : Nat) (hb : b ≤ N) : MkAt w0 N x G (F ++ [b]) T v (W.setCell ⟨G, b, none⟩ (.bool true)) := by
  have hI := own_lt h.inn (g := G) rfl
  refine ⟨by rw [hso h.xG]; exact h.box, ?_, own_carry h.found fun g hg => hso fun e => kinds_apart h.found h.inn (by decide) hg (by rw [e]; rfl), h.below.setCell hI.1 _, h.le⟩
  rw [← inM_add F hb]
  exact (h.inn.stored b _).1
/-- one more is found -/
theorem MkAt.grown (h : MkAt w0 N x G F T v W) {w' : World} {g cap b : Nat} (hown : w'.ownsRow w0.heap.size 3 1 (.slice (some ⟨g, 0, none⟩) (T.length + 1) cap) (T.length + 1) (numRow T ++ [.int .i64 b])) (hgr : W.grownBy w' v.ownBlock) :
    MkAt w0 N x G F (T ++ [b]) (.slice (some ⟨g, 0, none⟩) (T.length + 1) cap) (w'.setCell ⟨x, 1, none⟩ (.slice (some ⟨g, 0, none⟩) (T.length + 1) cap)) ∧ w'.cell? ⟨x, 1, none⟩ = some v ∧ w'.frozen? ⟨x, 1, none⟩ = false := by
  have hbx : w'.heap[x]? = some (.cells #[.slice (some ⟨G, 0, none⟩) (N + 1) (N + 1), v] 75) := by
    rw [hgr.block x (lt_of_heap h.box) (fun e => kind_box h.found h.box (by decide) e.symm)]; exact h.box
  have hinn : w'.ownsRow w0.heap.size 4 1 (.slice (some ⟨G, 0, none⟩) (N + 1) (N + 1)) (N + 1) (inM N F) := own_carry h.inn fun k hk => hgr.block k (own_lt h.inn hk).2 fun e => kinds_apart h.inn h.found (by decide) hk e.symm
  refine ⟨⟨heap_setCell_at (i := 1) hbx _, own_carry hinn fun k hk => hso fun e => kind_box hinn hbx (by decide) (by rw [hk, e]), ?_, (h.below.grown hgr h.below.size fun k hk => (own_lt h.found hk).1).setCell h.le _, h.le⟩, cell_of_heap hbx rfl, frozen_of_heap hbx⟩
  have e : numRow (T ++ [b]) = numRow T ++ [.int .i64 b] := by unfold numRow; rw [List.map_append]; rfl
  rw [e, List.length_append, List.length_singleton]
  exact own_carry hown fun k hk => hso fun e => kind_box hown hbx (by decide) (by rw [hk, e])
theorem MkAt.cell (h : MkAt w0 N x G F T v W) {b : Nat} (hb : b ≤ N) : W.cell? ⟨G, b, none⟩ = some (.bool (decide (b ∈ F))) ∧ W.frozen? ⟨G, b, none⟩ = false ∧ G < W.heap.size := by
  obtain ⟨g, cap, hv, hg, _, _, hcell, hfz⟩ := own_view (own_base h.inn (Nat.zero_le _)) (by omega)
  simp at hv
  obtain ⟨rfl, _⟩ := hv
  exact ⟨hcell b _ (inM_get F hb), hfz _, hg⟩
theorem MkAt.head (h : MkAt w0 N x G F T v W) : W.cell? ⟨x, 0, none⟩ = some (.slice (some ⟨G, 0, none⟩) (N + 1) (N + 1)) ∧ W.cell? ⟨x, 1, none⟩ = some v ∧ W.frozen? ⟨x, 1, none⟩ = false ∧ x < W.heap.size :=
  ⟨cell_of_heap h.box rfl, cell_of_heap h.box rfl, frozen_of_heap h.box, lt_of_heap h.box⟩
theorem MkAt.form (h : MkAt w0 N x G F T v W) : ∃ ao cap, v = .slice ao T.length cap := own_slice (own_base h.found (Nat.zero_le _))
theorem MkAt.at_ (h : MkAt w0 N x G F T v W) {n : Nat} (hn : n < T.length) : ∃ g cap, v = .slice (some ⟨g, 0, none⟩) T.length cap ∧ W.cell? ⟨g, n, none⟩ = some (.int .i64 (T[n] : Nat)) := by
  obtain ⟨g, cap, hv, hg, _, _, hcell, _⟩ := own_view (own_base h.found (Nat.zero_le _)) (by omega)
  refine ⟨g, cap, hv, hcell n _ ?_⟩
  unfold numRow
  rw [List.getElem?_map, List.getElem?_eq_getElem hn]; rfl
end

set_option maxHeartbeats 1600000 in
set_option maxRecDepth 10000 in
theorem add_any {w0 w : World} {N x G : Nat} {T : List Nat} {vT : Value} (M0 : MkAt w0 N x G T T vT w) (v : Value) (l : List (Int × Int)) (row : w0.ownsRow 0 52 2 v l.length (l.flatMap valCells)) (hl : l.length ≤ 100) (hN : N ≤ 99) (hT : T.length ≤ 200)
    (lead : ∀ u ∈ l, u.1 = 2 → ∃ b : Nat, u.2 = (b : Int) ∧ 1 ≤ b ∧ b ≤ N) :
    Calls Try.prog 56 #[.pointer (some ⟨x, 0, none⟩), v] w fun e w' => e = .returned (.tuple #[]) ∧ ∃ vT', MkAt w0 N x G (scanM l T) (scanM l T) vT' w' := by
  obtain ⟨ao, cap, hv⟩ := own_slice row
  have CELL : Hid (∀ wr j, Below w0.heap.size w0 wr → ∀ hj : j < l.length, ∃ lg, ao = some ⟨lg, 0, none⟩ ∧ wr.cell? ⟨lg, j * 2, none⟩ = some (.int .i64 (l[j]).1) ∧ wr.cell? ⟨lg, j * 2 + 1, none⟩ = some (.int .i64 (l[j]).2)) := fun wr j hb hj => by
    obtain ⟨g, cap', hv', hg, _, _, hcell, _⟩ := own_view row (by omega)
    rw [hv] at hv'
    simp at hv'
    refine ⟨g, hv'.1, (hb.cell (p := ⟨g, _, none⟩) hg).trans (hcell _ _ ?_), (hb.cell (p := ⟨g, _, none⟩) hg).trans (hcell _ _ ?_)⟩
    · have := flat_get valCells 2 (fun _ => rfl) l j 0 (by decide); simpa [hj, valCells] using this
    · have := flat_get valCells 2 (fun _ => rfl) l j 1 (by decide); simpa [hj, valCells] using this
  have LEAD : Hid (∀ u ∈ l, u.1 = 2 → ∃ b : Nat, u.2 = (b : Int) ∧ 1 ≤ b ∧ b ≤ N) := lead
  have SMALL : Hid (∀ j, (scanM (l.take j) T).length ≤ 400) := fun j => by
    have h1 := scanM_len (l.take j) T
    have h2 : (l.take j).length ≤ l.length := List.length_take_le' _ _
    omega
  have START : Hid (MkAt w0 N x G (scanM (l.take 0) T) (scanM (l.take 0) T) vT w) := M0
  obtain ⟨i3, hi3, hz0, hz1, hz2⟩ := info_parts infoInt
  have IN : Hid _ := And.intro hi3 (And.intro hz0 (And.intro hz1 hz2))
  obtain ⟨len, hlen⟩ : ∃ len, l.length = len := ⟨_, rfl⟩
  have LEN : Hid (l.length = len) := hlen
  subst hv
  rw [hlen] at hl ⊢
  clear row lead M0 hlen hT hi3 hz0 hz1 hz2
  go_enter Try.func56, Try.ntmps56
  go_wp2
  go_loopw [4] (fun i wr => ∃ j : Nat, j ≤ len ∧ i = .int .i64 j ∧ ∃ v, MkAt w0 N x G (scanM (l.take j) T) (scanM (l.take j) T) v wr) (fun i _ => len - (intOf i).toNat)
  case atStart => exact ⟨0, Nat.zero_le _, rfl, _, START.out⟩
  case round =>
    obtain ⟨j, hj, rfl, v, hm⟩ := hrel
    obtain ⟨t, ht⟩ : ∃ t, scanM (l.take j) T = t := ⟨_, rfl⟩
    have ht4 := SMALL.out j
    rw [ht] at hm ht4
    have M : Hid (MkAt w0 N x G t t v wr) := hm
    by_cases hlt : j < len
    · have hjl : j < l.length := by rw [LEN.out]; exact hlt
      obtain ⟨lg, rfl, c0, c1⟩ := CELL.out wr j hm.below hjl
      have NX : Hid (scanM (l.take (j + 1)) T = stepM t l[j]) := by show _ = _; rw [take_snoc l j hjl, scanM_snoc, ht]
      have LD := LEAD.out _ (List.getElem_mem hjl)
      obtain ⟨y, hy⟩ : ∃ y, l[j] = y := ⟨_, rfl⟩
      rw [hy] at c0 c1 NX LD
      obtain ⟨y1, y2⟩ := y
      simp only at c0 c1 LD
      obtain ⟨m0, m1, m2, hx⟩ := hm.head
      obtain ⟨tao, tc, hv⟩ := hm.form
      subst hv
      have hjI : (j : Int) < len := by omega
      by_cases hk : y1 = 2
      · subst hk
        obtain ⟨b, rfl, hb1, hbN⟩ := LD rfl
        obtain ⟨d0, d1, hG⟩ := hm.cell hbN
        have hbI : (b : Int) < (N : Int) + 1 := by omega
        by_cases hin : b ∈ t
        · have hd : decide (b ∈ t) = true := by simpa using hin
          rw [hd] at d0
          have E : Hid (scanM (l.take (j + 1)) T = t) := by show _ = _; rw [NX.out]; unfold stepM; rw [if_neg (fun e => e.2 (by simpa using hin))]
          clear hm hin hd NX LD hy ht SMALL LEAD CELL START
          go_wp2
          go_roundw
          case rel => exact ⟨j + 1, by omega, by go_num, _, by rw [E.out]; exact M.out⟩
          case measure => simp [intOf]; omega
        · have hd : decide (b ∈ t) = false := by simpa using hin
          rw [hd] at d0
          have E : Hid (scanM (l.take (j + 1)) T = t ++ [b]) := by show _ = _; rw [NX.out]; unfold stepM; rw [if_pos ⟨rfl, by simpa using hin⟩]; simp
          have MK : Hid (MkAt w0 N x G (t ++ [b]) t (.slice tao t.length tc) (wr.setCell ⟨G, b, none⟩ (.bool true))) := hm.mark b hbN
          obtain ⟨n0, n1, n2, _⟩ := MK.out.head
          have hszm : (wr.setCell ⟨G, b, none⟩ (.bool true)).heap.size = wr.heap.size := by simp [World.setCell]
          have hwr : w0.heap.size ≤ wr.heap.size := hm.below.size
          clear hm hin hd NX LD hy ht SMALL LEAD CELL START
          go_wp2_with (at_builtin; refine wpList_append_lies _ rfl (.tmp 42) (.tmp 44) 24 rfl w0.heap.size 3 i3 _ 1 8 Try.underlying24 IN.out.1 IN.out.2.1 IN.out.2.2.1 IN.out.2.2.2 rfl (by decide) _ _ _ rfl (MK.out.on ((Below.refl _ _).alloc (Nat.le_refl _) _)).found ⟨wr.heap.size, 0, none⟩ 1 1 [.int .i64 b] rfl rfl ?c1 ?c2 (by decide) ?c3 ?c4 ?c5 (wr.heap.size + 1) (by simp [hszm]) ?_)
          case c1 => have := news_new (wr.setCell ⟨G, b, none⟩ (.bool true)) [.int .i64 b] 3; rw [hszm] at this; exact this
          case c2 => intro u hu; simp at hu; subst hu; rfl
          case c3 => unfold maxLen; omega
          case c4 => omega
          case c5 => simp [hszm]; omega
          intro g' cap' w5 hown hgr _ _
          obtain ⟨R, hc, hf⟩ := (MK.out.on ((Below.refl _ (wr.setCell ⟨G, b, none⟩ (.bool true))).alloc (Nat.le_refl _) (.cells #[.int .i64 b] 3))).grown hown hgr
          have R5 : Hid _ := R
          clear hown hgr MK d0 d1 c0 c1 M R n0 n1 n2 m0 m1 m2
          go_wp2
          go_roundw
          case rel => exact ⟨j + 1, by omega, by go_num, _, by rw [E.out]; exact R5.out⟩
          case measure => simp [intOf]; omega
      · have hk1 : (y1 == 2) = false := by simpa using hk
        have hk2 : (y1 != 2) = true := by simp [hk]
        have E : Hid (scanM (l.take (j + 1)) T = t) := by show _ = _; rw [NX.out]; unfold stepM; rw [if_neg (fun e => hk e.1)]
        clear hm NX LD hy ht SMALL LEAD CELL START
        go_wp2
        go_roundw
        case rel => exact ⟨j + 1, by omega, by go_num, _, by rw [E.out]; exact M.out⟩
        case measure => simp [intOf]; omega
    · have hjl : l.take j = l := List.take_of_length_le (by rw [LEN.out]; omega)
      have E : Hid (scanM l T = t) := by show _ = _; rw [← ht, hjl]
      have hjI : ¬ (j : Int) < len := by omega
      clear hm ht hjl SMALL LEAD CELL START
      go_wp2
      go_end0
      exact ⟨rfl, _, by rw [E.out]; exact M.out⟩

end Go.Proofs.Ytpmkjeihbddfpaa

/- OUR OWN. The program's heap: mark. -/
namespace Go.Proofs.Ytpmkjeihbddfpaa
open Go.RowKit
set_option linter.unusedVariables false
set_option linter.unusedSimpArgs false

set_option maxHeartbeats 3200000 in
set_option maxRecDepth 10000 in
theorem mark_any {but : Int} {h : Nat} {w : World} {m : HeapM} {s : St} {c : Cf} {N : Nat} (p : HB but h w m s c N) :
    Calls Try.prog 36 #[.pointer (some ⟨h, 0, none⟩)] w fun e w' => ∃ G, e = .returned (.slice (some ⟨G, 0, none⟩) (N + 1) (N + 1)) ∧ Below w.heap.size w w' ∧ w.heap.size ≤ G ∧ HMark N G s.reachB w' := by
  have hN := p.small
  have gd := p.good
  obtain ⟨g, cap, cB, hg, hobj⟩ := p.cells
  have hh := lt_of_heap p.r.head
  obtain ⟨so, sc, hvS⟩ := own_slice p.r.stack
  obtain ⟨go, gc, hvG⟩ := own_slice p.r.globals
  have CS : Hid (∀ W, Below w.heap.size w W → W.cell? ⟨h, 4, none⟩ = some (.slice so m.stack.length sc) ∧ W.cell? ⟨h, 5, none⟩ = some (.slice go m.globals.length gc) ∧ W.cell? ⟨h, 6, none⟩ = some (.slice (some ⟨g, 0, none⟩) (N + 1) cap)) := fun W hb =>
    ⟨(hb.cell (p := ⟨h, 4, none⟩) hh).trans (by rw [p.r.cell.2.1, hvS]), (hb.cell (p := ⟨h, 5, none⟩) hh).trans (by rw [p.r.cell.2.2.1, hvG]), (hb.cell (p := ⟨h, 6, none⟩) hh).trans cB⟩
  have A1 : Hid (∀ W x G, MkAt w N x G [] [] (.slice none 0 0) W → Calls Try.prog 56 #[.pointer (some ⟨x, 0, none⟩), .slice so m.stack.length sc] W fun e w' => e = .returned (.tuple #[]) ∧ ∃ v, MkAt w N x G (scanM s.stack []) (scanM s.stack []) v w') := fun W x G M => by
    have row := p.r.stack
    rw [hvS, p.mstack] at row
    rw [p.mstack]
    exact add_any M _ s.stack row (by have := p.stack; omega) hN (by simp) (fun u hu h2 => leadM gd (gd.stack u hu) h2)
  have A2 : Hid (∀ W x G v, MkAt w N x G (scanM s.stack []) (scanM s.stack []) v W → Calls Try.prog 56 #[.pointer (some ⟨x, 0, none⟩), .slice go m.globals.length gc] W fun e w' => e = .returned (.tuple #[]) ∧ ∃ v, MkAt w N x G (scanM s.globals (scanM s.stack [])) (scanM s.globals (scanM s.stack [])) v w') := fun W x G v M => by
    have row := p.r.globals
    rw [hvG, p.mglobals] at row
    rw [p.mglobals]
    have := scanM_len s.stack []
    exact add_any M _ s.globals row (by have := p.globals; omega) hN (by have := p.stack; simp only [List.length_nil] at *; omega) (fun u hu h2 => leadM gd (gd.globals u hu) h2)
  have F0 : Hid (FoundM s 0 (scanM s.globals (scanM s.stack []))) := foundM_start gd
  have FS : Hid (∀ n T, FoundM s n T → T.length ≤ N ∧ n ≤ T.length) := fun n T f => ⟨f.small gd, f.le⟩
  have A3 : Hid (∀ wr x G n T v, FoundM s n T → MkAt w N x G T T v wr → ∀ hn : n < T.length, ∃ b ao fl fc, T[n] = b ∧ b ≤ N ∧ fl ≤ 4 ∧ wr.cell? ⟨g, b * 3 + 2, none⟩ = some (.slice ao fl fc) ∧
      Calls Try.prog 56 #[.pointer (some ⟨x, 0, none⟩), .slice ao fl fc] wr fun e w' => e = .returned (.tuple #[]) ∧ ∃ T' v', FoundM s (n + 1) T' ∧ MkAt w N x G T' T' v' w') := fun wr x G n T v f M hn => by
    have hb := f.range gd (List.getElem_mem hn)
    obtain ⟨o, ao, fl, fc, ho, hvF, hfl, _, _, c2⟩ := hobj T[n] hb.2
    have hob := p.ob ho
    have hfs : (s.ob T[n]).fs = o.fs := by rw [hob]; rfl
    have h4 := gd.four T[n]
    rw [hfs] at h4
    refine ⟨T[n], ao, fl, fc, rfl, hb.2, by omega, (M.below.cell (p := ⟨g, _, none⟩) hg).trans c2, ?_⟩
    have row := p.r.fields o (List.mem_of_getElem? ho)
    rw [hvF, hfl] at row
    rw [hfl]
    refine (add_any M _ o.fs row (by omega) hN (by have := f.small gd; omega) (fun u hu h2 => leadM gd (gd.fields T[n] u (by rw [hfs]; exact hu)) h2)).mono ?_
    rintro e w' ⟨he, v', hm⟩
    have := foundM_next gd f (List.getElem?_eq_getElem hn)
    rw [hfs] at this
    exact ⟨he, _, v', this, hm⟩
  have FE : Hid (∀ wr x G n T v, FoundM s n T → MkAt w N x G T T v wr → ¬ n < T.length → Below w.heap.size w wr ∧ w.heap.size ≤ G ∧ HMark N G s.reachB wr) := fun wr x G n T v f M hn => by
    have hle := f.le
    obtain rfl : n = T.length := by omega
    refine ⟨M.below, (own_lt M.inn (g := G) rfl).1, ?_⟩
    have e : inM N T = (List.range (N + 1)).map fun b => Value.bool (s.reachB b) := by
      unfold inM
      refine List.map_congr_left fun b hb => ?_
      rw [foundM_end gd f b]
    have := own_base M.inn (Nat.zero_le _)
    rw [e] at this
    exact this
  have mk1 := run_make_one (P := Try.prog) 61 4 (.bool false) 1 Try.underlying61 infoMark rfl .i64 .i64 (N + 1) (by omega) (by omega)
  simp only [Int.natCast_add, Int.natCast_one, Nat.mul_one] at mk1
  have OM := own_made_one w 4 (.bool false) (N + 1) (by omega)
  simp only [Nat.mul_one] at OM
  have OMH : Hid _ := OM
  obtain ⟨nst, hnst⟩ : ∃ n, m.stack.length = n := ⟨_, rfl⟩
  obtain ⟨ngl, hngl⟩ : ∃ n, m.globals.length = n := ⟨_, rfl⟩
  rw [hnst] at CS A1
  rw [hngl] at CS A2
  have cB := (CS.out w (Below.refl _ _)).2.2
  have cS1 := (CS.out w (Below.refl _ _)).1
  have al2 : ∀ (ob ob' : Obj), ((w.alloc ob).alloc ob').cell? ⟨h, 4, none⟩ = w.cell? ⟨h, 4, none⟩ := fun ob ob' => (World.cell?_of_block (hao (by simp; omega))).trans (World.cell?_of_block (hao hh))
  have hne1 : ¬ h = w.heap.size + 1 := by omega
  have hne2 : ¬ w.heap.size + 1 = h := by omega
  clear p gd hobj hvS hvG OM hnst hngl
  go_enter Try.func36, Try.ntmps36
  go_wp2_with fail
  have M0 : MkAt w N (w.heap.size + 1) w.heap.size [] [] (.slice none 0 0) ((w.alloc (.cells (madeCells #[.bool false] (N + 1)) 4)).alloc (.cells #[.slice (some ⟨w.heap.size, 0, none⟩) (N + 1) (N + 1), .slice none 0 0] 75)) := by
    refine ⟨?_, ?_, World.ownsRow_nil _ _ _ _, ((Below.refl _ _).alloc (Nat.le_refl _) _).alloc (by simp) _, by omega⟩
    · have := heap_alloc_new (w.alloc (.cells (madeCells #[.bool false] (N + 1)) 4)) (.cells #[.slice (some ⟨w.heap.size, 0, none⟩) (N + 1) (N + 1), .slice none 0 0] 75)
      simpa using this
    · rw [inM_nil]
      exact own_carry OMH.out fun k hk => by
        have : k = w.heap.size := by simpa [Value.ownBlock, eq_comm] using hk
        exact hao (by simp; omega)
  have C1 : Hid _ := A1.out _ _ _ M0
  clear M0 OMH al2 mk1 cS1 cB hne1 hne2 A1
  refine Calls.mono C1.out ?_
  rintro e w1 ⟨rfl, v1, hm⟩
  obtain ⟨_, cG, cB⟩ := CS.out w1 hm.below
  have C2 : Hid _ := A2.out w1 _ _ v1 hm
  clear hm C1 A2
  go_wp2_with fail
  refine Calls.mono C2.out ?_
  rintro e w2 ⟨rfl, v2, hm⟩
  have I0 : Hid (∃ T v, FoundM s 0 T ∧ MkAt w N (w.heap.size + 1) w.heap.size T T v w2) := ⟨_, v2, F0.out, hm⟩
  clear hm C2 cG cB F0
  go_wp2
  go_loopw [4] (fun i wr => ∃ n : Nat, i = .int .i64 n ∧ ∃ T v, FoundM s n T ∧ MkAt w N (w.heap.size + 1) w.heap.size T T v wr) (fun i _ => N + 1 - (intOf i).toNat)
  case atStart => exact ⟨0, rfl, I0.out⟩
  case round =>
    obtain ⟨n, rfl, T, v, hf, hm⟩ := hrel
    obtain ⟨hTN, hnT⟩ := FS.out n T hf
    obtain ⟨x0, x1, x2, hx⟩ := hm.head
    obtain ⟨_, _, cB⟩ := CS.out wr hm.below
    by_cases hlt : n < T.length
    · obtain ⟨tg, tc, hv, ct⟩ := hm.at_ hlt
      obtain ⟨b, ao, fl, fc, hb, hbN, hfl, cF, hc⟩ := A3.out wr _ _ n T v hf hm hlt
      have C3 : Hid _ := hc
      rw [hb] at ct
      rw [hv] at x1
      obtain ⟨tl, htl⟩ : ∃ tl, T.length = tl := ⟨_, rfl⟩
      rw [htl] at x1 hTN hlt
      have hnI : (n : Int) < tl := by omega
      have hbI : (b : Int) < (N : Int) + 1 := by omega
      clear hf hm hc hv hb htl hnT x0 x2 I0
      go_wp2_with fail
      refine Calls.mono C3.out ?_
      rintro e w3 ⟨rfl, T', v', hf, hm⟩
      have K : Hid (∃ T v, FoundM s (n + 1) T ∧ MkAt w N (w.heap.size + 1) w.heap.size T T v w3) := ⟨T', v', hf, hm⟩
      clear hf hm C3 x1 ct cF cB
      go_wp2
      go_roundw
      case rel => exact ⟨n + 1, by go_num, K.out⟩
      case measure => simp [intOf]; omega
    · have E : Hid _ := FE.out wr _ _ n T v hf hm hlt
      obtain ⟨tao, tc, hv⟩ := hm.form
      obtain rfl : n = T.length := by omega
      rw [hv] at x1
      obtain ⟨tl, htl⟩ : ∃ tl, T.length = tl := ⟨_, rfl⟩
      rw [htl] at x1 hTN ⊢
      clear hf hm hv htl hnT x2 I0 cB hlt
      go_wp2
      go_ret
      exact ⟨_, rfl, E.out⟩

end Go.Proofs.Ytpmkjeihbddfpaa

/- OUR OWN. The program's heap: Collect. -/
namespace Go.Proofs.Ytpmkjeihbddfpaa
open Go.RowKit
set_option linter.unusedVariables false
set_option linter.unusedSimpArgs false

theorem hfoot_lt {w : World} {h : Nat} {m : HeapM} (r : HeapAt w h m) {G : Nat} (hG : w.heap.size ≤ G) : G ∉ h :: m.foot := fun e => by have := r.lt G e; omega

set_option maxHeartbeats 1600000 in
theorem collect_hb {h : Nat} {w : World} {m : HeapM} {s : St} {c : Cf} {N : Nat} (p : HB 0 h w m s c N) :
    Calls Try.prog 15 #[.pointer (some ⟨h, 0, none⟩)] w fun e w' => e = .returned (.int .i64 s.gone) ∧ ∃ m', HTurn h w m w' m' ∧ HB 0 h w' m' (s.collect c.over) c N := by
  have hN := p.small
  have gs := p.good.swept
  have hsN := p.good.sN
  have MARK : Hid (Calls Try.prog 36 #[.pointer (some ⟨h, 0, none⟩)] w fun e w' => ∃ G, e = .returned (.slice (some ⟨G, 0, none⟩) (N + 1) (N + 1)) ∧ Below w.heap.size w w' ∧ w.heap.size ≤ G ∧ HMark N G s.reachB w') := mark_any p
  have gone : countTo (m.goes s.reachB) N = s.gone := by
    unfold St.gone
    rw [hsN]
    refine countTo_congr fun b h1 h2 => ?_
    have hb : b < m.blks.length := by rw [p.len]; omega
    have ho : m.blks[b]? = some m.blks[b] := List.getElem?_eq_getElem hb
    rw [goes_at ho, p.ob ho]
    rfl
  have SWEEP : Hid (∀ w1 G, Below w.heap.size w w1 → w.heap.size ≤ G → HMark N G s.reachB w1 → Calls Try.prog 37 #[.pointer (some ⟨h, 0, none⟩), .slice (some ⟨G, 0, none⟩) (N + 1) (N + 1)] w1 fun e w2 => e = .returned (.int .i64 s.gone) ∧
      Calls Try.prog 38 #[.pointer (some ⟨h, 0, none⟩)] w2 fun e w3 => e = .returned (.tuple #[]) ∧
      Calls Try.prog 39 #[.pointer (some ⟨h, 0, none⟩)] w3 fun e w4 => e = .returned (.tuple #[]) ∧ ∃ m', HTurn h w m w4 m' ∧ HB 0 h w4 m' (s.collect c.over) c N) := fun w1 G hb hG mk => by
    have q := p.below hb
    have S := sweep_any (h := h) ⟨q.r, q.len, hN, by rw [q.mqueue]; have := q.good.queue_len; omega⟩ s.reachB mk (fun e => by have := p.r.lt G e; omega)
    rw [gone] at S
    refine S.mono ?_
    rintro e w2 ⟨he, v, t1⟩
    refine ⟨he, ?_⟩
    have fs1 : ∀ (i : Nat) (o : HObj), ((m.upTo (sweepF s.reachB) N).noQueue v).blks[i]? = some o → 1 ≤ i → (s.swept.ob i).fs = o.fs := fun i o ho h1 => by
      rw [noQueue_blks, upTo_get] at ho
      cases hm : m.blks[i]? with
      | none => rw [hm] at ho; cases ho
      | some o0 =>
        have hl := (List.getElem?_eq_some_iff.1 hm).1
        rw [p.len] at hl
        rw [hm, Option.map_some, if_pos (by omega)] at ho
        have ho := Option.some.inj ho
        rw [← (zero_ob p.hs p.good hm h1).1, ← ho]
        rfl
    have len1 : ((m.upTo (sweepF s.reachB) N).noQueue v).blks.length = N + 1 := by rw [noQueue_blks, upTo_len]; exact p.len
    refine (recount_any (t := s.swept) ⟨t1.here, len1, hN, gs, fs1⟩).mono ?_
    rintro e w3 ⟨he, t2⟩
    refine ⟨he, ?_⟩
    have cnt : ∀ (i : Nat) (o : HObj), ((((m.upTo (sweepF s.reachB) N).noQueue v).upTo zeroF N).upTo (cntF fun i => s.swept.count i) N).blks[i]? = some o → 1 ≤ i → o.count = ((s.swept.count i : Nat) : Int) := fun i o ho h1 => by
      have hl := (List.getElem?_eq_some_iff.1 ho).1
      rw [upTo_len, upTo_len, len1] at hl
      rw [upTo_get] at ho
      cases hm : ((((m.upTo (sweepF s.reachB) N).noQueue v).upTo zeroF N)).blks[i]? with
      | none => rw [hm] at ho; cases ho
      | some o0 =>
        rw [hm, Option.map_some, if_pos (by omega)] at ho
        have ho := Option.some.inj ho
        rw [← ho]; rfl
    have hov : ((((m.upTo (sweepF s.reachB) N).noQueue v).upTo zeroF N).upTo (cntF fun i => s.swept.count i) N).over = c.over := p.hs.over
    refine (handOut_any (fun i => s.swept.count i) t2.here (by rw [upTo_len, upTo_len]; exact len1) hN cnt (by rw [hov]; exact p.cf.over)).mono ?_
    rintro e w4 ⟨he, t3⟩
    refine ⟨he, m.collected s N c.over v, ?_⟩
    rw [hov] at t3
    have T : HTurn h w m w4 (m.collected s N c.over v) := (HTurn.of_below p.r hb).trans (t1.trans (t2.trans t3))
    exact ⟨T, T.here, collected_hs p.hs p.good v, p.good.collect c.over, p.cf, p.small, p.stack, p.globals⟩
  clear p gs hsN gone
  go_enter Try.func15, Try.ntmps15
  go_wp2_with fail
  refine Calls.mono MARK.out ?_
  rintro e w1 ⟨G, rfl, hb, hG, mk⟩
  have SW : Hid _ := SWEEP.out w1 G hb hG mk
  clear hb hG mk MARK SWEEP
  go_wp2_with fail
  refine Calls.mono SW.out ?_
  rintro e w2 ⟨rfl, h2⟩
  have R : Hid _ := h2
  clear h2 SW
  go_wp2_with fail
  refine Calls.mono R.out ?_
  rintro e w3 ⟨rfl, h3⟩
  have X : Hid _ := h3
  clear h3 R
  go_wp2_with fail
  refine Calls.mono X.out ?_
  rintro e w4 ⟨rfl, hm⟩
  have M : Hid _ := hm
  clear hm X
  go_wp2
  go_ret
  exact ⟨rfl, M.out⟩

theorem coll_pact : CollPact HS := by
  intro x N w hm s c hat hs g cf hN h16 h8
  refine (collect_hb ⟨hat, hs, g, cf, hN, h16, h8⟩).mono ?_
  rintro e w' ⟨he, m', t, q⟩
  exact ⟨he, m', t, q.hs⟩

end Go.Proofs.Ytpmkjeihbddfpaa

/- OUR OWN. The program's heap: blockToFill. -/
namespace Go.Proofs.Ytpmkjeihbddfpaa
open Go.RowKit
set_option linter.unusedVariables false
set_option linter.unusedSimpArgs false

theorem freeBlock_st {h N : Nat} {w : World} {m : HeapM} {s : St} {c : Cf} (p : HB 0 h w m s c N) :
    Calls Try.prog 59 #[.pointer (some ⟨h, 0, none⟩)] w fun e w' => w' = w ∧ ((∃ k : Nat, free? s = some k ∧ e = .returned (.int .i64 ((k : Int) + 1))) ∨ (free? s = none ∧ e = .returned (.int .i64 0))) := by
  have stOf : ∀ {j : Nat} {o : HObj}, m.blks[j]? = some o → (s.ob j).here = decide (o.state ≠ 0) := fun ho => by rw [p.ob ho]; rfl
  refine (freeBlock_any p.r p.len p.small).mono ?_
  rintro e w' ⟨v, rfl, hs, rfl⟩
  refine ⟨rfl, ?_⟩
  cases hk : free? s with
  | none =>
    refine .inr ⟨rfl, ?_⟩
    rcases hs with ⟨rfl, _⟩ | ⟨k, hkN, rfl, ⟨o, ho, h0⟩, _⟩
    · rfl
    · obtain ⟨k', hk'⟩ := free_exists (s := s) (b := k + 1) (by omega) (by rw [p.good.len]; omega) (by rw [stOf ho]; simp [h0])
      rw [hk] at hk'; cases hk'
  | some k =>
    obtain ⟨hkl, hkf, hkt⟩ := free_iff hk
    have hkN : k < N := by rw [p.good.len] at hkl; omega
    refine .inl ⟨k, rfl, ?_⟩
    rcases hs with ⟨_, hs⟩ | ⟨k', hk', rfl, ⟨o1, ho1, hf1⟩, hs⟩
    · obtain ⟨o, ho, ht⟩ := hs k hkN
      rw [stOf ho] at hkf; simp at hkf; exact absurd hkf ht
    · have : k' = k := by
        rcases Nat.lt_trichotomy k' k with e | e | e
        · have := hkt k' e
          rw [stOf ho1] at this; simp at this; exact absurd hf1 this
        · exact e
        · obtain ⟨o, ho, ht⟩ := hs k e
          rw [stOf ho] at hkf; simp at hkf; exact absurd hkf ht
      rw [this]

theorem room_of_none {c : Cf} {s : St} (hk : free? s = none) (hq : s.queue.length = 0) : roomS c s = s.collect c.over := by unfold roomS; rw [hk]; exact if_neg (by omega)

set_option maxHeartbeats 800000 in
theorem fill_says {h N : Nat} {w : World} {m : HeapM} {s : St} {c : Cf} (p : HB 0 h w m s c N) : FillSays h N w m s c := by
  intro W hb
  have q := p.below hb
  cases hk : free? s with
  | some k =>
    have e : roomS c s = s := room_of_free hk
    rw [e]
    have F : Hid (Calls Try.prog 59 #[.pointer (some ⟨h, 0, none⟩)] W fun e w' => w' = W ∧ e = .returned (.int .i64 ((k : Int) + 1))) := (freeBlock_st q).mono fun e w' ⟨h1, h2⟩ => ⟨h1, by
      rcases h2 with ⟨k', h3, h4⟩ | ⟨h3, _⟩
      · rw [hk] at h3; cases h3; exact h4
      · rw [hk] at h3; cases h3⟩
    have K : Hid (∃ m', HTurn h W m W m' ∧ HB 0 h W m' s c N ∧ ((∃ k' : Nat, free? s = some k' ∧ (Ending.returned (.int .i64 ((k : Int) + 1))) = .returned (.int .i64 ((k' : Int) + 1))) ∨ (free? s = none ∧ (Ending.returned (.int .i64 ((k : Int) + 1))) = .returned (.int .i64 0)))) := ⟨m, .refl q.r, q, .inl ⟨k, hk, rfl⟩⟩
    have hk0 : ((k : Int) + 1 == 0) = false := by simp; omega
    have hk1 : ¬ ((k : Int) + 1 = 0) := by omega
    have hk2 : ((k : Int) + 1 != 0) = true := by simp; omega
    clear p e hk q hb
    go_enter Try.func42, Try.ntmps42
    go_wp2_with fail
    refine Calls.mono F.out ?_
    rintro e w1 ⟨hw, rfl⟩
    subst hw
    clear F
    go_wp2
    go_ret
    exact K.out
  | none =>
    have F : Hid (Calls Try.prog 59 #[.pointer (some ⟨h, 0, none⟩)] W fun e w' => w' = W ∧ e = .returned (.int .i64 0)) := (freeBlock_st q).mono fun e w' ⟨h1, h2⟩ => ⟨h1, by
      rcases h2 with ⟨k', h3, h4⟩ | ⟨_, h4⟩
      · rw [hk] at h3; cases h3
      · exact h4⟩
    obtain ⟨ao, qc, hvQ⟩ := win_slice q.r.queue
    have cQ : W.cell? ⟨h, 7, none⟩ = some (.slice ao s.queue.length qc) := by rw [q.r.cell.2.2.2.2.1, hvQ, q.mqueue]
    have hql : s.queue.length ≤ 100 := by have := p.good.queue_len; have := p.small; omega
    -- what freeBlock answers behind either
    have LAST : ∀ (w1 : World) (m1 : HeapM) (S : St), HTurn h W m w1 m1 → HB 0 h w1 m1 S c N → Calls Try.prog 59 #[.pointer (some ⟨h, 0, none⟩)] w1 fun e w2 => (∃ v, e = .returned (.int .i64 v)) ∧
        ∃ m', HTurn h W m w2 m' ∧ HB 0 h w2 m' S c N ∧ ((∃ k : Nat, free? S = some k ∧ e = .returned (.int .i64 ((k : Int) + 1))) ∨ (free? S = none ∧ e = .returned (.int .i64 0))) := fun w1 m1 S t1 q1 => by
      refine (freeBlock_st q1).mono ?_
      rintro e w2 ⟨rfl, h2⟩
      refine ⟨?_, m1, t1, q1, h2⟩
      rcases h2 with ⟨k, _, h4⟩ | ⟨_, h4⟩
      · exact ⟨_, h4⟩
      · exact ⟨_, h4⟩
    by_cases hq : s.queue.length = 0
    · rw [room_of_none hk hq]
      have FF : Hid (Calls Try.prog 15 #[.pointer (some ⟨h, 0, none⟩)] W fun e w1 => (∃ v, e = .returned (.int .i64 v)) ∧ Calls Try.prog 59 #[.pointer (some ⟨h, 0, none⟩)] w1 fun e w2 => (∃ v, e = .returned (.int .i64 v)) ∧
          ∃ m', HTurn h W m w2 m' ∧ HB 0 h w2 m' (s.collect c.over) c N ∧ ((∃ k : Nat, free? (s.collect c.over) = some k ∧ e = .returned (.int .i64 ((k : Int) + 1))) ∨ (free? (s.collect c.over) = none ∧ e = .returned (.int .i64 0)))) := by
        refine (collect_hb q).mono ?_
        rintro e w1 ⟨he, m1, t1, q1⟩
        exact ⟨⟨_, he⟩, LAST w1 m1 _ t1 q1⟩
      rw [hq] at cQ
      clear p hk q hb hvQ hql LAST hq
      go_enter Try.func42, Try.ntmps42
      go_wp2_with fail
      refine Calls.mono F.out ?_
      rintro e w1 ⟨hw, rfl⟩
      subst hw
      clear F
      go_wp2_with fail
      refine Calls.mono FF.out ?_
      rintro e w2 ⟨⟨u, rfl⟩, h2⟩
      have H2 : Hid _ := h2
      clear h2 FF cQ
      go_wp2_with fail
      refine Calls.mono H2.out ?_
      rintro e w3 ⟨⟨v, rfl⟩, hm⟩
      have M : Hid _ := hm
      clear hm H2
      go_wp2
      go_ret
      exact M.out
    · have e : roomS c s = s.free c.zero := by unfold roomS; rw [hk]; exact if_pos (by omega)
      rw [e]
      have FF : Hid (Calls Try.prog 35 #[.pointer (some ⟨h, 0, none⟩)] W fun e w1 => e = .returned (.tuple #[]) ∧ Calls Try.prog 59 #[.pointer (some ⟨h, 0, none⟩)] w1 fun e w2 => (∃ v, e = .returned (.int .i64 v)) ∧
          ∃ m', HTurn h W m w2 m' ∧ HB 0 h w2 m' (s.free c.zero) c N ∧ ((∃ k : Nat, free? (s.free c.zero) = some k ∧ e = .returned (.int .i64 ((k : Int) + 1))) ∨ (free? (s.free c.zero) = none ∧ e = .returned (.int .i64 0)))) := by
        refine (freeFirst_any q hq).mono ?_
        rintro e w1 ⟨he, m1, t1, q1⟩
        exact ⟨he, LAST w1 m1 _ t1 q1⟩
      obtain ⟨ql, hqle⟩ : ∃ ql, s.queue.length = ql := ⟨_, rfl⟩
      rw [hqle] at cQ hq hql
      have hqI : (0 : Int) < ql := by omega
      clear p e hk q hb hvQ hqle LAST
      go_enter Try.func42, Try.ntmps42
      go_wp2_with fail
      refine Calls.mono F.out ?_
      rintro e w1 ⟨hw, rfl⟩
      subst hw
      clear F
      go_wp2_with fail
      refine Calls.mono FF.out ?_
      rintro e w2 ⟨rfl, h2⟩
      have H2 : Hid _ := h2
      clear h2 FF cQ
      go_wp2_with fail
      refine Calls.mono H2.out ?_
      rintro e w3 ⟨⟨v, rfl⟩, hm⟩
      have M : Hid _ := hm
      clear hm H2
      go_wp2
      go_ret
      exact M.out

end Go.Proofs.Ytpmkjeihbddfpaa

/- OUR OWN. The program's heap: store; what an operation's parts do, as the document's state. -/
namespace Go.Proofs.Ytpmkjeihbddfpaa
open Go.RowKit
set_option linter.unusedVariables false
set_option linter.unusedSimpArgs false

def HDone (h N : Nat) (w : World) (m : HeapM) (c : Cf) (r : St × Int × Int) (e : Ending) (w' : World) : Prop := e = .returned (.int .i64 r.2.2) ∧ ∃ m', HTurn h w m w' m' ∧ HS m' r.1 c N
def HDone2 (h N : Nat) (w : World) (m : HeapM) (c : Cf) (r : St × Int × Int) (e : Ending) (w' : World) : Prop := e = .returned (.tuple #[.int .i64 r.2.1, .int .i64 r.2.2]) ∧ ∃ m', HTurn h w m w' m' ∧ HS m' r.1 c N

/-- the blocks are as they were: so are the counts -/
theorem HStep.hs {h N : Nat} {w w' : World} {m m' : HeapM} {s : St} {c : Cf} (a : HStep h N w m w' m') (p : HSb 0 m s c N) {t : St} (ht : m'.st = t) : HS m' t c N := by
  have hr := a.rest
  unfold HeapM.rest at hr
  simp only [Prod.mk.injEq] at hr
  obtain ⟨h1, h6, h2, h3, h4, h5⟩ := hr
  refine ⟨ht, h1.trans p.deep, h2.trans p.zero, h3.trans p.over, h6.trans p.budget, by rw [h4]; exact p.state, fun i o hi hs => ?_⟩
  rw [h4] at hi
  rw [p.cnt i o hi hs]
  have : t.count i = s.count i := by
    unfold St.count
    rw [← ht, ← p.st]
    unfold HeapM.st
    simp only
    rw [h4]
  rw [this]
theorem HDid.done {h N : Nat} {w w' : World} {m : HeapM} {s : St} {c : Cf} {r : St × Int × Int} {e : Ending} (p : HSb 0 m s c N) (d : HDid h N w m r e w') : HDone h N w m c r e w' := by
  obtain ⟨he, m', hs, hm⟩ := d
  exact ⟨he, m', hs.turn, hs.hs p hm⟩
theorem HDid2.done {h N : Nat} {w w' : World} {m : HeapM} {s : St} {c : Cf} {r : St × Int × Int} {e : Ending} (p : HSb 0 m s c N) (d : HDid2 h N w m r e w') : HDone2 h N w m c r e w' := by
  obtain ⟨he, m', hs, hm⟩ := d
  exact ⟨he, m', hs.turn, hs.hs p hm⟩

theorem new_done {h N : Nat} {w : World} {m : HeapM} {s : St} {c : Cf} (p : HB 0 h w m s c N) (n : Int) :
    Calls Try.prog 20 #[.pointer (some ⟨h, 0, none⟩), .int .i64 n] w (HDone h N w m c (newS c s n)) := by
  by_cases h1 : n < 0 ∨ 4 < n
  · have e : newS c s n = (s, 0, 6) := by unfold newS; exact if_pos h1
    rw [e]
    exact (hnew_index n h1).mono fun e w' ⟨he, hw⟩ => ⟨he, m, by rw [hw]; exact .refl p.r, p.hs⟩
  by_cases h2 : c.deep ≤ s.stack.length
  · have e : newS c s n = (s, 0, 7) := by unfold newS; exact (if_neg h1).trans (if_pos h2)
    rw [e]
    exact (hnew_deep p.r n (by omega) (by omega) (by rw [p.hs.deep, p.mstack]; exact h2)).mono fun e w' ⟨he, hb⟩ => ⟨he, m, .of_below p.r hb, p.hs⟩
  obtain ⟨j, rfl⟩ : ∃ j : Nat, n = j := ⟨n.toNat, by omega⟩
  exact (hnew_do p j (by omega) (by omega) (fill_says p)).mono fun e w' ⟨he, m', ht, hs⟩ => ⟨he, m', ht, hs⟩

theorem HB.of_step {h N : Nat} {w w' : World} {m m' : HeapM} {s t : St} {c : Cf} (p : HB 0 h w m s c N) (a : HStep h N w m w' m') (ht : m'.st = t) (g : t.Good N) : HB 0 h w' m' t c N :=
  ⟨a.turn.here, a.hs p.hs ht, g, p.cf, p.small, by have := a.ok.stack; rw [← ht]; exact this, by have := a.ok.globals; rw [← ht]; exact this⟩

set_option maxHeartbeats 1600000 in
theorem store_done {h N : Nat} {w : World} {m : HeapM} {s : St} {c : Cf} (p : HB 0 h w m s c N) (n : Int) :
    Calls Try.prog 26 #[.pointer (some ⟨h, 0, none⟩), .int .i64 n] w (HDone h N w m c (storeS c s n)) := by
  obtain ⟨ao, cap, cS⟩ := p.pre.stackCell
  have hl := p.pre.ok.stack
  have hms := p.mstack
  by_cases hc : m.stack.length < 2
  · have e : storeS c s n = (s, 0, 3) := by unfold storeS; exact if_pos (by rw [← hms]; exact hc)
    rw [e]
    have K : Hid (∃ m', HTurn h w m w m' ∧ HS m' s c N) := ⟨m, .refl p.r, p.hs⟩
    obtain ⟨len, hlen⟩ : ∃ len, m.stack.length = len := ⟨_, rfl⟩
    rw [hlen] at hc cS hl
    clear p hlen e hms
    have hcI : (len : Int) < 2 := by omega
    go_enter Try.func26, Try.ntmps26
    go_wp2
    go_ret
    exact ⟨rfl, K.out⟩
  have hst := p.hs.st
  have hcs : ¬ s.stack.length < 2 := by rw [← hms]; exact hc
  have D0 : Hid _ := hdown_do p.pre 0 (by omega)
  have D1 : Hid (∀ W, Below w.heap.size w W → Calls Try.prog 44 #[.pointer (some ⟨h, 0, none⟩), .int .i64 1] W fun e w' => e = .returned (.agg #[.int .i64 (m.st.down 1).1, .int .i64 (m.st.down 1).2]) ∧ Below W.heap.size W w') := fun W hb => hdown_do (p.pre.below hb) 1 (by show 1 < m.stack.length; omega)
  have K : Hid (∀ W, Below w.heap.size w W → ∃ m', HTurn h w m W m' ∧ HS m' s c N) := fun W hb => ⟨m, .of_below p.r hb, p.hs⟩
  have hv := p.pre.inv.down 1
  have CK : Hid (∀ W, Below w.heap.size w W → Calls Try.prog 46 #[.pointer (some ⟨h, 0, none⟩), .agg #[.int .i64 (m.st.down 1).1, .int .i64 (m.st.down 1).2], .int .i64 n] W fun e w' => e = .returned (.int .i64 (fieldErr m.st (m.st.down 1) n)) ∧ Below W.heap.size W w') := fun W hb => checkField_any h N W m (p.pre.below hb) _ n hv
  rw [hst] at D0 D1 CK hv
  have hcI0 : ¬ (m.stack.length : Int) < 2 := by omega
  by_cases he : fieldErr s (s.down 1) n ≠ 0
  · rw [storeS_err hcs he]
    obtain ⟨len, hlen⟩ : ∃ len, m.stack.length = len := ⟨_, rfl⟩
    rw [hlen] at cS hcI0 hl
    obtain ⟨er, her⟩ : ∃ er, fieldErr s (s.down 1) n = er := ⟨_, rfl⟩
    rw [her] at he CK ⊢
    obtain ⟨x, hx⟩ : ∃ x, s.down 0 = x := ⟨_, rfl⟩
    rw [hx] at D0
    obtain ⟨q, hq⟩ : ∃ q, s.down 1 = q := ⟨_, rfl⟩
    rw [hq] at D1 CK
    obtain ⟨x1, x2⟩ := x
    obtain ⟨q1, q2⟩ := q
    have he2 : (er == 0) = false := by simpa using he
    clear p hlen hx hq hv her hc hms hst hcs
    go_enter Try.func26, Try.ntmps26
    go_wp2_with fail
    refine Calls.mono D0.out ?_
    rintro e w1 ⟨rfl, hb⟩
    have B : Hid (Below w.heap.size w w1) := hb
    clear hb D0
    go_wp2_with fail
    refine Calls.mono (D1.out _ (B.out.alloc B.out.size _)) ?_
    rintro e w2 ⟨rfl, hb⟩
    have B2 : Hid (Below w.heap.size w w2) := (B.out.alloc B.out.size _).trans (hb.mono (by simp; have := B.out.size; omega))
    clear hb D1
    go_wp2_with fail
    refine Calls.mono (CK.out _ (B2.out.alloc B2.out.size _)) ?_
    rintro e w3 ⟨rfl, hb⟩
    have B3 : Hid (Below w.heap.size w w3) := (B2.out.alloc B2.out.size _).trans (hb.mono (by simp; have := B2.out.size; omega))
    clear hb CK
    go_wp2
    go_ret
    exact ⟨rfl, K.out _ B3.out⟩
  have he : fieldErr s (s.down 1) n = 0 := by omega
  obtain ⟨ho, hn0, hnl⟩ := field_ok he
  obtain ⟨k, rfl⟩ : ∃ k : Nat, n = k := ⟨n.toNat, by omega⟩
  obtain ⟨hq1, hq2⟩ := ref_of hv ho
  obtain ⟨i, hi⟩ : ∃ i : Nat, (s.down 1).2 = i := ⟨(s.down 1).2.toNat, by omega⟩
  have hkf : k < (s.ob i).fs.length := by
    have : s.fields (s.down 1).2 = (s.ob i).fs := by unfold St.fields; rw [hi, Int.toNat_natCast]
    rw [this] at hnl; omega
  have e : storeS c s k = (putS c (s.pop 2) i k (s.down 0) (((s.pop 2).ob i).fs.getD k (0, 0)), 0, 0) := by
    unfold storeS
    refine (if_neg hcs).trans ((if_neg (by omega)).trans ((if_neg (by omega)).trans ?_))
    unfold St.fields
    rw [hi, Int.toNat_natCast, Int.toNat_natCast]
    rfl
  rw [e]
  have AFTER : Hid (∀ W, Below w.heap.size w W → Calls Try.prog 45 #[.pointer (some ⟨h, 0, none⟩), .int .i64 2] W fun e w' => e = .returned (.tuple #[]) ∧
      (∀ L ob, w.heap.size ≤ L → W.heap[L]? = some ob → w'.heap[L]? = some ob) ∧
      Calls Try.prog 47 #[.pointer (some ⟨h, 0, none⟩), .int .i64 i, .int .i64 k, .agg #[.int .i64 (s.down 0).1, .int .i64 (s.down 0).2]] w' fun e w2 => e = .returned (.tuple #[]) ∧
        ∃ m', HTurn h w m w2 m' ∧ HS m' (putS c (s.pop 2) i k (s.down 0) (((s.pop 2).ob i).fs.getD k (0, 0))) c N) := by
    intro W hb
    refine (hpop_do (p.pre.below hb) 2 (by omega) (by omega)).mono ?_
    rintro e w' ⟨he, v', hs⟩
    have s1 : HStep h N w m w' _ := (HStep.of_below p.pre hb).trans hs
    have q := p.of_step s1 (t := s.pop 2) (by
      unfold St.pop
      rw [← hst]
      rfl) (p.good.pop 2)
    refine ⟨he, fun L ob hL hW => hturn_local p.pre hb hW hL hs.turn, ?_⟩
    refine (setField_any q i k (s.down 0) hkf (p.good.down 0)).mono ?_
    rintro e w2 ⟨he, m', t, q2⟩
    exact ⟨he, m', s1.turn.trans t, q2.hs⟩
  rw [he] at CK
  obtain ⟨tgt, htgt⟩ : ∃ t : St, putS c (s.pop 2) i k (s.down 0) (((s.pop 2).ob i).fs.getD k (0, 0)) = t := ⟨_, rfl⟩
  rw [htgt] at AFTER ⊢
  obtain ⟨len, hlen⟩ : ∃ len, m.stack.length = len := ⟨_, rfl⟩
  rw [hlen] at cS hcI0 hl
  obtain ⟨x, hx⟩ : ∃ x, s.down 0 = x := ⟨_, rfl⟩
  rw [hx] at D0 AFTER
  obtain ⟨q, hq⟩ : ∃ q, s.down 1 = q := ⟨_, rfl⟩
  rw [hq] at D1 CK hi
  obtain ⟨x1, x2⟩ := x
  obtain ⟨q1, q2⟩ := q
  simp only at hi
  subst hi
  clear p hlen e hx hq hv he K hc hn0 hnl ho hkf htgt hms hst hcs hq1 hq2
  go_enter Try.func26, Try.ntmps26
  go_wp2_with fail
  refine Calls.mono D0.out ?_
  rintro e w1 ⟨rfl, hb⟩
  have B : Hid (Below w.heap.size w w1) := hb
  clear hb D0
  go_wp2_with fail
  refine Calls.mono (D1.out _ (B.out.alloc B.out.size _)) ?_
  rintro e w2 ⟨rfl, hb⟩
  have B2 : Hid (Below w.heap.size w w2 ∧ w1.heap.size + 1 ≤ w2.heap.size ∧ w2.heap[w1.heap.size]? = some (.cells #[.int .i64 x1, .int .i64 x2] 52)) := ⟨(B.out.alloc B.out.size _).trans (hb.mono (by simp; have := B.out.size; omega)), by have := hb.size; simpa using this, boxed' hb⟩
  clear hb D1
  go_wp2_with fail
  refine Calls.mono (CK.out _ (B2.out.1.alloc B2.out.1.size _)) ?_
  rintro e w3 ⟨rfl, hb⟩
  have B3 : Hid (Below w.heap.size w w3 ∧ w3.heap[w2.heap.size]? = some (.cells #[.int .i64 q1, .int .i64 i] 52) ∧ w3.heap[w1.heap.size]? = some (.cells #[.int .i64 x1, .int .i64 x2] 52)) :=
    ⟨(B2.out.1.alloc B2.out.1.size _).trans (hb.mono (by simp; have := B2.out.1.size; omega)), boxed' hb, by
      have h1 := B2.out.2.1
      rw [hb.block _ (by simp; omega), hao (by omega)]; exact B2.out.2.2⟩
  clear hb CK
  go_wp2_with fail
  refine Calls.mono (AFTER.out _ B3.out.1) ?_
  rintro e w4 ⟨rfl, hloc, hset⟩
  have l0 := hloc _ _ B.out.size B3.out.2.2
  have l1 := hloc _ _ B2.out.1.size B3.out.2.1
  have v0 : w4.cell? ⟨w1.heap.size, 0, none⟩ = some (.int .i64 x1) := cell_of_heap l0 rfl
  have v1 : w4.cell? ⟨w1.heap.size, 1, none⟩ = some (.int .i64 x2) := cell_of_heap l0 rfl
  have u1 : w4.cell? ⟨w2.heap.size, 1, none⟩ = some (.int .i64 i) := cell_of_heap l1 rfl
  have S : Hid _ := hset
  clear hset hloc AFTER B B2 B3 l0 l1
  go_wp2_with fail
  refine Calls.mono S.out ?_
  rintro e w5 ⟨rfl, hm⟩
  have M : Hid _ := hm
  clear hm S
  go_wp2
  go_ret
  exact ⟨rfl, M.out⟩

end Go.Proofs.Ytpmkjeihbddfpaa

/- OUR OWN. The program's heap: Do. -/
namespace Go.Proofs.Ytpmkjeihbddfpaa
open Go.RowKit
set_option linter.unusedVariables false
set_option linter.unusedSimpArgs false

def HDoSays (op : Int) : Prop := ∀ (h N : Nat) (w : World) (m : HeapM) (s : St) (c : Cf) (n : Int), HB 0 h w m s c N → True →
  Calls Try.prog 10 #[.pointer (some ⟨h, 0, none⟩), .int .i64 op, .int .i64 n] w (HDone2 h N w m c (doS c s op n))

set_option maxHeartbeats 400000 in
theorem hdo_0 : HDoSays 0 := by
  intro h N w m s c n p hf
  have e : doS c s 0 n = pushA c.deep s (0, 0) := by simp [doS]
  rw [e]
  have C : Hid (Calls Try.prog 19 #[.pointer (some ⟨h, 0, none⟩), .agg #[.int .i64 0, .int .i64 0]] w (HDone h N w m c (pushA c.deep s (0, 0)))) := by
    have d := hpush_do p.pre (0, 0)
    rw [p.hs.st, p.hs.deep] at d
    exact d.mono fun e w' x => x.done p.hs
  clear p e hf
  go_enter Try.func10, Try.ntmps10
  go_wp2_with fail
  refine Calls.mono C.out ?_
  rintro e w1 ⟨rfl, hm⟩
  have M : Hid _ := hm
  clear hm C
  go_wp2
  go_ret2
  exact ⟨ret_zero (push_zero _ _ _), M.out⟩

set_option maxHeartbeats 400000 in
theorem hdo_1 : HDoSays 1 := by
  intro h N w m s c n p hf
  have e : doS c s 1 n = pushA c.deep s (1, n) := by simp [doS]
  rw [e]
  have C : Hid (Calls Try.prog 19 #[.pointer (some ⟨h, 0, none⟩), .agg #[.int .i64 1, .int .i64 n]] w (HDone h N w m c (pushA c.deep s (1, n)))) := by
    have d := hpush_do p.pre (1, n)
    rw [p.hs.st, p.hs.deep] at d
    exact d.mono fun e w' x => x.done p.hs
  clear p e hf
  go_enter Try.func10, Try.ntmps10
  go_wp2_with fail
  refine Calls.mono C.out ?_
  rintro e w1 ⟨rfl, hm⟩
  have M : Hid _ := hm
  clear hm C
  go_wp2
  go_ret2
  exact ⟨ret_zero (push_zero _ _ _), M.out⟩

set_option maxHeartbeats 400000 in
theorem hdo_2 : HDoSays 2 := by
  intro h N w m s c n p hf
  have e : doS c s 2 n = newS c s n := by simp [doS]
  rw [e]
  have C : Hid (Calls Try.prog 20 #[.pointer (some ⟨h, 0, none⟩), .int .i64 n] w (HDone h N w m c (newS c s n))) := new_done p n
  clear p e hf
  go_enter Try.func10, Try.ntmps10
  go_wp2_with fail
  refine Calls.mono C.out ?_
  rintro e w1 ⟨rfl, hm⟩
  have M : Hid _ := hm
  clear hm C
  go_wp2
  go_ret2
  exact ⟨ret_zero (new_zero _ _ _), M.out⟩

set_option maxHeartbeats 400000 in
theorem hdo_3 : HDoSays 3 := by
  intro h N w m s c n p hf
  have e : doS c s 3 n = dupS c.deep s n := by simp [doS]
  rw [e]
  have C : Hid (Calls Try.prog 21 #[.pointer (some ⟨h, 0, none⟩), .int .i64 n] w (HDone h N w m c (dupS c.deep s n))) := by
    have d := hdup_do h N w m n p.pre
    rw [p.hs.st, p.hs.deep] at d
    exact d.mono fun e w' x => x.done p.hs
  clear p e hf
  go_enter Try.func10, Try.ntmps10
  go_wp2_with fail
  refine Calls.mono C.out ?_
  rintro e w1 ⟨rfl, hm⟩
  have M : Hid _ := hm
  clear hm C
  go_wp2
  go_ret2
  exact ⟨ret_zero (dup_zero _ _ _), M.out⟩

set_option maxHeartbeats 400000 in
theorem hdo_4 : HDoSays 4 := by
  intro h N w m s c n p hf
  have e : doS c s 4 n = dropS s := by simp [doS]
  rw [e]
  have C : Hid (Calls Try.prog 22 #[.pointer (some ⟨h, 0, none⟩)] w (HDone h N w m c (dropS s))) := by
    have d := hdrop_do h N w m p.pre
    rw [p.hs.st] at d
    exact d.mono fun e w' x => x.done p.hs
  clear p e hf
  go_enter Try.func10, Try.ntmps10
  go_wp2_with fail
  refine Calls.mono C.out ?_
  rintro e w1 ⟨rfl, hm⟩
  have M : Hid _ := hm
  clear hm C
  go_wp2
  go_ret2
  exact ⟨ret_zero (drop_zero _), M.out⟩

set_option maxHeartbeats 400000 in
theorem hdo_5 : HDoSays 5 := by
  intro h N w m s c n p hf
  have e : doS c s 5 n = getS c.deep s n := by simp [doS]
  rw [e]
  have C : Hid (Calls Try.prog 23 #[.pointer (some ⟨h, 0, none⟩), .int .i64 n] w (HDone h N w m c (getS c.deep s n))) := by
    have d := hget_do h N w m n p.pre
    rw [p.hs.st, p.hs.deep] at d
    exact d.mono fun e w' x => x.done p.hs
  clear p e hf
  go_enter Try.func10, Try.ntmps10
  go_wp2_with fail
  refine Calls.mono C.out ?_
  rintro e w1 ⟨rfl, hm⟩
  have M : Hid _ := hm
  clear hm C
  go_wp2
  go_ret2
  exact ⟨ret_zero (get_zero _ _ _), M.out⟩

set_option maxHeartbeats 400000 in
theorem hdo_6 : HDoSays 6 := by
  intro h N w m s c n p hf
  have e : doS c s 6 n = setS s n := by simp [doS]
  rw [e]
  have C : Hid (Calls Try.prog 24 #[.pointer (some ⟨h, 0, none⟩), .int .i64 n] w (HDone h N w m c (setS s n))) := by
    have d := hset_do h N w m n p.pre
    rw [p.hs.st] at d
    exact d.mono fun e w' x => x.done p.hs
  clear p e hf
  go_enter Try.func10, Try.ntmps10
  go_wp2_with fail
  refine Calls.mono C.out ?_
  rintro e w1 ⟨rfl, hm⟩
  have M : Hid _ := hm
  clear hm C
  go_wp2
  go_ret2
  exact ⟨ret_zero (set_zero _ _), M.out⟩

set_option maxHeartbeats 400000 in
theorem hdo_7 : HDoSays 7 := by
  intro h N w m s c n p hf
  have e : doS c s 7 n = loadS c.deep s n := by simp [doS]
  rw [e]
  have C : Hid (Calls Try.prog 25 #[.pointer (some ⟨h, 0, none⟩), .int .i64 n] w (HDone h N w m c (loadS c.deep s n))) := by
    have d := hload_do h N w m n p.pre
    rw [p.hs.st, p.hs.deep] at d
    exact d.mono fun e w' x => x.done p.hs
  clear p e hf
  go_enter Try.func10, Try.ntmps10
  go_wp2_with fail
  refine Calls.mono C.out ?_
  rintro e w1 ⟨rfl, hm⟩
  have M : Hid _ := hm
  clear hm C
  go_wp2
  go_ret2
  exact ⟨ret_zero (load_zero _ _ _), M.out⟩

set_option maxHeartbeats 400000 in
theorem hdo_8 : HDoSays 8 := by
  intro h N w m s c n p hf
  have e : doS c s 8 n = storeS c s n := by simp [doS]
  rw [e]
  have C : Hid (Calls Try.prog 26 #[.pointer (some ⟨h, 0, none⟩), .int .i64 n] w (HDone h N w m c (storeS c s n))) := store_done p n
  clear p e hf
  go_enter Try.func10, Try.ntmps10
  go_wp2_with fail
  refine Calls.mono C.out ?_
  rintro e w1 ⟨rfl, hm⟩
  have M : Hid _ := hm
  clear hm C
  go_wp2
  go_ret2
  exact ⟨ret_zero (store_zero _ _ _), M.out⟩

set_option maxHeartbeats 400000 in
theorem hdo_9 : HDoSays 9 := by
  intro h N w m s c n p hf
  have e : doS c s 9 n = sameS s := by simp [doS]
  rw [e]
  have C : Hid (Calls Try.prog 27 #[.pointer (some ⟨h, 0, none⟩)] w (HDone2 h N w m c (sameS s))) := by
    have d := hsame_do h N w m p.pre
    rw [p.hs.st] at d
    exact d.mono fun e w' x => x.done p.hs
  clear p e hf
  go_enter Try.func10, Try.ntmps10
  go_wp2_with fail
  refine Calls.mono C.out ?_
  rintro e w1 ⟨rfl, hm⟩
  have M : Hid _ := hm
  clear hm C
  go_wp2
  go_ret2
  exact ⟨rfl, M.out⟩

set_option maxHeartbeats 400000 in
theorem hdo_10 : HDoSays 10 := by
  intro h N w m s c n p hf
  have e : doS c s 10 n = takeS s := by simp [doS]
  rw [e]
  have C : Hid (Calls Try.prog 28 #[.pointer (some ⟨h, 0, none⟩)] w (HDone2 h N w m c (takeS s))) := by
    have d := htake_do h N w m p.pre
    rw [p.hs.st] at d
    exact d.mono fun e w' x => x.done p.hs
  clear p e hf
  go_enter Try.func10, Try.ntmps10
  go_wp2_with fail
  refine Calls.mono C.out ?_
  rintro e w1 ⟨rfl, hm⟩
  have M : Hid _ := hm
  clear hm C
  go_wp2
  go_ret2
  exact ⟨rfl, M.out⟩

set_option maxHeartbeats 400000 in
theorem hdo_11 : HDoSays 11 := by
  intro h N w m s c n p hf
  have e : doS c s 11 n = sizeS s := by simp [doS]
  rw [e]
  have C : Hid (Calls Try.prog 29 #[.pointer (some ⟨h, 0, none⟩)] w (HDone2 h N w m c (sizeS s))) := by
    have d := hsize_do h N w m p.pre
    rw [p.hs.st] at d
    exact d.mono fun e w' x => x.done p.hs
  clear p e hf
  go_enter Try.func10, Try.ntmps10
  go_wp2_with fail
  refine Calls.mono C.out ?_
  rintro e w1 ⟨rfl, hm⟩
  have M : Hid _ := hm
  clear hm C
  go_wp2
  go_ret2
  exact ⟨rfl, M.out⟩

set_option maxHeartbeats 400000 in
theorem hdo_12 : HDoSays 12 := by
  intro h N w m s c n p hf
  have e : doS c s 12 n = kindS s := by simp [doS]
  rw [e]
  have C : Hid (Calls Try.prog 30 #[.pointer (some ⟨h, 0, none⟩)] w (HDone2 h N w m c (kindS s))) := by
    have d := hkind_do h N w m p.pre
    rw [p.hs.st] at d
    exact d.mono fun e w' x => x.done p.hs
  clear p e hf
  go_enter Try.func10, Try.ntmps10
  go_wp2_with fail
  refine Calls.mono C.out ?_
  rintro e w1 ⟨rfl, hm⟩
  have M : Hid _ := hm
  clear hm C
  go_wp2
  go_ret2
  exact ⟨rfl, M.out⟩

set_option maxHeartbeats 400000 in
theorem hdo_none (op : Int) (h0 : ¬ op = 0) (h1 : ¬ op = 1) (h2 : ¬ op = 2) (h3 : ¬ op = 3) (h4 : ¬ op = 4) (h5 : ¬ op = 5) (h6 : ¬ op = 6) (h7 : ¬ op = 7) (h8 : ¬ op = 8) (h9 : ¬ op = 9) (h10 : ¬ op = 10) (h11 : ¬ op = 11) (h12 : ¬ op = 12) : HDoSays op := by
  intro h N w m s c n p hf
  have e : doS c s op n = (s, 0, 2) := by simp [doS, h0, h1, h2, h3, h4, h5, h6, h7, h8, h9, h10, h11, h12]
  rw [e]
  have M : Hid (∃ m', HTurn h w m w m' ∧ HS m' s c N) := ⟨m, .refl p.r, p.hs⟩
  have q0 : (op == 0) = false := by simpa using h0
  have q1 : (op == 1) = false := by simpa using h1
  have q2 : (op == 2) = false := by simpa using h2
  have q3 : (op == 3) = false := by simpa using h3
  have q4 : (op == 4) = false := by simpa using h4
  have q5 : (op == 5) = false := by simpa using h5
  have q6 : (op == 6) = false := by simpa using h6
  have q7 : (op == 7) = false := by simpa using h7
  have q8 : (op == 8) = false := by simpa using h8
  have q9 : (op == 9) = false := by simpa using h9
  have q10 : (op == 10) = false := by simpa using h10
  have q11 : (op == 11) = false := by simpa using h11
  have q12 : (op == 12) = false := by simpa using h12
  clear p e hf
  go_enter Try.func10, Try.ntmps10
  go_wp2
  go_ret2
  exact ⟨rfl, M.out⟩

theorem hdo_any (op : Int) : HDoSays op := by
  by_cases h0 : op = 0
  · subst h0; exact hdo_0
  by_cases h1 : op = 1
  · subst h1; exact hdo_1
  by_cases h2 : op = 2
  · subst h2; exact hdo_2
  by_cases h3 : op = 3
  · subst h3; exact hdo_3
  by_cases h4 : op = 4
  · subst h4; exact hdo_4
  by_cases h5 : op = 5
  · subst h5; exact hdo_5
  by_cases h6 : op = 6
  · subst h6; exact hdo_6
  by_cases h7 : op = 7
  · subst h7; exact hdo_7
  by_cases h8 : op = 8
  · subst h8; exact hdo_8
  by_cases h9 : op = 9
  · subst h9; exact hdo_9
  by_cases h10 : op = 10
  · subst h10; exact hdo_10
  by_cases h11 : op = 11
  · subst h11; exact hdo_11
  by_cases h12 : op = 12
  · subst h12; exact hdo_12
  exact hdo_none op h0 h1 h2 h3 h4 h5 h6 h7 h8 h9 h10 h11 h12

end Go.Proofs.Ytpmkjeihbddfpaa

/- OUR OWN. The program's contracts: New's heap; Do, in every state. -/
namespace Go.Proofs.Ytpmkjeihbddfpaa
open Go.RowKit
set_option linter.unusedVariables false
set_option linter.unusedSimpArgs false

theorem count_blank (b g : Nat) (x : Int) : (⟨[], List.replicate g (0, 0), List.replicate (b + 1) Ob.free, []⟩ : St).count x = 0 := by
  unfold St.count
  simp only [List.replicate_succ, List.tail_cons]
  induction b with
  | zero => rfl
  | succ b ih => rw [List.replicate_succ, List.map_cons, List.sum_cons, ih]; rfl

theorem fresh_hs (b s g u z o : Nat) (h : cfgB b s g u z o = true) (hm : HeapM) (hn : NewM b s g u z o hm) : HS hm ⟨[], List.replicate g (0, 0), List.replicate (b + 1) Ob.free, []⟩ ⟨s, u, z, o⟩ b := by
  obtain ⟨vG, vB, rfl⟩ := hn
  refine ⟨?_, rfl, rfl, rfl, rfl, fun x hx => ?_, fun i x hx hs => ?_⟩
  · have e : HObj.free.ob = Ob.free := by simp [HObj.free, HObj.ob, Ob.free]
    simp [HeapM.st, newM, e]
  · have : x = HObj.free := by simp [newM] at hx; exact hx
    subst this; exact .inl rfl
  · have hx' : x ∈ (newM b s g u z o vG vB).blks := List.mem_of_getElem? hx
    have : x = HObj.free := by simp [newM] at hx'; exact hx'
    subst this
    rcases hs with e | e <;> simp [HObj.free] at e

theorem do_all : DoPact HS fun _ => True := by
  intro x N w hm s c op n hat hs g cf hN h16 h8 hop hn _
  exact (hdo_any op x N w hm s c n ⟨hat, hs, g, cf, hN, h16, h8⟩ trivial).mono fun e w' ⟨he, m', ht, hs'⟩ => ⟨he, m', ht, hs'⟩
theorem do_pact : DoPact HS room3 := fun x N w hm s c op n hat hs g cf hN h16 h8 hop hn _ => do_all x N w hm s c op n hat hs g cf hN h16 h8 hop hn fun _ => trivial
theorem do_pact2 : DoPact HS room2 := fun x N w hm s c op n hat hs g cf hN h16 h8 hop hn _ => do_all x N w hm s c op n hat hs g cf hN h16 h8 hop hn fun _ => trivial

end Go.Proofs.Ytpmkjeihbddfpaa

/- OUR OWN. The program's heap: Safepoint. -/
namespace Go.Proofs.Ytpmkjeihbddfpaa
open Go.RowKit
set_option linter.unusedVariables false
set_option linter.unusedSimpArgs false

theorem safeN_end (z : Int) (k : Nat) (s : St) (h : k = 0 ∨ s.queue.length = 0) : safeN z k s = (s, 0) := by
  cases k with
  | zero => rfl
  | succ k =>
    rcases h with h | h
    · cases h
    · unfold safeN; rw [if_pos h]

set_option maxHeartbeats 1600000 in
theorem safepoint_any {h : Nat} {w : World} {m : HeapM} {s : St} {c : Cf} {N : Nat} (p : HB 0 h w m s c N) :
    Calls Try.prog 14 #[.pointer (some ⟨h, 0, none⟩)] w fun e w' => e = .returned (.int .i64 (s.safe c).2) ∧ ∃ m', HTurn h w m w' m' ∧ HS m' (s.safe c).1 c N := by
  obtain ⟨T, hT⟩ : ∃ T, s.safe c = T := ⟨_, rfl⟩
  rw [hT]
  obtain ⟨B, hB⟩ : ∃ B : Nat, c.budget = B := ⟨c.budget.toNat, by have := p.cf.budget; omega⟩
  have hB9 : B ≤ 99 := by have := p.cf.budget; omega
  have hT' : safeN c.zero B (s.sort 0) = T := by rw [← hT]; unfold St.safe; rw [hB, Int.toNat_natCast]
  have Inv : ∃ I : Nat → World → Prop, I = fun j wr => j ≤ B ∧ ∃ mr sj, HTurn h w m wr mr ∧ HB 0 h wr mr sj c N ∧ T.1 = (safeN c.zero (B - j) sj).1 ∧ T.2 = (safeN c.zero (B - j) sj).2 + j := ⟨_, rfl⟩
  obtain ⟨I, hI⟩ := Inv
  have SORT : Hid (Calls Try.prog 34 #[.pointer (some ⟨h, 0, none⟩)] w fun e w' => e = .returned (.tuple #[]) ∧ I 0 w') := by
    refine (sortWaiting_any p).mono ?_
    rintro e w' ⟨he, m', t, q⟩
    rw [hI]
    exact ⟨he, Nat.zero_le _, m', _, t, q, by rw [Nat.sub_zero, hT'], by rw [Nat.sub_zero, hT']; rfl⟩
  have CELL : Hid (∀ j wr, I j wr → j ≤ B ∧ wr.cell? ⟨h, 1, none⟩ = some (.int .i64 B) ∧ ∃ ao ql qc, wr.cell? ⟨h, 7, none⟩ = some (.slice ao ql qc) ∧ ql ≤ 100 ∧
      (j = B ∨ ql = 0 → ∀ W, Below wr.heap.size wr W → T.2 = j ∧ ∃ m', HTurn h w m W m' ∧ HS m' T.1 c N) ∧
      (j < B → ql ≠ 0 → ∀ W, Below wr.heap.size wr W → Calls Try.prog 35 #[.pointer (some ⟨h, 0, none⟩)] W fun e w' => e = .returned (.tuple #[]) ∧ I (j + 1) w')) := by
    intro j wr hi
    rw [hI] at hi
    obtain ⟨hj, mr, sj, t, q, h1, h2⟩ := hi
    obtain ⟨ao, qc, hvQ⟩ := win_slice q.r.queue
    refine ⟨hj, by rw [q.r.cellBudget, q.hs.budget, hB], ao, sj.queue.length, qc, by rw [q.r.cell.2.2.2.2.1, hvQ, q.mqueue], by have := q.good.queue_len; have := q.small; omega, fun he W hb => ?_, fun hlt hne W hb => ?_⟩
    · have e := safeN_end c.zero (B - j) sj (by omega)
      rw [e] at h1 h2
      exact ⟨by simpa using h2, mr, t.after hb, by rw [h1]; exact q.hs⟩
    · refine (freeFirst_any (q.below hb) hne).mono ?_
      rintro e w' ⟨he, m', t2, q2⟩
      rw [hI]
      obtain ⟨k, hk⟩ : ∃ k, B - j = k + 1 := ⟨B - j - 1, by omega⟩
      have hk1 : B - (j + 1) = k := by omega
      have es : safeN c.zero (B - j) sj = ((safeN c.zero k (sj.free c.zero)).1, (safeN c.zero k (sj.free c.zero)).2 + 1) := by rw [hk]; show (if _ then _ else _) = _; rw [if_neg hne]
      rw [es] at h1 h2
      exact ⟨he, by omega, m', _, (t.after hb).trans t2, q2, by rw [hk1, h1], by rw [hk1]; simp at h2; omega⟩
  clear p hT hT' hB hI
  go_enter Try.func14, Try.ntmps14
  go_wp2_with fail
  refine Calls.mono SORT.out ?_
  rintro e w1 ⟨rfl, hi⟩
  have I0 : Hid _ := hi
  clear hi SORT
  go_wp2
  go_loopw [3] (fun i wr => ∃ j : Nat, i = .int .i64 j ∧ I j wr) (fun i _ => B - (intOf i).toNat)
  case atStart => exact ⟨0, rfl, I0.out⟩
  case round =>
    obtain ⟨j, rfl, hi⟩ := hrel
    obtain ⟨hj, cB, ao, ql, qc, cQ, hql, hend, hgo⟩ := CELL.out j wr hi
    have EN : Hid _ := hend
    have GO : Hid _ := hgo
    clear hi hend hgo
    by_cases hlt : j < B
    · by_cases h0 : ql = 0
      · subst h0
        obtain ⟨hT, hm⟩ := EN.out (.inr rfl) wr (Below.refl _ _)
        have M : Hid _ := hm
        have hjI : (j : Int) < B := by omega
        clear hm EN GO
        obtain ⟨T1, T2⟩ := T
        simp only at hT M ⊢
        subst hT
        go_wp2
        go_ret
        exact ⟨rfl, M.out⟩
      · have R : Hid _ := GO.out hlt h0
        have hjI : (j : Int) < B := by omega
        have hqI : (0 : Int) < ql := by omega
        clear EN GO
        go_wp2_with fail
        refine Calls.mono (R.out _ (Below.refl _ _)) ?_
        rintro e w2 ⟨rfl, hm⟩
        have M : Hid _ := hm
        clear hm R cB cQ
        go_wp2
        go_roundw
        case rel => exact ⟨j + 1, by go_num, M.out⟩
        case measure => simp [intOf]; omega
    · obtain rfl : j = B := by omega
      obtain ⟨hT, hm⟩ := EN.out (.inl rfl) wr (Below.refl _ _)
      have M : Hid _ := hm
      clear hm EN GO
      obtain ⟨T1, T2⟩ := T
      simp only at hT M ⊢
      subst hT
      go_wp2
      go_ret
      exact ⟨rfl, M.out⟩

theorem safe_pact : SafePact HS := by
  intro x N w hm s c hat hs g cf hN h16 h8
  exact safepoint_any ⟨hat, hs, g, cf, hN, h16, h8⟩

end Go.Proofs.Ytpmkjeihbddfpaa

/- OUR OWN. The program's Gauge: the contract. -/
namespace Go.Proofs.Ytpmkjeihbddfpaa
open Go.RowKit
set_option linter.unusedVariables false
set_option linter.unusedSimpArgs false

theorem gauge_of {m : HeapM} {s : St} {c : Cf} {N : Nat} (p : HSb 0 m s c N) (g : s.Good N) : gaugeS s = (countTo (m.inB 0) N, countTo (s.others 0) N, s.queue.length, countTo s.extra N, countTo (m.inB 2) N) := by
  have hl : m.blks.length = N + 1 := by
    have := g.len
    rw [← p.st] at this
    simpa [HeapM.st] using this
  have hob : ∀ i, i ≤ N → ∃ o, m.blks[i]? = some o ∧ s.ob i = o.ob := fun i hi => ⟨m.blks[i]'(by omega), List.getElem?_eq_getElem (by omega), by rw [← p.st]; exact hst_ob (List.getElem?_eq_getElem (by omega))⟩
  unfold gaugeS St.extras
  rw [g.sN]
  have e1 : countTo s.frees N = countTo (m.inB 0) N := countTo_congr fun b h1 h2 => by
    obtain ⟨o, ho, he⟩ := hob b h2
    unfold St.frees HeapM.inB
    rw [ho, he]
    simp [HObj.ob]
  have e2 : countTo s.waits N = countTo (s.others 0) N := countTo_congr fun b h1 h2 => by
    unfold St.others
    rw [decide_eq_true (by omega), Bool.and_true]
  have e3 : countTo s.stucks N = countTo (m.inB 2) N := countTo_congr fun b h1 h2 => by
    obtain ⟨o, ho, he⟩ := hob b h2
    unfold St.stucks HeapM.inB
    rw [ho, he]
    by_cases h : o.state = 2
    · simp [HObj.ob, h]
    · simp [HObj.ob, h]
  rw [e1, e2, e3]

theorem box5 {W : World} {L : Nat} {t : TypeId} {x0 x1 x2 x3 x4 a b c d e : Value} (h : W.heap[L]? = some (.cells #[x0, x1, x2, x3, x4] t)) :
    (((((W.setCell ⟨L, 0, none⟩ a).setCell ⟨L, 1, none⟩ b).setCell ⟨L, 2, none⟩ c).setCell ⟨L, 3, none⟩ d).setCell ⟨L, 4, none⟩ e).heap[L]? = some (.cells #[a, b, c, d, e] t) := by
  rw [heap_setCell_at (heap_setCell_at (heap_setCell_at (heap_setCell_at (heap_setCell_at h a) b) c) d) e]; rfl
theorem below_set {w W : World} (hb : Below w.heap.size w W) (i : Nat) (v : Value) : Below w.heap.size w (W.setCell ⟨w.heap.size, i, none⟩ v) :=
  ⟨hb.os, hb.tape, hb.output, by have := hb.size; simpa [World.setCell] using this, fun k hk => by rw [hso (by omega)]; exact hb.block k hk⟩

set_option maxRecDepth 20000 in
set_option maxHeartbeats 4000000 in
theorem gauge_done {h : Nat} {w : World} {m : HeapM} {s : St} {c : Cf} {N : Nat} (p : HB 0 h w m s c N) :
    Calls Try.prog 13 #[.pointer (some ⟨h, 0, none⟩)] w fun e w' =>
      e = .returned (.agg #[.int .i64 (gaugeS s).1, .int .i64 (gaugeS s).2.1, .int .i64 (gaugeS s).2.2.1, .int .i64 (gaugeS s).2.2.2.1, .int .i64 (gaugeS s).2.2.2.2]) ∧ Below w.heap.size w w' := by
  obtain ⟨qao, qcp, hvQ⟩ := win_slice p.r.queue
  rw [gauge_of p.hs p.good]
  simp only
  have K : Hid (∀ W, Below w.heap.size w W → W.cell? ⟨h, 7, none⟩ = some (.slice qao s.queue.length qcp) ∧
      (Calls Try.prog 31 #[.pointer (some ⟨h, 0, none⟩), .int .i64 0] W fun e w' => e = .returned (.int .i64 (countTo (m.inB 0) N)) ∧ Below W.heap.size W w') ∧
      (Calls Try.prog 32 #[.pointer (some ⟨h, 0, none⟩)] W fun e w' => e = .returned (.int .i64 (countTo (s.others 0) N)) ∧ Below W.heap.size W w') ∧
      (Calls Try.prog 33 #[.pointer (some ⟨h, 0, none⟩)] W fun e w' => e = .returned (.int .i64 (countTo s.extra N)) ∧ Below W.heap.size W w') ∧
      (Calls Try.prog 31 #[.pointer (some ⟨h, 0, none⟩), .int .i64 2] W fun e w' => e = .returned (.int .i64 (countTo (m.inB 2) N)) ∧ Below W.heap.size W w')) := by
    have cell : ∀ W, Below w.heap.size w W → W.cell? ⟨h, 7, none⟩ = some (.slice qao s.queue.length qcp) := fun W hb => by
      rw [(p.below hb).r.cell.2.2.2.2.1, hvQ, p.mqueue]
    intro W hb
    refine ⟨cell W hb, ?_, ?_, ?_, ?_⟩
    · exact (inState_any (p.below hb) 0).mono fun e w' ⟨he, hw⟩ => ⟨he, by rw [hw]; exact Below.refl _ _⟩
    · exact (waiting_any (p.below hb)).mono fun e w' ⟨he, hb2⟩ => ⟨he, hb2⟩
    · exact (hextras_any (p.below hb)).mono fun e w' ⟨he, hb2⟩ => ⟨he, hb2⟩
    · exact (inState_any (p.below hb) 2).mono fun e w' ⟨he, hw⟩ => ⟨he, by rw [hw]; exact Below.refl _ _⟩
  have c0 := (K.out w (Below.refl _ _)).1
  obtain ⟨n1, hn1⟩ : ∃ n, countTo (m.inB 0) N = n := ⟨_, rfl⟩
  obtain ⟨n2, hn2⟩ : ∃ n, countTo (s.others 0) N = n := ⟨_, rfl⟩
  obtain ⟨n3, hn3⟩ : ∃ n, s.queue.length = n := ⟨_, rfl⟩
  obtain ⟨n4, hn4⟩ : ∃ n, countTo s.extra N = n := ⟨_, rfl⟩
  obtain ⟨n5, hn5⟩ : ∃ n, countTo (m.inB 2) N = n := ⟨_, rfl⟩
  rw [hn1, hn2, hn3, hn4, hn5] at K
  rw [hn1, hn2, hn3, hn4, hn5]
  rw [hn3] at c0
  clear p hvQ hn1 hn2 hn3 hn4 hn5
  have NX : Hid (∀ W w', Below w.heap.size w W → W.heap[w.heap.size]? = some (.cells #[.int .i64 0, .int .i64 0, .int .i64 0, .int .i64 0, .int .i64 0] 36) → Below W.heap.size W w' → Below w.heap.size w w' ∧ w'.cell? ⟨h, 7, none⟩ = some (.slice qao n3 qcp) ∧ w'.heap[w.heap.size]? = some (.cells #[.int .i64 0, .int .i64 0, .int .i64 0, .int .i64 0, .int .i64 0] 36)) := fun W w' hb hx hb2 => by
    have hbb : Below w.heap.size w w' := hb.trans (hb2.mono hb.size)
    exact ⟨hbb, (K.out w' hbb).1, by rw [hb2.block _ (lt_of_heap hx)]; exact hx⟩
  have c1 := (K.out (w.alloc (.cells #[.int .i64 0, .int .i64 0, .int .i64 0, .int .i64 0, .int .i64 0] 36)) ((Below.refl _ _).alloc (Nat.le_refl _) _)).1
  go_enter Try.func13, Try.ntmps13
  go_wp2_with fail
  first | go_region_with (first | (go_at_call 31; refine Calls.mono (K.out _ B3.out.1).2.2.2.2 ?_; rintro e w4 ⟨rfl, hb⟩; obtain ⟨b4, g4, x4⟩ := NX.out _ w4 B3.out.1 B3.out.2 hb; have B4 : Hid _ := And.intro b4 x4; clear b4 x4 hb; have y0 := cell_of_heap (i := 0) B4.out.2 rfl; have y1 := cell_of_heap (i := 1) B4.out.2 rfl; have y2 := cell_of_heap (i := 2) B4.out.2 rfl; have y3 := cell_of_heap (i := 3) B4.out.2 rfl; have y4 := cell_of_heap (i := 4) B4.out.2 rfl; have z0 := frozen_of_heap (i := 0) B4.out.2; have z1 := frozen_of_heap (i := 1) B4.out.2; have z2 := frozen_of_heap (i := 2) B4.out.2; have z3 := frozen_of_heap (i := 3) B4.out.2; have z4 := frozen_of_heap (i := 4) B4.out.2) | (go_at_call 33; refine Calls.mono (K.out _ B2.out.1).2.2.2.1 ?_; rintro e w3 ⟨rfl, hb⟩; obtain ⟨b3, g3, x3⟩ := NX.out _ w3 B2.out.1 B2.out.2 hb; have B3 : Hid _ := And.intro b3 x3; clear b3 x3 hb) | (go_at_call 32; refine Calls.mono (K.out _ B1.out.1).2.2.1 ?_; rintro e w2 ⟨rfl, hb⟩; obtain ⟨b2, g2, x2⟩ := NX.out _ w2 B1.out.1 B1.out.2 hb; have B2 : Hid _ := And.intro b2 x2; clear b2 x2 hb) | (go_at_call 31; refine Calls.mono (K.out _ ((Below.refl _ _).alloc (Nat.le_refl _) _).drew).2.1 ?_; rintro e w1 ⟨rfl, hb⟩; obtain ⟨b1, g1, x1⟩ := NX.out _ w1 ((Below.refl _ _).alloc (Nat.le_refl _) _).drew (heap_alloc_new w _) hb; have B1 : Hid _ := And.intro b1 x1; clear b1 x1 hb)) | fail "region"
  all_goals go_wp2
  all_goals
    have hx := box5 (a := .int .i64 n1) (b := .int .i64 n2) (c := .int .i64 n3) (d := .int .i64 n4) (e := .int .i64 n5) B4.out.2
    have BB := below_set (below_set (below_set (below_set (below_set B4.out.1 0 (.int .i64 n1)) 1 (.int .i64 n2)) 2 (.int .i64 n3)) 3 (.int .i64 n4)) 4 (.int .i64 n5)
    obtain ⟨w5, hw5⟩ : ∃ w5, ((((w4.setCell ⟨w.heap.size, 0, none⟩ (.int .i64 n1)).setCell ⟨w.heap.size, 1, none⟩ (.int .i64 n2)).setCell ⟨w.heap.size, 2, none⟩ (.int .i64 n3)).setCell ⟨w.heap.size, 3, none⟩ (.int .i64 n4)).setCell ⟨w.heap.size, 4, none⟩ (.int .i64 n5) = w5 := ⟨_, rfl⟩
    rw [hw5] at hx BB ⊢
    have u0 := cell_of_heap (i := 0) hx rfl
    have u1 := cell_of_heap (i := 1) hx rfl
    have u2 := cell_of_heap (i := 2) hx rfl
    have u3 := cell_of_heap (i := 3) hx rfl
    have u4 := cell_of_heap (i := 4) hx rfl
    exact bodyPost_ret (v := .agg #[.int .i64 n1, .int .i64 n2, .int .i64 n3, .int .i64 n4, .int .i64 n5]) (by simp [results, Try.results13, go_sem, u0, u1, u2, u3, u4]) rfl ⟨rfl, BB⟩

theorem gauge_pact : GaugePact HS := by
  intro x N w hm s c hat hs g cf hN h16 h8
  exact (gauge_done ⟨hat, hs, g, cf, hN, h16, h8⟩).mono fun e w' ⟨he, hb⟩ => ⟨he, hm, .of_below hat hb, hs⟩

end Go.Proofs.Ytpmkjeihbddfpaa

/- OUR OWN. Which of n things a raw number speaks of. -/
namespace Go.Proofs.Ytpmkjeihbddfpaa

def pickN (c : Int) (n : Nat) : Nat := ((if c < 0 then -(c + 1) else c) % n).toNat

theorem pickN_lt (c : Int) (n : Nat) (h : 0 < n) : pickN c n < n := by
  unfold pickN
  have := Int.emod_lt_of_pos (if c < 0 then -(c + 1) else c) (show (0 : Int) < n by omega)
  omega

end Go.Proofs.Ytpmkjeihbddfpaa

/- OUR OWN. The statements without the document's answer: a configuration out of raw numbers. -/
namespace Go.Proofs.Ytpmkjeihbddfpaa
open Go.RowKit
set_option linter.unusedVariables false
set_option linter.unusedSimpArgs false

set_option maxHeartbeats 400000 in
theorem kpick_any (c : Int) (n : Nat) (w : World) (hc : -9223372036854775808 ≤ c ∧ c ≤ 9223372036854775807) (hn : 0 < n) (hm : n ≤ 2000000000000000) :
    Calls Try.prog 8 #[.int .i64 c, .int .i64 n] w fun r w' => r = .returned (.int .i64 (pickN c n)) ∧ w' = w := by
  obtain ⟨c1, c2⟩ := hc
  have hp : (0 : Int) < n := by omega
  have hne : ((n : Int) == 0) = false := by simp; omega
  by_cases h : c < 0
  · have e : (pickN c n : Int) = -((c + 1).tmod n) := by
      rw [← Int.neg_tmod, Int.tmod_eq_emod_of_nonneg (by omega)]
      unfold pickN; rw [if_pos h]; have := Int.emod_nonneg (-(c + 1)) (show (n : Int) ≠ 0 by omega); omega
    have E : Hid ((pickN c n : Int) = -((c + 1).tmod n)) := e
    clear e
    go_enter Try.func8, Try.ntmps8
    go_wp2
    go_ret
    rw [E.out]
    exact ⟨rfl, rfl⟩
  · have e : (pickN c n : Int) = c % n := by
      unfold pickN; rw [if_neg h]; have := Int.emod_nonneg c (show (n : Int) ≠ 0 by omega); omega
    have E : Hid ((pickN c n : Int) = c % n) := e
    clear e
    go_enter Try.func8, Try.ntmps8
    go_wp2
    go_ret
    rw [E.out]
    exact ⟨rfl, rfl⟩

/-- the configuration, out of raw numbers -/
structure CfgM where
  b : Nat
  s : Nat
  g : Nat
  u : Nat
  z : Nat
  o : Nat
def CfgM.val (k : CfgM) : Value := .agg #[.int .i64 k.b, .int .i64 k.s, .int .i64 k.g, .int .i64 k.u, .int .i64 k.z, .int .i64 k.o]
def CfgM.ok (k : CfgM) : Prop := cfgB k.b k.s k.g k.u k.z k.o = true
def CfgM.cf (k : CfgM) : Cf := ⟨k.s, k.u, k.z, k.o⟩

set_option maxHeartbeats 1600000 in
set_option maxRecDepth 10000 in
theorem config_any (b s g u z o : Int) (w : World) (hb : fits b) (hs : fits s) (hg : fits g) (hu : fits u) (hz : fits z) (ho : fits o) :
    Calls Try.prog 7 #[.agg #[.int .i64 b, .int .i64 s, .int .i64 g, .int .i64 u, .int .i64 z, .int .i64 o]] w fun e w' => (∃ k : CfgM, e = .returned k.val ∧ k.ok) ∧ Below w.heap.size w w' := by
  have PK : Hid (∀ (c : Int) (n : Nat) (W : World), fits c → 0 < n → n ≤ 1000 → Calls Try.prog 8 #[.int .i64 c, .int .i64 n] W fun r w' => r = .returned (.int .i64 (pickN c n)) ∧ w' = W) := fun c n W hc hn hm => kpick_any c n W hc hn (by omega)
  have p1 : pickN b 99 < 99 := pickN_lt _ _ (by decide)
  have p2 : pickN s 16 < 16 := pickN_lt _ _ (by decide)
  have p3 : pickN g 9 < 9 := pickN_lt _ _ (by decide)
  have p4 : pickN u 99 < 99 := pickN_lt _ _ (by decide)
  have p6 : pickN o 10 < 10 := pickN_lt _ _ (by decide)
  have P1 : Hid _ := PK.out b 99
  have P2 : Hid _ := PK.out s 16
  have P3 : Hid _ := PK.out g 9
  have P4 : Hid _ := PK.out u 99
  have P6 : Hid _ := PK.out o 10
  obtain ⟨x1, h1⟩ : ∃ x, pickN b 99 = x := ⟨_, rfl⟩
  obtain ⟨x2, h2⟩ : ∃ x, pickN s 16 = x := ⟨_, rfl⟩
  obtain ⟨x3, h3⟩ : ∃ x, pickN g 9 = x := ⟨_, rfl⟩
  obtain ⟨x4, h4⟩ : ∃ x, pickN u 99 = x := ⟨_, rfl⟩
  obtain ⟨x6, h6⟩ : ∃ x, pickN o 10 = x := ⟨_, rfl⟩
  have hpos : 0 < 99 - (1 + x2 + x3 + 1) + 1 := by omega
  have p5 : pickN z (99 - (1 + x2 + x3 + 1) + 1) < 99 - (1 + x2 + x3 + 1) + 1 := pickN_lt _ _ hpos
  have P5 : Hid _ := PK.out z (99 - (1 + x2 + x3 + 1) + 1)
  obtain ⟨x5, h5⟩ : ∃ x, pickN z (99 - (1 + x2 + x3 + 1) + 1) = x := ⟨_, rfl⟩
  rw [h1] at p1 P1
  rw [h2] at p2 P2
  rw [h3] at p3 P3
  rw [h4] at p4 P4
  rw [h5] at p5 P5
  rw [h6] at p6 P6
  have OK : Hid (CfgM.ok ⟨1 + x1, 1 + x2, x3, 1 + x4, 1 + x2 + x3 + 1 + x5, x6⟩) := by
    show cfgB _ _ _ _ _ _ = true
    simp [cfgB]; omega
  have en : (((99 - (1 + x2 + x3 + 1) + 1 : Nat)) : Int) = 99 - (1 + (x2 : Int) + x3 + 1) + 1 := by omega
  have P5' : Hid (∀ W, Calls Try.prog 8 #[.int .i64 z, .int .i64 (99 - (1 + (x2 : Int) + x3 + 1) + 1)] W fun r w' => r = .returned (.int .i64 x5) ∧ w' = W) := fun W => by
    have := P5.out W hz hpos (by omega)
    rw [en] at this; exact this
  have P1' : Hid (∀ W, Calls Try.prog 8 #[.int .i64 b, .int .i64 99] W fun r w' => r = .returned (.int .i64 x1) ∧ w' = W) := fun W => P1.out W hb (by decide) (by decide)
  have P2' : Hid (∀ W, Calls Try.prog 8 #[.int .i64 s, .int .i64 16] W fun r w' => r = .returned (.int .i64 x2) ∧ w' = W) := fun W => P2.out W hs (by decide) (by decide)
  have P3' : Hid (∀ W, Calls Try.prog 8 #[.int .i64 g, .int .i64 9] W fun r w' => r = .returned (.int .i64 x3) ∧ w' = W) := fun W => P3.out W hg (by decide) (by decide)
  have P4' : Hid (∀ W, Calls Try.prog 8 #[.int .i64 u, .int .i64 99] W fun r w' => r = .returned (.int .i64 x4) ∧ w' = W) := fun W => P4.out W hu (by decide) (by decide)
  have P6' : Hid (∀ W, Calls Try.prog 8 #[.int .i64 o, .int .i64 10] W fun r w' => r = .returned (.int .i64 x6) ∧ w' = W) := fun W => P6.out W ho (by decide) (by decide)
  clear PK P1 P2 P3 P4 P5 P6 h1 h2 h3 h4 h5 h6 hb hs hg hu hz ho en hpos
  go_enter Try.func7, Try.ntmps7
  go_wp2_with fail
  refine Calls.mono (P1'.out _) ?_
  rintro e w1 ⟨rfl, rfl⟩
  go_wp2_with fail
  refine Calls.mono (P2'.out _) ?_
  rintro e w2 ⟨rfl, rfl⟩
  go_wp2_with fail
  refine Calls.mono (P3'.out _) ?_
  rintro e w3 ⟨rfl, rfl⟩
  go_wp2_with fail
  refine Calls.mono (P4'.out _) ?_
  rintro e w4 ⟨rfl, rfl⟩
  go_wp2_with fail
  refine Calls.mono (P5'.out _) ?_
  rintro e w5 ⟨rfl, rfl⟩
  go_wp2_with fail
  refine Calls.mono (P6'.out _) ?_
  rintro e w6 ⟨rfl, rfl⟩
  go_wp2
  refine bodyPost_ret (v := CfgM.val ⟨1 + x1, 1 + x2, x3, 1 + x4, 1 + x2 + x3 + 1 + x5, x6⟩) (by simp [results, Try.results7, go_sem, CfgM.val]) rfl ⟨⟨_, rfl, OK.out⟩, ?_⟩
  exact ((Below.refl _ _).alloc (Nat.le_refl _) _).alloc (by simp) _

end Go.Proofs.Ytpmkjeihbddfpaa

/- OUR OWN. The statements without the document's answer: a heap that works. -/
namespace Go.Proofs.Ytpmkjeihbddfpaa
open Go.RowKit
set_option linter.unusedVariables false
set_option linter.unusedSimpArgs false

/-- all that the statements ask of the program -/
structure Pacts (HS : HeapM → St → Cf → Nat → Prop) : Prop where
  new : ∀ (b s g u z o : Nat), cfgB b s g u z o = true → ∀ hm, NewM b s g u z o hm → HS hm ⟨[], List.replicate g (0, 0), List.replicate (b + 1) Ob.free, []⟩ ⟨s, u, z, o⟩ b
  act : DoPact HS (fun _ => True)
  gauge : GaugePact HS
  safe : SafePact HS
  coll : CollPact HS

/-- what is asked of it where no heap is full -/
structure Pact3 (HS : HeapM → St → Cf → Nat → Prop) (Room : St → Prop) : Prop where
  new : ∀ (b s g u z o : Nat), cfgB b s g u z o = true → ∀ hm, NewM b s g u z o hm → HS hm ⟨[], List.replicate g (0, 0), List.replicate (b + 1) Ob.free, []⟩ ⟨s, u, z, o⟩ b
  act : DoPact HS Room
  gauge : GaugePact HS
  safe : SafePact HS
  room : ∀ s, (∃ k, free? s = some k) → Room s

variable {HS : HeapM → St → Cf → Nat → Prop} {Room : St → Prop}

theorem Pacts.base (P : Pacts HS) : Pact3 HS (fun _ => True) := ⟨P.new, P.act, P.gauge, P.safe, fun _ _ => trivial⟩

/-- a heap of the program, in memory from block B on -/
structure KAt (HS : HeapM → St → Cf → Nat → Prop) (B : Nat) (w : World) (x : Nat) (hm : HeapM) (s : St) (c : Cf) (N : Nat) : Prop where
  here : HeapAt w x hm
  hs : HS hm s c N
  good : s.Good N
  bound : Bound c s
  cf : CfOk c
  small : N ≤ 99
  gl : s.globals.length ≤ 8
  low : ∀ g ∈ x :: hm.foot, B ≤ g
  size : B ≤ w.heap.size
theorem KAt.stack {B : Nat} {w : World} {x : Nat} {hm : HeapM} {s : St} {c : Cf} {N : Nat} (k : KAt HS B w x hm s c N) : s.stack.length ≤ 16 := by have := k.bound.roots; have := k.cf.deep; omega
theorem KAt.below {B : Nat} {w w' : World} {x : Nat} {hm : HeapM} {s : St} {c : Cf} {N : Nat} (k : KAt HS B w x hm s c N) (hb : Below w.heap.size w w') : KAt HS B w' x hm s c N :=
  ⟨k.here.carry fun g hg => hb.block g (k.here.lt g hg), k.hs, k.good, k.bound, k.cf, k.small, k.gl, k.low, by have := hb.size; have := k.size; omega⟩
/-- what a call leaves: the heap, and nothing of the memory below block B is turned -/
structure KStep (HS : HeapM → St → Cf → Nat → Prop) (B : Nat) (w : World) (x : Nat) (hm : HeapM) (w' : World) (s' : St) (c : Cf) (N : Nat) : Prop where
  at_ : ∃ hm', HTurn x w hm w' hm' ∧ KAt HS B w' x hm' s' c N
  keep : Below B w w'
theorem kstep {B : Nat} {w w' : World} {x : Nat} {hm hm' : HeapM} {s s' : St} {c : Cf} {N : Nat} (k : KAt HS B w x hm s c N) (t : HTurn x w hm w' hm') (hs : HS hm' s' c N) (hg : s'.Good N) (hb : Bound c s') (hl : s'.globals.length ≤ 8) : KStep HS B w x hm w' s' c N := by
  have hz := t.off.size
  refine ⟨⟨hm', t, t.here, hs, hg, hb, k.cf, k.small, hl, fun g hgm => ?_, by have := k.size; omega⟩, t.off.os, t.off.tape, t.off.output, hz, fun g hgB => t.off.block g (by have := k.size; omega) fun hm => ?_⟩
  · rcases List.mem_cons.1 hgm with e | e
    · exact k.low g (by rw [e]; exact List.mem_cons_self)
    · rcases t.foot g e with e | e
      · exact k.low g (List.mem_cons_of_mem _ e)
      · have := k.size; omega
  · have := k.low g hm; omega

theorem store_globals (c : Cf) (s : St) (n : Int) : (storeS c s n).1.globals = s.globals := by
  unfold storeS
  split
  · rfl
  split
  · rfl
  split
  · rfl
  have er : ∀ o x, (stickS o (s.pop 2) x).globals = s.globals := fun o x => by unfold stickS; split <;> rfl
  unfold putS
  split
  · rfl
  · unfold dropS'
    split
    · exact (enter_roots _ _ _).2.trans (er _ _)
    · exact er _ _
theorem new_globals {s : St} {N : Nat} (g : s.Good N) (c : Cf) (n : Int) : (newS c s n).1.globals = s.globals := by
  by_cases h : (newS c s n).2.2 = 0
  · obtain ⟨k, _, _, h3, _⟩ := new_state g c n h; exact h3
  · exact (new_refused g c n h).globals
theorem do_globals {s : St} {N : Nat} (g : s.Good N) (c : Cf) (op n : Int) : (doS c s op n).1.globals.length = s.globals.length := by
  refine doS_keeps c s op n (fun t => t.globals.length = s.globals.length) rfl (fun t v ht _ _ _ => ht) (fun k => rfl) (fun k hk => by simp) (by rw [new_globals g]) (by rw [store_globals])

theorem k_do (P : Pacts HS) {B : Nat} {w : World} {x : Nat} {hm : HeapM} {s : St} {c : Cf} {N : Nat} (k : KAt HS B w x hm s c N) (op n : Int) (hop : fits op) (hn : fits n) :
    Calls Try.prog 10 #[.pointer (some ⟨x, 0, none⟩), .int .i64 op, .int .i64 n] w fun e w' => e = .returned (.tuple #[.int .i64 (doS c s op n).2.1, .int .i64 (doS c s op n).2.2]) ∧ KStep HS B w x hm w' (doS c s op n).1 c N := by
  refine (P.act x N w hm s c op n k.here k.hs k.good k.cf k.small k.stack k.gl hop hn (fun _ => trivial)).mono ?_
  rintro e w' ⟨he, hm', t, hs⟩
  exact ⟨he, kstep k t hs (k.good.did c op n hn) (k.bound.did k.good k.cf.over.1 op n) (by rw [do_globals k.good]; exact k.gl)⟩
theorem k_do3 (P : Pact3 HS Room) {B : Nat} {w : World} {x : Nat} {hm : HeapM} {s : St} {c : Cf} {N : Nat} (k : KAt HS B w x hm s c N) (op n : Int) (hop : fits op) (hn : fits n) (hr : op = 2 → ∃ k, free? s = some k) :
    Calls Try.prog 10 #[.pointer (some ⟨x, 0, none⟩), .int .i64 op, .int .i64 n] w fun e w' => e = .returned (.tuple #[.int .i64 (doS c s op n).2.1, .int .i64 (doS c s op n).2.2]) ∧ KStep HS B w x hm w' (doS c s op n).1 c N := by
  refine (P.act x N w hm s c op n k.here k.hs k.good k.cf k.small k.stack k.gl hop hn (fun h => P.room s (hr h))).mono ?_
  rintro e w' ⟨he, hm', t, hs⟩
  exact ⟨he, kstep k t hs (k.good.did c op n hn) (k.bound.did k.good k.cf.over.1 op n) (by rw [do_globals k.good]; exact k.gl)⟩
theorem k_safe3 (P : Pact3 HS Room) {B : Nat} {w : World} {x : Nat} {hm : HeapM} {s : St} {c : Cf} {N : Nat} (k : KAt HS B w x hm s c N) :
    Calls Try.prog 14 #[.pointer (some ⟨x, 0, none⟩)] w fun e w' => e = .returned (.int .i64 (s.safe c).2) ∧ KStep HS B w x hm w' (s.safe c).1 c N := by
  refine (P.safe x N w hm s c k.here k.hs k.good k.cf k.small k.stack k.gl).mono ?_
  rintro e w' ⟨he, hm', t, hs⟩
  exact ⟨he, kstep k t hs (k.good.safe c) (k.bound.safe k.good) (by rw [(same_safe k.good c).globals]; exact k.gl)⟩
theorem k_gauge3 (P : Pact3 HS Room) {B : Nat} {w : World} {x : Nat} {hm : HeapM} {s : St} {c : Cf} {N : Nat} (k : KAt HS B w x hm s c N) :
    Calls Try.prog 13 #[.pointer (some ⟨x, 0, none⟩)] w fun e w' => e = .returned (.agg #[.int .i64 (gaugeS s).1, .int .i64 (gaugeS s).2.1, .int .i64 (gaugeS s).2.2.1, .int .i64 (gaugeS s).2.2.2.1, .int .i64 (gaugeS s).2.2.2.2]) ∧ KStep HS B w x hm w' s c N := by
  refine (P.gauge x N w hm s c k.here k.hs k.good k.cf k.small k.stack k.gl).mono ?_
  rintro e w' ⟨he, hm', t, hs⟩
  exact ⟨he, kstep k t hs k.good k.bound k.gl⟩
theorem k_safe (P : Pacts HS) {B : Nat} {w : World} {x : Nat} {hm : HeapM} {s : St} {c : Cf} {N : Nat} (k : KAt HS B w x hm s c N) :
    Calls Try.prog 14 #[.pointer (some ⟨x, 0, none⟩)] w fun e w' => e = .returned (.int .i64 (s.safe c).2) ∧ KStep HS B w x hm w' (s.safe c).1 c N := by
  refine (P.safe x N w hm s c k.here k.hs k.good k.cf k.small k.stack k.gl).mono ?_
  rintro e w' ⟨he, hm', t, hs⟩
  exact ⟨he, kstep k t hs (k.good.safe c) (k.bound.safe k.good) (by rw [(same_safe k.good c).globals]; exact k.gl)⟩
theorem k_coll (P : Pacts HS) {B : Nat} {w : World} {x : Nat} {hm : HeapM} {s : St} {c : Cf} {N : Nat} (k : KAt HS B w x hm s c N) :
    Calls Try.prog 15 #[.pointer (some ⟨x, 0, none⟩)] w fun e w' => e = .returned (.int .i64 s.gone) ∧ KStep HS B w x hm w' (s.collect c.over) c N := by
  refine (P.coll x N w hm s c k.here k.hs k.good k.cf k.small k.stack k.gl).mono ?_
  rintro e w' ⟨he, hm', t, hs⟩
  exact ⟨he, kstep k t hs (k.good.collect _) (k.bound.collected k.good k.cf.over.1) (by rw [(same_collect k.good _).globals]; exact k.gl)⟩
def st0 (k : CfgM) : St := ⟨[], List.replicate k.g (0, 0), List.replicate (k.b + 1) Ob.free, []⟩
theorem CfgM.bounds {k : CfgM} (h : k.ok) : 1 ≤ k.b ∧ k.b ≤ 99 ∧ 1 ≤ k.s ∧ k.s ≤ 16 ∧ k.g ≤ 8 ∧ 1 ≤ k.u ∧ k.u ≤ 99 ∧ k.s + k.g < k.z ∧ k.z ≤ 99 ∧ k.o ≤ 9 := by
  have h' : cfgB k.b k.s k.g k.u k.z k.o = true := h
  simp [cfgB] at h'
  omega
theorem k_new (P : Pact3 HS Room) (k : CfgM) (hk : k.ok) (w : World) :
    Calls Try.prog 18 #[k.val] w fun e w' => ∃ x hm, e = .returned (.tuple #[.pointer (some ⟨x, 0, none⟩), .int .i64 0]) ∧ Below w.heap.size w w' ∧ KAt HS w.heap.size w' x hm (st0 k) k.cf k.b := by
  refine (new_says k.b k.s k.g k.u k.z k.o w hk).mono ?_
  rintro e w' ⟨x, hm, he, hb, ha, hf, hn⟩
  have hB := CfgM.bounds hk
  refine ⟨x, hm, he, hb, ha, P.new _ _ _ _ _ _ hk hm hn, good_new k.b k.g, bound_new k.cf k.b k.g ?_ ?_ ?_, ⟨?_, ?_, ?_, ?_⟩, by omega, ?_, hf, hb.size⟩
  · show (0 : Int) ≤ (k.s : Int); omega
  · show (k.s : Int) + k.g < (k.z : Int); omega
  · show (0 : Int) ≤ (k.o : Int); omega
  · show 1 ≤ (k.s : Int) ∧ (k.s : Int) ≤ 16; omega
  · show 1 ≤ (k.u : Int) ∧ (k.u : Int) ≤ 99; omega
  · show 0 ≤ (k.o : Int) ∧ (k.o : Int) ≤ 9; omega
  · show (k.s : Int) < (k.z : Int) ∧ (k.z : Int) ≤ 99; omega
  · show (List.replicate k.g (0, 0)).length ≤ 8; simp; omega

/-! ### What a heap that works answers -/
theorem reach_none {s : St} (h : ∀ b : Int, s.rooted b = false) (b : Nat) : s.reachB b = false := by
  cases e : s.reachB b with
  | false => rfl
  | true =>
    have := reach_least (s := s) (P := fun _ => False) (fun b _ _ hr => by rw [h] at hr; cases hr) (fun a b ha _ _ _ _ _ => ha) e
    exact this.elim
theorem reachN_none {s : St} (h : ∀ b : Int, s.rooted b = false) : reachN s = 0 := by
  unfold reachN countTo
  exact List.countP_eq_zero.2 fun j _ => by rw [reach_none h]; simp
theorem rooted_nils (g N : Nat) (b : Int) (q : List Int) (l : List Ob) : (⟨[], List.replicate g (0, 0), l, q⟩ : St).rooted b = false := by
  cases e : (⟨[], List.replicate g (0, 0), l, q⟩ : St).rooted b with
  | false => rfl
  | true =>
    rcases rooted_true.1 e with ⟨v, hv, _⟩ | ⟨v, hv, h1, _⟩
    · cases hv
    · simp at hv; rw [hv.2] at h1; cases h1
/-- the answers of the six calls -/
structure Works (c : Cf) (s0 s1 s2 s3 s4 : St) (z : Int) : Prop where
  a1 : (doS c s0 2 2).2 = (0, 0)
  e1 : s1 = (doS c s0 2 2).1
  a2 : (doS c s1 11 0).2 = (2, 0)
  e2 : s2 = (doS c s1 11 0).1
  a3 : (doS c s2 4 0).2 = (0, 0)
  e3 : s3 = (doS c s2 4 0).1
  a4 : (doS c s3 1 z).2 = (0, 0)
  e4 : s4 = (doS c s3 1 z).1
  a5 : (doS c s4 10 0).2 = (z, 0)
theorem works_pure (k : CfgM) (hk : k.ok) (z : Int) : ∃ s1 s2 s3 s4, Works k.cf (st0 k) s1 s2 s3 s4 z := by
  have hB := CfgM.bounds hk
  have g0 : (st0 k).Good k.b := good_new k.b k.g
  have d2 : doS k.cf (st0 k) 2 2 = newS k.cf (st0 k) 2 := rfl
  have a0 : (newS k.cf (st0 k) 2).2.2 = 0 := by
    rw [new_answer g0, if_neg (by omega), if_neg (by show ¬ (k.s : Int) ≤ ((0 : Nat) : Int); omega), if_neg ?_]
    have : reachN (st0 k) = 0 := reachN_none fun b => rooted_nils k.g k.b b _ _
    omega
  obtain ⟨b, hb1, hb2, hst, hob, hct⟩ := new_object g0 k.cf 2 a0
  obtain ⟨s1, hs1⟩ : ∃ s1, (newS k.cf (st0 k) 2).1 = s1 := ⟨_, rfl⟩
  rw [hs1] at hst hob
  have hst' : s1.stack = [(2, (b : Int))] := by rw [hst]; rfl
  have hd : s1.down 0 = (2, (b : Int)) := by unfold St.down; rw [hst']; rfl
  have hf : s1.fields (b : Int) = List.replicate 2 (0, 0) := by unfold St.fields; rw [Int.toNat_natCast, hob]; rfl
  have d11 : doS k.cf s1 11 0 = (s1, 2, 0) := by
    show sizeS s1 = _
    unfold sizeS
    rw [if_neg (by rw [hst']; simp), hd, if_neg (by simp [objErr])]
    show (s1, ((s1.fields (b : Int)).length : Int), (0 : Int)) = _
    rw [hf]; rfl
  have d4 : doS k.cf s1 4 0 = (s1.pop 1, 0, 0) := by
    show dropS s1 = _
    unfold dropS
    rw [if_neg (by rw [hst']; simp)]
  have hp : (s1.pop 1).stack = [] := by unfold St.pop; rw [hst']; rfl
  have dd : k.cf.deep = (k.s : Int) := rfl
  have d1 : doS k.cf (s1.pop 1) 1 z = ({ s1.pop 1 with stack := [(1, z)] }, 0, 0) := by
    show pushA k.cf.deep (s1.pop 1) (1, z) = _
    unfold pushA pushS
    rw [if_neg (by rw [hp, dd]; simp; omega), hp]; rfl
  have d10 : doS k.cf { s1.pop 1 with stack := [(1, z)] } 10 0 = (({ s1.pop 1 with stack := [(1, z)] } : St).pop 1, z, 0) := by
    show takeS { s1.pop 1 with stack := [(1, z)] } = _
    unfold takeS
    have e1 : ({ s1.pop 1 with stack := [(1, z)] } : St).down 0 = (1, z) := rfl
    rw [if_neg (by simp), e1]
    exact if_pos rfl
  refine ⟨s1, s1, s1.pop 1, { s1.pop 1 with stack := [(1, z)] }, ?_, ?_, ?_, ?_, ?_, ?_, ?_, ?_, ?_⟩
  · rw [d2]; exact Prod.ext (new_num _ _ _) a0
  · rw [d2]; exact hs1.symm
  · rw [d11]
  · rw [d11]
  · rw [d4]
  · rw [d4]
  · rw [d1]
  · rw [d1]
  · rw [d10]

end Go.Proofs.Ytpmkjeihbddfpaa

/- OUR OWN. The statements without the document's answer: works, fresh. -/
namespace Go.Proofs.Ytpmkjeihbddfpaa
open Go.RowKit
set_option linter.unusedVariables false
set_option linter.unusedSimpArgs false

variable {HS : HeapM → St → Cf → Nat → Prop} {Room : St → Prop}

def CfgM.cells (k : CfgM) : Array Value := #[.int .i64 k.b, .int .i64 k.s, .int .i64 k.g, .int .i64 k.u, .int .i64 k.z, .int .i64 k.o]

/-- a Do whose answer is known -/
def DoesAt (HS : HeapM → St → Cf → Nat → Prop) (B x : Nat) (c : Cf) (N : Nat) (s : St) (op n a e : Int) (s' : St) : Prop := ∀ W hm, KAt HS B W x hm s c N → Calls Try.prog 10 #[.pointer (some ⟨x, 0, none⟩), .int .i64 op, .int .i64 n] W
  fun r w' => r = .returned (.tuple #[.int .i64 a, .int .i64 e]) ∧ (∃ hm', KAt HS B w' x hm' s' c N) ∧ Below B W w'
theorem doesAt (P : Pact3 HS Room) {B x : Nat} {c : Cf} {N : Nat} {s s' : St} {op n a e : Int} (ha : (doS c s op n).2 = (a, e)) (hs : s' = (doS c s op n).1) (hop : fits op) (hn : fits n) (hf : op = 2 → ∃ k, free? s = some k) : DoesAt HS B x c N s op n a e s' := fun W hm k => by
  refine (k_do3 P k op n hop hn hf).mono ?_
  rintro r w' ⟨hr, st⟩
  obtain ⟨hm', _, k'⟩ := st.at_
  refine ⟨?_, ⟨hm', by rw [hs]; exact k'⟩, st.keep⟩
  rw [hr, ha]

set_option maxHeartbeats 3200000 in
set_option maxRecDepth 10000 in
theorem works_any (P : Pact3 HS Room) (k : CfgM) (hk : k.ok) (w : World) :
    Calls Try.prog 17 #[k.val] w fun e w' => e = .returned (.bool true) ∧ Below w.heap.size w w' := by
  have hB := CfgM.bounds hk
  have fz : fits (k.z : Int) := ⟨by omega, by omega⟩
  obtain ⟨s1, s2, s3, s4, W⟩ := works_pure k hk k.z
  have NEW : Hid (∀ W, Calls Try.prog 18 #[.agg #[.int .i64 k.b, .int .i64 k.s, .int .i64 k.g, .int .i64 k.u, .int .i64 k.z, .int .i64 k.o]] W fun e w' => ∃ x hm, e = .returned (.tuple #[.pointer (some ⟨x, 0, none⟩), .int .i64 0]) ∧ Below W.heap.size W w' ∧ KAt HS W.heap.size w' x hm (st0 k) k.cf k.b) := fun W => k_new P k hk W
  have F0 : ∃ j, free? (st0 k) = some j := by
    refine free_exists (b := 1) (Nat.le_refl _) (by simp [st0]; omega) ?_
    unfold St.ob st0
    rw [List.getD_eq_getElem?_getD, List.getElem?_replicate]
    split <;> rfl
  have D1 : Hid (∀ B x, DoesAt HS B x k.cf k.b (st0 k) 2 2 0 0 s1) := fun B x => doesAt P W.a1 W.e1 ⟨by decide, by decide⟩ ⟨by decide, by decide⟩ fun _ => F0
  have D2 : Hid (∀ B x, DoesAt HS B x k.cf k.b s1 11 0 2 0 s2) := fun B x => doesAt P W.a2 W.e2 ⟨by decide, by decide⟩ ⟨by decide, by decide⟩ fun h => absurd h (by decide)
  have D3 : Hid (∀ B x, DoesAt HS B x k.cf k.b s2 4 0 0 0 s3) := fun B x => doesAt P W.a3 W.e3 ⟨by decide, by decide⟩ ⟨by decide, by decide⟩ fun h => absurd h (by decide)
  have D4 : Hid (∀ B x, DoesAt HS B x k.cf k.b s3 1 (k.z : Int) 0 0 s4) := fun B x => doesAt P W.a4 W.e4 ⟨by decide, by decide⟩ fz fun h => absurd h (by decide)
  have D5 : Hid (∀ B x, DoesAt HS B x k.cf k.b s4 10 0 (k.z : Int) 0 (doS k.cf s4 10 0).1) := fun B x => doesAt P W.a5 rfl ⟨by decide, by decide⟩ ⟨by decide, by decide⟩ fun h => absurd h (by decide)
  obtain ⟨kb, ks, kg, ku, kz, ko⟩ := k
  simp only at *
  clear W hB fz hk P F0
  unfold CfgM.val
  simp only
  go_enter Try.func17, Try.ntmps17
  go_wp2_with fail
  refine Calls.mono (NEW.out _) ?_
  rintro e w1 ⟨x, hm, rfl, hb, hK⟩
  have hL := boxed' hb
  rw [show (w.alloc (.cells #[.int .i64 kb, .int .i64 ks, .int .i64 kg, .int .i64 ku, .int .i64 kz, .int .i64 ko] 23)).heap.size = w.heap.size + 1 by simp] at hK hb
  have K1 : Hid (KAt HS (w.heap.size + 1) w1 x hm (st0 ⟨kb, ks, kg, ku, kz, ko⟩) (CfgM.cf ⟨kb, ks, kg, ku, kz, ko⟩) kb ∧ w1.heap[w.heap.size]? = some (.cells #[.int .i64 kb, .int .i64 ks, .int .i64 kg, .int .i64 ku, .int .i64 kz, .int .i64 ko] 23) ∧ Below w.heap.size w w1) := ⟨hK, hL, ((Below.refl _ _).alloc (Nat.le_refl _) _).trans (hb.mono (by omega))⟩
  clear hK hL hb NEW
  go_wp2_with fail
  refine Calls.mono (D1.out _ x w1 hm K1.out.1) ?_
  rintro e w2 ⟨rfl, ⟨hm2, hK⟩, hb⟩
  have K2 : Hid (KAt HS (w.heap.size + 1) w2 x hm2 s1 (CfgM.cf ⟨kb, ks, kg, ku, kz, ko⟩) kb ∧ w2.heap[w.heap.size]? = some (.cells #[.int .i64 kb, .int .i64 ks, .int .i64 kg, .int .i64 ku, .int .i64 kz, .int .i64 ko] 23) ∧ Below w.heap.size w w2) := ⟨hK, by rw [hb.block _ (by omega)]; exact K1.out.2.1, K1.out.2.2.trans (hb.mono (by omega))⟩
  clear hK hb K1 D1
  go_wp2_with fail
  refine Calls.mono (D2.out _ x w2 hm2 K2.out.1) ?_
  rintro e w3 ⟨rfl, ⟨hm3, hK⟩, hb⟩
  have K3 : Hid (KAt HS (w.heap.size + 1) w3 x hm3 s2 (CfgM.cf ⟨kb, ks, kg, ku, kz, ko⟩) kb ∧ w3.heap[w.heap.size]? = some (.cells #[.int .i64 kb, .int .i64 ks, .int .i64 kg, .int .i64 ku, .int .i64 kz, .int .i64 ko] 23) ∧ Below w.heap.size w w3) := ⟨hK, by rw [hb.block _ (by omega)]; exact K2.out.2.1, K2.out.2.2.trans (hb.mono (by omega))⟩
  clear hK hb K2 D2
  go_wp2_with fail
  refine Calls.mono (D3.out _ x w3 hm3 K3.out.1) ?_
  rintro e w4 ⟨rfl, ⟨hm4, hK⟩, hb⟩
  have hL := (hb.block w.heap.size (by omega)).trans K3.out.2.1
  have l4 : w4.cell? ⟨w.heap.size, 4, none⟩ = some (.int .i64 kz) := cell_of_heap hL rfl
  have K4 : Hid (KAt HS (w.heap.size + 1) w4 x hm4 s3 (CfgM.cf ⟨kb, ks, kg, ku, kz, ko⟩) kb ∧ w4.heap[w.heap.size]? = some (.cells #[.int .i64 kb, .int .i64 ks, .int .i64 kg, .int .i64 ku, .int .i64 kz, .int .i64 ko] 23) ∧ Below w.heap.size w w4) := ⟨hK, hL, K3.out.2.2.trans (hb.mono (by omega))⟩
  clear hK hb K3 D3 hL
  go_wp2_with fail
  refine Calls.mono (D4.out _ x w4 hm4 K4.out.1) ?_
  rintro e w5 ⟨rfl, ⟨hm5, hK⟩, hb⟩
  have K5 : Hid (KAt HS (w.heap.size + 1) w5 x hm5 s4 (CfgM.cf ⟨kb, ks, kg, ku, kz, ko⟩) kb ∧ w5.heap[w.heap.size]? = some (.cells #[.int .i64 kb, .int .i64 ks, .int .i64 kg, .int .i64 ku, .int .i64 kz, .int .i64 ko] 23) ∧ Below w.heap.size w w5) := ⟨hK, by rw [hb.block _ (by omega)]; exact K4.out.2.1, K4.out.2.2.trans (hb.mono (by omega))⟩
  clear hK hb K4 D4 l4
  go_wp2_with fail
  refine Calls.mono (D5.out _ x w5 hm5 K5.out.1) ?_
  rintro e w6 ⟨rfl, ⟨hm6, hK⟩, hb⟩
  have hL := (hb.block w.heap.size (by omega)).trans K5.out.2.1
  have l4 : w6.cell? ⟨w.heap.size, 4, none⟩ = some (.int .i64 kz) := cell_of_heap hL rfl
  have B6 : Hid (Below w.heap.size w w6) := K5.out.2.2.trans (hb.mono (by omega))
  clear hK hb K5 D5 hL
  go_wp2
  go_ret
  exact ⟨rfl, B6.out⟩

set_option maxHeartbeats 1600000 in
set_option maxRecDepth 10000 in
theorem fresh_keep (P : Pact3 HS Room) (k : CfgM) (hk : k.ok) (w : World) :
    Calls Try.prog 9 #[k.val] w fun e w' => ∃ x hm, e = .returned (.pointer (some ⟨x, 0, none⟩)) ∧ Below w.heap.size w w' ∧ KAt HS w.heap.size w' x hm (st0 k) k.cf k.b := by
  have NEW : Hid (∀ W, Calls Try.prog 18 #[.agg #[.int .i64 k.b, .int .i64 k.s, .int .i64 k.g, .int .i64 k.u, .int .i64 k.z, .int .i64 k.o]] W fun e w' => ∃ x hm, e = .returned (.tuple #[.pointer (some ⟨x, 0, none⟩), .int .i64 0]) ∧ Below W.heap.size W w' ∧ KAt HS W.heap.size w' x hm (st0 k) k.cf k.b) := fun W => k_new P k hk W
  have WORKS : Hid (∀ W, Calls Try.prog 17 #[.agg #[.int .i64 k.b, .int .i64 k.s, .int .i64 k.g, .int .i64 k.u, .int .i64 k.z, .int .i64 k.o]] W fun e w' => e = .returned (.bool true) ∧ Below W.heap.size W w') := fun W => works_any P k hk W
  have LOW : Hid (∀ (B B' : Nat) W x hm, B' ≤ B → KAt HS B W x hm (st0 k) k.cf k.b → KAt HS B' W x hm (st0 k) k.cf k.b) := fun B B' W x hm hle K => ⟨K.here, K.hs, K.good, K.bound, K.cf, K.small, K.gl, fun g hg => Nat.le_trans hle (K.low g hg), Nat.le_trans hle K.size⟩
  obtain ⟨kb, ks, kg, ku, kz, ko⟩ := k
  simp only at *
  clear hk P
  unfold CfgM.val
  simp only
  go_enter Try.func9, Try.ntmps9
  go_wp2_with fail
  refine Calls.mono (WORKS.out _) ?_
  rintro e w1 ⟨rfl, hb⟩
  have hL := boxed' hb
  have B1 : Hid (Below w.heap.size w w1) := ((Below.refl _ _).alloc (Nat.le_refl _) _).trans (hb.mono (by simp))
  have l0 : w1.cell? ⟨w.heap.size, 0, none⟩ = some (.int .i64 kb) := cell_of_heap hL rfl
  have l1 : w1.cell? ⟨w.heap.size, 1, none⟩ = some (.int .i64 ks) := cell_of_heap hL rfl
  have l2 : w1.cell? ⟨w.heap.size, 2, none⟩ = some (.int .i64 kg) := cell_of_heap hL rfl
  have l3 : w1.cell? ⟨w.heap.size, 3, none⟩ = some (.int .i64 ku) := cell_of_heap hL rfl
  have l4 : w1.cell? ⟨w.heap.size, 4, none⟩ = some (.int .i64 kz) := cell_of_heap hL rfl
  have l5 : w1.cell? ⟨w.heap.size, 5, none⟩ = some (.int .i64 ko) := cell_of_heap hL rfl
  clear hb hL WORKS
  go_wp2_with fail
  refine Calls.mono (NEW.out _) ?_
  rintro e w2 ⟨x, hm, rfl, hb, hK⟩
  have K2 : Hid (Below w.heap.size w w2 ∧ KAt HS w.heap.size w2 x hm (st0 ⟨kb, ks, kg, ku, kz, ko⟩) (CfgM.cf ⟨kb, ks, kg, ku, kz, ko⟩) kb) := ⟨B1.out.trans (hb.mono B1.out.size), LOW.out _ _ _ _ _ B1.out.size hK⟩
  clear hb hK NEW LOW
  go_wp2
  go_ret
  exact ⟨x, hm, rfl, K2.out.1, K2.out.2⟩

end Go.Proofs.Ytpmkjeihbddfpaa

/- OUR OWN. Boxes beside the heap. -/
namespace Go.Proofs.Ytpmkjeihbddfpaa
open Go.RowKit
set_option linter.unusedVariables false
set_option linter.unusedSimpArgs false
variable {x : Nat} {W W' : World}

/-- boxes beside the heap, with what they have -/
def Kept (K : List (Nat × Obj)) (x : Nat) (hm : HeapM) (W : World) : Prop := ∀ p ∈ K, p.1 ∉ x :: hm.foot ∧ W.heap[p.1]? = some p.2
theorem Kept.step {K : List (Nat × Obj)} {hm hm' : HeapM} {w' : World} (h : Kept K x hm W) (t : HTurn x W hm w' hm') : Kept K x hm' w' := fun p hp => by
  obtain ⟨h1, h2⟩ := h p hp
  refine ⟨fun hmem => ?_, by rw [t.off.block p.1 (lt_of_heap h2) h1]; exact h2⟩
  rcases List.mem_cons.1 hmem with e | e
  · exact h1 (by rw [e]; exact List.mem_cons_self)
  · rcases t.foot p.1 e with e | e
    · exact h1 (List.mem_cons_of_mem _ e)
    · have := lt_of_heap h2; omega
theorem Kept.below {K : List (Nat × Obj)} {hm : HeapM} (h : Kept K x hm W) (hb : Below W.heap.size W W') : Kept K x hm W' := fun p hp => by
  obtain ⟨h1, h2⟩ := h p hp
  exact ⟨h1, by rw [hb.block p.1 (lt_of_heap h2)]; exact h2⟩
theorem Kept.box {K : List (Nat × Obj)} {hm : HeapM} (h : Kept K x hm W) (r : HeapAt W x hm) (ob : Obj) : Kept ((W.heap.size, ob) :: K) x hm (W.alloc ob) := fun p hp => by
  rcases List.mem_cons.1 hp with rfl | hp
  · exact ⟨fun e => by have := r.lt _ e; omega, heap_alloc_new W ob⟩
  · exact h.below ((Below.refl _ _).alloc (Nat.le_refl _) _) p hp

end Go.Proofs.Ytpmkjeihbddfpaa

/- OUR OWN. Acts and configurations in memory. -/
namespace Go.Proofs.Ytpmkjeihbddfpaa
open Go.RowKit
set_option linter.unusedVariables false
set_option linter.unusedSimpArgs false

/-- a list of acts, of numbers, in memory -/
def ActsIn (w : World) (a0 : Option Addr) (len : Nat) (st : Nat → Int × Int) : Prop := ∀ k, k < len → ∃ sb off, a0 = some ⟨sb, off, none⟩ ∧ sb < w.heap.size ∧ fits (st k).1 ∧ fits (st k).2 ∧ w.cell? ⟨sb, off + k * 2, none⟩ = some (.int .i64 (st k).1) ∧ w.cell? ⟨sb, off + k * 2 + 1, none⟩ = some (.int .i64 (st k).2)
def IntsIn (w : World) (a0 : Option Addr) (len : Nat) (st : Nat → Int) : Prop := ∀ k, k < len → ∃ sb off, a0 = some ⟨sb, off, none⟩ ∧ sb < w.heap.size ∧ fits (st k) ∧ w.cell? ⟨sb, off + k, none⟩ = some (.int .i64 (st k))

theorem set6_heap {w : World} {L : Nat} {t : TypeId} {c0 c1 c2 c3 c4 c5 : Value} (h : w.heap[L]? = some (.cells #[c0, c1, c2, c3, c4, c5] t)) (a0 a1 a2 a3 a4 a5 : Value) :
    ((((((w.setCell ⟨L, 0, none⟩ a0).setCell ⟨L, 1, none⟩ a1).setCell ⟨L, 2, none⟩ a2).setCell ⟨L, 3, none⟩ a3).setCell ⟨L, 4, none⟩ a4).setCell ⟨L, 5, none⟩ a5).heap[L]? = some (.cells #[a0, a1, a2, a3, a4, a5] t) := by
  have h0 := heap_setCell_at (i := 0) h a0
  have h1 := heap_setCell_at (i := 1) h0 a1
  have h2 := heap_setCell_at (i := 2) h1 a2
  have h3 := heap_setCell_at (i := 3) h2 a3
  have h4 := heap_setCell_at (i := 4) h3 a4
  have h5 := heap_setCell_at (i := 5) h4 a5
  rw [h5]; rfl
theorem set6_off {w : World} {L j : Nat} (hj : j ≠ L) (a0 a1 a2 a3 a4 a5 : Value) :
    ((((((w.setCell ⟨L, 0, none⟩ a0).setCell ⟨L, 1, none⟩ a1).setCell ⟨L, 2, none⟩ a2).setCell ⟨L, 3, none⟩ a3).setCell ⟨L, 4, none⟩ a4).setCell ⟨L, 5, none⟩ a5).heap[j]? = w.heap[j]? := by
  rw [hso hj, hso hj, hso hj, hso hj, hso hj, hso hj]
theorem set6_below {B : Nat} {w w0 : World} {L : Nat} (hb : Below B w0 w) (hL : B ≤ L) (a0 a1 a2 a3 a4 a5 : Value) :
    Below B w0 ((((((w.setCell ⟨L, 0, none⟩ a0).setCell ⟨L, 1, none⟩ a1).setCell ⟨L, 2, none⟩ a2).setCell ⟨L, 3, none⟩ a3).setCell ⟨L, 4, none⟩ a4).setCell ⟨L, 5, none⟩ a5) :=
  (((((hb.setCell hL _).setCell hL _).setCell hL _).setCell hL _).setCell hL _).setCell hL _
theorem set6_size {w : World} {L : Nat} (a0 a1 a2 a3 a4 a5 : Value) : ((((((w.setCell ⟨L, 0, none⟩ a0).setCell ⟨L, 1, none⟩ a1).setCell ⟨L, 2, none⟩ a2).setCell ⟨L, 3, none⟩ a3).setCell ⟨L, 4, none⟩ a4).setCell ⟨L, 5, none⟩ a5).heap.size = w.heap.size := by simp [World.setCell]
/-- the cells of a configuration in memory -/
structure Box6 (w : World) (L : Nat) (c0 c1 c2 c3 c4 c5 : Value) : Prop where
  a0 : w.cell? ⟨L, 0, none⟩ = some c0
  a1 : w.cell? ⟨L, 1, none⟩ = some c1
  a2 : w.cell? ⟨L, 2, none⟩ = some c2
  a3 : w.cell? ⟨L, 3, none⟩ = some c3
  a4 : w.cell? ⟨L, 4, none⟩ = some c4
  a5 : w.cell? ⟨L, 5, none⟩ = some c5
  fz : ∀ j, w.frozen? ⟨L, j, none⟩ = false
theorem box6 {w : World} {L : Nat} {t : TypeId} {c0 c1 c2 c3 c4 c5 : Value} (h : w.heap[L]? = some (.cells #[c0, c1, c2, c3, c4, c5] t)) : Box6 w L c0 c1 c2 c3 c4 c5 :=
  ⟨cell_of_heap h rfl, cell_of_heap h rfl, cell_of_heap h rfl, cell_of_heap h rfl, cell_of_heap h rfl, cell_of_heap h rfl, fun _ => frozen_of_heap h⟩

end Go.Proofs.Ytpmkjeihbddfpaa

