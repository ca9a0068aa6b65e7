import Derived.Test.YtpmkjeihbddfpaaDrainedB7
import Derived.Lib.OwnKind
/- OUR OWN. The program's heap: the marking; add. -/
namespace Go.Proofs.Ytpmkjeihbddfpaa
open Go.RowKit
set_option linter.unusedVariables false
set_option linter.unusedSimpArgs false

theorem infoMark : (Try.prog.info? 4).map (fun i => (i.zero, i.size, i.bytes)) = some (some (.bool false), 1, 1) := by kernel_rfl

def numRow (t : List Nat) : List Value := t.map fun (n : Nat) => Value.int .i64 (n : Int)
/-- which blocks are among those that were found -/
def inM (N : Nat) (t : List Nat) : List Value := (List.range (N + 1)).map fun b => Value.bool (decide (b ∈ t))
theorem inM_get {N b : Nat} (t : List Nat) (hb : b ≤ N) : (inM N t)[b]? = some (.bool (decide (b ∈ t))) := by
  unfold inM
  rw [List.getElem?_map, List.getElem?_range (by omega)]; rfl
theorem inM_nil (N : Nat) : inM N [] = List.replicate (N + 1) (.bool false) := by
  unfold inM
  apply List.ext_getElem?
  intro i
  rw [List.getElem?_map, List.getElem?_replicate]
  by_cases h : i < N + 1
  · rw [List.getElem?_range h, if_pos h]; simp
  · rw [List.getElem?_eq_none (by simpa using h), if_neg h]; rfl
theorem inM_add {N b : Nat} (t : List Nat) (hb : b ≤ N) : (inM N t).set b (.bool true) = inM N (t ++ [b]) := by
  apply List.ext_getElem?
  intro i
  unfold inM
  rw [List.getElem?_set, List.getElem?_map, List.getElem?_map, List.length_map, List.length_range]
  by_cases h : i < N + 1
  · rw [List.getElem?_range h]
    by_cases e : b = i
    · subst e; rw [if_pos rfl, if_pos h]; simp
    · rw [if_neg e]
      have : (i ∈ t ++ [b]) ↔ i ∈ t := by simp; intro x; exact absurd x.symm e
      simp only [Option.map_some, this]
  · rw [List.getElem?_eq_none (by simpa using h)]
    by_cases e : b = i
    · omega
    · rw [if_neg e]; rfl

/-- blocks of different element types are not the same -/
theorem kinds_apart {w : World} {B B' : Nat} {e e' : TypeId} {sz sz' : Nat} {v v' : Value} {n n' : Nat} {xs xs' : List Value} (h : w.ownsRow B e sz v n xs) (h' : w.ownsRow B' e' sz' v' n' xs') (he : e ≠ e') {g : Nat} (hg : v.ownBlock = some g) : v'.ownBlock ≠ some g := fun hg' => by
  obtain ⟨c, fz, hc⟩ := Go.Lib.ownsRow_kind h g hg
  obtain ⟨c', fz', hc'⟩ := Go.Lib.ownsRow_kind h' g hg'
  rw [hc] at hc'
  simp at hc'
  exact he hc'.2.1
theorem kind_box {w : World} {B : Nat} {e e' : TypeId} {sz : Nat} {v : Value} {n : Nat} {xs : List Value} {L : Nat} {cs : Array Value} (h : w.ownsRow B e sz v n xs) (h' : w.heap[L]? = some (.cells cs e')) (he : e ≠ e') : v.ownBlock ≠ some L := fun hg => by
  obtain ⟨c, fz, hc⟩ := Go.Lib.ownsRow_kind h L hg
  rw [hc] at h'
  simp at h'
  exact he h'.2.1

/-- the marking in block x: what is marked (F), in block G; what was found (T) -/
structure MkAt (w0 : World) (N x G : Nat) (F T : List Nat) (v : Value) (W : World) : Prop where
  box : W.heap[x]? = some (.cells #[.slice (some ⟨G, 0, none⟩) (N + 1) (N + 1), v] 75)
  inn : W.ownsRow w0.heap.size 4 1 (.slice (some ⟨G, 0, none⟩) (N + 1) (N + 1)) (N + 1) (inM N F)
  found : W.ownsRow w0.heap.size 3 1 v T.length (numRow T)
  below : Below w0.heap.size w0 W
  le : w0.heap.size ≤ x
section
variable {w0 W W' : World} {N x G : Nat} {F T : List Nat} {v : Value}
theorem MkAt.on (h : MkAt w0 N x G F T v W) (hb : Below W.heap.size W W') : MkAt w0 N x G F T v W' :=
  ⟨(hb.block _ (lt_of_heap h.box)).trans h.box, own_carry h.inn fun g hg => hb.block g (own_lt h.inn hg).2, own_carry h.found fun g hg => hb.block g (own_lt h.found hg).2, h.below.trans (hb.mono h.below.size), h.le⟩
theorem MkAt.xG (h : MkAt w0 N x G F T v W) : x ≠ G := fun e => kind_box h.inn h.box (by decide) (by rw [e]; rfl)
theorem MkAt.mark (h : MkAt w0 N x G F T v W) (b : Nat) (hb : b ≤ N) : MkAt w0 N x G (F ++ [b]) T v (W.setCell ⟨G, b, none⟩ (.bool true)) := by
  have hI := own_lt h.inn (g := G) rfl
  refine ⟨by rw [hso h.xG]; exact h.box, ?_, own_carry h.found fun g hg => hso fun e => kinds_apart h.found h.inn (by decide) hg (by rw [e]; rfl), h.below.setCell hI.1 _, h.le⟩
  rw [← inM_add F hb]
  exact (h.inn.stored b _).1
/-- one more is found -/
theorem MkAt.grown (h : MkAt w0 N x G F T v W) {w' : World} {g cap b : Nat} (hown : w'.ownsRow w0.heap.size 3 1 (.slice (some ⟨g, 0, none⟩) (T.length + 1) cap) (T.length + 1) (numRow T ++ [.int .i64 b])) (hgr : W.grownBy w' v.ownBlock) :
    MkAt w0 N x G F (T ++ [b]) (.slice (some ⟨g, 0, none⟩) (T.length + 1) cap) (w'.setCell ⟨x, 1, none⟩ (.slice (some ⟨g, 0, none⟩) (T.length + 1) cap)) ∧ w'.cell? ⟨x, 1, none⟩ = some v ∧ w'.frozen? ⟨x, 1, none⟩ = false := by
  have hbx : w'.heap[x]? = some (.cells #[.slice (some ⟨G, 0, none⟩) (N + 1) (N + 1), v] 75) := by
    rw [hgr.block x (lt_of_heap h.box) (fun e => kind_box h.found h.box (by decide) e.symm)]; exact h.box
  have hinn : w'.ownsRow w0.heap.size 4 1 (.slice (some ⟨G, 0, none⟩) (N + 1) (N + 1)) (N + 1) (inM N F) := own_carry h.inn fun k hk => hgr.block k (own_lt h.inn hk).2 fun e => kinds_apart h.inn h.found (by decide) hk e.symm
  refine ⟨⟨heap_setCell_at (i := 1) hbx _, own_carry hinn fun k hk => hso fun e => kind_box hinn hbx (by decide) (by rw [hk, e]), ?_, (h.below.grown hgr h.below.size fun k hk => (own_lt h.found hk).1).setCell h.le _, h.le⟩, cell_of_heap hbx rfl, frozen_of_heap hbx⟩
  have e : numRow (T ++ [b]) = numRow T ++ [.int .i64 b] := by unfold numRow; rw [List.map_append]; rfl
  rw [e, List.length_append, List.length_singleton]
  exact own_carry hown fun k hk => hso fun e => kind_box hown hbx (by decide) (by rw [hk, e])
theorem MkAt.cell (h : MkAt w0 N x G F T v W) {b : Nat} (hb : b ≤ N) : W.cell? ⟨G, b, none⟩ = some (.bool (decide (b ∈ F))) ∧ W.frozen? ⟨G, b, none⟩ = false ∧ G < W.heap.size := by
  obtain ⟨g, cap, hv, hg, _, _, hcell, hfz⟩ := own_view (own_base h.inn (Nat.zero_le _)) (by omega)
  simp at hv
  obtain ⟨rfl, _⟩ := hv
  exact ⟨hcell b _ (inM_get F hb), hfz _, hg⟩
theorem MkAt.head (h : MkAt w0 N x G F T v W) : W.cell? ⟨x, 0, none⟩ = some (.slice (some ⟨G, 0, none⟩) (N + 1) (N + 1)) ∧ W.cell? ⟨x, 1, none⟩ = some v ∧ W.frozen? ⟨x, 1, none⟩ = false ∧ x < W.heap.size :=
  ⟨cell_of_heap h.box rfl, cell_of_heap h.box rfl, frozen_of_heap h.box, lt_of_heap h.box⟩
theorem MkAt.form (h : MkAt w0 N x G F T v W) : ∃ ao cap, v = .slice ao T.length cap := own_slice (own_base h.found (Nat.zero_le _))
theorem MkAt.at_ (h : MkAt w0 N x G F T v W) {n : Nat} (hn : n < T.length) : ∃ g cap, v = .slice (some ⟨g, 0, none⟩) T.length cap ∧ W.cell? ⟨g, n, none⟩ = some (.int .i64 (T[n] : Nat)) := by
  obtain ⟨g, cap, hv, hg, _, _, hcell, _⟩ := own_view (own_base h.found (Nat.zero_le _)) (by omega)
  refine ⟨g, cap, hv, hcell n _ ?_⟩
  unfold numRow
  rw [List.getElem?_map, List.getElem?_eq_getElem hn]; rfl
end

set_option maxHeartbeats 1600000 in
set_option maxRecDepth 10000 in
theorem add_any {w0 w : World} {N x G : Nat} {T : List Nat} {vT : Value} (M0 : MkAt w0 N x G T T vT w) (v : Value) (l : List (Int × Int)) (row : w0.ownsRow 0 52 2 v l.length (l.flatMap valCells)) (hl : l.length ≤ 100) (hN : N ≤ 99) (hT : T.length ≤ 200)
    (lead : ∀ u ∈ l, u.1 = 2 → ∃ b : Nat, u.2 = (b : Int) ∧ 1 ≤ b ∧ b ≤ N) :
    Calls Try.prog 56 #[.pointer (some ⟨x, 0, none⟩), v] w fun e w' => e = .returned (.tuple #[]) ∧ ∃ vT', MkAt w0 N x G (scanM l T) (scanM l T) vT' w' := by
  obtain ⟨ao, cap, hv⟩ := own_slice row
  have CELL : Hid (∀ wr j, Below w0.heap.size w0 wr → ∀ hj : j < l.length, ∃ lg, ao = some ⟨lg, 0, none⟩ ∧ wr.cell? ⟨lg, j * 2, none⟩ = some (.int .i64 (l[j]).1) ∧ wr.cell? ⟨lg, j * 2 + 1, none⟩ = some (.int .i64 (l[j]).2)) := fun wr j hb hj => by
    obtain ⟨g, cap', hv', hg, _, _, hcell, _⟩ := own_view row (by omega)
    rw [hv] at hv'
    simp at hv'
    refine ⟨g, hv'.1, (hb.cell (p := ⟨g, _, none⟩) hg).trans (hcell _ _ ?_), (hb.cell (p := ⟨g, _, none⟩) hg).trans (hcell _ _ ?_)⟩
    · have := flat_get valCells 2 (fun _ => rfl) l j 0 (by decide); simpa [hj, valCells] using this
    · have := flat_get valCells 2 (fun _ => rfl) l j 1 (by decide); simpa [hj, valCells] using this
  have LEAD : Hid (∀ u ∈ l, u.1 = 2 → ∃ b : Nat, u.2 = (b : Int) ∧ 1 ≤ b ∧ b ≤ N) := lead
  have SMALL : Hid (∀ j, (scanM (l.take j) T).length ≤ 400) := fun j => by
    have h1 := scanM_len (l.take j) T
    have h2 : (l.take j).length ≤ l.length := List.length_take_le' _ _
    omega
  have START : Hid (MkAt w0 N x G (scanM (l.take 0) T) (scanM (l.take 0) T) vT w) := M0
  obtain ⟨i3, hi3, hz0, hz1, hz2⟩ := info_parts infoInt
  have IN : Hid _ := And.intro hi3 (And.intro hz0 (And.intro hz1 hz2))
  obtain ⟨len, hlen⟩ : ∃ len, l.length = len := ⟨_, rfl⟩
  have LEN : Hid (l.length = len) := hlen
  subst hv
  rw [hlen] at hl ⊢
  clear row lead M0 hlen hT hi3 hz0 hz1 hz2
  go_enter Try.func56, Try.ntmps56
  go_wp2
  go_loopw [4] (fun i wr => ∃ j : Nat, j ≤ len ∧ i = .int .i64 j ∧ ∃ v, MkAt w0 N x G (scanM (l.take j) T) (scanM (l.take j) T) v wr) (fun i _ => len - (intOf i).toNat)
  case atStart => exact ⟨0, Nat.zero_le _, rfl, _, START.out⟩
  case round =>
    obtain ⟨j, hj, rfl, v, hm⟩ := hrel
    obtain ⟨t, ht⟩ : ∃ t, scanM (l.take j) T = t := ⟨_, rfl⟩
    have ht4 := SMALL.out j
    rw [ht] at hm ht4
    have M : Hid (MkAt w0 N x G t t v wr) := hm
    by_cases hlt : j < len
    · have hjl : j < l.length := by rw [LEN.out]; exact hlt
      obtain ⟨lg, rfl, c0, c1⟩ := CELL.out wr j hm.below hjl
      have NX : Hid (scanM (l.take (j + 1)) T = stepM t l[j]) := by show _ = _; rw [take_snoc l j hjl, scanM_snoc, ht]
      have LD := LEAD.out _ (List.getElem_mem hjl)
      obtain ⟨y, hy⟩ : ∃ y, l[j] = y := ⟨_, rfl⟩
      rw [hy] at c0 c1 NX LD
      obtain ⟨y1, y2⟩ := y
      simp only at c0 c1 LD
      obtain ⟨m0, m1, m2, hx⟩ := hm.head
      obtain ⟨tao, tc, hv⟩ := hm.form
      subst hv
      have hjI : (j : Int) < len := by omega
      by_cases hk : y1 = 2
      · subst hk
        obtain ⟨b, rfl, hb1, hbN⟩ := LD rfl
        obtain ⟨d0, d1, hG⟩ := hm.cell hbN
        have hbI : (b : Int) < (N : Int) + 1 := by omega
        by_cases hin : b ∈ t
        · have hd : decide (b ∈ t) = true := by simpa using hin
          rw [hd] at d0
          have E : Hid (scanM (l.take (j + 1)) T = t) := by show _ = _; rw [NX.out]; unfold stepM; rw [if_neg (fun e => e.2 (by simpa using hin))]
          clear hm hin hd NX LD hy ht SMALL LEAD CELL START
          go_wp2
          go_roundw
          case rel => exact ⟨j + 1, by omega, by go_num, _, by rw [E.out]; exact M.out⟩
          case measure => simp [intOf]; omega
        · have hd : decide (b ∈ t) = false := by simpa using hin
          rw [hd] at d0
          have E : Hid (scanM (l.take (j + 1)) T = t ++ [b]) := by show _ = _; rw [NX.out]; unfold stepM; rw [if_pos ⟨rfl, by simpa using hin⟩]; simp
          have MK : Hid (MkAt w0 N x G (t ++ [b]) t (.slice tao t.length tc) (wr.setCell ⟨G, b, none⟩ (.bool true))) := hm.mark b hbN
          obtain ⟨n0, n1, n2, _⟩ := MK.out.head
          have hszm : (wr.setCell ⟨G, b, none⟩ (.bool true)).heap.size = wr.heap.size := by simp [World.setCell]
          have hwr : w0.heap.size ≤ wr.heap.size := hm.below.size
          clear hm hin hd NX LD hy ht SMALL LEAD CELL START
          go_wp2_with (at_builtin; refine wpList_append_lies _ rfl (.tmp 42) (.tmp 44) 24 rfl w0.heap.size 3 i3 _ 1 8 Try.underlying24 IN.out.1 IN.out.2.1 IN.out.2.2.1 IN.out.2.2.2 rfl (by decide) _ _ _ rfl (MK.out.on ((Below.refl _ _).alloc (Nat.le_refl _) _)).found ⟨wr.heap.size, 0, none⟩ 1 1 [.int .i64 b] rfl rfl ?c1 ?c2 (by decide) ?c3 ?c4 ?c5 (wr.heap.size + 1) (by simp [hszm]) ?_)
          case c1 => have := news_new (wr.setCell ⟨G, b, none⟩ (.bool true)) [.int .i64 b] 3; rw [hszm] at this; exact this
          case c2 => intro u hu; simp at hu; subst hu; rfl
          case c3 => unfold maxLen; omega
          case c4 => omega
          case c5 => simp [hszm]; omega
          intro g' cap' w5 hown hgr _ _
          obtain ⟨R, hc, hf⟩ := (MK.out.on ((Below.refl _ (wr.setCell ⟨G, b, none⟩ (.bool true))).alloc (Nat.le_refl _) (.cells #[.int .i64 b] 3))).grown hown hgr
          have R5 : Hid _ := R
          clear hown hgr MK d0 d1 c0 c1 M R n0 n1 n2 m0 m1 m2
          go_wp2
          go_roundw
          case rel => exact ⟨j + 1, by omega, by go_num, _, by rw [E.out]; exact R5.out⟩
          case measure => simp [intOf]; omega
      · have hk1 : (y1 == 2) = false := by simpa using hk
        have hk2 : (y1 != 2) = true := by simp [hk]
        have E : Hid (scanM (l.take (j + 1)) T = t) := by show _ = _; rw [NX.out]; unfold stepM; rw [if_neg (fun e => hk e.1)]
        clear hm NX LD hy ht SMALL LEAD CELL START
        go_wp2
        go_roundw
        case rel => exact ⟨j + 1, by omega, by go_num, _, by rw [E.out]; exact M.out⟩
        case measure => simp [intOf]; omega
    · have hjl : l.take j = l := List.take_of_length_le (by rw [LEN.out]; omega)
      have E : Hid (scanM l T = t) := by show _ = _; rw [← ht, hjl]
      have hjI : ¬ (j : Int) < len := by omega
      clear hm ht hjl SMALL LEAD CELL START
      go_wp2
      go_end0
      exact ⟨rfl, _, by rw [E.out]; exact M.out⟩

end Go.Proofs.Ytpmkjeihbddfpaa

/- OUR OWN. The program's heap: mark. -/
namespace Go.Proofs.Ytpmkjeihbddfpaa
open Go.RowKit
set_option linter.unusedVariables false
set_option linter.unusedSimpArgs false

set_option maxHeartbeats 3200000 in
set_option maxRecDepth 10000 in
theorem mark_any {but : Int} {h : Nat} {w : World} {m : HeapM} {s : St} {c : Cf} {N : Nat} (p : HB but h w m s c N) :
    Calls Try.prog 36 #[.pointer (some ⟨h, 0, none⟩)] w fun e w' => ∃ G, e = .returned (.slice (some ⟨G, 0, none⟩) (N + 1) (N + 1)) ∧ Below w.heap.size w w' ∧ w.heap.size ≤ G ∧ HMark N G s.reachB w' := by
  have hN := p.small
  have gd := p.good
  obtain ⟨g, cap, cB, hg, hobj⟩ := p.cells
  have hh := lt_of_heap p.r.head
  obtain ⟨so, sc, hvS⟩ := own_slice p.r.stack
  obtain ⟨go, gc, hvG⟩ := own_slice p.r.globals
  have CS : Hid (∀ W, Below w.heap.size w W → W.cell? ⟨h, 4, none⟩ = some (.slice so m.stack.length sc) ∧ W.cell? ⟨h, 5, none⟩ = some (.slice go m.globals.length gc) ∧ W.cell? ⟨h, 6, none⟩ = some (.slice (some ⟨g, 0, none⟩) (N + 1) cap)) := fun W hb =>
    ⟨(hb.cell (p := ⟨h, 4, none⟩) hh).trans (by rw [p.r.cell.2.1, hvS]), (hb.cell (p := ⟨h, 5, none⟩) hh).trans (by rw [p.r.cell.2.2.1, hvG]), (hb.cell (p := ⟨h, 6, none⟩) hh).trans cB⟩
  have A1 : Hid (∀ W x G, MkAt w N x G [] [] (.slice none 0 0) W → Calls Try.prog 56 #[.pointer (some ⟨x, 0, none⟩), .slice so m.stack.length sc] W fun e w' => e = .returned (.tuple #[]) ∧ ∃ v, MkAt w N x G (scanM s.stack []) (scanM s.stack []) v w') := fun W x G M => by
    have row := p.r.stack
    rw [hvS, p.mstack] at row
    rw [p.mstack]
    exact add_any M _ s.stack row (by have := p.stack; omega) hN (by simp) (fun u hu h2 => leadM gd (gd.stack u hu) h2)
  have A2 : Hid (∀ W x G v, MkAt w N x G (scanM s.stack []) (scanM s.stack []) v W → Calls Try.prog 56 #[.pointer (some ⟨x, 0, none⟩), .slice go m.globals.length gc] W fun e w' => e = .returned (.tuple #[]) ∧ ∃ v, MkAt w N x G (scanM s.globals (scanM s.stack [])) (scanM s.globals (scanM s.stack [])) v w') := fun W x G v M => by
    have row := p.r.globals
    rw [hvG, p.mglobals] at row
    rw [p.mglobals]
    have := scanM_len s.stack []
    exact add_any M _ s.globals row (by have := p.globals; omega) hN (by have := p.stack; simp only [List.length_nil] at *; omega) (fun u hu h2 => leadM gd (gd.globals u hu) h2)
  have F0 : Hid (FoundM s 0 (scanM s.globals (scanM s.stack []))) := foundM_start gd
  have FS : Hid (∀ n T, FoundM s n T → T.length ≤ N ∧ n ≤ T.length) := fun n T f => ⟨f.small gd, f.le⟩
  have A3 : Hid (∀ wr x G n T v, FoundM s n T → MkAt w N x G T T v wr → ∀ hn : n < T.length, ∃ b ao fl fc, T[n] = b ∧ b ≤ N ∧ fl ≤ 4 ∧ wr.cell? ⟨g, b * 3 + 2, none⟩ = some (.slice ao fl fc) ∧
      Calls Try.prog 56 #[.pointer (some ⟨x, 0, none⟩), .slice ao fl fc] wr fun e w' => e = .returned (.tuple #[]) ∧ ∃ T' v', FoundM s (n + 1) T' ∧ MkAt w N x G T' T' v' w') := fun wr x G n T v f M hn => by
    have hb := f.range gd (List.getElem_mem hn)
    obtain ⟨o, ao, fl, fc, ho, hvF, hfl, _, _, c2⟩ := hobj T[n] hb.2
    have hob := p.ob ho
    have hfs : (s.ob T[n]).fs = o.fs := by rw [hob]; rfl
    have h4 := gd.four T[n]
    rw [hfs] at h4
    refine ⟨T[n], ao, fl, fc, rfl, hb.2, by omega, (M.below.cell (p := ⟨g, _, none⟩) hg).trans c2, ?_⟩
    have row := p.r.fields o (List.mem_of_getElem? ho)
    rw [hvF, hfl] at row
    rw [hfl]
    refine (add_any M _ o.fs row (by omega) hN (by have := f.small gd; omega) (fun u hu h2 => leadM gd (gd.fields T[n] u (by rw [hfs]; exact hu)) h2)).mono ?_
    rintro e w' ⟨he, v', hm⟩
    have := foundM_next gd f (List.getElem?_eq_getElem hn)
    rw [hfs] at this
    exact ⟨he, _, v', this, hm⟩
  have FE : Hid (∀ wr x G n T v, FoundM s n T → MkAt w N x G T T v wr → ¬ n < T.length → Below w.heap.size w wr ∧ w.heap.size ≤ G ∧ HMark N G s.reachB wr) := fun wr x G n T v f M hn => by
    have hle := f.le
    obtain rfl : n = T.length := by omega
    refine ⟨M.below, (own_lt M.inn (g := G) rfl).1, ?_⟩
    have e : inM N T = (List.range (N + 1)).map fun b => Value.bool (s.reachB b) := by
      unfold inM
      refine List.map_congr_left fun b hb => ?_
      rw [foundM_end gd f b]
    have := own_base M.inn (Nat.zero_le _)
    rw [e] at this
    exact this
  have mk1 := run_make_one (P := Try.prog) 61 4 (.bool false) 1 Try.underlying61 infoMark rfl .i64 .i64 (N + 1) (by omega) (by omega)
  simp only [Int.natCast_add, Int.natCast_one, Nat.mul_one] at mk1
  have OM := own_made_one w 4 (.bool false) (N + 1) (by omega)
  simp only [Nat.mul_one] at OM
  have OMH : Hid _ := OM
  obtain ⟨nst, hnst⟩ : ∃ n, m.stack.length = n := ⟨_, rfl⟩
  obtain ⟨ngl, hngl⟩ : ∃ n, m.globals.length = n := ⟨_, rfl⟩
  rw [hnst] at CS A1
  rw [hngl] at CS A2
  have cB := (CS.out w (Below.refl _ _)).2.2
  have cS1 := (CS.out w (Below.refl _ _)).1
  have al2 : ∀ (ob ob' : Obj), ((w.alloc ob).alloc ob').cell? ⟨h, 4, none⟩ = w.cell? ⟨h, 4, none⟩ := fun ob ob' => (World.cell?_of_block (hao (by simp; omega))).trans (World.cell?_of_block (hao hh))
  have hne1 : ¬ h = w.heap.size + 1 := by omega
  have hne2 : ¬ w.heap.size + 1 = h := by omega
  clear p gd hobj hvS hvG OM hnst hngl
  go_enter Try.func36, Try.ntmps36
  go_wp2_with fail
  have M0 : MkAt w N (w.heap.size + 1) w.heap.size [] [] (.slice none 0 0) ((w.alloc (.cells (madeCells #[.bool false] (N + 1)) 4)).alloc (.cells #[.slice (some ⟨w.heap.size, 0, none⟩) (N + 1) (N + 1), .slice none 0 0] 75)) := by
    refine ⟨?_, ?_, World.ownsRow_nil _ _ _ _, ((Below.refl _ _).alloc (Nat.le_refl _) _).alloc (by simp) _, by omega⟩
    · have := heap_alloc_new (w.alloc (.cells (madeCells #[.bool false] (N + 1)) 4)) (.cells #[.slice (some ⟨w.heap.size, 0, none⟩) (N + 1) (N + 1), .slice none 0 0] 75)
      simpa using this
    · rw [inM_nil]
      exact own_carry OMH.out fun k hk => by
        have : k = w.heap.size := by simpa [Value.ownBlock, eq_comm] using hk
        exact hao (by simp; omega)
  have C1 : Hid _ := A1.out _ _ _ M0
  clear M0 OMH al2 mk1 cS1 cB hne1 hne2 A1
  refine Calls.mono C1.out ?_
  rintro e w1 ⟨rfl, v1, hm⟩
  obtain ⟨_, cG, cB⟩ := CS.out w1 hm.below
  have C2 : Hid _ := A2.out w1 _ _ v1 hm
  clear hm C1 A2
  go_wp2_with fail
  refine Calls.mono C2.out ?_
  rintro e w2 ⟨rfl, v2, hm⟩
  have I0 : Hid (∃ T v, FoundM s 0 T ∧ MkAt w N (w.heap.size + 1) w.heap.size T T v w2) := ⟨_, v2, F0.out, hm⟩
  clear hm C2 cG cB F0
  go_wp2
  go_loopw [4] (fun i wr => ∃ n : Nat, i = .int .i64 n ∧ ∃ T v, FoundM s n T ∧ MkAt w N (w.heap.size + 1) w.heap.size T T v wr) (fun i _ => N + 1 - (intOf i).toNat)
  case atStart => exact ⟨0, rfl, I0.out⟩
  case round =>
    obtain ⟨n, rfl, T, v, hf, hm⟩ := hrel
    obtain ⟨hTN, hnT⟩ := FS.out n T hf
    obtain ⟨x0, x1, x2, hx⟩ := hm.head
    obtain ⟨_, _, cB⟩ := CS.out wr hm.below
    by_cases hlt : n < T.length
    · obtain ⟨tg, tc, hv, ct⟩ := hm.at_ hlt
      obtain ⟨b, ao, fl, fc, hb, hbN, hfl, cF, hc⟩ := A3.out wr _ _ n T v hf hm hlt
      have C3 : Hid _ := hc
      rw [hb] at ct
      rw [hv] at x1
      obtain ⟨tl, htl⟩ : ∃ tl, T.length = tl := ⟨_, rfl⟩
      rw [htl] at x1 hTN hlt
      have hnI : (n : Int) < tl := by omega
      have hbI : (b : Int) < (N : Int) + 1 := by omega
      clear hf hm hc hv hb htl hnT x0 x2 I0
      go_wp2_with fail
      refine Calls.mono C3.out ?_
      rintro e w3 ⟨rfl, T', v', hf, hm⟩
      have K : Hid (∃ T v, FoundM s (n + 1) T ∧ MkAt w N (w.heap.size + 1) w.heap.size T T v w3) := ⟨T', v', hf, hm⟩
      clear hf hm C3 x1 ct cF cB
      go_wp2
      go_roundw
      case rel => exact ⟨n + 1, by go_num, K.out⟩
      case measure => simp [intOf]; omega
    · have E : Hid _ := FE.out wr _ _ n T v hf hm hlt
      obtain ⟨tao, tc, hv⟩ := hm.form
      obtain rfl : n = T.length := by omega
      rw [hv] at x1
      obtain ⟨tl, htl⟩ : ∃ tl, T.length = tl := ⟨_, rfl⟩
      rw [htl] at x1 hTN ⊢
      clear hf hm hv htl hnT x2 I0 cB hlt
      go_wp2
      go_ret
      exact ⟨_, rfl, E.out⟩

end Go.Proofs.Ytpmkjeihbddfpaa

/- OUR OWN. The program's heap: Collect. -/
namespace Go.Proofs.Ytpmkjeihbddfpaa
open Go.RowKit
set_option linter.unusedVariables false
set_option linter.unusedSimpArgs false

theorem hfoot_lt {w : World} {h : Nat} {m : HeapM} (r : HeapAt w h m) {G : Nat} (hG : w.heap.size ≤ G) : G ∉ h :: m.foot := fun e => by have := r.lt G e; omega

set_option maxHeartbeats 1600000 in
theorem collect_hb {h : Nat} {w : World} {m : HeapM} {s : St} {c : Cf} {N : Nat} (p : HB 0 h w m s c N) :
    Calls Try.prog 15 #[.pointer (some ⟨h, 0, none⟩)] w fun e w' => e = .returned (.int .i64 s.gone) ∧ ∃ m', HTurn h w m w' m' ∧ HB 0 h w' m' (s.collect c.over) c N := by
  have hN := p.small
  have gs := p.good.swept
  have hsN := p.good.sN
  have MARK : Hid (Calls Try.prog 36 #[.pointer (some ⟨h, 0, none⟩)] w fun e w' => ∃ G, e = .returned (.slice (some ⟨G, 0, none⟩) (N + 1) (N + 1)) ∧ Below w.heap.size w w' ∧ w.heap.size ≤ G ∧ HMark N G s.reachB w') := mark_any p
  have gone : countTo (m.goes s.reachB) N = s.gone := by
    unfold St.gone
    rw [hsN]
    refine countTo_congr fun b h1 h2 => ?_
    have hb : b < m.blks.length := by rw [p.len]; omega
    have ho : m.blks[b]? = some m.blks[b] := List.getElem?_eq_getElem hb
    rw [goes_at ho, p.ob ho]
    rfl
  have SWEEP : Hid (∀ w1 G, Below w.heap.size w w1 → w.heap.size ≤ G → HMark N G s.reachB w1 → Calls Try.prog 37 #[.pointer (some ⟨h, 0, none⟩), .slice (some ⟨G, 0, none⟩) (N + 1) (N + 1)] w1 fun e w2 => e = .returned (.int .i64 s.gone) ∧
      Calls Try.prog 38 #[.pointer (some ⟨h, 0, none⟩)] w2 fun e w3 => e = .returned (.tuple #[]) ∧
      Calls Try.prog 39 #[.pointer (some ⟨h, 0, none⟩)] w3 fun e w4 => e = .returned (.tuple #[]) ∧ ∃ m', HTurn h w m w4 m' ∧ HB 0 h w4 m' (s.collect c.over) c N) := fun w1 G hb hG mk => by
    have q := p.below hb
    have S := sweep_any (h := h) ⟨q.r, q.len, hN, by rw [q.mqueue]; have := q.good.queue_len; omega⟩ s.reachB mk (fun e => by have := p.r.lt G e; omega)
    rw [gone] at S
    refine S.mono ?_
    rintro e w2 ⟨he, v, t1⟩
    refine ⟨he, ?_⟩
    have fs1 : ∀ (i : Nat) (o : HObj), ((m.upTo (sweepF s.reachB) N).noQueue v).blks[i]? = some o → 1 ≤ i → (s.swept.ob i).fs = o.fs := fun i o ho h1 => by
      rw [noQueue_blks, upTo_get] at ho
      cases hm : m.blks[i]? with
      | none => rw [hm] at ho; cases ho
      | some o0 =>
        have hl := (List.getElem?_eq_some_iff.1 hm).1
        rw [p.len] at hl
        rw [hm, Option.map_some, if_pos (by omega)] at ho
        have ho := Option.some.inj ho
        rw [← (zero_ob p.hs p.good hm h1).1, ← ho]
        rfl
    have len1 : ((m.upTo (sweepF s.reachB) N).noQueue v).blks.length = N + 1 := by rw [noQueue_blks, upTo_len]; exact p.len
    refine (recount_any (t := s.swept) ⟨t1.here, len1, hN, gs, fs1⟩).mono ?_
    rintro e w3 ⟨he, t2⟩
    refine ⟨he, ?_⟩
    have cnt : ∀ (i : Nat) (o : HObj), ((((m.upTo (sweepF s.reachB) N).noQueue v).upTo zeroF N).upTo (cntF fun i => s.swept.count i) N).blks[i]? = some o → 1 ≤ i → o.count = ((s.swept.count i : Nat) : Int) := fun i o ho h1 => by
      have hl := (List.getElem?_eq_some_iff.1 ho).1
      rw [upTo_len, upTo_len, len1] at hl
      rw [upTo_get] at ho
      cases hm : ((((m.upTo (sweepF s.reachB) N).noQueue v).upTo zeroF N)).blks[i]? with
      | none => rw [hm] at ho; cases ho
      | some o0 =>
        rw [hm, Option.map_some, if_pos (by omega)] at ho
        have ho := Option.some.inj ho
        rw [← ho]; rfl
    have hov : ((((m.upTo (sweepF s.reachB) N).noQueue v).upTo zeroF N).upTo (cntF fun i => s.swept.count i) N).over = c.over := p.hs.over
    refine (handOut_any (fun i => s.swept.count i) t2.here (by rw [upTo_len, upTo_len]; exact len1) hN cnt (by rw [hov]; exact p.cf.over)).mono ?_
    rintro e w4 ⟨he, t3⟩
    refine ⟨he, m.collected s N c.over v, ?_⟩
    rw [hov] at t3
    have T : HTurn h w m w4 (m.collected s N c.over v) := (HTurn.of_below p.r hb).trans (t1.trans (t2.trans t3))
    exact ⟨T, T.here, collected_hs p.hs p.good v, p.good.collect c.over, p.cf, p.small, p.stack, p.globals⟩
  clear p gs hsN gone
  go_enter Try.func15, Try.ntmps15
  go_wp2_with fail
  refine Calls.mono MARK.out ?_
  rintro e w1 ⟨G, rfl, hb, hG, mk⟩
  have SW : Hid _ := SWEEP.out w1 G hb hG mk
  clear hb hG mk MARK SWEEP
  go_wp2_with fail
  refine Calls.mono SW.out ?_
  rintro e w2 ⟨rfl, h2⟩
  have R : Hid _ := h2
  clear h2 SW
  go_wp2_with fail
  refine Calls.mono R.out ?_
  rintro e w3 ⟨rfl, h3⟩
  have X : Hid _ := h3
  clear h3 R
  go_wp2_with fail
  refine Calls.mono X.out ?_
  rintro e w4 ⟨rfl, hm⟩
  have M : Hid _ := hm
  clear hm X
  go_wp2
  go_ret
  exact ⟨rfl, M.out⟩

theorem coll_pact : CollPact HS := by
  intro x N w hm s c hat hs g cf hN h16 h8
  refine (collect_hb ⟨hat, hs, g, cf, hN, h16, h8⟩).mono ?_
  rintro e w' ⟨he, m', t, q⟩
  exact ⟨he, m', t, q.hs⟩

end Go.Proofs.Ytpmkjeihbddfpaa

/- OUR OWN. The program's heap: blockToFill. -/
namespace Go.Proofs.Ytpmkjeihbddfpaa
open Go.RowKit
set_option linter.unusedVariables false
set_option linter.unusedSimpArgs false

theorem freeBlock_st {h N : Nat} {w : World} {m : HeapM} {s : St} {c : Cf} (p : HB 0 h w m s c N) :
    Calls Try.prog 59 #[.pointer (some ⟨h, 0, none⟩)] w fun e w' => w' = w ∧ ((∃ k : Nat, free? s = some k ∧ e = .returned (.int .i64 ((k : Int) + 1))) ∨ (free? s = none ∧ e = .returned (.int .i64 0))) := by
  have stOf : ∀ {j : Nat} {o : HObj}, m.blks[j]? = some o → (s.ob j).here = decide (o.state ≠ 0) := fun ho => by rw [p.ob ho]; rfl
  refine (freeBlock_any p.r p.len p.small).mono ?_
  rintro e w' ⟨v, rfl, hs, rfl⟩
  refine ⟨rfl, ?_⟩
  cases hk : free? s with
  | none =>
    refine .inr ⟨rfl, ?_⟩
    rcases hs with ⟨rfl, _⟩ | ⟨k, hkN, rfl, ⟨o, ho, h0⟩, _⟩
    · rfl
    · obtain ⟨k', hk'⟩ := free_exists (s := s) (b := k + 1) (by omega) (by rw [p.good.len]; omega) (by rw [stOf ho]; simp [h0])
      rw [hk] at hk'; cases hk'
  | some k =>
    obtain ⟨hkl, hkf, hkt⟩ := free_iff hk
    have hkN : k < N := by rw [p.good.len] at hkl; omega
    refine .inl ⟨k, rfl, ?_⟩
    rcases hs with ⟨_, hs⟩ | ⟨k', hk', rfl, ⟨o1, ho1, hf1⟩, hs⟩
    · obtain ⟨o, ho, ht⟩ := hs k hkN
      rw [stOf ho] at hkf; simp at hkf; exact absurd hkf ht
    · have : k' = k := by
        rcases Nat.lt_trichotomy k' k with e | e | e
        · have := hkt k' e
          rw [stOf ho1] at this; simp at this; exact absurd hf1 this
        · exact e
        · obtain ⟨o, ho, ht⟩ := hs k e
          rw [stOf ho] at hkf; simp at hkf; exact absurd hkf ht
      rw [this]

theorem room_of_none {c : Cf} {s : St} (hk : free? s = none) (hq : s.queue.length = 0) : roomS c s = s.collect c.over := by unfold roomS; rw [hk]; exact if_neg (by omega)

set_option maxHeartbeats 800000 in
theorem fill_says {h N : Nat} {w : World} {m : HeapM} {s : St} {c : Cf} (p : HB 0 h w m s c N) : FillSays h N w m s c := by
  intro W hb
  have q := p.below hb
  cases hk : free? s with
  | some k =>
    have e : roomS c s = s := room_of_free hk
    rw [e]
    have F : Hid (Calls Try.prog 59 #[.pointer (some ⟨h, 0, none⟩)] W fun e w' => w' = W ∧ e = .returned (.int .i64 ((k : Int) + 1))) := (freeBlock_st q).mono fun e w' ⟨h1, h2⟩ => ⟨h1, by
      rcases h2 with ⟨k', h3, h4⟩ | ⟨h3, _⟩
      · rw [hk] at h3; cases h3; exact h4
      · rw [hk] at h3; cases h3⟩
    have K : Hid (∃ m', HTurn h W m W m' ∧ HB 0 h W m' s c N ∧ ((∃ k' : Nat, free? s = some k' ∧ (Ending.returned (.int .i64 ((k : Int) + 1))) = .returned (.int .i64 ((k' : Int) + 1))) ∨ (free? s = none ∧ (Ending.returned (.int .i64 ((k : Int) + 1))) = .returned (.int .i64 0)))) := ⟨m, .refl q.r, q, .inl ⟨k, hk, rfl⟩⟩
    have hk0 : ((k : Int) + 1 == 0) = false := by simp; omega
    have hk1 : ¬ ((k : Int) + 1 = 0) := by omega
    have hk2 : ((k : Int) + 1 != 0) = true := by simp; omega
    clear p e hk q hb
    go_enter Try.func42, Try.ntmps42
    go_wp2_with fail
    refine Calls.mono F.out ?_
    rintro e w1 ⟨hw, rfl⟩
    subst hw
    clear F
    go_wp2
    go_ret
    exact K.out
  | none =>
    have F : Hid (Calls Try.prog 59 #[.pointer (some ⟨h, 0, none⟩)] W fun e w' => w' = W ∧ e = .returned (.int .i64 0)) := (freeBlock_st q).mono fun e w' ⟨h1, h2⟩ => ⟨h1, by
      rcases h2 with ⟨k', h3, h4⟩ | ⟨_, h4⟩
      · rw [hk] at h3; cases h3
      · exact h4⟩
    obtain ⟨ao, qc, hvQ⟩ := win_slice q.r.queue
    have cQ : W.cell? ⟨h, 7, none⟩ = some (.slice ao s.queue.length qc) := by rw [q.r.cell.2.2.2.2.1, hvQ, q.mqueue]
    have hql : s.queue.length ≤ 100 := by have := p.good.queue_len; have := p.small; omega
    -- what freeBlock answers behind either
    have LAST : ∀ (w1 : World) (m1 : HeapM) (S : St), HTurn h W m w1 m1 → HB 0 h w1 m1 S c N → Calls Try.prog 59 #[.pointer (some ⟨h, 0, none⟩)] w1 fun e w2 => (∃ v, e = .returned (.int .i64 v)) ∧
        ∃ m', HTurn h W m w2 m' ∧ HB 0 h w2 m' S c N ∧ ((∃ k : Nat, free? S = some k ∧ e = .returned (.int .i64 ((k : Int) + 1))) ∨ (free? S = none ∧ e = .returned (.int .i64 0))) := fun w1 m1 S t1 q1 => by
      refine (freeBlock_st q1).mono ?_
      rintro e w2 ⟨rfl, h2⟩
      refine ⟨?_, m1, t1, q1, h2⟩
      rcases h2 with ⟨k, _, h4⟩ | ⟨_, h4⟩
      · exact ⟨_, h4⟩
      · exact ⟨_, h4⟩
    by_cases hq : s.queue.length = 0
    · rw [room_of_none hk hq]
      have FF : Hid (Calls Try.prog 15 #[.pointer (some ⟨h, 0, none⟩)] W fun e w1 => (∃ v, e = .returned (.int .i64 v)) ∧ Calls Try.prog 59 #[.pointer (some ⟨h, 0, none⟩)] w1 fun e w2 => (∃ v, e = .returned (.int .i64 v)) ∧
          ∃ m', HTurn h W m w2 m' ∧ HB 0 h w2 m' (s.collect c.over) c N ∧ ((∃ k : Nat, free? (s.collect c.over) = some k ∧ e = .returned (.int .i64 ((k : Int) + 1))) ∨ (free? (s.collect c.over) = none ∧ e = .returned (.int .i64 0)))) := by
        refine (collect_hb q).mono ?_
        rintro e w1 ⟨he, m1, t1, q1⟩
        exact ⟨⟨_, he⟩, LAST w1 m1 _ t1 q1⟩
      rw [hq] at cQ
      clear p hk q hb hvQ hql LAST hq
      go_enter Try.func42, Try.ntmps42
      go_wp2_with fail
      refine Calls.mono F.out ?_
      rintro e w1 ⟨hw, rfl⟩
      subst hw
      clear F
      go_wp2_with fail
      refine Calls.mono FF.out ?_
      rintro e w2 ⟨⟨u, rfl⟩, h2⟩
      have H2 : Hid _ := h2
      clear h2 FF cQ
      go_wp2_with fail
      refine Calls.mono H2.out ?_
      rintro e w3 ⟨⟨v, rfl⟩, hm⟩
      have M : Hid _ := hm
      clear hm H2
      go_wp2
      go_ret
      exact M.out
    · have e : roomS c s = s.free c.zero := by unfold roomS; rw [hk]; exact if_pos (by omega)
      rw [e]
      have FF : Hid (Calls Try.prog 35 #[.pointer (some ⟨h, 0, none⟩)] W fun e w1 => e = .returned (.tuple #[]) ∧ Calls Try.prog 59 #[.pointer (some ⟨h, 0, none⟩)] w1 fun e w2 => (∃ v, e = .returned (.int .i64 v)) ∧
          ∃ m', HTurn h W m w2 m' ∧ HB 0 h w2 m' (s.free c.zero) c N ∧ ((∃ k : Nat, free? (s.free c.zero) = some k ∧ e = .returned (.int .i64 ((k : Int) + 1))) ∨ (free? (s.free c.zero) = none ∧ e = .returned (.int .i64 0)))) := by
        refine (freeFirst_any q hq).mono ?_
        rintro e w1 ⟨he, m1, t1, q1⟩
        exact ⟨he, LAST w1 m1 _ t1 q1⟩
      obtain ⟨ql, hqle⟩ : ∃ ql, s.queue.length = ql := ⟨_, rfl⟩
      rw [hqle] at cQ hq hql
      have hqI : (0 : Int) < ql := by omega
      clear p e hk q hb hvQ hqle LAST
      go_enter Try.func42, Try.ntmps42
      go_wp2_with fail
      refine Calls.mono F.out ?_
      rintro e w1 ⟨hw, rfl⟩
      subst hw
      clear F
      go_wp2_with fail
      refine Calls.mono FF.out ?_
      rintro e w2 ⟨rfl, h2⟩
      have H2 : Hid _ := h2
      clear h2 FF cQ
      go_wp2_with fail
      refine Calls.mono H2.out ?_
      rintro e w3 ⟨⟨v, rfl⟩, hm⟩
      have M : Hid _ := hm
      clear hm H2
      go_wp2
      go_ret
      exact M.out

end Go.Proofs.Ytpmkjeihbddfpaa

/- OUR OWN. The program's heap: store; what an operation's parts do, as the document's state. -/
namespace Go.Proofs.Ytpmkjeihbddfpaa
open Go.RowKit
set_option linter.unusedVariables false
set_option linter.unusedSimpArgs false

def HDone (h N : Nat) (w : World) (m : HeapM) (c : Cf) (r : St × Int × Int) (e : Ending) (w' : World) : Prop := e = .returned (.int .i64 r.2.2) ∧ ∃ m', HTurn h w m w' m' ∧ HS m' r.1 c N
def HDone2 (h N : Nat) (w : World) (m : HeapM) (c : Cf) (r : St × Int × Int) (e : Ending) (w' : World) : Prop := e = .returned (.tuple #[.int .i64 r.2.1, .int .i64 r.2.2]) ∧ ∃ m', HTurn h w m w' m' ∧ HS m' r.1 c N

/-- the blocks are as they were: so are the counts -/
theorem HStep.hs {h N : Nat} {w w' : World} {m m' : HeapM} {s : St} {c : Cf} (a : HStep h N w m w' m') (p : HSb 0 m s c N) {t : St} (ht : m'.st = t) : HS m' t c N := by
  have hr := a.rest
  unfold HeapM.rest at hr
  simp only [Prod.mk.injEq] at hr
  obtain ⟨h1, h6, h2, h3, h4, h5⟩ := hr
  refine ⟨ht, h1.trans p.deep, h2.trans p.zero, h3.trans p.over, h6.trans p.budget, by rw [h4]; exact p.state, fun i o hi hs => ?_⟩
  rw [h4] at hi
  rw [p.cnt i o hi hs]
  have : t.count i = s.count i := by
    unfold St.count
    rw [← ht, ← p.st]
    unfold HeapM.st
    simp only
    rw [h4]
  rw [this]
theorem HDid.done {h N : Nat} {w w' : World} {m : HeapM} {s : St} {c : Cf} {r : St × Int × Int} {e : Ending} (p : HSb 0 m s c N) (d : HDid h N w m r e w') : HDone h N w m c r e w' := by
  obtain ⟨he, m', hs, hm⟩ := d
  exact ⟨he, m', hs.turn, hs.hs p hm⟩
theorem HDid2.done {h N : Nat} {w w' : World} {m : HeapM} {s : St} {c : Cf} {r : St × Int × Int} {e : Ending} (p : HSb 0 m s c N) (d : HDid2 h N w m r e w') : HDone2 h N w m c r e w' := by
  obtain ⟨he, m', hs, hm⟩ := d
  exact ⟨he, m', hs.turn, hs.hs p hm⟩

theorem new_done {h N : Nat} {w : World} {m : HeapM} {s : St} {c : Cf} (p : HB 0 h w m s c N) (n : Int) :
    Calls Try.prog 20 #[.pointer (some ⟨h, 0, none⟩), .int .i64 n] w (HDone h N w m c (newS c s n)) := by
  by_cases h1 : n < 0 ∨ 4 < n
  · have e : newS c s n = (s, 0, 6) := by unfold newS; exact if_pos h1
    rw [e]
    exact (hnew_index n h1).mono fun e w' ⟨he, hw⟩ => ⟨he, m, by rw [hw]; exact .refl p.r, p.hs⟩
  by_cases h2 : c.deep ≤ s.stack.length
  · have e : newS c s n = (s, 0, 7) := by unfold newS; exact (if_neg h1).trans (if_pos h2)
    rw [e]
    exact (hnew_deep p.r n (by omega) (by omega) (by rw [p.hs.deep, p.mstack]; exact h2)).mono fun e w' ⟨he, hb⟩ => ⟨he, m, .of_below p.r hb, p.hs⟩
  obtain ⟨j, rfl⟩ : ∃ j : Nat, n = j := ⟨n.toNat, by omega⟩
  exact (hnew_do p j (by omega) (by omega) (fill_says p)).mono fun e w' ⟨he, m', ht, hs⟩ => ⟨he, m', ht, hs⟩

theorem HB.of_step {h N : Nat} {w w' : World} {m m' : HeapM} {s t : St} {c : Cf} (p : HB 0 h w m s c N) (a : HStep h N w m w' m') (ht : m'.st = t) (g : t.Good N) : HB 0 h w' m' t c N :=
  ⟨a.turn.here, a.hs p.hs ht, g, p.cf, p.small, by have := a.ok.stack; rw [← ht]; exact this, by have := a.ok.globals; rw [← ht]; exact this⟩

set_option maxHeartbeats 1600000 in
theorem store_done {h N : Nat} {w : World} {m : HeapM} {s : St} {c : Cf} (p : HB 0 h w m s c N) (n : Int) :
    Calls Try.prog 26 #[.pointer (some ⟨h, 0, none⟩), .int .i64 n] w (HDone h N w m c (storeS c s n)) := by
  obtain ⟨ao, cap, cS⟩ := p.pre.stackCell
  have hl := p.pre.ok.stack
  have hms := p.mstack
  by_cases hc : m.stack.length < 2
  · have e : storeS c s n = (s, 0, 3) := by unfold storeS; exact if_pos (by rw [← hms]; exact hc)
    rw [e]
    have K : Hid (∃ m', HTurn h w m w m' ∧ HS m' s c N) := ⟨m, .refl p.r, p.hs⟩
    obtain ⟨len, hlen⟩ : ∃ len, m.stack.length = len := ⟨_, rfl⟩
    rw [hlen] at hc cS hl
    clear p hlen e hms
    have hcI : (len : Int) < 2 := by omega
    go_enter Try.func26, Try.ntmps26
    go_wp2
    go_ret
    exact ⟨rfl, K.out⟩
  have hst := p.hs.st
  have hcs : ¬ s.stack.length < 2 := by rw [← hms]; exact hc
  have D0 : Hid _ := hdown_do p.pre 0 (by omega)
  have D1 : Hid (∀ W, Below w.heap.size w W → Calls Try.prog 44 #[.pointer (some ⟨h, 0, none⟩), .int .i64 1] W fun e w' => e = .returned (.agg #[.int .i64 (m.st.down 1).1, .int .i64 (m.st.down 1).2]) ∧ Below W.heap.size W w') := fun W hb => hdown_do (p.pre.below hb) 1 (by show 1 < m.stack.length; omega)
  have K : Hid (∀ W, Below w.heap.size w W → ∃ m', HTurn h w m W m' ∧ HS m' s c N) := fun W hb => ⟨m, .of_below p.r hb, p.hs⟩
  have hv := p.pre.inv.down 1
  have CK : Hid (∀ W, Below w.heap.size w W → Calls Try.prog 46 #[.pointer (some ⟨h, 0, none⟩), .agg #[.int .i64 (m.st.down 1).1, .int .i64 (m.st.down 1).2], .int .i64 n] W fun e w' => e = .returned (.int .i64 (fieldErr m.st (m.st.down 1) n)) ∧ Below W.heap.size W w') := fun W hb => checkField_any h N W m (p.pre.below hb) _ n hv
  rw [hst] at D0 D1 CK hv
  have hcI0 : ¬ (m.stack.length : Int) < 2 := by omega
  by_cases he : fieldErr s (s.down 1) n ≠ 0
  · rw [storeS_err hcs he]
    obtain ⟨len, hlen⟩ : ∃ len, m.stack.length = len := ⟨_, rfl⟩
    rw [hlen] at cS hcI0 hl
    obtain ⟨er, her⟩ : ∃ er, fieldErr s (s.down 1) n = er := ⟨_, rfl⟩
    rw [her] at he CK ⊢
    obtain ⟨x, hx⟩ : ∃ x, s.down 0 = x := ⟨_, rfl⟩
    rw [hx] at D0
    obtain ⟨q, hq⟩ : ∃ q, s.down 1 = q := ⟨_, rfl⟩
    rw [hq] at D1 CK
    obtain ⟨x1, x2⟩ := x
    obtain ⟨q1, q2⟩ := q
    have he2 : (er == 0) = false := by simpa using he
    clear p hlen hx hq hv her hc hms hst hcs
    go_enter Try.func26, Try.ntmps26
    go_wp2_with fail
    refine Calls.mono D0.out ?_
    rintro e w1 ⟨rfl, hb⟩
    have B : Hid (Below w.heap.size w w1) := hb
    clear hb D0
    go_wp2_with fail
    refine Calls.mono (D1.out _ (B.out.alloc B.out.size _)) ?_
    rintro e w2 ⟨rfl, hb⟩
    have B2 : Hid (Below w.heap.size w w2) := (B.out.alloc B.out.size _).trans (hb.mono (by simp; have := B.out.size; omega))
    clear hb D1
    go_wp2_with fail
    refine Calls.mono (CK.out _ (B2.out.alloc B2.out.size _)) ?_
    rintro e w3 ⟨rfl, hb⟩
    have B3 : Hid (Below w.heap.size w w3) := (B2.out.alloc B2.out.size _).trans (hb.mono (by simp; have := B2.out.size; omega))
    clear hb CK
    go_wp2
    go_ret
    exact ⟨rfl, K.out _ B3.out⟩
  have he : fieldErr s (s.down 1) n = 0 := by omega
  obtain ⟨ho, hn0, hnl⟩ := field_ok he
  obtain ⟨k, rfl⟩ : ∃ k : Nat, n = k := ⟨n.toNat, by omega⟩
  obtain ⟨hq1, hq2⟩ := ref_of hv ho
  obtain ⟨i, hi⟩ : ∃ i : Nat, (s.down 1).2 = i := ⟨(s.down 1).2.toNat, by omega⟩
  have hkf : k < (s.ob i).fs.length := by
    have : s.fields (s.down 1).2 = (s.ob i).fs := by unfold St.fields; rw [hi, Int.toNat_natCast]
    rw [this] at hnl; omega
  have e : storeS c s k = (putS c (s.pop 2) i k (s.down 0) (((s.pop 2).ob i).fs.getD k (0, 0)), 0, 0) := by
    unfold storeS
    refine (if_neg hcs).trans ((if_neg (by omega)).trans ((if_neg (by omega)).trans ?_))
    unfold St.fields
    rw [hi, Int.toNat_natCast, Int.toNat_natCast]
    rfl
  rw [e]
  have AFTER : Hid (∀ W, Below w.heap.size w W → Calls Try.prog 45 #[.pointer (some ⟨h, 0, none⟩), .int .i64 2] W fun e w' => e = .returned (.tuple #[]) ∧
      (∀ L ob, w.heap.size ≤ L → W.heap[L]? = some ob → w'.heap[L]? = some ob) ∧
      Calls Try.prog 47 #[.pointer (some ⟨h, 0, none⟩), .int .i64 i, .int .i64 k, .agg #[.int .i64 (s.down 0).1, .int .i64 (s.down 0).2]] w' fun e w2 => e = .returned (.tuple #[]) ∧
        ∃ m', HTurn h w m w2 m' ∧ HS m' (putS c (s.pop 2) i k (s.down 0) (((s.pop 2).ob i).fs.getD k (0, 0))) c N) := by
    intro W hb
    refine (hpop_do (p.pre.below hb) 2 (by omega) (by omega)).mono ?_
    rintro e w' ⟨he, v', hs⟩
    have s1 : HStep h N w m w' _ := (HStep.of_below p.pre hb).trans hs
    have q := p.of_step s1 (t := s.pop 2) (by
      unfold St.pop
      rw [← hst]
      rfl) (p.good.pop 2)
    refine ⟨he, fun L ob hL hW => hturn_local p.pre hb hW hL hs.turn, ?_⟩
    refine (setField_any q i k (s.down 0) hkf (p.good.down 0)).mono ?_
    rintro e w2 ⟨he, m', t, q2⟩
    exact ⟨he, m', s1.turn.trans t, q2.hs⟩
  rw [he] at CK
  obtain ⟨tgt, htgt⟩ : ∃ t : St, putS c (s.pop 2) i k (s.down 0) (((s.pop 2).ob i).fs.getD k (0, 0)) = t := ⟨_, rfl⟩
  rw [htgt] at AFTER ⊢
  obtain ⟨len, hlen⟩ : ∃ len, m.stack.length = len := ⟨_, rfl⟩
  rw [hlen] at cS hcI0 hl
  obtain ⟨x, hx⟩ : ∃ x, s.down 0 = x := ⟨_, rfl⟩
  rw [hx] at D0 AFTER
  obtain ⟨q, hq⟩ : ∃ q, s.down 1 = q := ⟨_, rfl⟩
  rw [hq] at D1 CK hi
  obtain ⟨x1, x2⟩ := x
  obtain ⟨q1, q2⟩ := q
  simp only at hi
  subst hi
  clear p hlen e hx hq hv he K hc hn0 hnl ho hkf htgt hms hst hcs hq1 hq2
  go_enter Try.func26, Try.ntmps26
  go_wp2_with fail
  refine Calls.mono D0.out ?_
  rintro e w1 ⟨rfl, hb⟩
  have B : Hid (Below w.heap.size w w1) := hb
  clear hb D0
  go_wp2_with fail
  refine Calls.mono (D1.out _ (B.out.alloc B.out.size _)) ?_
  rintro e w2 ⟨rfl, hb⟩
  have B2 : Hid (Below w.heap.size w w2 ∧ w1.heap.size + 1 ≤ w2.heap.size ∧ w2.heap[w1.heap.size]? = some (.cells #[.int .i64 x1, .int .i64 x2] 52)) := ⟨(B.out.alloc B.out.size _).trans (hb.mono (by simp; have := B.out.size; omega)), by have := hb.size; simpa using this, boxed' hb⟩
  clear hb D1
  go_wp2_with fail
  refine Calls.mono (CK.out _ (B2.out.1.alloc B2.out.1.size _)) ?_
  rintro e w3 ⟨rfl, hb⟩
  have B3 : Hid (Below w.heap.size w w3 ∧ w3.heap[w2.heap.size]? = some (.cells #[.int .i64 q1, .int .i64 i] 52) ∧ w3.heap[w1.heap.size]? = some (.cells #[.int .i64 x1, .int .i64 x2] 52)) :=
    ⟨(B2.out.1.alloc B2.out.1.size _).trans (hb.mono (by simp; have := B2.out.1.size; omega)), boxed' hb, by
      have h1 := B2.out.2.1
      rw [hb.block _ (by simp; omega), hao (by omega)]; exact B2.out.2.2⟩
  clear hb CK
  go_wp2_with fail
  refine Calls.mono (AFTER.out _ B3.out.1) ?_
  rintro e w4 ⟨rfl, hloc, hset⟩
  have l0 := hloc _ _ B.out.size B3.out.2.2
  have l1 := hloc _ _ B2.out.1.size B3.out.2.1
  have v0 : w4.cell? ⟨w1.heap.size, 0, none⟩ = some (.int .i64 x1) := cell_of_heap l0 rfl
  have v1 : w4.cell? ⟨w1.heap.size, 1, none⟩ = some (.int .i64 x2) := cell_of_heap l0 rfl
  have u1 : w4.cell? ⟨w2.heap.size, 1, none⟩ = some (.int .i64 i) := cell_of_heap l1 rfl
  have S : Hid _ := hset
  clear hset hloc AFTER B B2 B3 l0 l1
  go_wp2_with fail
  refine Calls.mono S.out ?_
  rintro e w5 ⟨rfl, hm⟩
  have M : Hid _ := hm
  clear hm S
  go_wp2
  go_ret
  exact ⟨rfl, M.out⟩

end Go.Proofs.Ytpmkjeihbddfpaa

/- OUR OWN. The program's heap: Do. -/
namespace Go.Proofs.Ytpmkjeihbddfpaa
open Go.RowKit
set_option linter.unusedVariables false
set_option linter.unusedSimpArgs false

def HDoSays (op : Int) : Prop := ∀ (h N : Nat) (w : World) (m : HeapM) (s : St) (c : Cf) (n : Int), HB 0 h w m s c N → True →
  Calls Try.prog 10 #[.pointer (some ⟨h, 0, none⟩), .int .i64 op, .int .i64 n] w (HDone2 h N w m c (doS c s op n))

set_option maxHeartbeats 400000 in
theorem hdo_0 : HDoSays 0 := by
  intro h N w m s c n p hf
  have e : doS c s 0 n = pushA c.deep s (0, 0) := by simp [doS]
  rw [e]
  have C : Hid (Calls Try.prog 19 #[.pointer (some ⟨h, 0, none⟩), .agg #[.int .i64 0, .int .i64 0]] w (HDone h N w m c (pushA c.deep s (0, 0)))) := by
    have d := hpush_do p.pre (0, 0)
    rw [p.hs.st, p.hs.deep] at d
    exact d.mono fun e w' x => x.done p.hs
  clear p e hf
  go_enter Try.func10, Try.ntmps10
  go_wp2_with fail
  refine Calls.mono C.out ?_
  rintro e w1 ⟨rfl, hm⟩
  have M : Hid _ := hm
  clear hm C
  go_wp2
  go_ret2
  exact ⟨ret_zero (push_zero _ _ _), M.out⟩

set_option maxHeartbeats 400000 in
theorem hdo_1 : HDoSays 1 := by
  intro h N w m s c n p hf
  have e : doS c s 1 n = pushA c.deep s (1, n) := by simp [doS]
  rw [e]
  have C : Hid (Calls Try.prog 19 #[.pointer (some ⟨h, 0, none⟩), .agg #[.int .i64 1, .int .i64 n]] w (HDone h N w m c (pushA c.deep s (1, n)))) := by
    have d := hpush_do p.pre (1, n)
    rw [p.hs.st, p.hs.deep] at d
    exact d.mono fun e w' x => x.done p.hs
  clear p e hf
  go_enter Try.func10, Try.ntmps10
  go_wp2_with fail
  refine Calls.mono C.out ?_
  rintro e w1 ⟨rfl, hm⟩
  have M : Hid _ := hm
  clear hm C
  go_wp2
  go_ret2
  exact ⟨ret_zero (push_zero _ _ _), M.out⟩

set_option maxHeartbeats 400000 in
theorem hdo_2 : HDoSays 2 := by
  intro h N w m s c n p hf
  have e : doS c s 2 n = newS c s n := by simp [doS]
  rw [e]
  have C : Hid (Calls Try.prog 20 #[.pointer (some ⟨h, 0, none⟩), .int .i64 n] w (HDone h N w m c (newS c s n))) := new_done p n
  clear p e hf
  go_enter Try.func10, Try.ntmps10
  go_wp2_with fail
  refine Calls.mono C.out ?_
  rintro e w1 ⟨rfl, hm⟩
  have M : Hid _ := hm
  clear hm C
  go_wp2
  go_ret2
  exact ⟨ret_zero (new_zero _ _ _), M.out⟩

set_option maxHeartbeats 400000 in
theorem hdo_3 : HDoSays 3 := by
  intro h N w m s c n p hf
  have e : doS c s 3 n = dupS c.deep s n := by simp [doS]
  rw [e]
  have C : Hid (Calls Try.prog 21 #[.pointer (some ⟨h, 0, none⟩), .int .i64 n] w (HDone h N w m c (dupS c.deep s n))) := by
    have d := hdup_do h N w m n p.pre
    rw [p.hs.st, p.hs.deep] at d
    exact d.mono fun e w' x => x.done p.hs
  clear p e hf
  go_enter Try.func10, Try.ntmps10
  go_wp2_with fail
  refine Calls.mono C.out ?_
  rintro e w1 ⟨rfl, hm⟩
  have M : Hid _ := hm
  clear hm C
  go_wp2
  go_ret2
  exact ⟨ret_zero (dup_zero _ _ _), M.out⟩

set_option maxHeartbeats 400000 in
theorem hdo_4 : HDoSays 4 := by
  intro h N w m s c n p hf
  have e : doS c s 4 n = dropS s := by simp [doS]
  rw [e]
  have C : Hid (Calls Try.prog 22 #[.pointer (some ⟨h, 0, none⟩)] w (HDone h N w m c (dropS s))) := by
    have d := hdrop_do h N w m p.pre
    rw [p.hs.st] at d
    exact d.mono fun e w' x => x.done p.hs
  clear p e hf
  go_enter Try.func10, Try.ntmps10
  go_wp2_with fail
  refine Calls.mono C.out ?_
  rintro e w1 ⟨rfl, hm⟩
  have M : Hid _ := hm
  clear hm C
  go_wp2
  go_ret2
  exact ⟨ret_zero (drop_zero _), M.out⟩

set_option maxHeartbeats 400000 in
theorem hdo_5 : HDoSays 5 := by
  intro h N w m s c n p hf
  have e : doS c s 5 n = getS c.deep s n := by simp [doS]
  rw [e]
  have C : Hid (Calls Try.prog 23 #[.pointer (some ⟨h, 0, none⟩), .int .i64 n] w (HDone h N w m c (getS c.deep s n))) := by
    have d := hget_do h N w m n p.pre
    rw [p.hs.st, p.hs.deep] at d
    exact d.mono fun e w' x => x.done p.hs
  clear p e hf
  go_enter Try.func10, Try.ntmps10
  go_wp2_with fail
  refine Calls.mono C.out ?_
  rintro e w1 ⟨rfl, hm⟩
  have M : Hid _ := hm
  clear hm C
  go_wp2
  go_ret2
  exact ⟨ret_zero (get_zero _ _ _), M.out⟩

set_option maxHeartbeats 400000 in
theorem hdo_6 : HDoSays 6 := by
  intro h N w m s c n p hf
  have e : doS c s 6 n = setS s n := by simp [doS]
  rw [e]
  have C : Hid (Calls Try.prog 24 #[.pointer (some ⟨h, 0, none⟩), .int .i64 n] w (HDone h N w m c (setS s n))) := by
    have d := hset_do h N w m n p.pre
    rw [p.hs.st] at d
    exact d.mono fun e w' x => x.done p.hs
  clear p e hf
  go_enter Try.func10, Try.ntmps10
  go_wp2_with fail
  refine Calls.mono C.out ?_
  rintro e w1 ⟨rfl, hm⟩
  have M : Hid _ := hm
  clear hm C
  go_wp2
  go_ret2
  exact ⟨ret_zero (set_zero _ _), M.out⟩

set_option maxHeartbeats 400000 in
theorem hdo_7 : HDoSays 7 := by
  intro h N w m s c n p hf
  have e : doS c s 7 n = loadS c.deep s n := by simp [doS]
  rw [e]
  have C : Hid (Calls Try.prog 25 #[.pointer (some ⟨h, 0, none⟩), .int .i64 n] w (HDone h N w m c (loadS c.deep s n))) := by
    have d := hload_do h N w m n p.pre
    rw [p.hs.st, p.hs.deep] at d
    exact d.mono fun e w' x => x.done p.hs
  clear p e hf
  go_enter Try.func10, Try.ntmps10
  go_wp2_with fail
  refine Calls.mono C.out ?_
  rintro e w1 ⟨rfl, hm⟩
  have M : Hid _ := hm
  clear hm C
  go_wp2
  go_ret2
  exact ⟨ret_zero (load_zero _ _ _), M.out⟩

set_option maxHeartbeats 400000 in
theorem hdo_8 : HDoSays 8 := by
  intro h N w m s c n p hf
  have e : doS c s 8 n = storeS c s n := by simp [doS]
  rw [e]
  have C : Hid (Calls Try.prog 26 #[.pointer (some ⟨h, 0, none⟩), .int .i64 n] w (HDone h N w m c (storeS c s n))) := store_done p n
  clear p e hf
  go_enter Try.func10, Try.ntmps10
  go_wp2_with fail
  refine Calls.mono C.out ?_
  rintro e w1 ⟨rfl, hm⟩
  have M : Hid _ := hm
  clear hm C
  go_wp2
  go_ret2
  exact ⟨ret_zero (store_zero _ _ _), M.out⟩

set_option maxHeartbeats 400000 in
theorem hdo_9 : HDoSays 9 := by
  intro h N w m s c n p hf
  have e : doS c s 9 n = sameS s := by simp [doS]
  rw [e]
  have C : Hid (Calls Try.prog 27 #[.pointer (some ⟨h, 0, none⟩)] w (HDone2 h N w m c (sameS s))) := by
    have d := hsame_do h N w m p.pre
    rw [p.hs.st] at d
    exact d.mono fun e w' x => x.done p.hs
  clear p e hf
  go_enter Try.func10, Try.ntmps10
  go_wp2_with fail
  refine Calls.mono C.out ?_
  rintro e w1 ⟨rfl, hm⟩
  have M : Hid _ := hm
  clear hm C
  go_wp2
  go_ret2
  exact ⟨rfl, M.out⟩

set_option maxHeartbeats 400000 in
theorem hdo_10 : HDoSays 10 := by
  intro h N w m s c n p hf
  have e : doS c s 10 n = takeS s := by simp [doS]
  rw [e]
  have C : Hid (Calls Try.prog 28 #[.pointer (some ⟨h, 0, none⟩)] w (HDone2 h N w m c (takeS s))) := by
    have d := htake_do h N w m p.pre
    rw [p.hs.st] at d
    exact d.mono fun e w' x => x.done p.hs
  clear p e hf
  go_enter Try.func10, Try.ntmps10
  go_wp2_with fail
  refine Calls.mono C.out ?_
  rintro e w1 ⟨rfl, hm⟩
  have M : Hid _ := hm
  clear hm C
  go_wp2
  go_ret2
  exact ⟨rfl, M.out⟩

set_option maxHeartbeats 400000 in
theorem hdo_11 : HDoSays 11 := by
  intro h N w m s c n p hf
  have e : doS c s 11 n = sizeS s := by simp [doS]
  rw [e]
  have C : Hid (Calls Try.prog 29 #[.pointer (some ⟨h, 0, none⟩)] w (HDone2 h N w m c (sizeS s))) := by
    have d := hsize_do h N w m p.pre
    rw [p.hs.st] at d
    exact d.mono fun e w' x => x.done p.hs
  clear p e hf
  go_enter Try.func10, Try.ntmps10
  go_wp2_with fail
  refine Calls.mono C.out ?_
  rintro e w1 ⟨rfl, hm⟩
  have M : Hid _ := hm
  clear hm C
  go_wp2
  go_ret2
  exact ⟨rfl, M.out⟩

set_option maxHeartbeats 400000 in
theorem hdo_12 : HDoSays 12 := by
  intro h N w m s c n p hf
  have e : doS c s 12 n = kindS s := by simp [doS]
  rw [e]
  have C : Hid (Calls Try.prog 30 #[.pointer (some ⟨h, 0, none⟩)] w (HDone2 h N w m c (kindS s))) := by
    have d := hkind_do h N w m p.pre
    rw [p.hs.st] at d
    exact d.mono fun e w' x => x.done p.hs
  clear p e hf
  go_enter Try.func10, Try.ntmps10
  go_wp2_with fail
  refine Calls.mono C.out ?_
  rintro e w1 ⟨rfl, hm⟩
  have M : Hid _ := hm
  clear hm C
  go_wp2
  go_ret2
  exact ⟨rfl, M.out⟩

set_option maxHeartbeats 400000 in
theorem hdo_none (op : Int) (h0 : ¬ op = 0) (h1 : ¬ op = 1) (h2 : ¬ op = 2) (h3 : ¬ op = 3) (h4 : ¬ op = 4) (h5 : ¬ op = 5) (h6 : ¬ op = 6) (h7 : ¬ op = 7) (h8 : ¬ op = 8) (h9 : ¬ op = 9) (h10 : ¬ op = 10) (h11 : ¬ op = 11) (h12 : ¬ op = 12) : HDoSays op := by
  intro h N w m s c n p hf
  have e : doS c s op n = (s, 0, 2) := by simp [doS, h0, h1, h2, h3, h4, h5, h6, h7, h8, h9, h10, h11, h12]
  rw [e]
  have M : Hid (∃ m', HTurn h w m w m' ∧ HS m' s c N) := ⟨m, .refl p.r, p.hs⟩
  have q0 : (op == 0) = false := by simpa using h0
  have q1 : (op == 1) = false := by simpa using h1
  have q2 : (op == 2) = false := by simpa using h2
  have q3 : (op == 3) = false := by simpa using h3
  have q4 : (op == 4) = false := by simpa using h4
  have q5 : (op == 5) = false := by simpa using h5
  have q6 : (op == 6) = false := by simpa using h6
  have q7 : (op == 7) = false := by simpa using h7
  have q8 : (op == 8) = false := by simpa using h8
  have q9 : (op == 9) = false := by simpa using h9
  have q10 : (op == 10) = false := by simpa using h10
  have q11 : (op == 11) = false := by simpa using h11
  have q12 : (op == 12) = false := by simpa using h12
  clear p e hf
  go_enter Try.func10, Try.ntmps10
  go_wp2
  go_ret2
  exact ⟨rfl, M.out⟩

theorem hdo_any (op : Int) : HDoSays op := by
  by_cases h0 : op = 0
  · subst h0; exact hdo_0
  by_cases h1 : op = 1
  · subst h1; exact hdo_1
  by_cases h2 : op = 2
  · subst h2; exact hdo_2
  by_cases h3 : op = 3
  · subst h3; exact hdo_3
  by_cases h4 : op = 4
  · subst h4; exact hdo_4
  by_cases h5 : op = 5
  · subst h5; exact hdo_5
  by_cases h6 : op = 6
  · subst h6; exact hdo_6
  by_cases h7 : op = 7
  · subst h7; exact hdo_7
  by_cases h8 : op = 8
  · subst h8; exact hdo_8
  by_cases h9 : op = 9
  · subst h9; exact hdo_9
  by_cases h10 : op = 10
  · subst h10; exact hdo_10
  by_cases h11 : op = 11
  · subst h11; exact hdo_11
  by_cases h12 : op = 12
  · subst h12; exact hdo_12
  exact hdo_none op h0 h1 h2 h3 h4 h5 h6 h7 h8 h9 h10 h11 h12

end Go.Proofs.Ytpmkjeihbddfpaa

/- OUR OWN. The program's contracts: New's heap; Do, in every state. -/
namespace Go.Proofs.Ytpmkjeihbddfpaa
open Go.RowKit
set_option linter.unusedVariables false
set_option linter.unusedSimpArgs false

theorem count_blank (b g : Nat) (x : Int) : (⟨[], List.replicate g (0, 0), List.replicate (b + 1) Ob.free, []⟩ : St).count x = 0 := by
  unfold St.count
  simp only [List.replicate_succ, List.tail_cons]
  induction b with
  | zero => rfl
  | succ b ih => rw [List.replicate_succ, List.map_cons, List.sum_cons, ih]; rfl

theorem fresh_hs (b s g u z o : Nat) (h : cfgB b s g u z o = true) (hm : HeapM) (hn : NewM b s g u z o hm) : HS hm ⟨[], List.replicate g (0, 0), List.replicate (b + 1) Ob.free, []⟩ ⟨s, u, z, o⟩ b := by
  obtain ⟨vG, vB, rfl⟩ := hn
  refine ⟨?_, rfl, rfl, rfl, rfl, fun x hx => ?_, fun i x hx hs => ?_⟩
  · have e : HObj.free.ob = Ob.free := by simp [HObj.free, HObj.ob, Ob.free]
    simp [HeapM.st, newM, e]
  · have : x = HObj.free := by simp [newM] at hx; exact hx
    subst this; exact .inl rfl
  · have hx' : x ∈ (newM b s g u z o vG vB).blks := List.mem_of_getElem? hx
    have : x = HObj.free := by simp [newM] at hx'; exact hx'
    subst this
    rcases hs with e | e <;> simp [HObj.free] at e

theorem do_all : DoPact HS fun _ => True := by
  intro x N w hm s c op n hat hs g cf hN h16 h8 hop hn _
  exact (hdo_any op x N w hm s c n ⟨hat, hs, g, cf, hN, h16, h8⟩ trivial).mono fun e w' ⟨he, m', ht, hs'⟩ => ⟨he, m', ht, hs'⟩
theorem do_pact : DoPact HS room3 := fun x N w hm s c op n hat hs g cf hN h16 h8 hop hn _ => do_all x N w hm s c op n hat hs g cf hN h16 h8 hop hn fun _ => trivial
theorem do_pact2 : DoPact HS room2 := fun x N w hm s c op n hat hs g cf hN h16 h8 hop hn _ => do_all x N w hm s c op n hat hs g cf hN h16 h8 hop hn fun _ => trivial

end Go.Proofs.Ytpmkjeihbddfpaa

/- OUR OWN. The program's heap: Safepoint. -/
namespace Go.Proofs.Ytpmkjeihbddfpaa
open Go.RowKit
set_option linter.unusedVariables false
set_option linter.unusedSimpArgs false

theorem safeN_end (z : Int) (k : Nat) (s : St) (h : k = 0 ∨ s.queue.length = 0) : safeN z k s = (s, 0) := by
  cases k with
  | zero => rfl
  | succ k =>
    rcases h with h | h
    · cases h
    · unfold safeN; rw [if_pos h]

set_option maxHeartbeats 1600000 in
theorem safepoint_any {h : Nat} {w : World} {m : HeapM} {s : St} {c : Cf} {N : Nat} (p : HB 0 h w m s c N) :
    Calls Try.prog 14 #[.pointer (some ⟨h, 0, none⟩)] w fun e w' => e = .returned (.int .i64 (s.safe c).2) ∧ ∃ m', HTurn h w m w' m' ∧ HS m' (s.safe c).1 c N := by
  obtain ⟨T, hT⟩ : ∃ T, s.safe c = T := ⟨_, rfl⟩
  rw [hT]
  obtain ⟨B, hB⟩ : ∃ B : Nat, c.budget = B := ⟨c.budget.toNat, by have := p.cf.budget; omega⟩
  have hB9 : B ≤ 99 := by have := p.cf.budget; omega
  have hT' : safeN c.zero B (s.sort 0) = T := by rw [← hT]; unfold St.safe; rw [hB, Int.toNat_natCast]
  have Inv : ∃ I : Nat → World → Prop, I = fun j wr => j ≤ B ∧ ∃ mr sj, HTurn h w m wr mr ∧ HB 0 h wr mr sj c N ∧ T.1 = (safeN c.zero (B - j) sj).1 ∧ T.2 = (safeN c.zero (B - j) sj).2 + j := ⟨_, rfl⟩
  obtain ⟨I, hI⟩ := Inv
  have SORT : Hid (Calls Try.prog 34 #[.pointer (some ⟨h, 0, none⟩)] w fun e w' => e = .returned (.tuple #[]) ∧ I 0 w') := by
    refine (sortWaiting_any p).mono ?_
    rintro e w' ⟨he, m', t, q⟩
    rw [hI]
    exact ⟨he, Nat.zero_le _, m', _, t, q, by rw [Nat.sub_zero, hT'], by rw [Nat.sub_zero, hT']; rfl⟩
  have CELL : Hid (∀ j wr, I j wr → j ≤ B ∧ wr.cell? ⟨h, 1, none⟩ = some (.int .i64 B) ∧ ∃ ao ql qc, wr.cell? ⟨h, 7, none⟩ = some (.slice ao ql qc) ∧ ql ≤ 100 ∧
      (j = B ∨ ql = 0 → ∀ W, Below wr.heap.size wr W → T.2 = j ∧ ∃ m', HTurn h w m W m' ∧ HS m' T.1 c N) ∧
      (j < B → ql ≠ 0 → ∀ W, Below wr.heap.size wr W → Calls Try.prog 35 #[.pointer (some ⟨h, 0, none⟩)] W fun e w' => e = .returned (.tuple #[]) ∧ I (j + 1) w')) := by
    intro j wr hi
    rw [hI] at hi
    obtain ⟨hj, mr, sj, t, q, h1, h2⟩ := hi
    obtain ⟨ao, qc, hvQ⟩ := win_slice q.r.queue
    refine ⟨hj, by rw [q.r.cellBudget, q.hs.budget, hB], ao, sj.queue.length, qc, by rw [q.r.cell.2.2.2.2.1, hvQ, q.mqueue], by have := q.good.queue_len; have := q.small; omega, fun he W hb => ?_, fun hlt hne W hb => ?_⟩
    · have e := safeN_end c.zero (B - j) sj (by omega)
      rw [e] at h1 h2
      exact ⟨by simpa using h2, mr, t.after hb, by rw [h1]; exact q.hs⟩
    · refine (freeFirst_any (q.below hb) hne).mono ?_
      rintro e w' ⟨he, m', t2, q2⟩
      rw [hI]
      obtain ⟨k, hk⟩ : ∃ k, B - j = k + 1 := ⟨B - j - 1, by omega⟩
      have hk1 : B - (j + 1) = k := by omega
      have es : safeN c.zero (B - j) sj = ((safeN c.zero k (sj.free c.zero)).1, (safeN c.zero k (sj.free c.zero)).2 + 1) := by rw [hk]; show (if _ then _ else _) = _; rw [if_neg hne]
      rw [es] at h1 h2
      exact ⟨he, by omega, m', _, (t.after hb).trans t2, q2, by rw [hk1, h1], by rw [hk1]; simp at h2; omega⟩
  clear p hT hT' hB hI
  go_enter Try.func14, Try.ntmps14
  go_wp2_with fail
  refine Calls.mono SORT.out ?_
  rintro e w1 ⟨rfl, hi⟩
  have I0 : Hid _ := hi
  clear hi SORT
  go_wp2
  go_loopw [3] (fun i wr => ∃ j : Nat, i = .int .i64 j ∧ I j wr) (fun i _ => B - (intOf i).toNat)
  case atStart => exact ⟨0, rfl, I0.out⟩
  case round =>
    obtain ⟨j, rfl, hi⟩ := hrel
    obtain ⟨hj, cB, ao, ql, qc, cQ, hql, hend, hgo⟩ := CELL.out j wr hi
    have EN : Hid _ := hend
    have GO : Hid _ := hgo
    clear hi hend hgo
    by_cases hlt : j < B
    · by_cases h0 : ql = 0
      · subst h0
        obtain ⟨hT, hm⟩ := EN.out (.inr rfl) wr (Below.refl _ _)
        have M : Hid _ := hm
        have hjI : (j : Int) < B := by omega
        clear hm EN GO
        obtain ⟨T1, T2⟩ := T
        simp only at hT M ⊢
        subst hT
        go_wp2
        go_ret
        exact ⟨rfl, M.out⟩
      · have R : Hid _ := GO.out hlt h0
        have hjI : (j : Int) < B := by omega
        have hqI : (0 : Int) < ql := by omega
        clear EN GO
        go_wp2_with fail
        refine Calls.mono (R.out _ (Below.refl _ _)) ?_
        rintro e w2 ⟨rfl, hm⟩
        have M : Hid _ := hm
        clear hm R cB cQ
        go_wp2
        go_roundw
        case rel => exact ⟨j + 1, by go_num, M.out⟩
        case measure => simp [intOf]; omega
    · obtain rfl : j = B := by omega
      obtain ⟨hT, hm⟩ := EN.out (.inl rfl) wr (Below.refl _ _)
      have M : Hid _ := hm
      clear hm EN GO
      obtain ⟨T1, T2⟩ := T
      simp only at hT M ⊢
      subst hT
      go_wp2
      go_ret
      exact ⟨rfl, M.out⟩

theorem safe_pact : SafePact HS := by
  intro x N w hm s c hat hs g cf hN h16 h8
  exact safepoint_any ⟨hat, hs, g, cf, hN, h16, h8⟩

end Go.Proofs.Ytpmkjeihbddfpaa

/- OUR OWN. The program's Gauge: the contract. -/
namespace Go.Proofs.Ytpmkjeihbddfpaa
open Go.RowKit
set_option linter.unusedVariables false
set_option linter.unusedSimpArgs false

theorem gauge_of {m : HeapM} {s : St} {c : Cf} {N : Nat} (p : HSb 0 m s c N) (g : s.Good N) : gaugeS s = (countTo (m.inB 0) N, countTo (s.others 0) N, s.queue.length, countTo s.extra N, countTo (m.inB 2) N) := by
  have hl : m.blks.length = N + 1 := by
    have := g.len
    rw [← p.st] at this
    simpa [HeapM.st] using this
  have hob : ∀ i, i ≤ N → ∃ o, m.blks[i]? = some o ∧ s.ob i = o.ob := fun i hi => ⟨m.blks[i]'(by omega), List.getElem?_eq_getElem (by omega), by rw [← p.st]; exact hst_ob (List.getElem?_eq_getElem (by omega))⟩
  unfold gaugeS St.extras
  rw [g.sN]
  have e1 : countTo s.frees N = countTo (m.inB 0) N := countTo_congr fun b h1 h2 => by
    obtain ⟨o, ho, he⟩ := hob b h2
    unfold St.frees HeapM.inB
    rw [ho, he]
    simp [HObj.ob]
  have e2 : countTo s.waits N = countTo (s.others 0) N := countTo_congr fun b h1 h2 => by
    unfold St.others
    rw [decide_eq_true (by omega), Bool.and_true]
  have e3 : countTo s.stucks N = countTo (m.inB 2) N := countTo_congr fun b h1 h2 => by
    obtain ⟨o, ho, he⟩ := hob b h2
    unfold St.stucks HeapM.inB
    rw [ho, he]
    by_cases h : o.state = 2
    · simp [HObj.ob, h]
    · simp [HObj.ob, h]
  rw [e1, e2, e3]

theorem box5 {W : World} {L : Nat} {t : TypeId} {x0 x1 x2 x3 x4 a b c d e : Value} (h : W.heap[L]? = some (.cells #[x0, x1, x2, x3, x4] t)) :
    (((((W.setCell ⟨L, 0, none⟩ a).setCell ⟨L, 1, none⟩ b).setCell ⟨L, 2, none⟩ c).setCell ⟨L, 3, none⟩ d).setCell ⟨L, 4, none⟩ e).heap[L]? = some (.cells #[a, b, c, d, e] t) := by
  rw [heap_setCell_at (heap_setCell_at (heap_setCell_at (heap_setCell_at (heap_setCell_at h a) b) c) d) e]; rfl
theorem below_set {w W : World} (hb : Below w.heap.size w W) (i : Nat) (v : Value) : Below w.heap.size w (W.setCell ⟨w.heap.size, i, none⟩ v) :=
  ⟨hb.os, hb.tape, hb.output, by have := hb.size; simpa [World.setCell] using this, fun k hk => by rw [hso (by omega)]; exact hb.block k hk⟩

set_option maxRecDepth 20000 in
set_option maxHeartbeats 4000000 in
theorem gauge_done {h : Nat} {w : World} {m : HeapM} {s : St} {c : Cf} {N : Nat} (p : HB 0 h w m s c N) :
    Calls Try.prog 13 #[.pointer (some ⟨h, 0, none⟩)] w fun e w' =>
      e = .returned (.agg #[.int .i64 (gaugeS s).1, .int .i64 (gaugeS s).2.1, .int .i64 (gaugeS s).2.2.1, .int .i64 (gaugeS s).2.2.2.1, .int .i64 (gaugeS s).2.2.2.2]) ∧ Below w.heap.size w w' := by
  obtain ⟨qao, qcp, hvQ⟩ := win_slice p.r.queue
  rw [gauge_of p.hs p.good]
  simp only
  have K : Hid (∀ W, Below w.heap.size w W → W.cell? ⟨h, 7, none⟩ = some (.slice qao s.queue.length qcp) ∧
      (Calls Try.prog 31 #[.pointer (some ⟨h, 0, none⟩), .int .i64 0] W fun e w' => e = .returned (.int .i64 (countTo (m.inB 0) N)) ∧ Below W.heap.size W w') ∧
      (Calls Try.prog 32 #[.pointer (some ⟨h, 0, none⟩)] W fun e w' => e = .returned (.int .i64 (countTo (s.others 0) N)) ∧ Below W.heap.size W w') ∧
      (Calls Try.prog 33 #[.pointer (some ⟨h, 0, none⟩)] W fun e w' => e = .returned (.int .i64 (countTo s.extra N)) ∧ Below W.heap.size W w') ∧
      (Calls Try.prog 31 #[.pointer (some ⟨h, 0, none⟩), .int .i64 2] W fun e w' => e = .returned (.int .i64 (countTo (m.inB 2) N)) ∧ Below W.heap.size W w')) := by
    have cell : ∀ W, Below w.heap.size w W → W.cell? ⟨h, 7, none⟩ = some (.slice qao s.queue.length qcp) := fun W hb => by
      rw [(p.below hb).r.cell.2.2.2.2.1, hvQ, p.mqueue]
    intro W hb
    refine ⟨cell W hb, ?_, ?_, ?_, ?_⟩
    · exact (inState_any (p.below hb) 0).mono fun e w' ⟨he, hw⟩ => ⟨he, by rw [hw]; exact Below.refl _ _⟩
    · exact (waiting_any (p.below hb)).mono fun e w' ⟨he, hb2⟩ => ⟨he, hb2⟩
    · exact (hextras_any (p.below hb)).mono fun e w' ⟨he, hb2⟩ => ⟨he, hb2⟩
    · exact (inState_any (p.below hb) 2).mono fun e w' ⟨he, hw⟩ => ⟨he, by rw [hw]; exact Below.refl _ _⟩
  have c0 := (K.out w (Below.refl _ _)).1
  obtain ⟨n1, hn1⟩ : ∃ n, countTo (m.inB 0) N = n := ⟨_, rfl⟩
  obtain ⟨n2, hn2⟩ : ∃ n, countTo (s.others 0) N = n := ⟨_, rfl⟩
  obtain ⟨n3, hn3⟩ : ∃ n, s.queue.length = n := ⟨_, rfl⟩
  obtain ⟨n4, hn4⟩ : ∃ n, countTo s.extra N = n := ⟨_, rfl⟩
  obtain ⟨n5, hn5⟩ : ∃ n, countTo (m.inB 2) N = n := ⟨_, rfl⟩
  rw [hn1, hn2, hn3, hn4, hn5] at K
  rw [hn1, hn2, hn3, hn4, hn5]
  rw [hn3] at c0
  clear p hvQ hn1 hn2 hn3 hn4 hn5
  have NX : Hid (∀ W w', Below w.heap.size w W → W.heap[w.heap.size]? = some (.cells #[.int .i64 0, .int .i64 0, .int .i64 0, .int .i64 0, .int .i64 0] 36) → Below W.heap.size W w' → Below w.heap.size w w' ∧ w'.cell? ⟨h, 7, none⟩ = some (.slice qao n3 qcp) ∧ w'.heap[w.heap.size]? = some (.cells #[.int .i64 0, .int .i64 0, .int .i64 0, .int .i64 0, .int .i64 0] 36)) := fun W w' hb hx hb2 => by
    have hbb : Below w.heap.size w w' := hb.trans (hb2.mono hb.size)
    exact ⟨hbb, (K.out w' hbb).1, by rw [hb2.block _ (lt_of_heap hx)]; exact hx⟩
  have c1 := (K.out (w.alloc (.cells #[.int .i64 0, .int .i64 0, .int .i64 0, .int .i64 0, .int .i64 0] 36)) ((Below.refl _ _).alloc (Nat.le_refl _) _)).1
  go_enter Try.func13, Try.ntmps13
  go_wp2_with fail
  first | go_region_with (first | (go_at_call 31; refine Calls.mono (K.out _ B3.out.1).2.2.2.2 ?_; rintro e w4 ⟨rfl, hb⟩; obtain ⟨b4, g4, x4⟩ := NX.out _ w4 B3.out.1 B3.out.2 hb; have B4 : Hid _ := And.intro b4 x4; clear b4 x4 hb; have y0 := cell_of_heap (i := 0) B4.out.2 rfl; have y1 := cell_of_heap (i := 1) B4.out.2 rfl; have y2 := cell_of_heap (i := 2) B4.out.2 rfl; have y3 := cell_of_heap (i := 3) B4.out.2 rfl; have y4 := cell_of_heap (i := 4) B4.out.2 rfl; have z0 := frozen_of_heap (i := 0) B4.out.2; have z1 := frozen_of_heap (i := 1) B4.out.2; have z2 := frozen_of_heap (i := 2) B4.out.2; have z3 := frozen_of_heap (i := 3) B4.out.2; have z4 := frozen_of_heap (i := 4) B4.out.2) | (go_at_call 33; refine Calls.mono (K.out _ B2.out.1).2.2.2.1 ?_; rintro e w3 ⟨rfl, hb⟩; obtain ⟨b3, g3, x3⟩ := NX.out _ w3 B2.out.1 B2.out.2 hb; have B3 : Hid _ := And.intro b3 x3; clear b3 x3 hb) | (go_at_call 32; refine Calls.mono (K.out _ B1.out.1).2.2.1 ?_; rintro e w2 ⟨rfl, hb⟩; obtain ⟨b2, g2, x2⟩ := NX.out _ w2 B1.out.1 B1.out.2 hb; have B2 : Hid _ := And.intro b2 x2; clear b2 x2 hb) | (go_at_call 31; refine Calls.mono (K.out _ ((Below.refl _ _).alloc (Nat.le_refl _) _).drew).2.1 ?_; rintro e w1 ⟨rfl, hb⟩; obtain ⟨b1, g1, x1⟩ := NX.out _ w1 ((Below.refl _ _).alloc (Nat.le_refl _) _).drew (heap_alloc_new w _) hb; have B1 : Hid _ := And.intro b1 x1; clear b1 x1 hb)) | fail "region"
  all_goals go_wp2
  all_goals
    have hx := box5 (a := .int .i64 n1) (b := .int .i64 n2) (c := .int .i64 n3) (d := .int .i64 n4) (e := .int .i64 n5) B4.out.2
    have BB := below_set (below_set (below_set (below_set (below_set B4.out.1 0 (.int .i64 n1)) 1 (.int .i64 n2)) 2 (.int .i64 n3)) 3 (.int .i64 n4)) 4 (.int .i64 n5)
    obtain ⟨w5, hw5⟩ : ∃ w5, ((((w4.setCell ⟨w.heap.size, 0, none⟩ (.int .i64 n1)).setCell ⟨w.heap.size, 1, none⟩ (.int .i64 n2)).setCell ⟨w.heap.size, 2, none⟩ (.int .i64 n3)).setCell ⟨w.heap.size, 3, none⟩ (.int .i64 n4)).setCell ⟨w.heap.size, 4, none⟩ (.int .i64 n5) = w5 := ⟨_, rfl⟩
    rw [hw5] at hx BB ⊢
    have u0 := cell_of_heap (i := 0) hx rfl
    have u1 := cell_of_heap (i := 1) hx rfl
    have u2 := cell_of_heap (i := 2) hx rfl
    have u3 := cell_of_heap (i := 3) hx rfl
    have u4 := cell_of_heap (i := 4) hx rfl
    exact bodyPost_ret (v := .agg #[.int .i64 n1, .int .i64 n2, .int .i64 n3, .int .i64 n4, .int .i64 n5]) (by simp [results, Try.results13, go_sem, u0, u1, u2, u3, u4]) rfl ⟨rfl, BB⟩

theorem gauge_pact : GaugePact HS := by
  intro x N w hm s c hat hs g cf hN h16 h8
  exact (gauge_done ⟨hat, hs, g, cf, hN, h16, h8⟩).mono fun e w' ⟨he, hb⟩ => ⟨he, hm, .of_below hat hb, hs⟩

end Go.Proofs.Ytpmkjeihbddfpaa

/- OUR OWN. Which of n things a raw number speaks of. -/
namespace Go.Proofs.Ytpmkjeihbddfpaa

def pickN (c : Int) (n : Nat) : Nat := ((if c < 0 then -(c + 1) else c) % n).toNat

theorem pickN_lt (c : Int) (n : Nat) (h : 0 < n) : pickN c n < n := by
  unfold pickN
  have := Int.emod_lt_of_pos (if c < 0 then -(c + 1) else c) (show (0 : Int) < n by omega)
  omega

end Go.Proofs.Ytpmkjeihbddfpaa

/- OUR OWN. The statements without the document's answer: a configuration out of raw numbers. -/
namespace Go.Proofs.Ytpmkjeihbddfpaa
open Go.RowKit
set_option linter.unusedVariables false
set_option linter.unusedSimpArgs false

set_option maxHeartbeats 400000 in
theorem kpick_any (c : Int) (n : Nat) (w : World) (hc : -9223372036854775808 ≤ c ∧ c ≤ 9223372036854775807) (hn : 0 < n) (hm : n ≤ 2000000000000000) :
    Calls Try.prog 8 #[.int .i64 c, .int .i64 n] w fun r w' => r = .returned (.int .i64 (pickN c n)) ∧ w' = w := by
  obtain ⟨c1, c2⟩ := hc
  have hp : (0 : Int) < n := by omega
  have hne : ((n : Int) == 0) = false := by simp; omega
  by_cases h : c < 0
  · have e : (pickN c n : Int) = -((c + 1).tmod n) := by
      rw [← Int.neg_tmod, Int.tmod_eq_emod_of_nonneg (by omega)]
      unfold pickN; rw [if_pos h]; have := Int.emod_nonneg (-(c + 1)) (show (n : Int) ≠ 0 by omega); omega
    have E : Hid ((pickN c n : Int) = -((c + 1).tmod n)) := e
    clear e
    go_enter Try.func8, Try.ntmps8
    go_wp2
    go_ret
    rw [E.out]
    exact ⟨rfl, rfl⟩
  · have e : (pickN c n : Int) = c % n := by
      unfold pickN; rw [if_neg h]; have := Int.emod_nonneg c (show (n : Int) ≠ 0 by omega); omega
    have E : Hid ((pickN c n : Int) = c % n) := e
    clear e
    go_enter Try.func8, Try.ntmps8
    go_wp2
    go_ret
    rw [E.out]
    exact ⟨rfl, rfl⟩

/-- the configuration, out of raw numbers -/
structure CfgM where
  b : Nat
  s : Nat
  g : Nat
  u : Nat
  z : Nat
  o : Nat
def CfgM.val (k : CfgM) : Value := .agg #[.int .i64 k.b, .int .i64 k.s, .int .i64 k.g, .int .i64 k.u, .int .i64 k.z, .int .i64 k.o]
def CfgM.ok (k : CfgM) : Prop := cfgB k.b k.s k.g k.u k.z k.o = true
def CfgM.cf (k : CfgM) : Cf := ⟨k.s, k.u, k.z, k.o⟩

set_option maxHeartbeats 1600000 in
set_option maxRecDepth 10000 in
theorem config_any (b s g u z o : Int) (w : World) (hb : fits b) (hs : fits s) (hg : fits g) (hu : fits u) (hz : fits z) (ho : fits o) :
    Calls Try.prog 7 #[.agg #[.int .i64 b, .int .i64 s, .int .i64 g, .int .i64 u, .int .i64 z, .int .i64 o]] w fun e w' => (∃ k : CfgM, e = .returned k.val ∧ k.ok) ∧ Below w.heap.size w w' := by
  have PK : Hid (∀ (c : Int) (n : Nat) (W : World), fits c → 0 < n → n ≤ 1000 → Calls Try.prog 8 #[.int .i64 c, .int .i64 n] W fun r w' => r = .returned (.int .i64 (pickN c n)) ∧ w' = W) := fun c n W hc hn hm => kpick_any c n W hc hn (by omega)
  have p1 : pickN b 99 < 99 := pickN_lt _ _ (by decide)
  have p2 : pickN s 16 < 16 := pickN_lt _ _ (by decide)
  have p3 : pickN g 9 < 9 := pickN_lt _ _ (by decide)
  have p4 : pickN u 99 < 99 := pickN_lt _ _ (by decide)
  have p6 : pickN o 10 < 10 := pickN_lt _ _ (by decide)
  have P1 : Hid _ := PK.out b 99
  have P2 : Hid _ := PK.out s 16
  have P3 : Hid _ := PK.out g 9
  have P4 : Hid _ := PK.out u 99
  have P6 : Hid _ := PK.out o 10
  obtain ⟨x1, h1⟩ : ∃ x, pickN b 99 = x := ⟨_, rfl⟩
  obtain ⟨x2, h2⟩ : ∃ x, pickN s 16 = x := ⟨_, rfl⟩
  obtain ⟨x3, h3⟩ : ∃ x, pickN g 9 = x := ⟨_, rfl⟩
  obtain ⟨x4, h4⟩ : ∃ x, pickN u 99 = x := ⟨_, rfl⟩
  obtain ⟨x6, h6⟩ : ∃ x, pickN o 10 = x := ⟨_, rfl⟩
  have hpos : 0 < 99 - (1 + x2 + x3 + 1) + 1 := by omega
  have p5 : pickN z (99 - (1 + x2 + x3 + 1) + 1) < 99 - (1 + x2 + x3 + 1) + 1 := pickN_lt _ _ hpos
  have P5 : Hid _ := PK.out z (99 - (1 + x2 + x3 + 1) + 1)
  obtain ⟨x5, h5⟩ : ∃ x, pickN z (99 - (1 + x2 + x3 + 1) + 1) = x := ⟨_, rfl⟩
  rw [h1] at p1 P1
  rw [h2] at p2 P2
  rw [h3] at p3 P3
  rw [h4] at p4 P4
  rw [h5] at p5 P5
  rw [h6] at p6 P6
  have OK : Hid (CfgM.ok ⟨1 + x1, 1 + x2, x3, 1 + x4, 1 + x2 + x3 + 1 + x5, x6⟩) := by
    show cfgB _ _ _ _ _ _ = true
    simp [cfgB]; omega
  have en : (((99 - (1 + x2 + x3 + 1) + 1 : Nat)) : Int) = 99 - (1 + (x2 : Int) + x3 + 1) + 1 := by omega
  have P5' : Hid (∀ W, Calls Try.prog 8 #[.int .i64 z, .int .i64 (99 - (1 + (x2 : Int) + x3 + 1) + 1)] W fun r w' => r = .returned (.int .i64 x5) ∧ w' = W) := fun W => by
    have := P5.out W hz hpos (by omega)
    rw [en] at this; exact this
  have P1' : Hid (∀ W, Calls Try.prog 8 #[.int .i64 b, .int .i64 99] W fun r w' => r = .returned (.int .i64 x1) ∧ w' = W) := fun W => P1.out W hb (by decide) (by decide)
  have P2' : Hid (∀ W, Calls Try.prog 8 #[.int .i64 s, .int .i64 16] W fun r w' => r = .returned (.int .i64 x2) ∧ w' = W) := fun W => P2.out W hs (by decide) (by decide)
  have P3' : Hid (∀ W, Calls Try.prog 8 #[.int .i64 g, .int .i64 9] W fun r w' => r = .returned (.int .i64 x3) ∧ w' = W) := fun W => P3.out W hg (by decide) (by decide)
  have P4' : Hid (∀ W, Calls Try.prog 8 #[.int .i64 u, .int .i64 99] W fun r w' => r = .returned (.int .i64 x4) ∧ w' = W) := fun W => P4.out W hu (by decide) (by decide)
  have P6' : Hid (∀ W, Calls Try.prog 8 #[.int .i64 o, .int .i64 10] W fun r w' => r = .returned (.int .i64 x6) ∧ w' = W) := fun W => P6.out W ho (by decide) (by decide)
  clear PK P1 P2 P3 P4 P5 P6 h1 h2 h3 h4 h5 h6 hb hs hg hu hz ho en hpos
  go_enter Try.func7, Try.ntmps7
  go_wp2_with fail
  refine Calls.mono (P1'.out _) ?_
  rintro e w1 ⟨rfl, rfl⟩
  go_wp2_with fail
  refine Calls.mono (P2'.out _) ?_
  rintro e w2 ⟨rfl, rfl⟩
  go_wp2_with fail
  refine Calls.mono (P3'.out _) ?_
  rintro e w3 ⟨rfl, rfl⟩
  go_wp2_with fail
  refine Calls.mono (P4'.out _) ?_
  rintro e w4 ⟨rfl, rfl⟩
  go_wp2_with fail
  refine Calls.mono (P5'.out _) ?_
  rintro e w5 ⟨rfl, rfl⟩
  go_wp2_with fail
  refine Calls.mono (P6'.out _) ?_
  rintro e w6 ⟨rfl, rfl⟩
  go_wp2
  refine bodyPost_ret (v := CfgM.val ⟨1 + x1, 1 + x2, x3, 1 + x4, 1 + x2 + x3 + 1 + x5, x6⟩) (by simp [results, Try.results7, go_sem, CfgM.val]) rfl ⟨⟨_, rfl, OK.out⟩, ?_⟩
  exact ((Below.refl _ _).alloc (Nat.le_refl _) _).alloc (by simp) _

end Go.Proofs.Ytpmkjeihbddfpaa

/- OUR OWN. The statements without the document's answer: a heap that works. -/
namespace Go.Proofs.Ytpmkjeihbddfpaa
open Go.RowKit
set_option linter.unusedVariables false
set_option linter.unusedSimpArgs false

/-- all that the statements ask of the program -/
structure Pacts (HS : HeapM → St → Cf → Nat → Prop) : Prop where
  new : ∀ (b s g u z o : Nat), cfgB b s g u z o = true → ∀ hm, NewM b s g u z o hm → HS hm ⟨[], List.replicate g (0, 0), List.replicate (b + 1) Ob.free, []⟩ ⟨s, u, z, o⟩ b
  act : DoPact HS (fun _ => True)
  gauge : GaugePact HS
  safe : SafePact HS
  coll : CollPact HS

/-- what is asked of it where no heap is full -/
structure Pact3 (HS : HeapM → St → Cf → Nat → Prop) (Room : St → Prop) : Prop where
  new : ∀ (b s g u z o : Nat), cfgB b s g u z o = true → ∀ hm, NewM b s g u z o hm → HS hm ⟨[], List.replicate g (0, 0), List.replicate (b + 1) Ob.free, []⟩ ⟨s, u, z, o⟩ b
  act : DoPact HS Room
  gauge : GaugePact HS
  safe : SafePact HS
  room : ∀ s, (∃ k, free? s = some k) → Room s

variable {HS : HeapM → St → Cf → Nat → Prop} {Room : St → Prop}

theorem Pacts.base (P : Pacts HS) : Pact3 HS (fun _ => True) := ⟨P.new, P.act, P.gauge, P.safe, fun _ _ => trivial⟩

/-- a heap of the program, in memory from block B on -/
structure KAt (HS : HeapM → St → Cf → Nat → Prop) (B : Nat) (w : World) (x : Nat) (hm : HeapM) (s : St) (c : Cf) (N : Nat) : Prop where
  here : HeapAt w x hm
  hs : HS hm s c N
  good : s.Good N
  bound : Bound c s
  cf : CfOk c
  small : N ≤ 99
  gl : s.globals.length ≤ 8
  low : ∀ g ∈ x :: hm.foot, B ≤ g
  size : B ≤ w.heap.size
theorem KAt.stack {B : Nat} {w : World} {x : Nat} {hm : HeapM} {s : St} {c : Cf} {N : Nat} (k : KAt HS B w x hm s c N) : s.stack.length ≤ 16 := by have := k.bound.roots; have := k.cf.deep; omega
theorem KAt.below {B : Nat} {w w' : World} {x : Nat} {hm : HeapM} {s : St} {c : Cf} {N : Nat} (k : KAt HS B w x hm s c N) (hb : Below w.heap.size w w') : KAt HS B w' x hm s c N :=
  ⟨k.here.carry fun g hg => hb.block g (k.here.lt g hg), k.hs, k.good, k.bound, k.cf, k.small, k.gl, k.low, by have := hb.size; have := k.size; omega⟩
/-- what a call leaves: the heap, and nothing of the memory below block B is turned -/
structure KStep (HS : HeapM → St → Cf → Nat → Prop) (B : Nat) (w : World) (x : Nat) (hm : HeapM) (w' : World) (s' : St) (c : Cf) (N : Nat) : Prop where
  at_ : ∃ hm', HTurn x w hm w' hm' ∧ KAt HS B w' x hm' s' c N
  keep : Below B w w'
theorem kstep {B : Nat} {w w' : World} {x : Nat} {hm hm' : HeapM} {s s' : St} {c : Cf} {N : Nat} (k : KAt HS B w x hm s c N) (t : HTurn x w hm w' hm') (hs : HS hm' s' c N) (hg : s'.Good N) (hb : Bound c s') (hl : s'.globals.length ≤ 8) : KStep HS B w x hm w' s' c N := by
  have hz := t.off.size
  refine ⟨⟨hm', t, t.here, hs, hg, hb, k.cf, k.small, hl, fun g hgm => ?_, by have := k.size; omega⟩, t.off.os, t.off.tape, t.off.output, hz, fun g hgB => t.off.block g (by have := k.size; omega) fun hm => ?_⟩
  · rcases List.mem_cons.1 hgm with e | e
    · exact k.low g (by rw [e]; exact List.mem_cons_self)
    · rcases t.foot g e with e | e
      · exact k.low g (List.mem_cons_of_mem _ e)
      · have := k.size; omega
  · have := k.low g hm; omega

theorem store_globals (c : Cf) (s : St) (n : Int) : (storeS c s n).1.globals = s.globals := by
  unfold storeS
  split
  · rfl
  split
  · rfl
  split
  · rfl
  have er : ∀ o x, (stickS o (s.pop 2) x).globals = s.globals := fun o x => by unfold stickS; split <;> rfl
  unfold putS
  split
  · rfl
  · unfold dropS'
    split
    · exact (enter_roots _ _ _).2.trans (er _ _)
    · exact er _ _
theorem new_globals {s : St} {N : Nat} (g : s.Good N) (c : Cf) (n : Int) : (newS c s n).1.globals = s.globals := by
  by_cases h : (newS c s n).2.2 = 0
  · obtain ⟨k, _, _, h3, _⟩ := new_state g c n h; exact h3
  · exact (new_refused g c n h).globals
theorem do_globals {s : St} {N : Nat} (g : s.Good N) (c : Cf) (op n : Int) : (doS c s op n).1.globals.length = s.globals.length := by
  refine doS_keeps c s op n (fun t => t.globals.length = s.globals.length) rfl (fun t v ht _ _ _ => ht) (fun k => rfl) (fun k hk => by simp) (by rw [new_globals g]) (by rw [store_globals])

theorem k_do (P : Pacts HS) {B : Nat} {w : World} {x : Nat} {hm : HeapM} {s : St} {c : Cf} {N : Nat} (k : KAt HS B w x hm s c N) (op n : Int) (hop : fits op) (hn : fits n) :
    Calls Try.prog 10 #[.pointer (some ⟨x, 0, none⟩), .int .i64 op, .int .i64 n] w fun e w' => e = .returned (.tuple #[.int .i64 (doS c s op n).2.1, .int .i64 (doS c s op n).2.2]) ∧ KStep HS B w x hm w' (doS c s op n).1 c N := by
  refine (P.act x N w hm s c op n k.here k.hs k.good k.cf k.small k.stack k.gl hop hn (fun _ => trivial)).mono ?_
  rintro e w' ⟨he, hm', t, hs⟩
  exact ⟨he, kstep k t hs (k.good.did c op n hn) (k.bound.did k.good k.cf.over.1 op n) (by rw [do_globals k.good]; exact k.gl)⟩
theorem k_do3 (P : Pact3 HS Room) {B : Nat} {w : World} {x : Nat} {hm : HeapM} {s : St} {c : Cf} {N : Nat} (k : KAt HS B w x hm s c N) (op n : Int) (hop : fits op) (hn : fits n) (hr : op = 2 → ∃ k, free? s = some k) :
    Calls Try.prog 10 #[.pointer (some ⟨x, 0, none⟩), .int .i64 op, .int .i64 n] w fun e w' => e = .returned (.tuple #[.int .i64 (doS c s op n).2.1, .int .i64 (doS c s op n).2.2]) ∧ KStep HS B w x hm w' (doS c s op n).1 c N := by
  refine (P.act x N w hm s c op n k.here k.hs k.good k.cf k.small k.stack k.gl hop hn (fun h => P.room s (hr h))).mono ?_
  rintro e w' ⟨he, hm', t, hs⟩
  exact ⟨he, kstep k t hs (k.good.did c op n hn) (k.bound.did k.good k.cf.over.1 op n) (by rw [do_globals k.good]; exact k.gl)⟩
theorem k_safe3 (P : Pact3 HS Room) {B : Nat} {w : World} {x : Nat} {hm : HeapM} {s : St} {c : Cf} {N : Nat} (k : KAt HS B w x hm s c N) :
    Calls Try.prog 14 #[.pointer (some ⟨x, 0, none⟩)] w fun e w' => e = .returned (.int .i64 (s.safe c).2) ∧ KStep HS B w x hm w' (s.safe c).1 c N := by
  refine (P.safe x N w hm s c k.here k.hs k.good k.cf k.small k.stack k.gl).mono ?_
  rintro e w' ⟨he, hm', t, hs⟩
  exact ⟨he, kstep k t hs (k.good.safe c) (k.bound.safe k.good) (by rw [(same_safe k.good c).globals]; exact k.gl)⟩
theorem k_gauge3 (P : Pact3 HS Room) {B : Nat} {w : World} {x : Nat} {hm : HeapM} {s : St} {c : Cf} {N : Nat} (k : KAt HS B w x hm s c N) :
    Calls Try.prog 13 #[.pointer (some ⟨x, 0, none⟩)] w fun e w' => e = .returned (.agg #[.int .i64 (gaugeS s).1, .int .i64 (gaugeS s).2.1, .int .i64 (gaugeS s).2.2.1, .int .i64 (gaugeS s).2.2.2.1, .int .i64 (gaugeS s).2.2.2.2]) ∧ KStep HS B w x hm w' s c N := by
  refine (P.gauge x N w hm s c k.here k.hs k.good k.cf k.small k.stack k.gl).mono ?_
  rintro e w' ⟨he, hm', t, hs⟩
  exact ⟨he, kstep k t hs k.good k.bound k.gl⟩
theorem k_safe (P : Pacts HS) {B : Nat} {w : World} {x : Nat} {hm : HeapM} {s : St} {c : Cf} {N : Nat} (k : KAt HS B w x hm s c N) :
    Calls Try.prog 14 #[.pointer (some ⟨x, 0, none⟩)] w fun e w' => e = .returned (.int .i64 (s.safe c).2) ∧ KStep HS B w x hm w' (s.safe c).1 c N := by
  refine (P.safe x N w hm s c k.here k.hs k.good k.cf k.small k.stack k.gl).mono ?_
  rintro e w' ⟨he, hm', t, hs⟩
  exact ⟨he, kstep k t hs (k.good.safe c) (k.bound.safe k.good) (by rw [(same_safe k.good c).globals]; exact k.gl)⟩
theorem k_coll (P : Pacts HS) {B : Nat} {w : World} {x : Nat} {hm : HeapM} {s : St} {c : Cf} {N : Nat} (k : KAt HS B w x hm s c N) :
    Calls Try.prog 15 #[.pointer (some ⟨x, 0, none⟩)] w fun e w' => e = .returned (.int .i64 s.gone) ∧ KStep HS B w x hm w' (s.collect c.over) c N := by
  refine (P.coll x N w hm s c k.here k.hs k.good k.cf k.small k.stack k.gl).mono ?_
  rintro e w' ⟨he, hm', t, hs⟩
  exact ⟨he, kstep k t hs (k.good.collect _) (k.bound.collected k.good k.cf.over.1) (by rw [(same_collect k.good _).globals]; exact k.gl)⟩
def st0 (k : CfgM) : St := ⟨[], List.replicate k.g (0, 0), List.replicate (k.b + 1) Ob.free, []⟩
theorem CfgM.bounds {k : CfgM} (h : k.ok) : 1 ≤ k.b ∧ k.b ≤ 99 ∧ 1 ≤ k.s ∧ k.s ≤ 16 ∧ k.g ≤ 8 ∧ 1 ≤ k.u ∧ k.u ≤ 99 ∧ k.s + k.g < k.z ∧ k.z ≤ 99 ∧ k.o ≤ 9 := by
  have h' : cfgB k.b k.s k.g k.u k.z k.o = true := h
  simp [cfgB] at h'
  omega
theorem k_new (P : Pact3 HS Room) (k : CfgM) (hk : k.ok) (w : World) :
    Calls Try.prog 18 #[k.val] w fun e w' => ∃ x hm, e = .returned (.tuple #[.pointer (some ⟨x, 0, none⟩), .int .i64 0]) ∧ Below w.heap.size w w' ∧ KAt HS w.heap.size w' x hm (st0 k) k.cf k.b := by
  refine (new_says k.b k.s k.g k.u k.z k.o w hk).mono ?_
  rintro e w' ⟨x, hm, he, hb, ha, hf, hn⟩
  have hB := CfgM.bounds hk
  refine ⟨x, hm, he, hb, ha, P.new _ _ _ _ _ _ hk hm hn, good_new k.b k.g, bound_new k.cf k.b k.g ?_ ?_ ?_, ⟨?_, ?_, ?_, ?_⟩, by omega, ?_, hf, hb.size⟩
  · show (0 : Int) ≤ (k.s : Int); omega
  · show (k.s : Int) + k.g < (k.z : Int); omega
  · show (0 : Int) ≤ (k.o : Int); omega
  · show 1 ≤ (k.s : Int) ∧ (k.s : Int) ≤ 16; omega
  · show 1 ≤ (k.u : Int) ∧ (k.u : Int) ≤ 99; omega
  · show 0 ≤ (k.o : Int) ∧ (k.o : Int) ≤ 9; omega
  · show (k.s : Int) < (k.z : Int) ∧ (k.z : Int) ≤ 99; omega
  · show (List.replicate k.g (0, 0)).length ≤ 8; simp; omega

/-! ### What a heap that works answers -/
theorem reach_none {s : St} (h : ∀ b : Int, s.rooted b = false) (b : Nat) : s.reachB b = false := by
  cases e : s.reachB b with
  | false => rfl
  | true =>
    have := reach_least (s := s) (P := fun _ => False) (fun b _ _ hr => by rw [h] at hr; cases hr) (fun a b ha _ _ _ _ _ => ha) e
    exact this.elim
theorem reachN_none {s : St} (h : ∀ b : Int, s.rooted b = false) : reachN s = 0 := by
  unfold reachN countTo
  exact List.countP_eq_zero.2 fun j _ => by rw [reach_none h]; simp
theorem rooted_nils (g N : Nat) (b : Int) (q : List Int) (l : List Ob) : (⟨[], List.replicate g (0, 0), l, q⟩ : St).rooted b = false := by
  cases e : (⟨[], List.replicate g (0, 0), l, q⟩ : St).rooted b with
  | false => rfl
  | true =>
    rcases rooted_true.1 e with ⟨v, hv, _⟩ | ⟨v, hv, h1, _⟩
    · cases hv
    · simp at hv; rw [hv.2] at h1; cases h1
/-- the answers of the six calls -/
structure Works (c : Cf) (s0 s1 s2 s3 s4 : St) (z : Int) : Prop where
  a1 : (doS c s0 2 2).2 = (0, 0)
  e1 : s1 = (doS c s0 2 2).1
  a2 : (doS c s1 11 0).2 = (2, 0)
  e2 : s2 = (doS c s1 11 0).1
  a3 : (doS c s2 4 0).2 = (0, 0)
  e3 : s3 = (doS c s2 4 0).1
  a4 : (doS c s3 1 z).2 = (0, 0)
  e4 : s4 = (doS c s3 1 z).1
  a5 : (doS c s4 10 0).2 = (z, 0)
theorem works_pure (k : CfgM) (hk : k.ok) (z : Int) : ∃ s1 s2 s3 s4, Works k.cf (st0 k) s1 s2 s3 s4 z := by
  have hB := CfgM.bounds hk
  have g0 : (st0 k).Good k.b := good_new k.b k.g
  have d2 : doS k.cf (st0 k) 2 2 = newS k.cf (st0 k) 2 := rfl
  have a0 : (newS k.cf (st0 k) 2).2.2 = 0 := by
    rw [new_answer g0, if_neg (by omega), if_neg (by show ¬ (k.s : Int) ≤ ((0 : Nat) : Int); omega), if_neg ?_]
    have : reachN (st0 k) = 0 := reachN_none fun b => rooted_nils k.g k.b b _ _
    omega
  obtain ⟨b, hb1, hb2, hst, hob, hct⟩ := new_object g0 k.cf 2 a0
  obtain ⟨s1, hs1⟩ : ∃ s1, (newS k.cf (st0 k) 2).1 = s1 := ⟨_, rfl⟩
  rw [hs1] at hst hob
  have hst' : s1.stack = [(2, (b : Int))] := by rw [hst]; rfl
  have hd : s1.down 0 = (2, (b : Int)) := by unfold St.down; rw [hst']; rfl
  have hf : s1.fields (b : Int) = List.replicate 2 (0, 0) := by unfold St.fields; rw [Int.toNat_natCast, hob]; rfl
  have d11 : doS k.cf s1 11 0 = (s1, 2, 0) := by
    show sizeS s1 = _
    unfold sizeS
    rw [if_neg (by rw [hst']; simp), hd, if_neg (by simp [objErr])]
    show (s1, ((s1.fields (b : Int)).length : Int), (0 : Int)) = _
    rw [hf]; rfl
  have d4 : doS k.cf s1 4 0 = (s1.pop 1, 0, 0) := by
    show dropS s1 = _
    unfold dropS
    rw [if_neg (by rw [hst']; simp)]
  have hp : (s1.pop 1).stack = [] := by unfold St.pop; rw [hst']; rfl
  have dd : k.cf.deep = (k.s : Int) := rfl
  have d1 : doS k.cf (s1.pop 1) 1 z = ({ s1.pop 1 with stack := [(1, z)] }, 0, 0) := by
    show pushA k.cf.deep (s1.pop 1) (1, z) = _
    unfold pushA pushS
    rw [if_neg (by rw [hp, dd]; simp; omega), hp]; rfl
  have d10 : doS k.cf { s1.pop 1 with stack := [(1, z)] } 10 0 = (({ s1.pop 1 with stack := [(1, z)] } : St).pop 1, z, 0) := by
    show takeS { s1.pop 1 with stack := [(1, z)] } = _
    unfold takeS
    have e1 : ({ s1.pop 1 with stack := [(1, z)] } : St).down 0 = (1, z) := rfl
    rw [if_neg (by simp), e1]
    exact if_pos rfl
  refine ⟨s1, s1, s1.pop 1, { s1.pop 1 with stack := [(1, z)] }, ?_, ?_, ?_, ?_, ?_, ?_, ?_, ?_, ?_⟩
  · rw [d2]; exact Prod.ext (new_num _ _ _) a0
  · rw [d2]; exact hs1.symm
  · rw [d11]
  · rw [d11]
  · rw [d4]
  · rw [d4]
  · rw [d1]
  · rw [d1]
  · rw [d10]

end Go.Proofs.Ytpmkjeihbddfpaa

/- OUR OWN. The statements without the document's answer: works, fresh. -/
namespace Go.Proofs.Ytpmkjeihbddfpaa
open Go.RowKit
set_option linter.unusedVariables false
set_option linter.unusedSimpArgs false

variable {HS : HeapM → St → Cf → Nat → Prop} {Room : St → Prop}

def CfgM.cells (k : CfgM) : Array Value := #[.int .i64 k.b, .int .i64 k.s, .int .i64 k.g, .int .i64 k.u, .int .i64 k.z, .int .i64 k.o]

/-- a Do whose answer is known -/
def DoesAt (HS : HeapM → St → Cf → Nat → Prop) (B x : Nat) (c : Cf) (N : Nat) (s : St) (op n a e : Int) (s' : St) : Prop := ∀ W hm, KAt HS B W x hm s c N → Calls Try.prog 10 #[.pointer (some ⟨x, 0, none⟩), .int .i64 op, .int .i64 n] W
  fun r w' => r = .returned (.tuple #[.int .i64 a, .int .i64 e]) ∧ (∃ hm', KAt HS B w' x hm' s' c N) ∧ Below B W w'
theorem doesAt (P : Pact3 HS Room) {B x : Nat} {c : Cf} {N : Nat} {s s' : St} {op n a e : Int} (ha : (doS c s op n).2 = (a, e)) (hs : s' = (doS c s op n).1) (hop : fits op) (hn : fits n) (hf : op = 2 → ∃ k, free? s = some k) : DoesAt HS B x c N s op n a e s' := fun W hm k => by
  refine (k_do3 P k op n hop hn hf).mono ?_
  rintro r w' ⟨hr, st⟩
  obtain ⟨hm', _, k'⟩ := st.at_
  refine ⟨?_, ⟨hm', by rw [hs]; exact k'⟩, st.keep⟩
  rw [hr, ha]

set_option maxHeartbeats 3200000 in
set_option maxRecDepth 10000 in
theorem works_any (P : Pact3 HS Room) (k : CfgM) (hk : k.ok) (w : World) :
    Calls Try.prog 17 #[k.val] w fun e w' => e = .returned (.bool true) ∧ Below w.heap.size w w' := by
  have hB := CfgM.bounds hk
  have fz : fits (k.z : Int) := ⟨by omega, by omega⟩
  obtain ⟨s1, s2, s3, s4, W⟩ := works_pure k hk k.z
  have NEW : Hid (∀ W, Calls Try.prog 18 #[.agg #[.int .i64 k.b, .int .i64 k.s, .int .i64 k.g, .int .i64 k.u, .int .i64 k.z, .int .i64 k.o]] W fun e w' => ∃ x hm, e = .returned (.tuple #[.pointer (some ⟨x, 0, none⟩), .int .i64 0]) ∧ Below W.heap.size W w' ∧ KAt HS W.heap.size w' x hm (st0 k) k.cf k.b) := fun W => k_new P k hk W
  have F0 : ∃ j, free? (st0 k) = some j := by
    refine free_exists (b := 1) (Nat.le_refl _) (by simp [st0]; omega) ?_
    unfold St.ob st0
    rw [List.getD_eq_getElem?_getD, List.getElem?_replicate]
    split <;> rfl
  have D1 : Hid (∀ B x, DoesAt HS B x k.cf k.b (st0 k) 2 2 0 0 s1) := fun B x => doesAt P W.a1 W.e1 ⟨by decide, by decide⟩ ⟨by decide, by decide⟩ fun _ => F0
  have D2 : Hid (∀ B x, DoesAt HS B x k.cf k.b s1 11 0 2 0 s2) := fun B x => doesAt P W.a2 W.e2 ⟨by decide, by decide⟩ ⟨by decide, by decide⟩ fun h => absurd h (by decide)
  have D3 : Hid (∀ B x, DoesAt HS B x k.cf k.b s2 4 0 0 0 s3) := fun B x => doesAt P W.a3 W.e3 ⟨by decide, by decide⟩ ⟨by decide, by decide⟩ fun h => absurd h (by decide)
  have D4 : Hid (∀ B x, DoesAt HS B x k.cf k.b s3 1 (k.z : Int) 0 0 s4) := fun B x => doesAt P W.a4 W.e4 ⟨by decide, by decide⟩ fz fun h => absurd h (by decide)
  have D5 : Hid (∀ B x, DoesAt HS B x k.cf k.b s4 10 0 (k.z : Int) 0 (doS k.cf s4 10 0).1) := fun B x => doesAt P W.a5 rfl ⟨by decide, by decide⟩ ⟨by decide, by decide⟩ fun h => absurd h (by decide)
  obtain ⟨kb, ks, kg, ku, kz, ko⟩ := k
  simp only at *
  clear W hB fz hk P F0
  unfold CfgM.val
  simp only
  go_enter Try.func17, Try.ntmps17
  go_wp2_with fail
  refine Calls.mono (NEW.out _) ?_
  rintro e w1 ⟨x, hm, rfl, hb, hK⟩
  have hL := boxed' hb
  rw [show (w.alloc (.cells #[.int .i64 kb, .int .i64 ks, .int .i64 kg, .int .i64 ku, .int .i64 kz, .int .i64 ko] 23)).heap.size = w.heap.size + 1 by simp] at hK hb
  have K1 : Hid (KAt HS (w.heap.size + 1) w1 x hm (st0 ⟨kb, ks, kg, ku, kz, ko⟩) (CfgM.cf ⟨kb, ks, kg, ku, kz, ko⟩) kb ∧ w1.heap[w.heap.size]? = some (.cells #[.int .i64 kb, .int .i64 ks, .int .i64 kg, .int .i64 ku, .int .i64 kz, .int .i64 ko] 23) ∧ Below w.heap.size w w1) := ⟨hK, hL, ((Below.refl _ _).alloc (Nat.le_refl _) _).trans (hb.mono (by omega))⟩
  clear hK hL hb NEW
  go_wp2_with fail
  refine Calls.mono (D1.out _ x w1 hm K1.out.1) ?_
  rintro e w2 ⟨rfl, ⟨hm2, hK⟩, hb⟩
  have K2 : Hid (KAt HS (w.heap.size + 1) w2 x hm2 s1 (CfgM.cf ⟨kb, ks, kg, ku, kz, ko⟩) kb ∧ w2.heap[w.heap.size]? = some (.cells #[.int .i64 kb, .int .i64 ks, .int .i64 kg, .int .i64 ku, .int .i64 kz, .int .i64 ko] 23) ∧ Below w.heap.size w w2) := ⟨hK, by rw [hb.block _ (by omega)]; exact K1.out.2.1, K1.out.2.2.trans (hb.mono (by omega))⟩
  clear hK hb K1 D1
  go_wp2_with fail
  refine Calls.mono (D2.out _ x w2 hm2 K2.out.1) ?_
  rintro e w3 ⟨rfl, ⟨hm3, hK⟩, hb⟩
  have K3 : Hid (KAt HS (w.heap.size + 1) w3 x hm3 s2 (CfgM.cf ⟨kb, ks, kg, ku, kz, ko⟩) kb ∧ w3.heap[w.heap.size]? = some (.cells #[.int .i64 kb, .int .i64 ks, .int .i64 kg, .int .i64 ku, .int .i64 kz, .int .i64 ko] 23) ∧ Below w.heap.size w w3) := ⟨hK, by rw [hb.block _ (by omega)]; exact K2.out.2.1, K2.out.2.2.trans (hb.mono (by omega))⟩
  clear hK hb K2 D2
  go_wp2_with fail
  refine Calls.mono (D3.out _ x w3 hm3 K3.out.1) ?_
  rintro e w4 ⟨rfl, ⟨hm4, hK⟩, hb⟩
  have hL := (hb.block w.heap.size (by omega)).trans K3.out.2.1
  have l4 : w4.cell? ⟨w.heap.size, 4, none⟩ = some (.int .i64 kz) := cell_of_heap hL rfl
  have K4 : Hid (KAt HS (w.heap.size + 1) w4 x hm4 s3 (CfgM.cf ⟨kb, ks, kg, ku, kz, ko⟩) kb ∧ w4.heap[w.heap.size]? = some (.cells #[.int .i64 kb, .int .i64 ks, .int .i64 kg, .int .i64 ku, .int .i64 kz, .int .i64 ko] 23) ∧ Below w.heap.size w w4) := ⟨hK, hL, K3.out.2.2.trans (hb.mono (by omega))⟩
  clear hK hb K3 D3 hL
  go_wp2_with fail
  refine Calls.mono (D4.out _ x w4 hm4 K4.out.1) ?_
  rintro e w5 ⟨rfl, ⟨hm5, hK⟩, hb⟩
  have K5 : Hid (KAt HS (w.heap.size + 1) w5 x hm5 s4 (CfgM.cf ⟨kb, ks, kg, ku, kz, ko⟩) kb ∧ w5.heap[w.heap.size]? = some (.cells #[.int .i64 kb, .int .i64 ks, .int .i64 kg, .int .i64 ku, .int .i64 kz, .int .i64 ko] 23) ∧ Below w.heap.size w w5) := ⟨hK, by rw [hb.block _ (by omega)]; exact K4.out.2.1, K4.out.2.2.trans (hb.mono (by omega))⟩
  clear hK hb K4 D4 l4
  go_wp2_with fail
  refine Calls.mono (D5.out _ x w5 hm5 K5.out.1) ?_
  rintro e w6 ⟨rfl, ⟨hm6, hK⟩, hb⟩
  have hL := (hb.block w.heap.size (by omega)).trans K5.out.2.1
  have l4 : w6.cell? ⟨w.heap.size, 4, none⟩ = some (.int .i64 kz) := cell_of_heap hL rfl
  have B6 : Hid (Below w.heap.size w w6) := K5.out.2.2.trans (hb.mono (by omega))
  clear hK hb K5 D5 hL
  go_wp2
  go_ret
  exact ⟨rfl, B6.out⟩

set_option maxHeartbeats 1600000 in
set_option maxRecDepth 10000 in
theorem fresh_keep (P : Pact3 HS Room) (k : CfgM) (hk : k.ok) (w : World) :
    Calls Try.prog 9 #[k.val] w fun e w' => ∃ x hm, e = .returned (.pointer (some ⟨x, 0, none⟩)) ∧ Below w.heap.size w w' ∧ KAt HS w.heap.size w' x hm (st0 k) k.cf k.b := by
  have NEW : Hid (∀ W, Calls Try.prog 18 #[.agg #[.int .i64 k.b, .int .i64 k.s, .int .i64 k.g, .int .i64 k.u, .int .i64 k.z, .int .i64 k.o]] W fun e w' => ∃ x hm, e = .returned (.tuple #[.pointer (some ⟨x, 0, none⟩), .int .i64 0]) ∧ Below W.heap.size W w' ∧ KAt HS W.heap.size w' x hm (st0 k) k.cf k.b) := fun W => k_new P k hk W
  have WORKS : Hid (∀ W, Calls Try.prog 17 #[.agg #[.int .i64 k.b, .int .i64 k.s, .int .i64 k.g, .int .i64 k.u, .int .i64 k.z, .int .i64 k.o]] W fun e w' => e = .returned (.bool true) ∧ Below W.heap.size W w') := fun W => works_any P k hk W
  have LOW : Hid (∀ (B B' : Nat) W x hm, B' ≤ B → KAt HS B W x hm (st0 k) k.cf k.b → KAt HS B' W x hm (st0 k) k.cf k.b) := fun B B' W x hm hle K => ⟨K.here, K.hs, K.good, K.bound, K.cf, K.small, K.gl, fun g hg => Nat.le_trans hle (K.low g hg), Nat.le_trans hle K.size⟩
  obtain ⟨kb, ks, kg, ku, kz, ko⟩ := k
  simp only at *
  clear hk P
  unfold CfgM.val
  simp only
  go_enter Try.func9, Try.ntmps9
  go_wp2_with fail
  refine Calls.mono (WORKS.out _) ?_
  rintro e w1 ⟨rfl, hb⟩
  have hL := boxed' hb
  have B1 : Hid (Below w.heap.size w w1) := ((Below.refl _ _).alloc (Nat.le_refl _) _).trans (hb.mono (by simp))
  have l0 : w1.cell? ⟨w.heap.size, 0, none⟩ = some (.int .i64 kb) := cell_of_heap hL rfl
  have l1 : w1.cell? ⟨w.heap.size, 1, none⟩ = some (.int .i64 ks) := cell_of_heap hL rfl
  have l2 : w1.cell? ⟨w.heap.size, 2, none⟩ = some (.int .i64 kg) := cell_of_heap hL rfl
  have l3 : w1.cell? ⟨w.heap.size, 3, none⟩ = some (.int .i64 ku) := cell_of_heap hL rfl
  have l4 : w1.cell? ⟨w.heap.size, 4, none⟩ = some (.int .i64 kz) := cell_of_heap hL rfl
  have l5 : w1.cell? ⟨w.heap.size, 5, none⟩ = some (.int .i64 ko) := cell_of_heap hL rfl
  clear hb hL WORKS
  go_wp2_with fail
  refine Calls.mono (NEW.out _) ?_
  rintro e w2 ⟨x, hm, rfl, hb, hK⟩
  have K2 : Hid (Below w.heap.size w w2 ∧ KAt HS w.heap.size w2 x hm (st0 ⟨kb, ks, kg, ku, kz, ko⟩) (CfgM.cf ⟨kb, ks, kg, ku, kz, ko⟩) kb) := ⟨B1.out.trans (hb.mono B1.out.size), LOW.out _ _ _ _ _ B1.out.size hK⟩
  clear hb hK NEW LOW
  go_wp2
  go_ret
  exact ⟨x, hm, rfl, K2.out.1, K2.out.2⟩

end Go.Proofs.Ytpmkjeihbddfpaa

/- OUR OWN. Drained: what a plan builds, without memory. -/
namespace Go.Proofs.Ytpmkjeihbddfpaa
set_option linter.unusedVariables false
set_option linter.unusedSimpArgs false

def refsOf (H : List Nat) : List (Int × Int) := H.map fun (b : Nat) => ((2 : Int), (b : Int))
theorem refsOf_append (H G : List Nat) : refsOf (H ++ G) = refsOf H ++ refsOf G := List.map_append
theorem refsOf_length (H : List Nat) : (refsOf H).length = H.length := List.length_map _

/-- the blocks 1 to k have objects; the stack has references to H; fields lead downwards; none is stuck -/
structure Built (s : St) (k : Nat) (H : List Nat) : Prop where
  good : s.Good 99
  stack : s.stack = refsOf H
  globals : s.globals.length = 1
  loose : ∀ b, (s.ob b).stuck = false
  down : ∀ (a b : Nat) (v : Int × Int), v ∈ (s.ob a).fs → v.1 = 2 → v.2 = (b : Int) → b < a
  here : ∀ b, (s.ob b).here = decide (1 ≤ b ∧ b ≤ k)
  small : k ≤ 99

/-- nothing but stack and globals is turned -/
theorem Built.roots {s t : St} {k : Nat} {H G : List Nat} (h : Built s k H) (g : t.Good 99) (ho : t.objs = s.objs) (hs : t.stack = refsOf G) (hg : t.globals.length = 1) : Built t k G := by
  have e : ∀ b, t.ob b = s.ob b := fun b => by unfold St.ob; rw [ho]
  exact ⟨g, hs, hg, fun b => by rw [e]; exact h.loose b, fun a b v hv => by rw [e] at hv; exact h.down a b v hv, fun b => by rw [e]; exact h.here b, h.small⟩
theorem count_objs {s t : St} (ho : t.objs = s.objs) (x : Int) : t.count x = s.count x := by unfold St.count; rw [ho]

theorem Built.free {s : St} {k : Nat} {H : List Nat} (h : Built s k H) (hk : k < 99) : free? s = some k := by
  obtain ⟨j, hj⟩ := free_exists (s := s) (b := k + 1) (by omega) (by rw [h.good.len]; omega) (by rw [h.here]; simp)
  obtain ⟨_, hf, ht⟩ := free_iff hj
  rw [h.here] at hf
  simp at hf
  have : j = k := by
    rcases Nat.lt_or_ge k j with e | e
    · have := ht k e
      rw [h.here] at this; simp at this; omega
    · omega
  rw [hj, this]

theorem enter_stuck (z but : Int) (t : St) (a : Nat) : ((t.enter z but).ob a).stuck = (t.ob a).stuck := by
  unfold St.enter
  split
  · exact (sortTo_alike but t _ a).2
  · rfl

theorem Built.new {c : Cf} {s : St} {k : Nat} {H : List Nat} (h : Built s k H) (hk : k < 99) (hd : (H.length : Int) < c.deep) (f : Nat) (hf : f ≤ 4) :
    ∃ s', doS c s 2 f = (s', 0, 0) ∧ Built s' (k + 1) (H ++ [k + 1]) ∧ (∀ x, s'.count x = s.count x) ∧ (s'.ob (k + 1)).fs = List.replicate f (0, 0) ∧ s'.count ((k + 1 : Nat) : Int) = 0 := by
  have hfr := h.free hk
  have hb : (s.ob (k + 1)).here = false := by rw [h.here]; simp
  have hl : k + 1 < s.objs.length := by rw [h.good.len]; omega
  have e : doS c s 2 f = (layS c.zero s (k + 1) f, 0, 0) := by
    have e1 : doS c s 2 f = newS c s f := by simp [doS]
    rw [e1]
    unfold newS
    refine (if_neg (by omega)).trans ((if_neg ?_).trans ?_)
    · rw [h.stack, refsOf_length]; omega
    · rw [room_of_free hfr, hfr, Int.toNat_natCast]
  have eo : ∀ x, (layS c.zero s (k + 1) f).ob x = ((s.put (k + 1) ⟨true, List.replicate f (0, 0), false, false⟩).enter c.zero (k + 1 : Nat)).ob x := fun x => rfl
  have ep : ∀ x, (s.put (k + 1) ⟨true, List.replicate f (0, 0), false, false⟩).ob x = if x = k + 1 then ⟨true, List.replicate f (0, 0), false, false⟩ else s.ob x := fun x => ob_put _ x hl
  have ec : ∀ x, (layS c.zero s (k + 1) f).count x = s.count x := fun x => by
    have : (layS c.zero s (k + 1) f).count x = ((s.put (k + 1) ⟨true, List.replicate f (0, 0), false, false⟩).enter c.zero (k + 1 : Nat)).count x := rfl
    rw [this, count_enter]
    exact count_lay h.good hb hl (by omega) x
  refine ⟨_, e, ⟨h.good.lay c.zero hb hl (by omega) hf, ?_, ?_, fun b => ?_, fun a b v hv h1 h2 => ?_, fun b => ?_, by omega⟩, ec, ?_, ?_⟩
  · show s.stack ++ [(2, ((k + 1 : Nat) : Int))] = _
    rw [h.stack, refsOf_append]; rfl
  · show ((s.put (k + 1) ⟨true, List.replicate f (0, 0), false, false⟩).enter c.zero (k + 1 : Nat)).globals.length = 1
    rw [(enter_same _ _ _).2.1]; exact h.globals
  · rw [eo, enter_stuck, ep]
    split
    · rfl
    · exact h.loose b
  · rw [eo, enter_fs, ep] at hv
    split at hv
    · have := List.eq_of_mem_replicate hv
      rw [this] at h1; cases h1
    · exact h.down a b v hv h1 h2
  · rw [eo, (sh_enter _ _ _).2, ep]
    split
    · rename_i e; rw [e]; simp
    · rename_i e; rw [h.here]
      have : (1 ≤ b ∧ b ≤ k) ↔ (1 ≤ b ∧ b ≤ k + 1) := by omega
      simp only [this]
  · rw [eo, enter_fs, ep, if_pos rfl]
  · rw [ec]; exact h.good.count_gone fun ha => by have := ha.1; rw [hb] at this; cases this

theorem fits_nat {n : Nat} (h : n ≤ 1000) : -9223372036854775808 ≤ (n : Int) ∧ (n : Int) ≤ 9223372036854775807 := by omega

theorem Built.down_at {s : St} {k : Nat} {H : List Nat} (h : Built s k H) (n : Nat) (hn : n < H.length) : s.down n = (2, ((H[H.length - 1 - n]'(by omega) : Nat) : Int)) := by
  unfold St.down
  rw [h.stack, refsOf_length, List.getD_eq_getElem?_getD]
  unfold refsOf
  rw [List.getElem?_map, List.getElem?_eq_getElem (by omega)]
  rfl

theorem Built.dup {c : Cf} {s : St} {k : Nat} {H : List Nat} (h : Built s k H) (hd : (H.length : Int) < c.deep) (hH : H.length ≤ 16) (n : Nat) (hn : n < H.length) :
    ∃ s', doS c s 3 n = (s', 0, 0) ∧ Built s' k (H ++ [H[H.length - 1 - n]'(by omega)]) ∧ s'.objs = s.objs ∧ s'.globals = s.globals := by
  have e : doS c s 3 n = ({ s with stack := s.stack ++ [s.down n] }, 0, 0) := by
    have e1 : doS c s 3 n = dupS c.deep s n := by simp [doS]
    rw [e1]
    unfold dupS
    refine (if_neg ?_).trans ?_
    · rw [h.stack, refsOf_length]; omega
    · unfold pushA pushS
      rw [Int.toNat_natCast, if_neg (by rw [h.stack, refsOf_length]; omega)]
  have g := h.good.did c 3 n (fits_nat (by omega))
  rw [e] at g
  refine ⟨_, e, h.roots g rfl ?_ h.globals, rfl, rfl⟩
  show s.stack ++ [s.down n] = _
  rw [h.stack, refsOf_append, h.down_at n hn]; rfl

theorem Built.drop {c : Cf} {s : St} {k : Nat} {H : List Nat} {a : Nat} (h : Built s k (H ++ [a])) (n : Int) :
    ∃ s', doS c s 4 n = (s', 0, 0) ∧ Built s' k H ∧ s'.objs = s.objs ∧ s'.globals = s.globals := by
  have e : doS c s 4 n = (s.pop 1, 0, 0) := by
    have e1 : doS c s 4 n = dropS s := by simp [doS]
    rw [e1]
    unfold dropS
    exact if_neg (by rw [h.stack, refsOf_length]; simp)
  refine ⟨_, e, h.roots (h.good.pop 1) rfl ?_ h.globals, rfl, rfl⟩
  show s.stack.take (s.stack.length - 1) = _
  rw [h.stack, refsOf_length, refsOf_append, List.length_append, List.length_singleton, Nat.add_sub_cancel, ← refsOf_length H, List.take_left]

theorem Built.set {c : Cf} {s : St} {k : Nat} {H : List Nat} {a : Nat} (h : Built s k (H ++ [a])) :
    ∃ s', doS c s 6 0 = (s', 0, 0) ∧ Built s' k H ∧ s'.objs = s.objs ∧ s'.globals = [(2, (a : Int))] := by
  have e : doS c s 6 0 = ({ s.pop 1 with globals := s.globals.set 0 (s.down 0) }, 0, 0) := by
    have e1 : doS c s 6 0 = setS s 0 := by simp [doS]
    rw [e1]
    unfold setS
    refine (if_neg ?_).trans ((if_neg ?_).trans rfl)
    · rw [h.globals]; simp
    · rw [h.stack, refsOf_length]; simp
  have g := h.good.did c 6 0 (by omega)
  rw [e] at g
  have hdn : s.down 0 = (2, (a : Int)) := by
    rw [h.down_at 0 (by simp)]
    simp
  have hgl : s.globals.set 0 (s.down 0) = [(2, (a : Int))] := by
    obtain ⟨v, hv⟩ := List.length_eq_one_iff.1 h.globals
    rw [hv, hdn]; rfl
  refine ⟨_, e, h.roots g rfl ?_ ?_, rfl, hgl⟩
  · show s.stack.take (s.stack.length - 1) = _
    rw [h.stack, refsOf_length, refsOf_append, List.length_append, List.length_singleton, Nat.add_sub_cancel, ← refsOf_length H, List.take_left]
  · show (s.globals.set 0 (s.down 0)).length = 1
    rw [hgl]; rfl

theorem Built.get {c : Cf} {s : St} {k : Nat} {H : List Nat} {a : Nat} (h : Built s k H) (hd : (H.length : Int) < c.deep) (hg : s.globals = [(2, (a : Int))]) :
    ∃ s', doS c s 5 0 = (s', 0, 0) ∧ Built s' k (H ++ [a]) ∧ s'.objs = s.objs ∧ s'.globals = s.globals := by
  have e : doS c s 5 0 = ({ s with stack := s.stack ++ [(2, (a : Int))] }, 0, 0) := by
    have e1 : doS c s 5 0 = getS c.deep s 0 := by simp [doS]
    rw [e1]
    unfold getS
    refine (if_neg ?_).trans ?_
    · rw [hg]; simp
    · unfold pushA pushS
      rw [hg, if_neg (by rw [h.stack, refsOf_length]; omega)]
      rfl
  have g := h.good.did c 5 0 (by omega)
  rw [e] at g
  refine ⟨_, e, h.roots g rfl ?_ h.globals, rfl, rfl⟩
  show s.stack ++ [(2, (a : Int))] = _
  rw [h.stack, refsOf_append]; rfl

theorem Built.store {c : Cf} {s : St} {k : Nat} {H : List Nat} {a b : Nat} (h : Built s k (H ++ [a, b])) (i : Nat) (hi : i < (s.ob a).fs.length) (hn : (s.ob a).fs.getD i (0, 0) = (0, 0)) (hc : s.count b < 7) (hab : b < a) :
    ∃ s', doS c s 8 i = (s', 0, 0) ∧ Built s' k H ∧ s'.globals = s.globals ∧ (∀ x, s'.count x = s.count x + if x = (b : Int) then 1 else 0) ∧ (s'.ob a).fs = (s.ob a).fs.set i (2, (b : Int)) ∧ ∀ x, x ≠ a → s'.ob x = s.ob x := by
  have hlen : s.stack.length = H.length + 2 := by rw [h.stack, refsOf_length]; simp
  have d0 : s.down 0 = (2, (b : Int)) := by rw [h.down_at 0 (by simp)]; simp
  have d1 : s.down 1 = (2, (a : Int)) := by
    rw [h.down_at 1 (by simp)]
    have : (H ++ [a, b])[(H ++ [a, b]).length - 1 - 1]'(by simp) = a := by
      have e : (H ++ [a, b]).length - 1 - 1 = H.length := by simp
      simp only [e]
      rw [List.getElem_append_right (Nat.le_refl _)]
      simp
    rw [this]
  have h4 := h.good.four a
  have ha : (s.ob a).here = true := by
    cases e : (s.ob a).here with
    | true => rfl
    | false => rw [h.good.gone a e] at hi; simp [Ob.free] at hi
  have e : doS c s 8 i = ((s.pop 2).field a i (2, (b : Int)), 0, 0) := by
    have e1 : doS c s 8 i = storeS c s i := by simp [doS]
    have ef : s.fields (s.down 1).2 = (s.ob a).fs := by unfold St.fields; rw [d1, Int.toNat_natCast]
    rw [e1]
    unfold storeS
    refine (if_neg (by omega)).trans ((if_neg ?_).trans ((if_neg ?_).trans ?_))
    · rw [d1]; simp [objErr]
    · rw [ef]; omega
    · rw [ef, d0, d1, Int.toNat_natCast, Int.toNat_natCast, hn]
      unfold putS
      rw [if_neg (by simp)]
      have es : stickS c.over (s.pop 2) (2, (b : Int)) = s.pop 2 := by
        unfold stickS
        rw [if_neg]
        rintro ⟨_, h2, _⟩
        have h2 : s.count b = 7 := h2
        omega
      rw [es]
      unfold dropS'
      rw [if_neg (by simp)]
  have hld : s.leads (2, (b : Int)) := by have := h.good.down 0; rw [d0] at this; exact this
  have hpl : (s.pop 2).leads (2, (b : Int)) := hld
  have g := (h.good.pop 2).setField a i hpl
  have hal : a < s.objs.length := here_lt ha
  have eo : ∀ x, ((s.pop 2).field a i (2, (b : Int))).ob x = if x = a then { s.ob a with fs := (s.ob a).fs.set i (2, (b : Int)) } else s.ob x := fun x => ob_put _ x hal
  refine ⟨_, e, ⟨g, ?_, h.globals, fun x => ?_, fun x y v hv h1 h2 => ?_, fun x => ?_, h.small⟩, rfl, fun x => ?_, ?_, fun x hx => by rw [eo, if_neg hx]⟩
  · show s.stack.take (s.stack.length - 2) = _
    rw [hlen, h.stack, refsOf_append, Nat.add_sub_cancel, ← refsOf_length H, List.take_left]
  · rw [eo]
    split
    · exact h.loose a
    · exact h.loose x
  · rw [eo] at hv
    split at hv
    · rename_i e
      rcases List.mem_or_eq_of_mem_set hv with hv | hv
      · rw [e]; exact h.down a y v hv h1 h2
      · rw [hv] at h2
        have h2 : (b : Int) = y := h2
        omega
    · exact h.down x y v hv h1 h2
  · rw [eo]
    split
    · rename_i e; rw [← h.here, e]
    · exact h.here x
  · have hcf := count_field (h.good.pop 2) (i := a) (k := i) hi (2, (b : Int)) x
    have hn2 : (((s.pop 2).ob a).fs.getD i (0, 0)) = (0, 0) := hn
    rw [hn2] at hcf
    have e1 : isRef (0, 0) x = 0 := by unfold isRef; rw [if_neg (by simp)]
    have e2 : isRef (2, (b : Int)) x = if x = (b : Int) then 1 else 0 := by
      unfold isRef
      by_cases e : x = (b : Int)
      · rw [if_pos e, if_pos ⟨rfl, e.symm⟩]
      · rw [if_neg e, if_neg (fun h => e h.2.symm)]
    have e3 : (s.pop 2).count x = s.count x := rfl
    rw [e1, e2, e3] at hcf
    omega
  · rw [eo, if_pos rfl]

/-! ### Once no root has any -/
theorem Built.nil {c : Cf} {s : St} {k : Nat} (h : Built s k []) (hd : 1 ≤ c.deep) : ∃ s1 s2, doS c s 0 0 = (s1, 0, 0) ∧ doS c s1 6 0 = (s2, 0, 0) ∧ s1.stack.length = 1 ∧ s1.globals = s.globals ∧ s1.objs = s.objs ∧ s1.Good 99 ∧ s2.stack = [] ∧ s2.globals = [(0, 0)] ∧ s2.objs = s.objs ∧ s2.Good 99 := by
  have hst : s.stack = [] := h.stack
  have e : doS c s 0 0 = ({ s with stack := [(0, 0)] }, 0, 0) := by
    have e1 : doS c s 0 0 = pushA c.deep s (0, 0) := by simp [doS]
    rw [e1]
    unfold pushA pushS
    rw [hst, if_neg (by simp; omega)]
    rfl
  have g1 := h.good.did c 0 0 (by omega)
  rw [e] at g1
  obtain ⟨v, hv⟩ := List.length_eq_one_iff.1 h.globals
  have e2 : doS c { s with stack := [(0, 0)] } 6 0 = ({ s with stack := [], globals := [(0, 0)] }, 0, 0) := by
    have e1 : doS c { s with stack := [(0, 0)] } 6 0 = setS { s with stack := [(0, 0)] } 0 := by simp [doS]
    rw [e1]
    unfold setS
    refine (if_neg ?_).trans ((if_neg ?_).trans ?_)
    · show ¬ ((0 : Int) < 0 ∨ (s.globals.length : Int) ≤ 0)
      rw [h.globals]; simp
    · simp
    · simp [St.pop, St.down, hv]
  have g2 := g1.did c 6 0 (by omega)
  rw [e2] at g2
  exact ⟨_, _, e, e2, rfl, rfl, rfl, g1, rfl, rfl, rfl, g2⟩

theorem Built.calm {s t : St} {k : Nat} {H : List Nat} (h : Built s k H) (ho : t.objs = s.objs) (hs : t.stack = []) (hg : t.globals = [(0, 0)]) : Calm t := by
  have e : ∀ b, t.ob b = s.ob b := fun b => by unfold St.ob; rw [ho]
  refine ⟨fun b => ?_, fun b => by rw [e]; exact h.loose b, fun b => b, fun a b v hv h1 h2 => by rw [e] at hv; exact h.down a b v hv h1 h2⟩
  unfold St.rooted
  rw [hs, hg]
  simp [refsN]
theorem countTo_upto (k : Nat) (n : Nat) (hk : k ≤ n) : countTo (fun b => decide (1 ≤ b ∧ b ≤ k)) n = k := by
  induction n with
  | zero => simp [countTo]; omega
  | succ n ih =>
    rw [countTo_succ]
    rcases Nat.lt_or_ge n k with h | h
    · have hk' : k = n + 1 := by omega
      have e : countTo (fun b => decide (1 ≤ b ∧ b ≤ k)) n = n := by
        have h2 : countTo (fun b => decide (1 ≤ b ∧ b ≤ k)) n = countTo (fun b => decide (1 ≤ b ∧ b ≤ n)) n := countTo_congr fun b h1 h2 => by
          have : (1 ≤ b ∧ b ≤ k) ↔ (1 ≤ b ∧ b ≤ n) := by omega
          simp only [this]
        rw [h2]
        clear ih h2 hk hk' h
        have : ∀ m, m ≤ n → countTo (fun b => decide (1 ≤ b ∧ b ≤ n)) m = m := fun m => by
          induction m with
          | zero => intro _; simp [countTo]
          | succ m ih => intro hm; rw [countTo_succ, ih (by omega), if_pos (by simp; omega)]
        exact this n (Nat.le_refl _)
      rw [e, if_pos (by simp; omega)]; omega
    · rw [ih h, if_neg (by simp; omega)]; rfl
theorem Built.used {s t : St} {k : Nat} {H : List Nat} (h : Built s k H) (ho : t.objs = s.objs) : usedC t = k := by
  have e : ∀ b, t.ob b = s.ob b := fun b => by unfold St.ob; rw [ho]
  have hN : t.N = 99 := by unfold St.N; rw [ho, h.good.len]
  unfold usedC
  rw [hN]
  have : countTo (fun b => (t.ob b).here) 99 = countTo (fun b => decide (1 ≤ b ∧ b ≤ k)) 99 := countTo_congr fun b _ _ => by rw [e, h.here]
  rw [this]; exact countTo_upto k 99 h.small

end Go.Proofs.Ytpmkjeihbddfpaa

/- OUR OWN. Drained: the heap, and beside it the row of how often each object is held. -/
namespace Go.Proofs.Ytpmkjeihbddfpaa
open Go.RowKit
set_option linter.unusedVariables false
set_option linter.unusedSimpArgs false

variable {HS : HeapM → St → Cf → Nat → Prop} {Room : St → Prop}

def rowOf (R : List Nat) : List Value := R.map fun (n : Nat) => Value.int .i64 (n : Int)

structure RowAt (HS : HeapM → St → Cf → Nat → Prop) (B x : Nat) (c : Cf) (s : St) (v : Value) (R : List Nat) (W : World) : Prop where
  at_ : ∃ hm, KAt HS B W x hm s c 99 ∧ ∀ g, v.ownBlock = some g → g ∉ x :: hm.foot
  row : W.ownsRow B 3 1 v R.length (rowOf R)

variable {B x : Nat} {c : Cf} {s s' : St} {v : Value} {R : List Nat} {W W' w' : World}

theorem RowAt.below (r : RowAt HS B x c s v R W) (hb : Below W.heap.size W W') : RowAt HS B x c s v R W' := by
  obtain ⟨hm, k, a⟩ := r.at_
  exact ⟨⟨hm, k.below hb, a⟩, own_carry r.row fun g hg => hb.block g (own_lt r.row hg).2⟩
theorem RowAt.size (r : RowAt HS B x c s v R W) : B ≤ W.heap.size := by
  obtain ⟨hm, k, a⟩ := r.at_
  exact k.size
theorem RowAt.cf (r : RowAt HS B x c s v R W) : CfOk c := by
  obtain ⟨hm, k, a⟩ := r.at_
  exact k.cf
theorem RowAt.step (r : RowAt HS B x c s v R W) {hm hm' : HeapM} (a : ∀ g, v.ownBlock = some g → g ∉ x :: hm.foot) (t : HTurn x W hm w' hm') (k' : KAt HS B w' x hm' s' c 99) : RowAt HS B x c s' v R w' := by
  refine ⟨⟨hm', k', fun g hg hmem => ?_⟩, own_carry r.row fun g hg => t.off.block g (own_lt r.row hg).2 (a g hg)⟩
  rcases List.mem_cons.1 hmem with e | e
  · exact a g hg (by rw [e]; exact List.mem_cons_self)
  · rcases t.foot g e with e | e
    · exact a g hg (List.mem_cons_of_mem _ e)
    · have := (own_lt r.row hg).2; omega

theorem row_do (P : Pact3 HS Room) (r : RowAt HS B x c s v R W) (op n : Int) (hop : fits op) (hn : fits n) (hf : op = 2 → ∃ k, free? s = some k) {a e : Int} (h : doS c s op n = (s', a, e)) :
    Calls Try.prog 10 #[.pointer (some ⟨x, 0, none⟩), .int .i64 op, .int .i64 n] W fun r' w' => r' = .returned (.tuple #[.int .i64 a, .int .i64 e]) ∧ RowAt HS B x c s' v R w' ∧ Below B W w' := by
  obtain ⟨hm, k, ap⟩ := r.at_
  refine (k_do3 P k op n hop hn hf).mono ?_
  rintro r' w' ⟨hr, st⟩
  obtain ⟨hm', t, k'⟩ := st.at_
  rw [h] at hr k'
  exact ⟨hr, r.step ap t k', st.keep⟩
theorem row_safe (P : Pact3 HS Room) (r : RowAt HS B x c s v R W) :
    Calls Try.prog 14 #[.pointer (some ⟨x, 0, none⟩)] W fun e w' => e = .returned (.int .i64 (s.safe c).2) ∧ RowAt HS B x c (s.safe c).1 v R w' ∧ Below B W w' := by
  obtain ⟨hm, k, ap⟩ := r.at_
  refine (k_safe3 P k).mono ?_
  rintro r' w' ⟨hr, st⟩
  obtain ⟨hm', t, k'⟩ := st.at_
  exact ⟨hr, r.step ap t k', st.keep⟩
theorem row_gauge (P : Pact3 HS Room) (r : RowAt HS B x c s v R W) :
    Calls Try.prog 13 #[.pointer (some ⟨x, 0, none⟩)] W fun e w' => e = .returned (.agg #[.int .i64 (gaugeS s).1, .int .i64 (gaugeS s).2.1, .int .i64 (gaugeS s).2.2.1, .int .i64 (gaugeS s).2.2.2.1, .int .i64 (gaugeS s).2.2.2.2]) ∧ RowAt HS B x c s v R w' ∧ Below B W w' := by
  obtain ⟨hm, k, ap⟩ := r.at_
  refine (k_gauge3 P k).mono ?_
  rintro r' w' ⟨hr, st⟩
  obtain ⟨hm', t, k'⟩ := st.at_
  exact ⟨hr, r.step ap t k', st.keep⟩

/-- the row's form -/
theorem RowAt.slice (r : RowAt HS B x c s v R W) : ∃ ao cap, v = .slice ao R.length cap := own_slice (own_base r.row (Nat.zero_le _))
theorem RowAt.room (r : RowAt HS B x c s v R W) {ao : Option Addr} {cap : Nat} (hv : v = .slice ao R.length cap) : R.length ≤ cap := by
  rcases r.row.2 with ⟨e, h0⟩ | ⟨g, cap', cur, e, h1, h2, h3, h4, h5, h6⟩
  · omega
  · rw [hv] at e
    simp at e
    omega
theorem RowAt.view (r : RowAt HS B x c s v R W) (h : 0 < R.length) : ∃ g cap, v = .slice (some ⟨g, 0, none⟩) R.length cap ∧ g < W.heap.size ∧ (∀ j (hj : j < R.length), W.cell? ⟨g, j, none⟩ = some (.int .i64 (R[j] : Nat))) ∧ ∀ j, W.frozen? ⟨g, j, none⟩ = false := by
  obtain ⟨g, cap, hv, hg, hb, hc, hcell, hfz⟩ := own_view (own_base r.row (Nat.zero_le _)) h
  refine ⟨g, cap, hv, hg, fun j hj => hcell j _ ?_, hfz⟩
  unfold rowOf
  rw [List.getElem?_map, List.getElem?_eq_getElem hj]; rfl

theorem RowAt.set (r : RowAt HS B x c s v R W) {g cap : Nat} (hv : v = .slice (some ⟨g, 0, none⟩) R.length cap) (j n : Nat) :
    RowAt HS B x c s v (R.set j n) (W.setCell ⟨g, j, none⟩ (.int .i64 n)) ∧ Below B W (W.setCell ⟨g, j, none⟩ (.int .i64 n)) := by
  obtain ⟨hm, k, ap⟩ := r.at_
  have hob : v.ownBlock = some g := by rw [hv]; rfl
  have hg := own_lt r.row hob
  have hsz : (W.setCell ⟨g, j, none⟩ (.int .i64 n)).heap.size = W.heap.size := by simp [World.setCell]
  refine ⟨⟨⟨hm, ⟨k.here.carry fun y hy => hso fun e => ap g hob (by rw [← e]; exact hy), k.hs, k.good, k.bound, k.cf, k.small, k.gl, k.low, by rw [hsz]; exact k.size⟩, ap⟩, ?_⟩, ⟨rfl, rfl, rfl, by rw [hsz]; exact Nat.le_refl _, fun y hy => hso (by omega)⟩⟩
  have hr := r.row
  unfold rowOf
  rw [List.length_set, List.map_set]
  rw [hv] at hr ⊢
  exact (hr.stored j _).1
theorem RowAt.cut (r : RowAt HS B x c s v R W) {ao : Option Addr} {cap : Nat} (hv : v = .slice ao R.length cap) (k : Nat) (hk : k ≤ R.length) : RowAt HS B x c s (.slice ao k cap) (R.take k) W := by
  obtain ⟨hm, ka, ap⟩ := r.at_
  have ho : (Value.slice ao k cap).ownBlock = v.ownBlock := by rw [hv]; cases ao <;> rfl
  refine ⟨⟨hm, ka, fun g hg => ap g (by rw [← ho]; exact hg)⟩, ?_⟩
  have hr := r.row
  rw [hv] at hr
  have hl : (R.take k).length = k := by rw [List.length_take]; omega
  refine ⟨by simp [rowOf], ?_⟩
  rcases hr.2 with ⟨e, h0⟩ | ⟨g, cap', cur, e, h1, h2, h3, h4, h5, h6⟩
  · left
    simp at e
    obtain ⟨rfl, _, rfl⟩ := e
    have : k = 0 := by omega
    exact ⟨by rw [this], by rw [hl]; exact this⟩
  · right
    simp at e
    obtain ⟨rfl, rfl⟩ := e
    refine ⟨g, cap, cur, by rw [hl], h1, h2, by omega, h4, h5, ?_⟩
    have e1 : rowOf (R.take k) = (rowOf R).take k := by unfold rowOf; rw [List.map_take]
    rw [e1, ← h6, List.take_take, hl]
    congr 1
    omega
theorem RowAt.grown (r : RowAt HS B x c s v R W) {g cap : Nat} (n : Nat) (hown : w'.ownsRow B 3 1 (.slice (some ⟨g, 0, none⟩) (R.length + 1) cap) (R.length + 1) (rowOf R ++ [.int .i64 n]))
    (hgr : W.grownBy w' v.ownBlock) (hlie : v.ownBlock = some g ∨ g = W.heap.size) : RowAt HS B x c s (.slice (some ⟨g, 0, none⟩) (R.length + 1) cap) (R ++ [n]) w' ∧ Below B W w' := by
  obtain ⟨hm, k, ap⟩ := r.at_
  have hbl : ∀ y ∈ x :: hm.foot, w'.heap[y]? = W.heap[y]? := fun y hy => hgr.block y (k.here.lt y hy) fun e => ap y e.symm hy
  have hb : Below B W w' := (Below.refl B W).grown hgr k.size fun y hy => (own_lt r.row hy).1
  refine ⟨⟨⟨hm, ⟨k.here.carry hbl, k.hs, k.good, k.bound, k.cf, k.small, k.gl, k.low, Nat.le_trans k.size hb.size⟩, fun y hy hmem => ?_⟩, ?_⟩, hb⟩
  · have : y = g := by simpa [Value.ownBlock, eq_comm] using hy
    subst this
    rcases hlie with e | e
    · exact ap y e hmem
    · have := k.here.lt y hmem; omega
  · have e : rowOf (R ++ [n]) = rowOf R ++ [.int .i64 n] := by unfold rowOf; rw [List.map_append]; rfl
    rw [e, List.length_append, List.length_singleton]; exact hown
theorem RowAt.start {hm : HeapM} (k : KAt HS B W x hm s c 99) : RowAt HS B x c s (.slice none 0 0) [] W := ⟨⟨hm, k, fun g hg => by cases hg⟩, World.ownsRow_nil _ _ _ _⟩

end Go.Proofs.Ytpmkjeihbddfpaa

/- OUR OWN. Drained: the plan's steps. -/
namespace Go.Proofs.Ytpmkjeihbddfpaa
open Go.RowKit
set_option linter.unusedVariables false
set_option linter.unusedSimpArgs false

variable {HS : HeapM → St → Cf → Nat → Prop} {Room : St → Prop} {B x : Nat} {c : Cf}

/-- an operation that is not refused -/
def DoTo (x : Nat) (op n : Int) (W : World) (Q : World → Prop) : Prop := Calls Try.prog 10 #[.pointer (some ⟨x, 0, none⟩), .int .i64 op, .int .i64 n] W fun e w' => e = .returned (.tuple #[.int .i64 0, .int .i64 0]) ∧ Q w'

def cnts (s : St) (H : List Nat) : List Nat := H.map fun (b : Nat) => s.count (b : Int)
theorem cnts_len (s : St) (H : List Nat) : (cnts s H).length = H.length := List.length_map _
theorem cnts_same {s s' : St} {H : List Nat} (h : ∀ b ∈ H, s'.count (b : Int) = s.count (b : Int)) : cnts s' H = cnts s H := List.map_congr_left h

/-- the blocks 1 to k have objects; H are on the stack, each once; v is the row of how often fields have them -/
structure Plan (HS : HeapM → St → Cf → Nat → Prop) (B x : Nat) (c : Cf) (k : Nat) (H : List Nat) (v : Value) (W : World) : Prop where
  all : ∃ s, RowAt HS B x c s v (cnts s H) W ∧ Built s k H ∧ H.Nodup ∧ ∀ b ∈ H, b ≤ k ∧ s.count (b : Int) ≤ 7
/-- the object in block k + 1 is on the top, with f fields, from i on nil -/
structure Mid (HS : HeapM → St → Cf → Nat → Prop) (B x : Nat) (c : Cf) (k f i : Nat) (H : List Nat) (v : Value) (W : World) : Prop where
  all : ∃ s, RowAt HS B x c s v (cnts s H) W ∧ Built s (k + 1) (H ++ [k + 1]) ∧ H.Nodup ∧ (∀ b ∈ H, b ≤ k ∧ s.count (b : Int) ≤ 7) ∧ s.count ((k + 1 : Nat) : Int) = 0 ∧ (s.ob (k + 1)).fs.length = f ∧ ∀ j, i ≤ j → j < f → (s.ob (k + 1)).fs.getD j (0, 0) = (0, 0)

variable {k f i : Nat} {H : List Nat} {v : Value} {W W' : World}
theorem Plan.below (p : Plan HS B x c k H v W) (hb : Below W.heap.size W W') : Plan HS B x c k H v W' := by
  obtain ⟨s, r, h1, h2, h3⟩ := p.all
  exact ⟨s, r.below hb, h1, h2, h3⟩
theorem Mid.below (p : Mid HS B x c k f i H v W) (hb : Below W.heap.size W W') : Mid HS B x c k f i H v W' := by
  obtain ⟨s, r, h⟩ := p.all
  exact ⟨s, r.below hb, h⟩
theorem Mid.skip (p : Mid HS B x c k f i H v W) : Mid HS B x c k f (i + 1) H v W := by
  obtain ⟨s, r, h1, h2, h3, h4, h5, h6⟩ := p.all
  exact ⟨s, r, h1, h2, h3, h4, h5, fun j hj => h6 j (by omega)⟩
theorem Plan.size (p : Plan HS B x c k H v W) : B ≤ W.heap.size := by
  obtain ⟨s, r, _⟩ := p.all
  exact r.size
theorem Mid.size (p : Mid HS B x c k f i H v W) : B ≤ W.heap.size := by
  obtain ⟨s, r, _⟩ := p.all
  exact r.size
theorem Plan.slice (p : Plan HS B x c k H v W) : ∃ ao cap, v = .slice ao H.length cap := by
  obtain ⟨s, r, _⟩ := p.all
  have := r.slice
  rw [cnts_len] at this
  exact this
theorem Plan.room (p : Plan HS B x c k H v W) {ao : Option Addr} {cap : Nat} (hv : v = .slice ao H.length cap) : H.length ≤ cap := by
  obtain ⟨s, r, _⟩ := p.all
  have := r.room (ao := ao) (cap := cap) (by rw [cnts_len]; exact hv)
  rw [cnts_len] at this
  exact this
theorem Mid.slice (p : Mid HS B x c k f i H v W) : ∃ ao cap, v = .slice ao H.length cap := by
  obtain ⟨s, r, _⟩ := p.all
  have := r.slice
  rw [cnts_len] at this
  exact this

theorem fits_n {n : Nat} (h : n ≤ 1000) : fits (n : Int) := ⟨by omega, by omega⟩
theorem no2 {op : Int} {P : Prop} (h : ¬ op = 2) : op = 2 → P := fun e => absurd e h

theorem Plan.new (P : Pact3 HS Room) (p : Plan HS B x c k H v W) (hk : k < 99) (hl : H.length ≤ 13) (hd : c.deep = 16) (hf : f ≤ 4) :
    DoTo x 2 f W fun w' => Mid HS B x c k f 0 H v w' ∧ Below B W w' := by
  obtain ⟨s, r, h1, h2, h3⟩ := p.all
  obtain ⟨s', e, b', ec, ef, e0⟩ := h1.new (c := c) hk (by omega) f hf
  refine (row_do P r 2 f (fits_n (n := 2) (by omega)) (fits_n (by omega)) (fun _ => ⟨k, h1.free hk⟩) e).mono ?_
  rintro r' w' ⟨hr, rw', hb⟩
  refine ⟨hr, ⟨s', ?_, b', h2, fun b hb => ?_, e0, by rw [ef]; simp, fun j _ hj => ?_⟩, hb⟩
  · rw [cnts_same fun b _ => ec _]; exact rw'
  · rw [ec]; exact h3 b hb
  · rw [ef, List.getD_eq_getElem?_getD, List.getElem?_replicate, if_pos hj]; rfl

theorem cnts_set {s s' : St} {H : List Nat} {j : Nat} (hn : H.Nodup) (hj : j < H.length) (h : ∀ b ∈ H, s'.count (b : Int) = s.count (b : Int) + if (b : Int) = ((H[j] : Nat) : Int) then 1 else 0) : cnts s' H = (cnts s H).set j (s.count ((H[j] : Nat) : Int) + 1) := by
  apply List.ext_getElem?
  intro i
  unfold cnts
  rw [List.getElem?_set, List.getElem?_map, List.getElem?_map, List.length_map]
  by_cases hi : i < H.length
  · rw [List.getElem?_eq_getElem hi]
    simp only [Option.map_some]
    rw [h _ (List.getElem_mem hi)]
    by_cases e : j = i
    · subst e
      rw [if_pos rfl, if_pos rfl, if_pos hj]
    · rw [if_neg e, if_neg]
      · rfl
      · intro e2
        have e3 : H[i] = H[j] := by omega
        have hp := List.pairwise_iff_getElem.1 (List.nodup_iff_pairwise_ne.1 hn)
        rcases Nat.lt_or_gt_of_ne e with h1 | h1
        · exact hp j i hj hi h1 e3.symm
        · exact hp i j hi hj h1 e3
  · rw [List.getElem?_eq_none (by omega), if_neg (by omega)]; rfl

/-- a field of the new object comes to be a reference to one that is held -/
theorem Mid.store (P : Pact3 HS Room) (p : Mid HS B x c k f i H v W) (hk : k < 99) (hl : H.length ≤ 13) (hd : c.deep = 16) (j : Nat) (hj : j < H.length) :
    ∃ g cap n, v = .slice (some ⟨g, 0, none⟩) H.length cap ∧ g < W.heap.size ∧ W.cell? ⟨g, j, none⟩ = some (.int .i64 (n : Nat)) ∧ W.frozen? ⟨g, j, none⟩ = false ∧ n ≤ 7 ∧
      (n < 7 → i < f → f ≤ 4 → ∀ W1, Below (W.setCell ⟨g, j, none⟩ (.int .i64 ((n : Int) + 1))).heap.size (W.setCell ⟨g, j, none⟩ (.int .i64 ((n : Int) + 1))) W1 →
        DoTo x 3 0 W1 fun w2 => ∀ W2, Below w2.heap.size w2 W2 → DoTo x 3 ((H.length : Int) - j + 1) W2 fun w3 => ∀ W3, Below w3.heap.size w3 W3 → DoTo x 8 i W3 fun w4 => Mid HS B x c k f (i + 1) H v w4 ∧ Below B W w4) := by
  obtain ⟨s, r, h1, h2, h3, h4, h5, h6⟩ := p.all
  obtain ⟨g, cap, hv, hg, hcell, hfz⟩ := r.view (by rw [cnts_len]; omega)
  have hcl := hcell j (by rw [cnts_len]; exact hj)
  have hn : (cnts s H)[j]'(by rw [cnts_len]; exact hj) = s.count ((H[j] : Nat) : Int) := by simp [cnts]
  rw [hn] at hcl
  rw [cnts_len] at hv
  refine ⟨g, cap, _, hv, hg, hcl, hfz _, (h3 _ (List.getElem_mem hj)).2, fun h7 hi hf W1 hb1 => ?_⟩
  obtain ⟨r1, bl1⟩ := r.set (g := g) (cap := cap) (by rw [cnts_len]; exact hv) j (s.count ((H[j] : Nat) : Int) + 1)
  have eW : ((s.count ((H[j] : Nat) : Int) + 1 : Nat) : Int) = (s.count ((H[j] : Nat) : Int) : Int) + 1 := by omega
  rw [eW] at r1 bl1
  have r1' := r1.below hb1
  have B1 : Below B W W1 := bl1.trans (hb1.mono r1.size)
  have hlen : (H ++ [k + 1]).length = H.length + 1 := by simp
  obtain ⟨s2, e2, b2, o2, _⟩ := h1.dup (c := c) (by rw [hlen, hd]; omega) (by omega) 0 (by omega)
  have t2 : (H ++ [k + 1])[(H ++ [k + 1]).length - 1 - 0]'(by omega) = k + 1 := by simp
  rw [t2] at b2
  refine (row_do P r1' 3 0 (fits_n (n := 3) (by omega)) (fits_n (n := 0) (by omega)) (no2 (by decide)) e2).mono ?_
  rintro r' w2 ⟨hr, rr2, bl2⟩
  refine ⟨hr, fun W2 hb2 => ?_⟩
  have rr2' := rr2.below hb2
  have B2 : Below B W W2 := (B1.trans bl2).trans (hb2.mono rr2.size)
  have hlen2 : (H ++ [k + 1] ++ [k + 1]).length = H.length + 2 := by simp
  obtain ⟨s3, e3, b3, o3, _⟩ := b2.dup (c := c) (by rw [hlen2, hd]; omega) (by omega) (H.length - j + 1) (by omega)
  have t3 : (H ++ [k + 1] ++ [k + 1])[(H ++ [k + 1] ++ [k + 1]).length - 1 - (H.length - j + 1)]'(by omega) = H[j] := by
    have e : (H ++ [k + 1] ++ [k + 1]).length - 1 - (H.length - j + 1) = j := by omega
    simp only [e]
    rw [List.getElem_append_left (by simp; omega), List.getElem_append_left hj]
  rw [t3] at b3
  rw [show ((H.length - j + 1 : Nat) : Int) = (H.length : Int) - j + 1 by omega] at e3
  refine (row_do P rr2' 3 ((H.length : Int) - j + 1) (fits_n (n := 3) (by omega)) ⟨by omega, by omega⟩ (no2 (by decide)) e3).mono ?_
  rintro r' w3 ⟨hr, rr3, bl3⟩
  refine ⟨hr, fun W3 hb3 => ?_⟩
  have rr3' := rr3.below hb3
  have B3 : Below B W W3 := (B2.trans bl3).trans (hb3.mono rr3.size)
  have o3' : s3.objs = s.objs := o3.trans o2
  have eob : ∀ b, s3.ob b = s.ob b := fun b => by unfold St.ob; rw [o3']
  have ecn : ∀ y, s3.count y = s.count y := fun y => count_objs o3' y
  have b3' : Built s3 (k + 1) ((H ++ [k + 1]) ++ [k + 1, H[j]]) → True := fun _ => trivial
  have hsplit : H ++ [k + 1] ++ [k + 1] ++ [H[j]] = (H ++ [k + 1]) ++ [k + 1, H[j]] := by simp
  rw [hsplit] at b3
  obtain ⟨s4, e4, b4, _, ec4, ef4, eo4⟩ := b3.store (c := c) i (by rw [eob, h5]; exact hi) (by rw [eob]; exact h6 i (Nat.le_refl _) hi) (by rw [ecn]; exact h7) (by have := (h3 _ (List.getElem_mem hj)).1; omega)
  refine (row_do P rr3' 8 i (fits_n (n := 8) (by omega)) (fits_n (by omega)) (no2 (by decide)) e4).mono ?_
  rintro r' w4 ⟨hr, rr4, bl4⟩
  have hcs : ∀ b ∈ H, s4.count (b : Int) = s.count (b : Int) + if (b : Int) = ((H[j] : Nat) : Int) then 1 else 0 := fun b _ => by rw [ec4, ecn]
  refine ⟨hr, ⟨s4, ?_, b4, h2, fun b hb => ⟨(h3 b hb).1, ?_⟩, ?_, ?_, fun y hy hyf => ?_⟩, B3.trans bl4⟩
  · rw [cnts_set h2 hj hcs]; exact rr4
  · rw [hcs b hb]
    split
    · rename_i e
      have : b = H[j] := by omega
      rw [this]; omega
    · have := (h3 b hb).2; omega
  · rw [ec4, ecn, h4, if_neg]
    have := (h3 _ (List.getElem_mem hj)).1
    omega
  · rw [ef4, List.length_set, eob]; exact h5
  · rw [ef4, List.getD_eq_getElem?_getD, List.getElem?_set_ne (by omega), ← List.getD_eq_getElem?_getD, eob]
    exact h6 y (by omega) hyf

/-- the new one is held too -/
theorem Mid.grown (p : Mid HS B x c k f i H v W) : ∃ R : List Nat, R.length = H.length ∧ W.ownsRow B 3 1 v H.length (rowOf R) ∧ ∀ W0, Below W.heap.size W W0 → ∀ w1 g cap, w1.ownsRow B 3 1 (.slice (some ⟨g, 0, none⟩) (H.length + 1) cap) (H.length + 1) (rowOf R ++ [.int .i64 (0 : Nat)]) →
    W0.grownBy w1 v.ownBlock → (v.ownBlock = some g ∨ g = W0.heap.size) → Plan HS B x c (k + 1) (H ++ [k + 1]) (.slice (some ⟨g, 0, none⟩) (H.length + 1) cap) w1 ∧ Below B W w1 := by
  obtain ⟨s, r, h1, h2, h3, h4, h5, h6⟩ := p.all
  refine ⟨cnts s H, cnts_len s H, by have := r.row; rw [cnts_len] at this; exact this, fun W0 hb0 w1 g cap hown hgr hlie => ?_⟩
  rw [← cnts_len s H] at hown
  obtain ⟨r1, b1⟩ := (r.below hb0).grown 0 hown hgr hlie
  rw [cnts_len] at r1
  refine ⟨⟨s, ?_, h1, ?_, fun b hb => ?_⟩, (hb0.mono r.size).trans b1⟩
  · have e : cnts s (H ++ [k + 1]) = cnts s H ++ [0] := by
      unfold cnts
      rw [List.map_append, List.map_singleton, h4]
    rw [e]; exact r1
  · rw [List.nodup_append]
    refine ⟨h2, by simp, fun a ha b hb => ?_⟩
    simp at hb
    have := (h3 a ha).1
    omega
  · rcases List.mem_append.1 hb with h | h
    · have := h3 b h; omega
    · simp at h; rw [h, h4]; omega

/-- the top goes -/
theorem Plan.drop (P : Pact3 HS Room) {a : Nat} {ao : Option Addr} {cap : Nat} (p : Plan HS B x c k (H ++ [a]) (.slice ao (H.length + 1) cap) W) :
    DoTo x 4 0 W fun w' => Plan HS B x c k H (.slice ao H.length cap) w' ∧ Below B W w' := by
  obtain ⟨s, r, h1, h2, h3⟩ := p.all
  obtain ⟨s', e, b', o', _⟩ := h1.drop (c := c) 0
  refine (row_do P r 4 0 (fits_n (n := 4) (by omega)) (fits_n (n := 0) (by omega)) (no2 (by decide)) e).mono ?_
  rintro r' w' ⟨hr, rr, hb⟩
  refine ⟨hr, ⟨s', ?_, b', (List.nodup_append.1 h2).1, fun b hb => ?_⟩, hb⟩
  · have r2 := rr.cut (ao := ao) (cap := cap) (by rw [cnts_len]; simp) H.length (by rw [cnts_len]; simp)
    have e2 : (cnts s (H ++ [a])).take H.length = cnts s' H := by
      rw [cnts_same (s := s) (s' := s') fun b _ => count_objs o' _]
      unfold cnts
      rw [List.map_append, List.take_left' (by simp)]
    rw [e2] at r2; exact r2
  · rw [count_objs o']; exact h3 b (List.mem_append_left _ hb)

/-- the one below the top goes -/
theorem Plan.under (P : Pact3 HS Room) {a b : Nat} {ao : Option Addr} {cap : Nat} (p : Plan HS B x c k (H ++ [b, a]) (.slice ao (H.length + 2) cap) W) (hl : H.length ≤ 13) (hd : c.deep = 16) :
    DoTo x 6 0 W fun w1 => ∀ W1, Below w1.heap.size w1 W1 → DoTo x 4 0 W1 fun w2 => ∀ W2, Below w2.heap.size w2 W2 → DoTo x 5 0 W2 fun w3 => ∀ W3, Below w3.heap.size w3 W3 →
      ∃ g n, ao = some ⟨g, 0, none⟩ ∧ W3.cell? ⟨g, H.length + 1, none⟩ = some (.int .i64 n) ∧ (∃ m, W3.cell? ⟨g, H.length, none⟩ = some (.int .i64 m)) ∧ W3.frozen? ⟨g, H.length, none⟩ = false ∧
        Plan HS B x c k (H ++ [a]) (.slice ao (H.length + 1) cap) (W3.setCell ⟨g, H.length, none⟩ (.int .i64 n)) ∧ Below B W (W3.setCell ⟨g, H.length, none⟩ (.int .i64 n)) := by
  obtain ⟨s, r, h1, h2, h3⟩ := p.all
  rw [show H ++ [b, a] = (H ++ [b]) ++ [a] by simp] at h1
  obtain ⟨s1, e1, b1, o1, g1⟩ := h1.set (c := c)
  refine (row_do P r 6 0 (fits_n (n := 6) (by omega)) (fits_n (n := 0) (by omega)) (no2 (by decide)) e1).mono ?_
  rintro r' w1 ⟨hr, r1, bl1⟩
  refine ⟨hr, fun W1 hb1 => ?_⟩
  have B1 : Below B W W1 := bl1.trans (hb1.mono r1.size)
  obtain ⟨s2, e2, b2, o2, g2⟩ := b1.drop (c := c) 0
  refine (row_do P (r1.below hb1) 4 0 (fits_n (n := 4) (by omega)) (fits_n (n := 0) (by omega)) (no2 (by decide)) e2).mono ?_
  rintro r' w2 ⟨hr, r2, bl2⟩
  refine ⟨hr, fun W2 hb2 => ?_⟩
  have B2 : Below B W W2 := (B1.trans bl2).trans (hb2.mono r2.size)
  obtain ⟨s3, e3, b3, o3, _⟩ := b2.get (c := c) (by rw [hd]; omega) (g2.trans g1)
  refine (row_do P (r2.below hb2) 5 0 (fits_n (n := 5) (by omega)) (fits_n (n := 0) (by omega)) (no2 (by decide)) e3).mono ?_
  rintro r' w3 ⟨hr, r3, bl3⟩
  refine ⟨hr, fun W3 hb3 => ?_⟩
  have r3' := r3.below hb3
  have B3 : Below B W W3 := (B2.trans bl3).trans (hb3.mono r3.size)
  have o3' : s3.objs = s.objs := (o3.trans o2).trans o1
  have hlen : (cnts s (H ++ [b, a])).length = H.length + 2 := by rw [cnts_len]; simp
  obtain ⟨g, cap', hv, hg, hcell, hfz⟩ := r3'.view (by omega)
  rw [hlen] at hv
  simp at hv
  obtain ⟨rfl, rfl⟩ := hv
  have c1 := hcell (H.length + 1) (by omega)
  have c0 := hcell H.length (by omega)
  obtain ⟨n, hn⟩ : ∃ n, (cnts s (H ++ [b, a]))[H.length + 1]'(by omega) = n := ⟨_, rfl⟩
  rw [hn] at c1
  obtain ⟨r4, bl4⟩ := r3'.set (g := g) (cap := cap) (by rw [hlen]) H.length n
  refine ⟨g, n, rfl, c1, ⟨_, c0⟩, hfz _, ?_, B3.trans bl4⟩
  have r5 := r4.cut (ao := some ⟨g, 0, none⟩) (cap := cap) (by rw [List.length_set, hlen]) (H.length + 1) (by rw [List.length_set, hlen]; omega)
  have hna : n = s.count (a : Int) := by
    rw [← hn]; simp [cnts, List.getElem_append_right]
  have e5 : ((cnts s (H ++ [b, a])).set H.length n).take (H.length + 1) = cnts s3 (H ++ [a]) := by
    rw [cnts_same (s := s) (s' := s3) fun y _ => count_objs o3' _]
    apply List.ext_getElem?
    intro i
    unfold cnts
    rw [List.getElem?_take, List.getElem?_set, List.getElem?_map, List.getElem?_map, List.length_map]
    rcases Nat.lt_trichotomy i H.length with hi | hi | hi
    · rw [if_pos (by omega), if_neg (by omega), List.getElem?_append_left hi, List.getElem?_append_left hi]
    · subst hi
      rw [if_pos (by omega), if_pos rfl, if_pos (by simp), List.getElem?_append_right (Nat.le_refl _), hna]
      simp
    · rw [if_neg (by omega), List.getElem?_eq_none (by simp; omega)]; rfl
  rw [e5] at r5
  have hnd : (H ++ [a]).Nodup := by
    have h2' := List.nodup_append.1 h2
    rw [List.nodup_append]
    exact ⟨h2'.1, by simp, fun y hy z hz => h2'.2.2 y hy z (by simp at hz; simp [hz])⟩
  refine ⟨s3, r5, b3, hnd, fun y hy => ?_⟩
  rw [count_objs o3']
  refine h3 y ?_
  rcases List.mem_append.1 hy with h | h
  · exact List.mem_append_left _ h
  · simp at h; simp [h]

end Go.Proofs.Ytpmkjeihbddfpaa

/- OUR OWN. Drained: built. -/
namespace Go.Proofs.Ytpmkjeihbddfpaa
open Go.RowKit
set_option linter.unusedVariables false
set_option linter.unusedSimpArgs false

variable {HS : HeapM → St → Cf → Nat → Prop} {Room : St → Prop} {B x : Nat} {c : Cf} {k f i : Nat} {H : List Nat} {v : Value} {W W' : World}

set_option maxRecDepth 100000 in
set_option maxHeartbeats 3200000 in
theorem built_any (P : Pact3 HS Room) (p : Plan HS B x c k H v W) (hk : k < 99) (hl : H.length ≤ 13) (hd : c.deep = 16) (z : Nat) (hz : z ≤ 2000000000000000) :
    Calls Try.prog 11 #[.pointer (some ⟨x, 0, none⟩), v, .int .i64 z] W fun e w' => ∃ H' v', e = .returned (.tuple #[v', .bool true]) ∧ Plan HS B x c (k + 1) H' v' w' ∧ H'.length ≤ H.length + 1 ∧ Below B W w' := by
  obtain ⟨ao, cap, rfl⟩ := p.slice
  have NEW : Hid (∀ f : Nat, f ≤ 4 → DoTo x 2 f W fun w' => Mid HS B x c k f 0 H (.slice ao H.length cap) w' ∧ Below B W w') := fun f hf => p.new P hk hl hd hf
  obtain ⟨f, hf⟩ : ∃ f, z % 5 = f := ⟨_, rfl⟩
  have hf4 : f ≤ 4 := by omega
  obtain ⟨z1, hz1⟩ : ∃ z1, z / 5 = z1 := ⟨_, rfl⟩
  have e1 : (z : Int) % 5 = f := by omega
  have e2 : (z : Int) / 5 = z1 := by omega
  have N0 : Hid _ := NEW.out f hf4
  unfold DoTo at N0
  clear p NEW
  go_enter Try.func11, Try.ntmps11
  go_wp2_with fail
  refine Calls.mono N0.out ?_
  rintro e w1 ⟨rfl, hm1, hb1⟩
  have M1 : Hid (Mid HS B x c k f 0 H (.slice ao H.length cap) w1 ∧ Below B W w1) := ⟨hm1, hb1⟩
  clear hm1 hb1 N0
  have ST : Hid (∀ j wr, Mid HS B x c k f j H (.slice ao H.length cap) wr → ∀ kk (hj : kk < H.length), ∃ g n, ao = some ⟨g, 0, none⟩ ∧ wr.cell? ⟨g, kk, none⟩ = some (.int .i64 (n : Nat)) ∧ wr.frozen? ⟨g, kk, none⟩ = false ∧ n ≤ 7 ∧
      (n < 7 → j < f → ∀ W1, Below (wr.setCell ⟨g, kk, none⟩ (.int .i64 ((n : Int) + 1))).heap.size (wr.setCell ⟨g, kk, none⟩ (.int .i64 ((n : Int) + 1))) W1 →
        DoTo x 3 0 W1 fun w2 => ∀ W2, Below w2.heap.size w2 W2 → DoTo x 3 ((H.length : Int) - kk + 1) W2 fun w3 => ∀ W3, Below w3.heap.size w3 W3 → DoTo x 8 j W3 fun w4 => Mid HS B x c k f (j + 1) H (.slice ao H.length cap) w4 ∧ Below B wr w4)) := by
    intro j wr hm kk hkk
    obtain ⟨g, cap', n, hv, hg, h1, h2, h3, h4⟩ := hm.store P hk hl hd kk hkk
    simp at hv
    exact ⟨g, n, hv.1, h1, h2, h3, fun a b => h4 a b hf4⟩
  unfold DoTo at ST
  have PP : Hid (Pact3 HS Room) := P
  have hk' : Hid (k < 99) := hk
  clear P hk
  go_wp2
  go_loopw [2, 11] (fun zz ii wr => ∃ j y : Nat, j ≤ f ∧ ii = .int .i64 j ∧ zz = .int .i64 y ∧ y ≤ 2000000000000000 ∧ Mid HS B x c k f j H (.slice ao H.length cap) wr ∧ Below B W wr) (fun _ ii _ => f - (intOf ii).toNat)
  case atStart => exact ⟨0, z1, Nat.zero_le _, rfl, rfl, by omega, M1.out.1, M1.out.2⟩
  case round =>
    obtain ⟨j, y, hj, rfl, rfl, hy, hmid, hbel⟩ := hrel
    have M : Hid (Mid HS B x c k f j H (.slice ao H.length cap) wr ∧ Below B W wr) := ⟨hmid, hbel⟩
    clear hmid hbel M1
    by_cases hlt : j < f
    · have hjI : (j : Int) < f := by omega
      obtain ⟨kk, hkk⟩ : ∃ kk, y % (H.length + 1) = kk := ⟨_, rfl⟩
      have hkl : kk ≤ H.length := by have := Nat.mod_lt y (show 0 < H.length + 1 by omega); omega
      have q1 : (y : Int) % ((H.length : Int) + 1) = kk := by rw [← hkk]; push_cast; rfl
      obtain ⟨y2, hy2⟩ : ∃ y2, y / 2 = y2 := ⟨_, rfl⟩
      have q2 : (y : Int) / 2 = y2 := by omega
      have hyy : y2 ≤ 2000000000000000 := by omega
      by_cases hin : kk < H.length
      · obtain ⟨g, n, rfl, cn, fn, hn7, S0⟩ := ST.out j wr M.out.1 kk hin
        have S1 : Hid _ := S0
        have hinI : (kk : Int) < H.length := by omega
        clear S0 hkk
        by_cases h7 : n < 7
        · have S2 : Hid _ := S1.out h7 hlt
          have h7I : (n : Int) < 7 := by omega
          clear S1
          go_wp2_with fail
          simp only [q1]
          refine Calls.mono (S2.out _ (Below.refl _ _)) ?_
          rintro e w2 ⟨rfl, hs2⟩
          have S3 : Hid _ := hs2
          clear hs2 S2 cn fn
          go_wp2_with fail
          refine Calls.mono (S3.out _ (Below.refl _ _)) ?_
          rintro e w3 ⟨rfl, hs3⟩
          have S4 : Hid _ := hs3
          clear hs3 S3
          go_wp2_with fail
          refine Calls.mono (S4.out _ (Below.refl _ _)) ?_
          rintro e w4 ⟨rfl, hm4, hb4⟩
          have M4 : Hid (Mid HS B x c k f (j + 1) H (.slice (some ⟨g, 0, none⟩) H.length cap) w4 ∧ Below B W w4) := ⟨hm4, M.out.2.trans hb4⟩
          clear hm4 hb4 S4
          go_wp2
          go_roundw
          case rel => exact ⟨j + 1, y2, by omega, by go_num, rfl, hyy, M4.out.1, M4.out.2⟩
          case measure => simp [intOf]; omega
        · have h7d : decide ((n : Int) < 7) = false := by simp; omega
          have M4 : Hid (Mid HS B x c k f (j + 1) H (.slice (some ⟨g, 0, none⟩) H.length cap) wr ∧ Below B W wr) := ⟨M.out.1.skip, M.out.2⟩
          clear S1
          go_wp2
          go_roundw
          case rel => exact ⟨j + 1, y2, by omega, by go_num, rfl, hyy, M4.out.1, M4.out.2⟩
          case measure => simp [intOf]; omega
      · have hind : decide ((kk : Int) < H.length) = false := by simp; omega
        have M4 : Hid (Mid HS B x c k f (j + 1) H (.slice ao H.length cap) wr ∧ Below B W wr) := ⟨M.out.1.skip, M.out.2⟩
        clear hkk
        go_wp2
        go_roundw
        case rel => exact ⟨j + 1, y2, by omega, by go_num, rfl, hyy, M4.out.1, M4.out.2⟩
        case measure => simp [intOf]; omega
    · obtain rfl : j = f := by omega
      obtain ⟨R, hR, hrow, hgrow⟩ := M.out.1.grown
      have GR : Hid _ := hgrow
      have OW : Hid (wr.ownsRow B 3 1 (.slice ao H.length cap) H.length (rowOf R)) := hrow
      have hBr : B ≤ wr.heap.size := M.out.1.size
      obtain ⟨i1, hi1, hy0, hy1, hy2⟩ := info_parts infoInt
      have IN : Hid _ := And.intro hi1 (And.intro hy0 (And.intro hy1 hy2))
      clear hi1 hy0 hy1 hy2 hgrow hrow ST
      go_wp2_with (at_builtin; refine wpList_append_lies _ rfl (.tmp 101) (.tmp 102) 24 rfl B 3 i1 _ 1 8 Try.underlying24 IN.out.1 IN.out.2.1 IN.out.2.2.1 IN.out.2.2.2 rfl (by decide) _ _ _ rfl (OW.out.alloc _) ⟨wr.heap.size, 0, none⟩ 1 1 [.int .i64 (0 : Nat)] rfl rfl ?c1 ?c2 (by decide) ?c3 ?c4 ?c5 (wr.heap.size + 1) (by simp) ?_)
      case c1 => exact news_new wr [.int .i64 (0 : Nat)] 3
      case c2 => intro u hu; simp at hu; subst hu; rfl
      case c3 => unfold maxLen; omega
      case c4 => omega
      case c5 => simp; omega
      intro g' cap' w2 hown hgr hlie _
      obtain ⟨hpl, hbl⟩ := GR.out _ ((Below.refl _ _).alloc (Nat.le_refl _) _) w2 g' cap' hown hgr (by simpa using hlie)
      have PL : Hid (Plan HS B x c (k + 1) (H ++ [k + 1]) (.slice (some ⟨g', 0, none⟩) (H.length + 1) cap') w2 ∧ Below B W w2) := ⟨hpl, M.out.2.trans hbl⟩
      have hcp : H.length + 1 ≤ cap' := by
        have := PL.out.1.room (ao := some ⟨g', 0, none⟩) (cap := cap') (by simp)
        simpa using this
      have hcI : (H.length : Int) ≤ cap' := by omega
      clear hown hgr hlie hpl hbl GR OW IN M hR
      by_cases h3 : y % 3 = 0
      · have q0 : (y : Int) % 3 = 0 := by omega
        by_cases h0 : H.length = 0
        · have h0I : decide ((1 : Int) < (H.length : Int) + 1) = false := by simp; omega
          go_wp2
          go_ret2
          exact ⟨H ++ [k + 1], _, rfl, PL.out.1, by simp, PL.out.2⟩
        · obtain ⟨H0, b0, rfl⟩ : ∃ H0 b0, H = H0 ++ [b0] := ⟨H.dropLast, H.getLast (by intro e; rw [e] at h0; exact h0 rfl), (List.dropLast_concat_getLast _).symm⟩
          have hlen : (H0 ++ [b0]).length = H0.length + 1 := by simp
          have UN : Hid _ := Plan.under (H := H0) (b := b0) (a := k + 1) (ao := some ⟨g', 0, none⟩) (cap := cap') PP.out (by
            have := PL.out.1
            rw [hlen] at this
            simpa using this) (by omega) hd
          have PL2 := PL.out.2
          have hlI : (1 : Int) < ((H0 ++ [b0]).length : Int) + 1 := by omega
          rw [hlen] at hlI hl ⊢
          have B2 : Hid (Below B W w2) := PL2
          clear PL PL2 h0
          unfold DoTo at UN
          have hL : ((H0 ++ [b0]).length : Int) = (H0.length : Int) + 1 := by omega
          go_wp2_with fail
          refine Calls.mono UN.out ?_
          rintro e w3 ⟨rfl, hs3⟩
          have S3 : Hid _ := hs3
          clear hs3 UN
          go_wp2_with fail
          refine Calls.mono (S3.out _ (Below.refl _ _)) ?_
          rintro e w4 ⟨rfl, hs4⟩
          have S4 : Hid _ := hs4
          clear hs4 S3
          go_wp2_with fail
          refine Calls.mono (S4.out _ (Below.refl _ _)) ?_
          rintro e w5 ⟨rfl, hs5⟩
          obtain ⟨g, n, hgg, c1, ⟨mm, c0⟩, f0, hp5, hb5⟩ := hs5 w5 (Below.refl _ _)
          simp at hgg
          subst hgg
          have P5 : Hid (Plan HS B x c (k + 1) (H0 ++ [k + 1]) (.slice (some ⟨g', 0, none⟩) (H0.length + 1) cap') (w5.setCell ⟨g', H0.length, none⟩ (.int .i64 n)) ∧ Below B W (w5.setCell ⟨g', H0.length, none⟩ (.int .i64 n))) := ⟨hp5, B2.out.trans hb5⟩
          clear hs5 hp5 hb5 S4 B2
          go_wp2
          go_ret2
          exact ⟨H0 ++ [k + 1], _, rfl, P5.out.1, by simp, P5.out.2⟩
      · have q0 : ((y : Int) % 3 == 0) = false := by simp; omega
        by_cases h4 : y % 3 = 1
        · have q1 : (y : Int) % 3 = 1 := by omega
          have DR : Hid _ := Plan.drop PP.out PL.out.1
          have B2 : Hid (Below B W w2) := PL.out.2
          clear PL
          unfold DoTo at DR
          go_wp2_with fail
          refine Calls.mono DR.out ?_
          rintro e w3 ⟨rfl, hp3, hb3⟩
          have P3 : Hid (Plan HS B x c (k + 1) H (.slice (some ⟨g', 0, none⟩) H.length cap') w3 ∧ Below B W w3) := ⟨hp3, B2.out.trans hb3⟩
          clear hp3 hb3 DR B2
          go_wp2
          go_ret2
          exact ⟨H, _, rfl, P3.out.1, by omega, P3.out.2⟩
        · have q1 : ((y : Int) % 3 == 1) = false := by simp; omega
          go_wp2
          go_ret2
          exact ⟨H ++ [k + 1], _, rfl, PL.out.1, by simp, PL.out.2⟩

end Go.Proofs.Ytpmkjeihbddfpaa

/- OUR OWN. Boxes beside the heap. -/
namespace Go.Proofs.Ytpmkjeihbddfpaa
open Go.RowKit
set_option linter.unusedVariables false
set_option linter.unusedSimpArgs false
variable {x : Nat} {W W' : World}

/-- boxes beside the heap, with what they have -/
def Kept (K : List (Nat × Obj)) (x : Nat) (hm : HeapM) (W : World) : Prop := ∀ p ∈ K, p.1 ∉ x :: hm.foot ∧ W.heap[p.1]? = some p.2
theorem Kept.step {K : List (Nat × Obj)} {hm hm' : HeapM} {w' : World} (h : Kept K x hm W) (t : HTurn x W hm w' hm') : Kept K x hm' w' := fun p hp => by
  obtain ⟨h1, h2⟩ := h p hp
  refine ⟨fun hmem => ?_, by rw [t.off.block p.1 (lt_of_heap h2) h1]; exact h2⟩
  rcases List.mem_cons.1 hmem with e | e
  · exact h1 (by rw [e]; exact List.mem_cons_self)
  · rcases t.foot p.1 e with e | e
    · exact h1 (List.mem_cons_of_mem _ e)
    · have := lt_of_heap h2; omega
theorem Kept.below {K : List (Nat × Obj)} {hm : HeapM} (h : Kept K x hm W) (hb : Below W.heap.size W W') : Kept K x hm W' := fun p hp => by
  obtain ⟨h1, h2⟩ := h p hp
  exact ⟨h1, by rw [hb.block p.1 (lt_of_heap h2)]; exact h2⟩
theorem Kept.box {K : List (Nat × Obj)} {hm : HeapM} (h : Kept K x hm W) (r : HeapAt W x hm) (ob : Obj) : Kept ((W.heap.size, ob) :: K) x hm (W.alloc ob) := fun p hp => by
  rcases List.mem_cons.1 hp with rfl | hp
  · exact ⟨fun e => by have := r.lt _ e; omega, heap_alloc_new W ob⟩
  · exact h.below ((Below.refl _ _).alloc (Nat.le_refl _) _) p hp

end Go.Proofs.Ytpmkjeihbddfpaa

/- OUR OWN. Drained: emptied. -/
namespace Go.Proofs.Ytpmkjeihbddfpaa
open Go.RowKit
set_option linter.unusedVariables false
set_option linter.unusedSimpArgs false

variable {HS : HeapM → St → Cf → Nat → Prop} {Room : St → Prop} {B x : Nat} {c : Cf} {k : Nat} {H : List Nat} {v : Value} {W W' : World}

/-- at most n are on the stack -/
structure Low (HS : HeapM → St → Cf → Nat → Prop) (B x : Nat) (c : Cf) (k n : Nat) (K : List (Nat × Obj)) (W : World) : Prop where
  all : ∃ hm s H, KAt HS B W x hm s c 99 ∧ Kept K x hm W ∧ Built s k H ∧ H.length ≤ n
/-- no root has any -/
structure Bare (HS : HeapM → St → Cf → Nat → Prop) (B x : Nat) (c : Cf) (k : Nat) (K : List (Nat × Obj)) (W : World) : Prop where
  all : ∃ hm s, KAt HS B W x hm s c 99 ∧ Kept K x hm W ∧ Calm s ∧ usedC s = k ∧ s.stack = []

variable {K : List (Nat × Obj)}
theorem Plan.low (p : Plan HS B x c k H v W) : Low HS B x c k H.length [] W := by
  obtain ⟨s, r, h1, _⟩ := p.all
  obtain ⟨hm, ka, _⟩ := r.at_
  exact ⟨hm, s, H, ka, (fun p hp => by cases hp), h1, Nat.le_refl _⟩
theorem Low.mono {n m : Nat} (p : Low HS B x c k n K W) (h : n ≤ m) : Low HS B x c k m K W := by
  obtain ⟨hm, s, H, ka, hk, h1, h2⟩ := p.all
  exact ⟨hm, s, H, ka, hk, h1, by omega⟩
theorem Low.below {n : Nat} (p : Low HS B x c k n K W) (hb : Below W.heap.size W W') : Low HS B x c k n K W' := by
  obtain ⟨hm, s, H, ka, hk, h1, h2⟩ := p.all
  exact ⟨hm, s, H, ka.below hb, hk.below hb, h1, h2⟩
theorem Low.box {n : Nat} (p : Low HS B x c k n K W) (ob : Obj) : Low HS B x c k n ((W.heap.size, ob) :: K) (W.alloc ob) := by
  obtain ⟨hm, s, H, ka, hk, h1, h2⟩ := p.all
  exact ⟨hm, s, H, ka.below ((Below.refl _ _).alloc (Nat.le_refl _) _), hk.box ka.here ob, h1, h2⟩
theorem Low.size {n : Nat} (p : Low HS B x c k n K W) : B ≤ W.heap.size := by
  obtain ⟨hm, s, H, ka, _⟩ := p.all
  exact ka.size
theorem Low.kept {n : Nat} (p : Low HS B x c k n K W) {L : Nat} {ob : Obj} (h : (L, ob) ∈ K) : W.heap[L]? = some ob := by
  obtain ⟨hm, s, H, ka, hk, _⟩ := p.all
  exact (hk _ h).2

theorem Low.drop (P : Pact3 HS Room) {n : Nat} (p : Low HS B x c k n K W) :
    Calls Try.prog 10 #[.pointer (some ⟨x, 0, none⟩), .int .i64 4, .int .i64 0] W fun r w' => (∃ a e : Int, r = .returned (.tuple #[.int .i64 a, .int .i64 e])) ∧ Low HS B x c k (n - 1) K w' ∧ Below B W w' := by
  obtain ⟨hm, s, H, ka, hk, h1, h2⟩ := p.all
  refine (k_do3 P ka 4 0 (fits_n (n := 4) (by omega)) (fits_n (n := 0) (by omega)) (no2 (by decide))).mono ?_
  rintro r w' ⟨hr, st⟩
  obtain ⟨hm', t, k'⟩ := st.at_
  refine ⟨⟨_, _, hr⟩, ?_, st.keep⟩
  rcases Nat.eq_zero_or_pos H.length with h0 | h0
  · obtain rfl : H = [] := List.eq_nil_of_length_eq_zero h0
    have e : (doS c s 4 0).1 = s := by
      have e1 : doS c s 4 0 = dropS s := by simp [doS]
      rw [e1]
      unfold dropS
      rw [if_pos (by rw [h1.stack]; simp [refsOf])]
    rw [e] at k'
    exact ⟨hm', s, [], k', hk.step t, h1, by simp⟩
  · obtain ⟨H0, b0, rfl⟩ : ∃ H0 b0, H = H0 ++ [b0] := ⟨H.dropLast, H.getLast (by intro e; rw [e] at h0; simp at h0), (List.dropLast_concat_getLast _).symm⟩
    obtain ⟨s', e, b', _⟩ := h1.drop (c := c) 0
    rw [e] at k'
    exact ⟨hm', s', H0, k', hk.step t, b', by simp at h2; omega⟩

theorem Low.nil (P : Pact3 HS Room) (p : Low HS B x c k 0 K W) :
    DoTo x 0 0 W fun w1 => ∀ W1, Below w1.heap.size w1 W1 → DoTo x 6 0 W1 fun w2 => Bare HS B x c k K w2 ∧ Below B W w2 := by
  obtain ⟨hm, s, H, ka, hk, h1, h2⟩ := p.all
  obtain rfl : H = [] := List.eq_nil_of_length_eq_zero (by omega)
  obtain ⟨s1, s2, e1, e2, _, _, o1, _, hs2, hg2, o2, _⟩ := h1.nil (c := c) ka.cf.deep.1
  refine (k_do3 P ka 0 0 (fits_n (n := 0) (by omega)) (fits_n (n := 0) (by omega)) (no2 (by decide))).mono ?_
  rintro r w1 ⟨hr, st⟩
  obtain ⟨hm1, t1, k1⟩ := st.at_
  rw [e1] at hr k1
  refine ⟨hr, fun W1 hb1 => ?_⟩
  refine (k_do3 P (k1.below hb1) 6 0 (fits_n (n := 6) (by omega)) (fits_n (n := 0) (by omega)) (no2 (by decide))).mono ?_
  rintro r w2 ⟨hr, st2⟩
  obtain ⟨hm2, t2, k2⟩ := st2.at_
  rw [e2] at hr k2
  exact ⟨hr, ⟨hm2, s2, k2, ((hk.step t1).below hb1).step t2, h1.calm o2 hs2 hg2, h1.used o2, hs2⟩, (st.keep.trans (hb1.mono k1.size)).trans st2.keep⟩

theorem Bare.below (p : Bare HS B x c k K W) (hb : Below W.heap.size W W') : Bare HS B x c k K W' := by
  obtain ⟨hm, s, ka, hk, h⟩ := p.all
  exact ⟨hm, s, ka.below hb, hk.below hb, h⟩
theorem Bare.box (p : Bare HS B x c k K W) (ob : Obj) : Bare HS B x c k ((W.heap.size, ob) :: K) (W.alloc ob) := by
  obtain ⟨hm, s, ka, hk, h⟩ := p.all
  exact ⟨hm, s, ka.below ((Below.refl _ _).alloc (Nat.le_refl _) _), hk.box ka.here ob, h⟩
theorem Bare.less {K' : List (Nat × Obj)} (p : Bare HS B x c k K W) (h : ∀ q ∈ K', q ∈ K) : Bare HS B x c k K' W := by
  obtain ⟨hm, s, ka, hk, h1⟩ := p.all
  exact ⟨hm, s, ka, fun q hq => hk q (h q hq), h1⟩
theorem Bare.size (p : Bare HS B x c k K W) : B ≤ W.heap.size := by
  obtain ⟨hm, s, ka, _⟩ := p.all
  exact ka.size
theorem Bare.kept (p : Bare HS B x c k K W) {L : Nat} {ob : Obj} (h : (L, ob) ∈ K) : W.heap[L]? = some ob := by
  obtain ⟨hm, s, ka, hk, _⟩ := p.all
  exact (hk _ h).2
theorem Bare.drop (P : Pact3 HS Room) (p : Bare HS B x c k K W) :
    Calls Try.prog 10 #[.pointer (some ⟨x, 0, none⟩), .int .i64 4, .int .i64 0] W fun r w' => r = .returned (.tuple #[.int .i64 0, .int .i64 3]) ∧ Bare HS B x c k K w' ∧ Below B W w' := by
  obtain ⟨hm, s, ka, hk, h1, h2, h3⟩ := p.all
  refine (k_do3 P ka 4 0 (fits_n (n := 4) (by omega)) (fits_n (n := 0) (by omega)) (no2 (by decide))).mono ?_
  rintro r w' ⟨hr, st⟩
  obtain ⟨hm', t, k'⟩ := st.at_
  have e : doS c s 4 0 = (s, 0, 3) := by
    have e1 : doS c s 4 0 = dropS s := by simp [doS]
    rw [e1]
    unfold dropS
    rw [if_pos (by rw [h3]; simp)]
  rw [e] at hr k'
  exact ⟨hr, ⟨hm', s, k', hk.step t, h1, h2, h3⟩, st.keep⟩

theorem countTo_none {p : Nat → Bool} (h : ∀ b, p b = false) (n : Nat) : countTo p n = 0 := by
  unfold countTo
  exact List.countP_eq_zero.2 fun j _ => by rw [h]; simp
/-- what Gauge tells -/
theorem Bare.gauge (P : Pact3 HS Room) (p : Bare HS B x c k K W) :
    Calls Try.prog 13 #[.pointer (some ⟨x, 0, none⟩)] W fun e w' => (∃ a b d : Int, e = .returned (.agg #[.int .i64 (99 - (k : Int)), .int .i64 a, .int .i64 b, .int .i64 d, .int .i64 0])) ∧ Bare HS B x c k K w' ∧ Below B W w' ∧ k ≤ 99 := by
  obtain ⟨hm, s, ka, hk, h1, h2, h3⟩ := p.all
  refine (k_gauge3 P ka).mono ?_
  rintro e w' ⟨hr, st⟩
  obtain ⟨hm', t, k'⟩ := st.at_
  have hu := used_free s
  rw [ka.good.sN, h2] at hu
  have e1 : (gaugeS s).1 = freeN s := rfl
  have e5 : (gaugeS s).2.2.2.2 = 0 := countTo_none (fun b => by unfold St.stucks; rw [h1.loose]; simp) _
  refine ⟨⟨(gaugeS s).2.1, (gaugeS s).2.2.1, (gaugeS s).2.2.2.1, ?_⟩, ⟨hm', s, k', hk.step t, h1, h2, h3⟩, st.keep, by omega⟩
  rw [hr, e1, e5, show (freeN s : Int) = 99 - (k : Int) by omega]
  rfl
/-- what a safepoint frees -/
theorem Bare.safe (P : Pact3 HS Room) (p : Bare HS B x c k K W) {u : Nat} (hu : c.budget = u) :
    Calls Try.prog 14 #[.pointer (some ⟨x, 0, none⟩)] W fun e w' => e = .returned (.int .i64 (min u k : Nat)) ∧ Bare HS B x c (k - min u k) K w' ∧ Below B W w' := by
  obtain ⟨hm, s, ka, hk, h1, h2, h3⟩ := p.all
  obtain ⟨g1, g2⟩ := calm_safe h1 ka.good c
  have f1 := (freeN_safe ka.good c).1
  refine (k_safe3 P ka).mono ?_
  rintro e w' ⟨hr, st⟩
  obtain ⟨hm', t, k'⟩ := st.at_
  rw [h2, hu, Int.toNat_natCast] at g1
  have u1 := used_free s
  have u2 := used_free (s.safe c).1
  rw [ka.good.sN] at u1
  rw [k'.good.sN] at u2
  refine ⟨by rw [hr, g1], ⟨hm', _, k', hk.step t, g2, by omega, ?_⟩, st.keep⟩
  rw [(same_safe ka.good c).stack]; exact h3

set_option maxRecDepth 100000 in
set_option maxHeartbeats 1600000 in
theorem emptied_any (P : Pact3 HS Room) (p : Low HS B x c k 16 K W) (b u z o : Int) :
    Calls Try.prog 12 #[.pointer (some ⟨x, 0, none⟩), .agg #[.int .i64 b, .int .i64 16, .int .i64 1, .int .i64 u, .int .i64 z, .int .i64 o]] W fun e w' => e = .returned (.bool true) ∧ Bare HS B x c k K w' ∧ Below B W w' := by
  obtain ⟨K', hK'⟩ : ∃ K', (W.heap.size, Obj.cells #[.int .i64 b, .int .i64 16, .int .i64 1, .int .i64 u, .int .i64 z, .int .i64 o] 23) :: K = K' := ⟨_, rfl⟩
  have DR : Hid (∀ n V, Low HS B x c k n K' V → Calls Try.prog 10 #[.pointer (some ⟨x, 0, none⟩), .int .i64 4, .int .i64 0] V fun r w' => (∃ a e : Int, r = .returned (.tuple #[.int .i64 a, .int .i64 e])) ∧ Low HS B x c k (n - 1) K' w' ∧ Below B V w') := fun n V q => q.drop P
  have NI : Hid (∀ V, Low HS B x c k 0 K' V → DoTo x 0 0 V fun w1 => ∀ W1, Below w1.heap.size w1 W1 → DoTo x 6 0 W1 fun w2 => Bare HS B x c k K' w2 ∧ Below B V w2) := fun V q => q.nil P
  have BD : Hid (∀ V, Bare HS B x c k K' V → Calls Try.prog 10 #[.pointer (some ⟨x, 0, none⟩), .int .i64 4, .int .i64 0] V fun r w' => r = .returned (.tuple #[.int .i64 0, .int .i64 3]) ∧ Bare HS B x c k K' w' ∧ Below B V w') := fun V q => q.drop P
  have LESS : Hid (∀ V, Bare HS B x c k K' V → Bare HS B x c k K V) := fun V q => q.less fun r hr => by rw [← hK']; exact List.mem_cons_of_mem _ hr
  have LB : Hid (∀ n V, Low HS B x c k n K' V → V.heap[W.heap.size]? = some (.cells #[.int .i64 b, .int .i64 16, .int .i64 1, .int .i64 u, .int .i64 z, .int .i64 o] 23)) := fun n V q => q.kept (by rw [← hK']; exact List.mem_cons_self)
  have BB : Hid (∀ V, Bare HS B x c k K' V → V.heap[W.heap.size]? = some (.cells #[.int .i64 b, .int .i64 16, .int .i64 1, .int .i64 u, .int .i64 z, .int .i64 o] 23)) := fun V q => q.kept (by rw [← hK']; exact List.mem_cons_self)
  unfold DoTo at NI
  have L0 : Hid (Low HS B x c k 16 K' (W.alloc (.cells #[.int .i64 b, .int .i64 16, .int .i64 1, .int .i64 u, .int .i64 z, .int .i64 o] 23)) ∧ Below B W (W.alloc (.cells #[.int .i64 b, .int .i64 16, .int .i64 1, .int .i64 u, .int .i64 z, .int .i64 o] 23))) := ⟨by rw [← hK']; exact p.box _, (Below.refl _ _).alloc p.size _⟩
  clear P p hK'
  go_enter Try.func12, Try.ntmps12
  go_wp2
  go_loopw [5] (fun i wr => ∃ j : Nat, j ≤ 16 ∧ i = .int .i64 j ∧ Low HS B x c k (16 - j) K' wr ∧ Below B W wr) (fun i _ => 16 - (intOf i).toNat)
  case atStart => exact ⟨0, Nat.zero_le _, rfl, L0.out.1, L0.out.2⟩
  case round =>
    obtain ⟨j, hj, rfl, hlow, hbel⟩ := hrel
    have l1 : wr.cell? ⟨W.heap.size, 1, none⟩ = some (.int .i64 16) := cell_of_heap (LB.out _ _ hlow) rfl
    have l2 : wr.cell? ⟨W.heap.size, 2, none⟩ = some (.int .i64 1) := cell_of_heap (LB.out _ _ hlow) rfl
    have M : Hid (Low HS B x c k (16 - j) K' wr ∧ Below B W wr) := ⟨hlow, hbel⟩
    clear hlow hbel L0
    by_cases hlt : j < 16
    · have hjI : (j : Int) < 16 := by omega
      go_wp2_with fail
      refine Calls.mono (DR.out _ _ M.out.1) ?_
      rintro e w1 ⟨⟨a, e, rfl⟩, hl1, hb1⟩
      have M1 : Hid (Low HS B x c k (16 - (j + 1)) K' w1 ∧ Below B W w1) := ⟨hl1.mono (by omega), M.out.2.trans hb1⟩
      clear hl1 hb1 l1 l2
      go_wp2
      go_roundw
      case rel => exact ⟨j + 1, by omega, by go_num, M1.out.1, M1.out.2⟩
      case measure => simp [intOf]; omega
    · have hjd : ¬ (j : Int) < 16 := by omega
      have M0 : Hid (Low HS B x c k 0 K' wr ∧ Below B W wr) := ⟨M.out.1.mono (by omega), M.out.2⟩
      clear hlt hj M
      go_wp2
      clear l1 l2 hjd
      go_loopw [6] (fun i wq => ∃ j : Nat, j ≤ 1 ∧ i = .int .i64 j ∧ (j = 0 → Low HS B x c k 0 K' wq) ∧ (j = 1 → Bare HS B x c k K' wq) ∧ Below B W wq) (fun i _ => 1 - (intOf i).toNat)
      case atStart => exact ⟨0, by omega, rfl, fun _ => M0.out.1, (fun h => by cases h), M0.out.2⟩
      case round =>
        obtain ⟨q, hq, rfl, hlow, hbare, hbel⟩ := hrel
        rcases Nat.eq_zero_or_pos q with h0 | h0
        · subst h0
          have m2 : wr.cell? ⟨W.heap.size, 2, none⟩ = some (.int .i64 1) := cell_of_heap (LB.out _ _ (hlow rfl)) rfl
          have N1 : Hid _ := NI.out _ (hlow rfl)
          have BE : Hid (Below B W wr) := hbel
          clear hlow hbare hbel
          go_wp2_with fail
          refine Calls.mono N1.out ?_
          rintro e w1 ⟨rfl, hs1⟩
          have S1 : Hid _ := hs1
          clear hs1 N1 m2
          go_wp2_with fail
          refine Calls.mono (S1.out _ (Below.refl _ _)) ?_
          rintro e w2 ⟨rfl, hb2, hl2⟩
          have M2 : Hid (Bare HS B x c k K' w2 ∧ Below B W w2) := ⟨hb2, BE.out.trans hl2⟩
          clear hb2 hl2 S1
          go_wp2
          go_roundw
          case rel => exact ⟨1, by omega, by go_num, (fun h => by cases h), fun _ => M2.out.1, M2.out.2⟩
          case measure => simp [intOf]
        · obtain rfl : q = 1 := by omega
          have m2 : wr.cell? ⟨W.heap.size, 2, none⟩ = some (.int .i64 1) := cell_of_heap (BB.out _ (hbare rfl)) rfl
          have M2 : Hid (Bare HS B x c k K' wr ∧ Below B W wr) := ⟨hbare rfl, hbel⟩
          clear hlow hbare hbel
          go_wp2_with fail
          refine Calls.mono (BD.out _ M2.out.1) ?_
          rintro e w1 ⟨rfl, hb1, hl1⟩
          have M3 : Hid (Bare HS B x c k K w1 ∧ Below B W w1) := ⟨LESS.out _ hb1, M2.out.2.trans hl1⟩
          clear hb1 hl1
          go_wp2
          go_ret
          exact ⟨rfl, M3.out.1, M3.out.2⟩

end Go.Proofs.Ytpmkjeihbddfpaa

/- OUR OWN. Acts and configurations in memory. -/
namespace Go.Proofs.Ytpmkjeihbddfpaa
open Go.RowKit
set_option linter.unusedVariables false
set_option linter.unusedSimpArgs false

/-- a list of acts, of numbers, in memory -/
def ActsIn (w : World) (a0 : Option Addr) (len : Nat) (st : Nat → Int × Int) : Prop := ∀ k, k < len → ∃ sb off, a0 = some ⟨sb, off, none⟩ ∧ sb < w.heap.size ∧ fits (st k).1 ∧ fits (st k).2 ∧ w.cell? ⟨sb, off + k * 2, none⟩ = some (.int .i64 (st k).1) ∧ w.cell? ⟨sb, off + k * 2 + 1, none⟩ = some (.int .i64 (st k).2)
def IntsIn (w : World) (a0 : Option Addr) (len : Nat) (st : Nat → Int) : Prop := ∀ k, k < len → ∃ sb off, a0 = some ⟨sb, off, none⟩ ∧ sb < w.heap.size ∧ fits (st k) ∧ w.cell? ⟨sb, off + k, none⟩ = some (.int .i64 (st k))

theorem set6_heap {w : World} {L : Nat} {t : TypeId} {c0 c1 c2 c3 c4 c5 : Value} (h : w.heap[L]? = some (.cells #[c0, c1, c2, c3, c4, c5] t)) (a0 a1 a2 a3 a4 a5 : Value) :
    ((((((w.setCell ⟨L, 0, none⟩ a0).setCell ⟨L, 1, none⟩ a1).setCell ⟨L, 2, none⟩ a2).setCell ⟨L, 3, none⟩ a3).setCell ⟨L, 4, none⟩ a4).setCell ⟨L, 5, none⟩ a5).heap[L]? = some (.cells #[a0, a1, a2, a3, a4, a5] t) := by
  have h0 := heap_setCell_at (i := 0) h a0
  have h1 := heap_setCell_at (i := 1) h0 a1
  have h2 := heap_setCell_at (i := 2) h1 a2
  have h3 := heap_setCell_at (i := 3) h2 a3
  have h4 := heap_setCell_at (i := 4) h3 a4
  have h5 := heap_setCell_at (i := 5) h4 a5
  rw [h5]; rfl
theorem set6_off {w : World} {L j : Nat} (hj : j ≠ L) (a0 a1 a2 a3 a4 a5 : Value) :
    ((((((w.setCell ⟨L, 0, none⟩ a0).setCell ⟨L, 1, none⟩ a1).setCell ⟨L, 2, none⟩ a2).setCell ⟨L, 3, none⟩ a3).setCell ⟨L, 4, none⟩ a4).setCell ⟨L, 5, none⟩ a5).heap[j]? = w.heap[j]? := by
  rw [hso hj, hso hj, hso hj, hso hj, hso hj, hso hj]
theorem set6_below {B : Nat} {w w0 : World} {L : Nat} (hb : Below B w0 w) (hL : B ≤ L) (a0 a1 a2 a3 a4 a5 : Value) :
    Below B w0 ((((((w.setCell ⟨L, 0, none⟩ a0).setCell ⟨L, 1, none⟩ a1).setCell ⟨L, 2, none⟩ a2).setCell ⟨L, 3, none⟩ a3).setCell ⟨L, 4, none⟩ a4).setCell ⟨L, 5, none⟩ a5) :=
  (((((hb.setCell hL _).setCell hL _).setCell hL _).setCell hL _).setCell hL _).setCell hL _
theorem set6_size {w : World} {L : Nat} (a0 a1 a2 a3 a4 a5 : Value) : ((((((w.setCell ⟨L, 0, none⟩ a0).setCell ⟨L, 1, none⟩ a1).setCell ⟨L, 2, none⟩ a2).setCell ⟨L, 3, none⟩ a3).setCell ⟨L, 4, none⟩ a4).setCell ⟨L, 5, none⟩ a5).heap.size = w.heap.size := by simp [World.setCell]
/-- the cells of a configuration in memory -/
structure Box6 (w : World) (L : Nat) (c0 c1 c2 c3 c4 c5 : Value) : Prop where
  a0 : w.cell? ⟨L, 0, none⟩ = some c0
  a1 : w.cell? ⟨L, 1, none⟩ = some c1
  a2 : w.cell? ⟨L, 2, none⟩ = some c2
  a3 : w.cell? ⟨L, 3, none⟩ = some c3
  a4 : w.cell? ⟨L, 4, none⟩ = some c4
  a5 : w.cell? ⟨L, 5, none⟩ = some c5
  fz : ∀ j, w.frozen? ⟨L, j, none⟩ = false
theorem box6 {w : World} {L : Nat} {t : TypeId} {c0 c1 c2 c3 c4 c5 : Value} (h : w.heap[L]? = some (.cells #[c0, c1, c2, c3, c4, c5] t)) : Box6 w L c0 c1 c2 c3 c4 c5 :=
  ⟨cell_of_heap h rfl, cell_of_heap h rfl, cell_of_heap h rfl, cell_of_heap h rfl, cell_of_heap h rfl, cell_of_heap h rfl, fun _ => frozen_of_heap h⟩

end Go.Proofs.Ytpmkjeihbddfpaa

/- OUR OWN. Drained, the walk. -/
namespace Go.Proofs.Ytpmkjeihbddfpaa
open Go.RowKit
set_option linter.unusedVariables false
set_option linter.unusedSimpArgs false

variable {HS : HeapM → St → Cf → Nat → Prop} {Room : St → Prop}

theorem plan_start {B x u z o : Nat} {hm : HeapM} {W : World} (ka : KAt HS B W x hm (st0 ⟨99, 16, 1, u, z, o⟩) (CfgM.cf ⟨99, 16, 1, u, z, o⟩) 99) : Plan HS B x (CfgM.cf ⟨99, 16, 1, u, z, o⟩) 0 [] (.slice none 0 0) W := by
  have e : ∀ b, (st0 ⟨99, 16, 1, u, z, o⟩).ob b = Ob.free := fun b => by
    unfold St.ob st0
    rw [List.getD_eq_getElem?_getD, List.getElem?_replicate]
    split <;> rfl
  refine ⟨_, RowAt.start ka, ⟨ka.good, rfl, by simp [st0], fun b => by rw [e]; rfl, fun a b v hv => ?_, fun b => ?_, by omega⟩, List.nodup_nil, (fun b hb => by cases hb)⟩
  · rw [e] at hv; simp [Ob.free] at hv
  · rw [e]; simp [Ob.free]; omega

set_option maxHeartbeats 16000000 in
set_option maxRecDepth 100000 in
theorem drained_walk (P : Pact3 HS Room) (b s g u z o : Int) (fb : fits b) (fs : fits s) (fg : fits g) (fu : fits u) (fz : fits z) (fo : fits o)
    (p0 : Option Addr) (plen pcap : Nat) (hpl : plen ≤ 20000000000000) (w : World) (ints : Nat → Int) (HP : IntsIn w p0 plen ints) :
    Calls Try.prog 3 #[.agg #[.int .i64 b, .int .i64 s, .int .i64 g, .int .i64 u, .int .i64 z, .int .i64 o], .slice p0 plen pcap] w
      fun e w' => e = .returned (.bool true) ∧ Below w.heap.size w w' := by
  have CF : Hid (∀ W, Calls Try.prog 7 #[.agg #[.int .i64 b, .int .i64 s, .int .i64 g, .int .i64 u, .int .i64 z, .int .i64 o]] W fun e w' => (∃ k : CfgM, e = .returned k.val ∧ k.ok) ∧ Below W.heap.size W w') := fun W => config_any b s g u z o W fb fs fg fu fz fo
  have PK : Hid (∀ (c : Int) (n : Nat) (W : World), fits c → 0 < n → n ≤ 2000000000000000 → Calls Try.prog 8 #[.int .i64 c, .int .i64 n] W fun r w' => r = .returned (.int .i64 (pickN c n)) ∧ w' = W) := fun c n W hc hn hm => kpick_any c n W hc hn hm
  have FR : Hid (∀ (k : CfgM) (W : World), k.ok → Calls Try.prog 9 #[.agg #[.int .i64 k.b, .int .i64 k.s, .int .i64 k.g, .int .i64 k.u, .int .i64 k.z, .int .i64 k.o]] W fun e w' => ∃ x hm, e = .returned (.pointer (some ⟨x, 0, none⟩)) ∧ Below W.heap.size W w' ∧ KAt HS W.heap.size w' x hm (st0 k) k.cf k.b) := fun k W hk => fresh_keep P k hk W
  have H : Hid (IntsIn w p0 plen ints ∧ Pact3 HS Room) := ⟨HP, P⟩
  clear HP P fb fs fg fu fz fo
  go_enter Try.func3, Try.ntmps3
  go_wp2_with fail
  refine Calls.mono (CF.out _) ?_
  rintro e w1 ⟨⟨k, rfl, hk⟩, hb⟩
  have hL := boxed' hb
  obtain ⟨kb, ks, kg, ku, kz, ko⟩ := k
  have hB := CfgM.bounds hk
  simp only at hB
  have hs1 : w.heap.size + 1 ≤ w1.heap.size := by have := hb.size; simpa using this
  have B1 : Hid (Below w.heap.size w w1) := ((Below.refl _ _).alloc (Nat.le_refl _) _).trans (hb.mono (by simp))
  obtain ⟨x0, x1, x2, x3, x4, x5, xf⟩ := box6 hL
  have f0 := xf 0
  have f1 := xf 1
  have f2 := xf 2
  have f3 := xf 3
  have f4 := xf 4
  have f5 := xf 5
  have HL : Hid (w1.heap[w.heap.size]? = some (.cells #[.int .i64 b, .int .i64 s, .int .i64 g, .int .i64 u, .int .i64 z, .int .i64 o] 23)) := hL
  clear hb hL hk xf CF
  have hpz : pickN (kz : Int) 82 < 82 := pickN_lt _ _ (by decide)
  have P3 : Hid (∀ W, Calls Try.prog 8 #[.int .i64 kz, .int .i64 82] W fun r w' => r = .returned (.int .i64 (pickN (kz : Int) 82)) ∧ w' = W) := fun W => PK.out (kz : Int) 82 W ⟨by omega, by omega⟩ (by decide) (by decide)
  obtain ⟨ez, hez⟩ : ∃ ez, pickN (kz : Int) 82 = ez := ⟨_, rfl⟩
  rw [hez] at P3 hpz
  clear hez
  unfold CfgM.val
  simp only
  go_wp2_with fail
  obtain ⟨w2, hw2⟩ : ∃ w2, (((((((((w1.setCell ⟨w.heap.size, 0, none⟩ (.int .i64 kb)).setCell ⟨w.heap.size, 1, none⟩ (.int .i64 ks)).setCell ⟨w.heap.size, 2, none⟩ (.int .i64 kg)).setCell ⟨w.heap.size, 3, none⟩ (.int .i64 ku)).setCell ⟨w.heap.size, 4, none⟩ (.int .i64 kz)).setCell ⟨w.heap.size, 5, none⟩ (.int .i64 ko)).setCell ⟨w.heap.size, 0, none⟩ (.int .i64 99)).setCell ⟨w.heap.size, 1, none⟩ (.int .i64 16)).setCell ⟨w.heap.size, 2, none⟩ (.int .i64 1)) = w2 := ⟨_, rfl⟩
  rw [hw2]
  have hL2 : w2.heap[w.heap.size]? = some (.cells #[.int .i64 99, .int .i64 16, .int .i64 1, .int .i64 ku, .int .i64 kz, .int .i64 ko] 23) := by
    have h6 := set6_heap HL.out (.int .i64 kb) (.int .i64 ks) (.int .i64 kg) (.int .i64 ku) (.int .i64 kz) (.int .i64 ko)
    have h7 := heap_setCell_at (i := 0) h6 (.int .i64 99)
    have h8 := heap_setCell_at (i := 1) h7 (.int .i64 16)
    have h9 := heap_setCell_at (i := 2) h8 (.int .i64 1)
    rw [hw2] at h9
    simpa using h9
  have B2 : Hid (Below w.heap.size w w2) := by
    show Below w.heap.size w w2
    rw [← hw2]
    exact (((set6_below B1.out (Nat.le_refl _) _ _ _ _ _ _).setCell (Nat.le_refl _) _).setCell (Nat.le_refl _) _).setCell (Nat.le_refl _) _
  have hs2 : w.heap.size < w2.heap.size := lt_of_heap hL2
  clear x0 x1 x2 x3 x4 x5 f0 f1 f2 f3 f4 f5 HL B1 hw2 hs1
  obtain ⟨x0, x1, x2, x3, x4, x5, xf⟩ := box6 hL2
  have f4 := xf 4
  have HL : Hid (w2.heap[w.heap.size]? = some (.cells #[.int .i64 99, .int .i64 16, .int .i64 1, .int .i64 ku, .int .i64 kz, .int .i64 ko] 23)) := hL2
  clear hL2 xf
  refine Calls.mono (P3.out _) ?_
  rintro e w2' ⟨rfl, hw⟩
  subst hw
  clear P3
  have eok : CfgM.ok ⟨99, 16, 1, ku, 18 + ez, ko⟩ := by
    show cfgB _ _ _ _ _ _ = true
    simp [cfgB]; omega
  have F1 : Hid (∀ W, Calls Try.prog 9 #[.agg #[.int .i64 99, .int .i64 16, .int .i64 1, .int .i64 ku, .int .i64 (18 + (ez : Int)), .int .i64 ko]] W fun e w' => ∃ x hm, e = .returned (.pointer (some ⟨x, 0, none⟩)) ∧ Below W.heap.size W w' ∧ KAt HS W.heap.size w' x hm (st0 ⟨99, 16, 1, ku, 18 + ez, ko⟩) (CfgM.cf ⟨99, 16, 1, ku, 18 + ez, ko⟩) 99) := fun W => by
    have := FR.out ⟨99, 16, 1, ku, 18 + ez, ko⟩ W eok
    rw [show (((18 + ez : Nat)) : Int) = 18 + (ez : Int) by omega] at this
    exact this
  clear FR eok
  go_wp2_with fail
  refine Calls.mono (F1.out _) ?_
  rintro e w4 ⟨x, hmx, rfl, hb4, hK4⟩
  have hL3 : (w2'.setCell ⟨w.heap.size, 4, none⟩ (.int .i64 (18 + (ez : Int)))).heap[w.heap.size]? = some (.cells #[.int .i64 99, .int .i64 16, .int .i64 1, .int .i64 ku, .int .i64 (18 + (ez : Int)), .int .i64 ko] 23) := by
    have := heap_setCell_at (i := 4) HL.out (.int .i64 (18 + (ez : Int)))
    simpa using this
  have B3 : Below w.heap.size w (w2'.setCell ⟨w.heap.size, 4, none⟩ (.int .i64 (18 + (ez : Int)))) := B2.out.setCell (Nat.le_refl _) _
  obtain ⟨w3, hw3⟩ : ∃ w3, w2'.setCell ⟨w.heap.size, 4, none⟩ (.int .i64 (18 + (ez : Int))) = w3 := ⟨_, rfl⟩
  rw [hw3] at hb4 hK4 hL3 B3
  obtain ⟨cf, hcf⟩ : ∃ cf, CfgM.cf ⟨99, 16, 1, ku, 18 + ez, ko⟩ = cf := ⟨_, rfl⟩
  have hp0 := plan_start hK4
  rw [hcf] at hp0
  have hd16 : cf.deep = 16 := by rw [← hcf]; rfl
  have hbud : cf.budget = ku := by rw [← hcf]; rfl
  have B34 : Below w.heap.size w w4 := B3.trans (hb4.mono B3.size)
  have hL4 : w4.heap[w.heap.size]? = some (.cells #[.int .i64 99, .int .i64 16, .int .i64 1, .int .i64 ku, .int .i64 (18 + (ez : Int)), .int .i64 ko] 23) := by rw [hb4.block _ (lt_of_heap hL3)]; exact hL3
  have hsB : w.heap.size < w3.heap.size := lt_of_heap hL3
  obtain ⟨B, hBB⟩ : ∃ B, w3.heap.size = B := ⟨_, rfl⟩
  rw [hBB] at hp0 hsB
  have CB : Hid (∀ V, Below B w4 V → V.heap[w.heap.size]? = some (.cells #[.int .i64 99, .int .i64 16, .int .i64 1, .int .i64 ku, .int .i64 (18 + (ez : Int)), .int .i64 ko] 23)) := fun V hV => by rw [hV.block _ hsB]; exact hL4
  have BW : Hid (∀ V, Below B w4 V → Below w.heap.size w V) := fun V hV => B34.trans (hV.mono (by omega))
  have PL0 : Hid (Plan HS B x cf 0 [] (.slice none 0 0) w4) := hp0
  have INT : Hid (∀ j, j < plen → ∃ sb off, p0 = some ⟨sb, off, none⟩ ∧ fits (ints j) ∧ ∀ V, Below B w4 V → V.cell? ⟨sb, off + j, none⟩ = some (.int .i64 (ints j))) := fun j hj => by
    obtain ⟨sb, off, e1, h1, h2, h3⟩ := H.out.1 j hj
    exact ⟨sb, off, e1, h2, fun V hV => ((BW.out V hV).cell (p := ⟨sb, off + j, none⟩) h1).trans h3⟩
  have PP : Hid (Pact3 HS Room) := H.out.2
  clear hb4 hK4 hL3 B3 hw3 hcf hp0 B34 hL4 hsB hBB x0 x1 x2 x3 x4 x5 f4 HL B2 hs2 F1 H hpz
  have DR : Hid (∀ (j a : Nat) (H0 : List Nat) ao cap V, Plan HS B x cf j (H0 ++ [a]) (.slice ao (H0.length + 1) cap) V → Calls Try.prog 10 #[.pointer (some ⟨x, 0, none⟩), .int .i64 4, .int .i64 0] V fun e w' => e = .returned (.tuple #[.int .i64 0, .int .i64 0]) ∧ Plan HS B x cf j H0 (.slice ao H0.length cap) w' ∧ Below B V w') := fun j a H0 ao cap V q => q.drop PP.out
  have BU : Hid (∀ (j : Nat) (H0 : List Nat) (v : Value) V (y : Nat), Plan HS B x cf j H0 v V → j < 99 → H0.length ≤ 13 → y ≤ 2000000000000000 → Calls Try.prog 11 #[.pointer (some ⟨x, 0, none⟩), v, .int .i64 y] V fun e w' => ∃ H' v', e = .returned (.tuple #[v', .bool true]) ∧ Plan HS B x cf (j + 1) H' v' w' ∧ H'.length ≤ H0.length + 1 ∧ Below B V w') := fun j H0 v V y q h1 h2 h3 => built_any PP.out q h1 h2 hd16 y h3
  have PI : Hid (∀ (c : Int) W, fits c → Calls Try.prog 8 #[.int .i64 c, .int .i64 1125899906842624] W fun r w' => ∃ y : Nat, r = .returned (.int .i64 y) ∧ y ≤ 2000000000000000 ∧ w' = W) := fun c W hc => (PK.out c 1125899906842624 W hc (by decide) (by decide)).mono fun r w' ⟨h1, h2⟩ => ⟨_, h1, by have := pickN_lt c 1125899906842624 (by decide); omega, h2⟩
  clear PK
  go_wp2
  go_loopw [6, 7] (fun hd ii wr => ∃ (j : Nat) (Hl : List Nat) (v : Value), j ≤ 99 ∧ j ≤ plen ∧ ii = .int .i64 j ∧ v = hd ∧ Plan HS B x cf j Hl v wr ∧ Hl.length ≤ 14 ∧ Below B w4 wr) (fun _ ii _ => 99 - (intOf ii).toNat)
  case atStart => exact ⟨0, [], _, by omega, by omega, rfl, rfl, PL0.out, by simp, Below.refl _ _⟩
  case round =>
    obtain ⟨j, Hl, v, hj, hjp, rfl, rfl, hpl', hlen, hbw⟩ := hrel
    obtain ⟨ao, cap, rfl⟩ := hpl'.slice
    have hcap := hpl'.room rfl
    have M : Hid (Plan HS B x cf j Hl (.slice ao Hl.length cap) wr ∧ Below B w4 wr) := ⟨hpl', hbw⟩
    clear hpl' hbw PL0
    by_cases hgo : j < plen ∧ j < 99
    · obtain ⟨g1, g2⟩ := hgo
      have g1I : (j : Int) < plen := by omega
      have g2I : (j : Int) < 99 := by omega
      obtain ⟨sb, off, rfl, fj, hint⟩ := INT.out j g1
      have IC : Hid _ := hint
      obtain ⟨yi, hyi⟩ : ∃ yi, ints j = yi := ⟨_, rfl⟩
      rw [hyi] at IC fj
      have FJ : Hid (fits yi) := fj
      clear hint hyi fj
      by_cases h13 : 13 < Hl.length
      · obtain ⟨H0, b0, rfl⟩ : ∃ H0 b0, Hl = H0 ++ [b0] := ⟨Hl.dropLast, Hl.getLast (by intro e; rw [e] at h13; simp at h13), (List.dropLast_concat_getLast _).symm⟩
        have hle : (H0 ++ [b0]).length = H0.length + 1 := by simp
        rw [hle] at M h13 hlen hcap ⊢
        have D1 : Hid _ := DR.out j b0 H0 ao cap wr M.out.1
        have h13I : (13 : Int) < (H0.length : Int) + 1 := by omega
        have hcI : (H0.length : Int) ≤ cap := by omega
        go_wp2_with fail
        refine Calls.mono D1.out ?_
        rintro e w5 ⟨rfl, hp5, hb5⟩
        have M5 : Hid (Plan HS B x cf j H0 (.slice ao H0.length cap) w5 ∧ Below B w4 w5) := ⟨hp5, M.out.2.trans hb5⟩
        have ci := IC.out w5 M5.out.2
        clear hp5 hb5 D1
        go_wp2_with fail
        refine Calls.mono (PI.out _ _ FJ.out) ?_
        rintro e w6 ⟨y, rfl, hy, hw6⟩
        subst hw6
        have B6 : Hid _ := BU.out j H0 _ w6 y M5.out.1 g2 (by omega) hy
        clear hy
        go_wp2_with fail
        refine Calls.mono B6.out ?_
        rintro e w7 ⟨H', v', rfl, hp7, hl7, hb7⟩
        have M7 : Hid (Plan HS B x cf (j + 1) H' v' w7 ∧ H'.length ≤ 14 ∧ Below B w4 w7) := ⟨hp7, by omega, M5.out.2.trans hb7⟩
        clear hp7 hl7 hb7 B6 ci
        go_wp2
        go_roundw
        case rel => exact ⟨j + 1, H', v', by omega, by omega, by go_num, rfl, M7.out.1, M7.out.2.1, M7.out.2.2⟩
        case measure => simp [intOf]; omega
      · have h13I : ¬ (13 : Int) < (Hl.length : Int) := by omega
        have ci := IC.out wr M.out.2
        go_wp2_with fail
        refine Calls.mono (PI.out _ _ FJ.out) ?_
        rintro e w6 ⟨y, rfl, hy, hw6⟩
        subst hw6
        have B6 : Hid _ := BU.out j Hl _ w6 y M.out.1 g2 (by omega) hy
        clear hy
        go_wp2_with fail
        refine Calls.mono B6.out ?_
        rintro e w7 ⟨H', v', rfl, hp7, hl7, hb7⟩
        have M7 : Hid (Plan HS B x cf (j + 1) H' v' w7 ∧ H'.length ≤ 14 ∧ Below B w4 w7) := ⟨hp7, by omega, M.out.2.trans hb7⟩
        clear hp7 hl7 hb7 B6 ci
        go_wp2
        go_roundw
        case rel => exact ⟨j + 1, H', v', by omega, by omega, by go_num, rfl, M7.out.1, M7.out.2.1, M7.out.2.2⟩
        case measure => simp [intOf]; omega
    · have hA : (¬ (j : Int) < plen) ∨ ((j : Int) < plen ∧ ¬ (j : Int) < 99) := by omega
      have hLc := CB.out wr M.out.2
      obtain ⟨y0, y1, y2, y3, y4, y5, _⟩ := box6 hLc
      have EM : Hid _ := emptied_any PP.out (M.out.1.low.mono (show Hl.length ≤ 16 by omega)) 99 ku (18 + (ez : Int)) ko
      have GA : Hid (∀ (k : Nat) K V, Bare HS B x cf k K V → Calls Try.prog 13 #[.pointer (some ⟨x, 0, none⟩)] V fun e w' => (∃ a b d : Int, e = .returned (.agg #[.int .i64 (99 - (k : Int)), .int .i64 a, .int .i64 b, .int .i64 d, .int .i64 0])) ∧ Bare HS B x cf k K w' ∧ Below B V w' ∧ k ≤ 99) := fun k K V q => q.gauge PP.out
      have SA : Hid (∀ (k : Nat) K V, Bare HS B x cf k K V → Calls Try.prog 14 #[.pointer (some ⟨x, 0, none⟩)] V fun e w' => e = .returned (.int .i64 (min ku k : Nat)) ∧ Bare HS B x cf (k - min ku k) K w' ∧ Below B V w') := fun k K V q => q.safe PP.out hbud
      have M2 : Hid (Below B w4 wr) := M.out.2
      clear hLc hgo M DR BU PI INT PP hcap hlen hd16 hbud
      rcases hA with hA | ⟨hA, hA2⟩
      all_goals
        go_wp2_with fail
        refine Calls.mono EM.out ?_
        rintro e w5 ⟨rfl, hp5, hb5⟩
        have M5 : Hid (Bare HS B x cf j [] w5 ∧ Below B w4 w5) := ⟨hp5, M2.out.trans hb5⟩
        clear hp5 hb5 EM y0 y1 y2 y3 y4 y5
        go_wp2_with fail
        refine Calls.mono (GA.out _ _ _ M5.out.1) ?_
        rintro e w6 ⟨⟨ga, gb, gd, rfl⟩, hp6, hb6, h99⟩
        have M6 : Hid (Bare HS B x cf j [] w6 ∧ Below B w4 w6) := ⟨hp6, M5.out.2.trans hb6⟩
        have hLc := CB.out w6 M6.out.2
        have hlt6 := lt_of_heap hLc
        obtain ⟨y0, y1, y2, y3, y4, y5, _⟩ := box6 hLc
        clear hp6 hb6 hLc
        go_wp2_with fail
        obtain ⟨gbox, hgb⟩ : ∃ gbox : Obj, Obj.cells #[.int .i64 (99 - (j : Int)), .int .i64 ga, .int .i64 gb, .int .i64 gd, .int .i64 0] 36 = gbox := ⟨_, rfl⟩
        have HG : Hid (Obj.cells #[.int .i64 (99 - (j : Int)), .int .i64 ga, .int .i64 gb, .int .i64 gd, .int .i64 0] 36 = gbox) := hgb
        have L0 : Hid (Bare HS B x cf j [(w6.heap.size, gbox)] (w6.alloc gbox) ∧ Below B w4 (w6.alloc gbox)) := ⟨M6.out.1.box _, M6.out.2.alloc M6.out.1.size _⟩
        rw [hgb]
        clear y0 y1 y2 y3 y4 y5 M5 M6 M2 hgb
        go_loopw [15] (fun lf wq => ∃ q : Nat, q ≤ 99 ∧ lf = .int .i64 q ∧ Bare HS B x cf q [(w6.heap.size, gbox)] wq ∧ Below B w4 wq) (fun lf _ => (intOf lf).toNat)
        case atStart => exact ⟨j, h99, by congr 1; omega, L0.out.1, L0.out.2⟩
        case round =>
          obtain ⟨q, hq9, rfl, hbare, hbw⟩ := hrel
          have M : Hid (Bare HS B x cf q [(w6.heap.size, gbox)] wr ∧ Below B w4 wr) := ⟨hbare, hbw⟩
          have hLc := CB.out wr hbw
          obtain ⟨y0, y1, y2, y3, y4, y5, _⟩ := box6 hLc
          clear hbare hbw hLc L0
          rcases Nat.eq_zero_or_pos q with h0 | h0
          · subst h0
            clear y0 y1 y2 y3 y4 y5
            go_wp2_with fail
            refine Calls.mono (GA.out _ _ _ M.out.1) ?_
            rintro e w8 ⟨⟨ha, hb, hc, rfl⟩, hp8, hb8, _⟩
            have hg8 := hp8.kept (L := w6.heap.size) (ob := gbox) (by simp)
            rw [← HG.out] at hg8
            have B8 : Hid (Below B w4 w8 ∧ w8.heap[w6.heap.size]? = some (.cells #[.int .i64 (99 - (j : Int)), .int .i64 ga, .int .i64 gb, .int .i64 gd, .int .i64 0] 36)) := ⟨M.out.2.trans hb8, hg8⟩
            have z0 : w8.cell? ⟨w6.heap.size, 0, none⟩ = some (.int .i64 (99 - (j : Int))) := cell_of_heap hg8 rfl
            have z1 : w8.cell? ⟨w6.heap.size, 1, none⟩ = some (.int .i64 ga) := cell_of_heap hg8 rfl
            have z2 : w8.cell? ⟨w6.heap.size, 2, none⟩ = some (.int .i64 gb) := cell_of_heap hg8 rfl
            have z3 : w8.cell? ⟨w6.heap.size, 3, none⟩ = some (.int .i64 gd) := cell_of_heap hg8 rfl
            have z4 : w8.cell? ⟨w6.heap.size, 4, none⟩ = some (.int .i64 0) := cell_of_heap hg8 rfl
            have zf0 : w8.frozen? ⟨w6.heap.size, 0, none⟩ = false := frozen_of_heap hg8
            have zf1 : w8.frozen? ⟨w6.heap.size, 1, none⟩ = false := frozen_of_heap hg8
            have zf2 : w8.frozen? ⟨w6.heap.size, 2, none⟩ = false := frozen_of_heap hg8
            have zf3 : w8.frozen? ⟨w6.heap.size, 3, none⟩ = false := frozen_of_heap hg8
            have zf4 : w8.frozen? ⟨w6.heap.size, 4, none⟩ = false := frozen_of_heap hg8
            have hLc := CB.out w8 B8.out.1
            have y0 : w8.cell? ⟨w.heap.size, 0, none⟩ = some (.int .i64 99) := cell_of_heap hLc rfl
            have hne : w6.heap.size ≠ w.heap.size := Nat.ne_of_gt hlt6
            clear hg8 hp8 hb8 hLc
            go_wp2
            go_ret
            have hle : w.heap.size ≤ w6.heap.size := Nat.le_of_lt hlt6
            exact ⟨rfl, (((((BW.out w8 B8.out.1).setCell hle _).setCell hle _).setCell hle _).setCell hle _).setCell hle _⟩
          · have h0I : (0 : Int) < q := by omega
            by_cases hqu : q < ku
            · have hquI : (q : Int) < ku := by omega
              have S1 : Hid (Calls Try.prog 14 #[.pointer (some ⟨x, 0, none⟩)] wr fun e w' => e = .returned (.int .i64 q) ∧ Bare HS B x cf 0 [(w6.heap.size, gbox)] w' ∧ Below B w4 w') := (SA.out _ _ _ M.out.1).mono fun e w' ⟨h1, h2, h3⟩ => by
                rw [show min ku q = q by omega] at h1 h2
                rw [Nat.sub_self] at h2
                exact ⟨h1, h2, M.out.2.trans h3⟩
              go_wp2_with fail
              refine Calls.mono S1.out ?_
              rintro e w8 ⟨rfl, hp8, hb8⟩
              have M8 : Hid (Bare HS B x cf 0 [(w6.heap.size, gbox)] w8 ∧ Below B w4 w8) := ⟨hp8, hb8⟩
              clear hp8 hb8 S1 y0 y1 y2 y3 y4 y5
              go_wp2
              go_roundw
              case rel => exact ⟨0, by omega, by go_num, M8.out.1, M8.out.2⟩
              case measure => simp [intOf]; omega
            · have hquI : ¬ (q : Int) < ku := by omega
              have S1 : Hid (Calls Try.prog 14 #[.pointer (some ⟨x, 0, none⟩)] wr fun e w' => e = .returned (.int .i64 ku) ∧ Bare HS B x cf (q - ku) [(w6.heap.size, gbox)] w' ∧ Below B w4 w') := (SA.out _ _ _ M.out.1).mono fun e w' ⟨h1, h2, h3⟩ => by
                rw [show min ku q = ku by omega] at h1 h2
                exact ⟨h1, h2, M.out.2.trans h3⟩
              go_wp2_with fail
              refine Calls.mono S1.out ?_
              rintro e w8 ⟨rfl, hp8, hb8⟩
              have M8 : Hid (Bare HS B x cf (q - ku) [(w6.heap.size, gbox)] w8 ∧ Below B w4 w8) := ⟨hp8, hb8⟩
              clear hp8 hb8 S1 y0 y1 y2 y3 y4 y5
              go_wp2
              go_roundw
              case rel => exact ⟨q - ku, by omega, by congr 1; omega, M8.out.1, M8.out.2⟩
              case measure => simp [intOf]; omega

end Go.Proofs.Ytpmkjeihbddfpaa

