import Derived.Test.YtpmkjeihbddfpabGreatDoorAllB4
import Derived.Deep.RegionWith
/- OUR OWN. The document's heap: moves, by operation. -/
namespace Go.Proofs.YtpmkjeihbddfpabGreatDoor
open Go.RowKit
set_option linter.unusedVariables false
set_option linter.unusedSimpArgs false

def FreeClean (m : RefM) : Prop := ∀ o ∈ m.objs, o.here = false → o.queued = false

structure RPre (h N : Nat) (w : World) (m : RefM) : Prop where
  r : RefAt w h m
  ok : m.Ok N
  clean : FreeClean m
  inv : m.st.Inv N
  deep : m.deep ≤ 16

structure RStep (h N : Nat) (w : World) (m : RefM) (w' : World) (m' : RefM) : Prop where
  turn : Turn h w m w' m'
  ok : m'.Ok N
  cf : m'.cf = m.cf
  clean : FreeClean m'

theorem RStep.of_below {h N : Nat} {w w' : World} {m : RefM} (p : RPre h N w m) (hb : Below w.heap.size w w') : RStep h N w m w' m := ⟨.of_below p.r hb, p.ok, rfl, p.clean⟩
theorem RStep.refl {h N : Nat} {w : World} {m : RefM} (p : RPre h N w m) : RStep h N w m w m := ⟨.refl p.r, p.ok, rfl, p.clean⟩
theorem RStep.trans {h N : Nat} {w w1 w2 : World} {m m1 m2 : RefM} (a : RStep h N w m w1 m1) (b : RStep h N w1 m1 w2 m2) : RStep h N w m w2 m2 := ⟨a.turn.trans b.turn, b.ok, b.cf.trans a.cf, b.clean⟩
theorem RStep.after {h N : Nat} {w w1 w2 : World} {m m1 : RefM} (a : RStep h N w m w1 m1) (hb : Below w1.heap.size w1 w2) : RStep h N w m w2 m1 := ⟨a.turn.after hb, a.ok, a.cf, a.clean⟩
theorem RStep.pre {h N : Nat} {w w' : World} {m m' : RefM} (a : RStep h N w m w' m') (p : RPre h N w m) (hi : m'.st.Inv N) : RPre h N w' m' := ⟨a.turn.here, a.ok, a.clean, hi, by have h1 : m'.deep = m.deep := congrArg Cf.deep a.cf; rw [h1]; exact p.deep⟩
theorem RPre.below {h N : Nat} {w w' : World} {m : RefM} (p : RPre h N w m) (hb : Below w.heap.size w w') : RPre h N w' m := ⟨(Turn.of_below p.r hb).here, p.ok, p.clean, p.inv, p.deep⟩

def RDid (h N : Nat) (w : World) (m : RefM) (p : St × Int × Int) (e : Ending) (w' : World) : Prop := e = .returned (.int .i64 p.2.2) ∧ ∃ m', RStep h N w m w' m' ∧ m'.st = p.1

theorem push_do {h N : Nat} {w : World} {m : RefM} (p : RPre h N w m) (x : Int × Int) :
    Calls Tryz.prog 91 #[.pointer (some ⟨h, 0, none⟩), .agg #[.int .i64 x.1, .int .i64 x.2]] w (RDid h N w m (pushA m.deep m.st x)) := by
  by_cases hd : m.deep ≤ m.stack.length
  · have e : pushA m.deep m.st x = (m.st, 0, 7) := by unfold pushA pushS; rw [if_pos (show m.deep ≤ (m.st.stack.length : Int) from hd)]
    refine (push_full p.r p.ok.stack x hd).mono fun e' w' ⟨he, hb⟩ => ?_
    rw [e]
    exact ⟨he, m, .of_below p hb, rfl⟩
  · have e : pushA m.deep m.st x = ({ m.st with stack := m.stack ++ [x] }, 0, 0) := by unfold pushA pushS; rw [if_neg (show ¬ m.deep ≤ (m.st.stack.length : Int) from hd)]; rfl
    refine (push_room p.r p.ok.stack x (by omega)).mono fun e' w' ⟨he, v', ht⟩ => ?_
    rw [e]
    refine ⟨he, _, ⟨ht, ⟨p.ok.most, p.ok.len, p.ok.small, p.ok.fields, ?_, p.ok.globals, p.ok.queue⟩, rfl, p.clean⟩, rfl⟩
    have := p.deep
    simp; omega

theorem pop_do {h N : Nat} {w : World} {m : RefM} (p : RPre h N w m) (n : Nat) (hn : n ≤ m.stack.length) (h0 : 0 < m.stack.length) :
    Calls Tryz.prog 94 #[.pointer (some ⟨h, 0, none⟩), .int .i64 n] w fun e w' => e = .returned (.tuple #[]) ∧ ∃ v', RStep h N w m w' { m with vS := v', stack := m.stack.take (m.stack.length - n) } := by
  refine (pop_any p.r p.ok.stack n hn h0).mono fun e' w' ⟨he, v', ht⟩ => ⟨he, v', ht, ⟨p.ok.most, p.ok.len, p.ok.small, p.ok.fields, ?_, p.ok.globals, p.ok.queue⟩, rfl, p.clean⟩
  have := p.ok.stack
  simp; omega

theorem st_down (m : RefM) (k : Nat) (hk : k < m.stack.length) : m.stack[m.stack.length - 1 - k]'(by omega) = m.st.down k := by
  unfold St.down
  rw [List.getD_eq_getElem?_getD]
  show _ = (m.stack[m.stack.length - 1 - k]?).getD _
  rw [List.getElem?_eq_getElem (by omega)]
  rfl

theorem down_do {h N : Nat} {w : World} {m : RefM} (p : RPre h N w m) (k : Nat) (hk : k < m.stack.length) :
    Calls Tryz.prog 92 #[.pointer (some ⟨h, 0, none⟩), .int .i64 k] w
      fun e w' => e = .returned (.agg #[.int .i64 (m.st.down k).1, .int .i64 (m.st.down k).2]) ∧ Below w.heap.size w w' := by
  have := down_any p.r p.ok.stack k hk
  rw [st_down m k hk] at this
  exact this

theorem RPre.stackCell {h N : Nat} {w : World} {m : RefM} (p : RPre h N w m) : ∃ ao cap, w.cell? ⟨h, 7, none⟩ = some (.slice ao m.stack.length cap) := by
  obtain ⟨ao, cap, hv⟩ := own_slice p.r.stack
  exact ⟨ao, cap, by rw [p.r.cell.2.2.2.2.2.2.2.1, hv]⟩

def MovesSays (op : Int) (f : Int → St → Int → St × Int × Int) : Prop := ∀ (h N : Nat) (w : World) (m : RefM) (n : Int), RPre h N w m →
  Calls Tryz.prog 62 #[.pointer (some ⟨h, 0, none⟩), .int .i64 op, .int .i64 n] w (RDid h N w m (f m.deep m.st n))

set_option maxHeartbeats 400000 in
theorem moves_nil : MovesSays 0 (fun d s _ => pushA d s (0, 0)) := by
  intro h N w m n p
  have PU := push_do p (0, 0)
  have P : Hid _ := PU
  clear PU p
  go_enter Tryz.func62, Tryz.ntmps62
  go_wp2_with fail
  refine Calls.mono P.out ?_
  rintro e w1 ⟨rfl, hm⟩
  have M : Hid _ := hm
  clear hm P
  go_wp2
  go_ret
  exact ⟨rfl, M.out⟩

set_option maxHeartbeats 400000 in
theorem moves_int : MovesSays 1 (fun d s n => pushA d s (1, n)) := by
  intro h N w m n p
  have PU := push_do p (1, n)
  have P : Hid _ := PU
  clear PU p
  go_enter Tryz.func62, Tryz.ntmps62
  go_wp2_with fail
  refine Calls.mono P.out ?_
  rintro e w1 ⟨rfl, hm⟩
  have M : Hid _ := hm
  clear hm P
  go_wp2
  go_ret
  exact ⟨rfl, M.out⟩

set_option maxHeartbeats 800000 in
theorem moves_dup : MovesSays 3 (fun d s n => dupS d s n) := by
  intro h N w m n p
  obtain ⟨ao, cap, cS⟩ := p.stackCell
  have hl := p.ok.stack
  by_cases hc : n < 0 ∨ (m.stack.length : Int) ≤ n
  · have e : dupS m.deep m.st n = (m.st, 0, 6) := by unfold dupS; exact if_pos hc
    simp only [e]
    have K : Hid (∃ m', RStep h N w m w m' ∧ m'.st = m.st) := ⟨m, .refl p, rfl⟩
    obtain ⟨len, hlen⟩ : ∃ len, m.stack.length = len := ⟨_, rfl⟩
    rw [hlen] at hc cS hl
    clear p e hlen
    rcases hc with hc | hc
    · go_enter Tryz.func62, Tryz.ntmps62
      go_wp2
      go_ret
      exact ⟨rfl, K.out⟩
    · have hn : ¬ n < 0 := by omega
      go_enter Tryz.func62, Tryz.ntmps62
      go_wp2
      go_ret
      exact ⟨rfl, K.out⟩
  · obtain ⟨k, rfl⟩ : ∃ k : Nat, n = k := ⟨n.toNat, by omega⟩
    have hk : k < m.stack.length := by omega
    have e : dupS m.deep m.st k = pushA m.deep m.st (m.st.down k) := by unfold dupS; exact (if_neg hc).trans (by rw [Int.toNat_natCast])
    simp only [e]
    have DN := down_do p k hk
    have D : Hid _ := DN
    have PU : Hid (∀ W, Below w.heap.size w W → Calls Tryz.prog 91 #[.pointer (some ⟨h, 0, none⟩), .agg #[.int .i64 (m.st.down k).1, .int .i64 (m.st.down k).2]] W fun e w' => RDid h N w m (pushA m.deep m.st (m.st.down k)) e w') :=
      fun W hb => (push_do (p.below hb) (m.st.down k)).mono fun e w' ⟨he, m', hs, hm⟩ => ⟨he, m', (RStep.of_below p hb).trans hs, hm⟩
    obtain ⟨len, hlen⟩ : ∃ len, m.stack.length = len := ⟨_, rfl⟩
    rw [hlen] at hc cS hl hk
    obtain ⟨x, hx⟩ : ∃ x, m.st.down k = x := ⟨_, rfl⟩
    rw [hx] at D PU ⊢
    obtain ⟨x1, x2⟩ := x
    clear p e DN hlen hx hc
    have hkI : (k : Int) < len := by omega
    go_enter Tryz.func62, Tryz.ntmps62
    go_wp2_with fail
    refine Calls.mono D.out ?_
    rintro e w1 ⟨rfl, hb⟩
    have B : Hid (Below w.heap.size w w1) := hb
    clear hb D
    go_wp2_with fail
    refine Calls.mono (PU.out _ (B.out.alloc B.out.size _)) ?_
    rintro e w2 ⟨rfl, hm⟩
    have M : Hid _ := hm
    clear hm PU
    go_wp2
    go_ret
    exact ⟨rfl, M.out⟩

set_option maxHeartbeats 400000 in
theorem moves_drop : MovesSays 4 (fun _ s _ => dropS s) := by
  intro h N w m n p
  obtain ⟨ao, cap, cS⟩ := p.stackCell
  have hl := p.ok.stack
  by_cases hc : m.stack.length < 1
  · have e : dropS m.st = (m.st, 0, 3) := by unfold dropS; rw [if_pos (show m.st.stack.length < 1 from hc)]
    simp only [e]
    have K : Hid (∃ m', RStep h N w m w m' ∧ m'.st = m.st) := ⟨m, .refl p, rfl⟩
    obtain ⟨len, hlen⟩ : ∃ len, m.stack.length = len := ⟨_, rfl⟩
    rw [hlen] at hc cS hl
    clear p e hlen
    obtain rfl : len = 0 := by omega
    go_enter Tryz.func62, Tryz.ntmps62
    go_wp2
    go_ret
    exact ⟨rfl, K.out⟩
  · have e : dropS m.st = (m.st.pop 1, 0, 0) := by unfold dropS; rw [if_neg (show ¬ m.st.stack.length < 1 from hc)]
    simp only [e]
    have PO := pop_do p 1 (by omega) (by omega)
    have P : Hid _ := PO
    obtain ⟨len, hlen⟩ : ∃ len, m.stack.length = len := ⟨_, rfl⟩
    rw [hlen] at hc cS hl
    have L : Hid (m.stack.length = len) := hlen
    clear p e hlen PO
    go_enter Tryz.func62, Tryz.ntmps62
    go_wp2_with fail
    refine Calls.mono P.out ?_
    rintro e w1 ⟨rfl, v', hm⟩
    have M : Hid (∃ m', RStep h N w m w1 m' ∧ m'.st = m.st.pop 1) := ⟨_, hm, rfl⟩
    clear hm P
    go_wp2
    go_ret
    exact ⟨rfl, M.out⟩

theorem RPre.globalCell {h N : Nat} {w : World} {m : RefM} (p : RPre h N w m) : ∃ ao cap, w.cell? ⟨h, 8, none⟩ = some (.slice ao m.globals.length cap) := by
  obtain ⟨ao, cap, hv⟩ := own_slice p.r.globals
  exact ⟨ao, cap, by rw [p.r.cell.2.2.2.2.2.2.2.2.1, hv]⟩

/-- the globals' row -/
theorem RefAt.globalView {w : World} {h : Nat} {m : RefM} (r : RefAt w h m) (hs : 0 < m.globals.length) :
    ∃ g cap, m.vG = .slice (some ⟨g, 0, none⟩) m.globals.length cap ∧ g < w.heap.size ∧ g ≠ h ∧ m.vG.ownBlock = some g ∧ (∀ j, w.frozen? ⟨g, j, none⟩ = false) ∧
      ∀ i (hi : i < m.globals.length), w.cell? ⟨g, i * 2, none⟩ = some (.int .i64 (m.globals[i]).1) ∧ w.cell? ⟨g, i * 2 + 1, none⟩ = some (.int .i64 (m.globals[i]).2) := by
  obtain ⟨g, cap, hv, hg, hb, hc, hcell, hf⟩ := own_view r.globals hs
  refine ⟨g, cap, hv, hg, fun e => r.ne (x := vrow m.vG m.globals) (by simp [RefM.rows]) (by rw [← e]; exact hb), hb, hf, fun i hi => ⟨?_, ?_⟩⟩
  · exact hcell _ _ (by have := flat_get valCells 2 (fun _ => rfl) m.globals i 0 (by decide); simpa [hi, valCells] using this)
  · exact hcell _ _ (by have := flat_get valCells 2 (fun _ => rfl) m.globals i 1 (by decide); simpa [hi, valCells] using this)

set_option maxHeartbeats 800000 in
theorem moves_get : MovesSays 5 (fun d s n => getS d s n) := by
  intro h N w m n p
  obtain ⟨ao, cap, cG⟩ := p.globalCell
  have hl := p.ok.globals
  by_cases hc : n < 0 ∨ (m.globals.length : Int) ≤ n
  · have e : getS m.deep m.st n = (m.st, 0, 6) := by unfold getS; exact if_pos hc
    simp only [e]
    have K : Hid (∃ m', RStep h N w m w m' ∧ m'.st = m.st) := ⟨m, .refl p, rfl⟩
    obtain ⟨len, hlen⟩ : ∃ len, m.globals.length = len := ⟨_, rfl⟩
    rw [hlen] at hc cG hl
    clear p e hlen
    rcases hc with hc | hc
    · go_enter Tryz.func62, Tryz.ntmps62
      go_wp2
      go_ret
      exact ⟨rfl, K.out⟩
    · have hn : ¬ n < 0 := by omega
      go_enter Tryz.func62, Tryz.ntmps62
      go_wp2
      go_ret
      exact ⟨rfl, K.out⟩
  · obtain ⟨k, rfl⟩ : ∃ k : Nat, n = k := ⟨n.toNat, by omega⟩
    have hk : k < m.globals.length := by omega
    have e : getS m.deep m.st k = pushA m.deep m.st m.globals[k] := by
      unfold getS
      exact (if_neg hc).trans (by rw [Int.toNat_natCast, List.getD_eq_getElem?_getD]; show pushA _ _ ((m.globals[k]?).getD _) = _; rw [List.getElem?_eq_getElem hk]; rfl)
    simp only [e]
    obtain ⟨g, cap', hv, hg, hgh, _, _, hcell⟩ := p.r.globalView (by omega)
    have cG' : w.cell? ⟨h, 8, none⟩ = some (.slice (some ⟨g, 0, none⟩) m.globals.length cap') := by rw [p.r.cell.2.2.2.2.2.2.2.2.1, hv]
    obtain ⟨c0, c1⟩ := hcell k hk
    have PU := push_do p m.globals[k]
    have P : Hid _ := PU
    obtain ⟨x, hx⟩ : ∃ x, m.globals[k] = x := ⟨_, rfl⟩
    rw [hx] at P c0 c1 ⊢
    obtain ⟨len, hlen⟩ : ∃ len, m.globals.length = len := ⟨_, rfl⟩
    rw [hlen] at hc cG' hl hk
    obtain ⟨x1, x2⟩ := x
    simp only at c0 c1
    clear p e PU hlen hx hc cG hcell hv
    have hkI : (k : Int) < len := by omega
    go_enter Tryz.func62, Tryz.ntmps62
    go_wp2_with fail
    refine Calls.mono P.out ?_
    rintro e w1 ⟨rfl, hm⟩
    have M : Hid _ := hm
    clear hm P
    go_wp2
    go_ret
    exact ⟨rfl, M.out⟩

/-- a global is turned -/
theorem RefAt.globalSet {w : World} {h : Nat} {m : RefM} (r : RefAt w h m) {g cap : Nat} (hv : m.vG = .slice (some ⟨g, 0, none⟩) m.globals.length cap) (k : Nat) (hk : k < m.globals.length) (x : Int × Int) :
    Turn h w m ((w.setCell ⟨g, k * 2, none⟩ (.int .i64 x.1)).setCell ⟨g, k * 2 + 1, none⟩ (.int .i64 x.2)) { m with globals := m.globals.set k x } := by
  have hob : m.vG.ownBlock = some g := by rw [hv]; rfl
  have hgh : g ≠ h := fun e => r.ne (x := vrow m.vG m.globals) (by simp [RefM.rows]) (by rw [← e]; exact hob)
  refine r.turn 3 (vrow m.vG m.globals) (vrow m.vG (m.globals.set k x)) rfl rfl ?_ ?_ ?_ ?_
  · rw [hso (fun e => hgh e.symm), hso (fun e => hgh e.symm)]; exact r.head
  · show (World.setCell _ _ _).ownsRow 0 _ 2 m.vG (m.globals.set k x).length ((m.globals.set k x).flatMap valCells)
    have hi : m.globals[k]? = some m.globals[k] := List.getElem?_eq_getElem hk
    have e1 := flat_set valCells 2 (fun _ => rfl) m.globals k 0 (by decide) _ (.int .i64 x.1) hi (x.1, (m.globals[k]).2) rfl
    have h1 : (m.globals.set k (x.1, (m.globals[k]).2))[k]? = some (x.1, (m.globals[k]).2) := by simp [hk]
    have e2 := flat_set valCells 2 (fun _ => rfl) _ k 1 (by decide) _ (.int .i64 x.2) h1 x rfl
    rw [List.set_set, e1] at e2
    rw [List.length_set, e2, Nat.add_zero]
    have hb := r.globals
    rw [hv] at hb ⊢
    exact ((hb.stored _ _).1.stored _ _).1
  · intro j hj
    exact .inl hj
  · have hm : ∀ y ∈ [g], y ∈ h :: (vrow m.vG m.globals).ob.toList := fun y hy => by simp at hy; subst hy; exact List.mem_cons_of_mem _ (by simp [SRow.ob, vrow, hob])
    exact ((off_setCell w g _ _).mono hm).trans ((off_setCell _ g _ _).mono hm)

set_option maxHeartbeats 1000000 in
theorem moves_set : MovesSays 6 (fun _ s n => setS s n) := by
  intro h N w m n p
  obtain ⟨ao, cap, cG⟩ := p.globalCell
  obtain ⟨so, sc, cS⟩ := p.stackCell
  have hl := p.ok.globals
  have hls := p.ok.stack
  by_cases hc : n < 0 ∨ (m.globals.length : Int) ≤ n
  · have e : setS m.st n = (m.st, 0, 6) := by unfold setS; exact if_pos hc
    simp only [e]
    have K : Hid (∃ m', RStep h N w m w m' ∧ m'.st = m.st) := ⟨m, .refl p, rfl⟩
    obtain ⟨len, hlen⟩ : ∃ len, m.globals.length = len := ⟨_, rfl⟩
    rw [hlen] at hc cG hl
    clear p e hlen
    rcases hc with hc | hc
    · go_enter Tryz.func62, Tryz.ntmps62
      go_wp2
      go_ret
      exact ⟨rfl, K.out⟩
    · have hn : ¬ n < 0 := by omega
      go_enter Tryz.func62, Tryz.ntmps62
      go_wp2
      go_ret
      exact ⟨rfl, K.out⟩
  · obtain ⟨k, rfl⟩ : ∃ k : Nat, n = k := ⟨n.toNat, by omega⟩
    have hk : k < m.globals.length := by omega
    by_cases h0 : m.stack.length < 1
    · have e : setS m.st k = (m.st, 0, 3) := by unfold setS; exact (if_neg hc).trans (if_pos h0)
      simp only [e]
      have K : Hid (∃ m', RStep h N w m w m' ∧ m'.st = m.st) := ⟨m, .refl p, rfl⟩
      obtain ⟨len, hlen⟩ : ∃ len, m.globals.length = len := ⟨_, rfl⟩
      rw [hlen] at hc cG hl hk
      obtain ⟨sl, hsl⟩ : ∃ sl, m.stack.length = sl := ⟨_, rfl⟩
      rw [hsl] at h0 cS hls
      clear p e hlen hc hsl
      obtain rfl : sl = 0 := by omega
      have hkI : (k : Int) < len := by omega
      go_enter Tryz.func62, Tryz.ntmps62
      go_wp2
      go_ret
      exact ⟨rfl, K.out⟩
    · have e : setS m.st k = ({ m.st.pop 1 with globals := m.globals.set k (m.st.down 0) }, 0, 0) := by unfold setS; exact (if_neg hc).trans ((if_neg h0).trans (by rw [Int.toNat_natCast]; rfl))
      simp only [e]
      obtain ⟨g, cap', hv, hg, hgh, _, hfz, hcell⟩ := p.r.globalView (by omega)
      have cG' : w.cell? ⟨h, 8, none⟩ = some (.slice (some ⟨g, 0, none⟩) m.globals.length cap') := by rw [p.r.cell.2.2.2.2.2.2.2.2.1, hv]
      obtain ⟨c0, c1⟩ := hcell k hk
      have hh := lt_of_heap p.r.head
      have DN : Hid (∀ W, Below w.heap.size w W → Calls Tryz.prog 92 #[.pointer (some ⟨h, 0, none⟩), .int .i64 0] W fun e w' => e = .returned (.agg #[.int .i64 (m.st.down 0).1, .int .i64 (m.st.down 0).2]) ∧ Below W.heap.size W w') := fun W hb => down_do (p.below hb) 0 (by show 0 < m.stack.length; omega)
      have FIN : Hid (∀ W, Below w.heap.size w W → RPre h N ((W.setCell ⟨g, k * 2, none⟩ (.int .i64 (m.st.down 0).1)).setCell ⟨g, k * 2 + 1, none⟩ (.int .i64 (m.st.down 0).2)) { m with globals := m.globals.set k (m.st.down 0) } ∧
        RStep h N w m ((W.setCell ⟨g, k * 2, none⟩ (.int .i64 (m.st.down 0).1)).setCell ⟨g, k * 2 + 1, none⟩ (.int .i64 (m.st.down 0).2)) { m with globals := m.globals.set k (m.st.down 0) }) := by
        intro W hb
        have t := Turn.pre p.r hb ((p.below hb).r.globalSet hv k hk (m.st.down 0))
        have s : RStep h N w m _ _ := ⟨t, ⟨p.ok.most, p.ok.len, p.ok.small, p.ok.fields, p.ok.stack, by simpa using p.ok.globals, p.ok.queue⟩, rfl, p.clean⟩
        refine ⟨s.pre p ⟨p.inv.stack, fun v hv => ?_, p.inv.fields, p.inv.len⟩, s⟩
        rcases List.mem_or_eq_of_mem_set hv with e | e
        · exact p.inv.globals v e
        · subst e; exact p.inv.down 0
      have OLD : Hid (∀ W, Below w.heap.size w W → W.cell? ⟨h, 8, none⟩ = some (.slice (some ⟨g, 0, none⟩) m.globals.length cap') ∧ W.cell? ⟨g, k * 2, none⟩ = some (.int .i64 (m.globals[k]).1) ∧ W.cell? ⟨g, k * 2 + 1, none⟩ = some (.int .i64 (m.globals[k]).2) ∧ W.frozen? ⟨g, k * 2, none⟩ = false ∧ W.frozen? ⟨g, k * 2 + 1, none⟩ = false) := fun W hb =>
        ⟨(hb.cell (p := ⟨h, 8, none⟩) hh).trans cG', (hb.cell (p := ⟨g, k * 2, none⟩) hg).trans c0, (hb.cell (p := ⟨g, k * 2 + 1, none⟩) hg).trans c1, (hb.frozen (p := ⟨g, k * 2, none⟩) hg).trans (hfz _), (hb.frozen (p := ⟨g, k * 2 + 1, none⟩) hg).trans (hfz _)⟩
      have hsl : 0 < m.stack.length := by omega
      obtain ⟨x, hx⟩ : ∃ x, m.st.down 0 = x := ⟨_, rfl⟩
      rw [hx] at DN FIN ⊢
      obtain ⟨y, hy⟩ : ∃ y, m.globals[k] = y := ⟨_, rfl⟩
      rw [hy] at c0 c1 OLD
      obtain ⟨x1, x2⟩ := x
      obtain ⟨y1, y2⟩ := y
      have POP : Hid (∀ W, RPre h N W { m with globals := m.globals.set k (x1, x2) } → RStep h N w m W { m with globals := m.globals.set k (x1, x2) } → Calls Tryz.prog 94 #[.pointer (some ⟨h, 0, none⟩), .int .i64 1] W fun e w' => e = .returned (.tuple #[]) ∧ ∃ m', RStep h N w m w' m' ∧ m'.st = { m.st.pop 1 with globals := m.globals.set k (x1, x2) }) :=
        fun W hp hs => (pop_do hp 1 hsl hsl).mono fun e w' ⟨he, v', hs'⟩ => ⟨he, _, hs.trans hs', rfl⟩
      obtain ⟨len, hlen⟩ : ∃ len, m.globals.length = len := ⟨_, rfl⟩
      rw [hlen] at hc cG' hl hk OLD
      obtain ⟨sl, hsl'⟩ : ∃ sl, m.stack.length = sl := ⟨_, rfl⟩
      rw [hsl'] at h0 cS hls hsl
      simp only at *
      clear p e hlen hx hy hc cG hcell hv hfz hsl'
      have hkI : (k : Int) < len := by omega
      go_enter Tryz.func62, Tryz.ntmps62
      go_wp2_with fail
      go_region_with (go_at_call 92; refine (DN.out _ (Below.refl _ _).drew).mono ?_; rintro e w1 ⟨rfl, hb⟩; have B1 : Hid (Below w.heap.size w w1) := ((Below.refl _ _).drew).trans hb; obtain ⟨d0, d1, d2, d3, d4⟩ := OLD.out w1 B1.out; clear hb)
      all_goals
        have FF := FIN.out _ B1.out
        clear d0 d1 d2 d3 d4
        have F1 : Hid _ := FF
        clear FF
        go_wp2_with fail
        refine Calls.mono (POP.out _ F1.out.1 F1.out.2) ?_
        rintro e w2 ⟨rfl, hm⟩
        have M : Hid _ := hm
        clear hm
        go_wp2
        go_ret
        exact ⟨rfl, M.out⟩

end Go.Proofs.YtpmkjeihbddfpabGreatDoor

/- OUR OWN. The document's heap: tells, by operation. -/
namespace Go.Proofs.YtpmkjeihbddfpabGreatDoor
open Go.RowKit
set_option linter.unusedVariables false
set_option linter.unusedSimpArgs false

def RDid2 (h N : Nat) (w : World) (m : RefM) (p : St × Int × Int) (e : Ending) (w' : World) : Prop := e = .returned (.tuple #[.int .i64 p.2.1, .int .i64 p.2.2]) ∧ ∃ m', RStep h N w m w' m' ∧ m'.st = p.1
def TellsSays (op : Int) (f : St → St × Int × Int) : Prop := ∀ (h N : Nat) (w : World) (m : RefM), RPre h N w m →
  Calls Tryz.prog 61 #[.pointer (some ⟨h, 0, none⟩), .int .i64 op] w (RDid2 h N w m (f m.st))

theorem turn_local {h N L : Nat} {w W w' : World} {m m' : RefM} {ob : Obj} (p : RPre h N w m) (hb : Below w.heap.size w W) (hW : W.heap[L]? = some ob) (hL : w.heap.size ≤ L) (t : Turn h W m w' m') : w'.heap[L]? = some ob := by
  rw [t.off.block L (lt_of_heap hW) ?_]
  · exact hW
  · intro e
    have := p.r.lt L e
    omega

/-- the fields of the object that a reference leads to -/
theorem RPre.obj {h N : Nat} {w : World} {m : RefM} (p : RPre h N w m) (b : Int) (hb : 1 ≤ b ∧ b ≤ N) : ∃ (i : Nat) (hi : i < m.objs.length), b = i ∧ i ≤ N ∧ m.st.fields b = (m.objs[i]).fs := by
  refine ⟨b.toNat, by rw [p.ok.len]; omega, by omega, by omega, ?_⟩
  unfold St.fields
  rw [st_ob (List.getElem?_eq_getElem (by rw [p.ok.len]; omega))]
  rfl

set_option maxHeartbeats 800000 in
theorem tells_empty (op : Int) (h N : Nat) (w : World) (m : RefM) (p : RPre h N w m) (hc : m.stack.length < 1) :
    Calls Tryz.prog 61 #[.pointer (some ⟨h, 0, none⟩), .int .i64 op] w (RDid2 h N w m (m.st, 0, 3)) := by
  obtain ⟨ao, cap, cS⟩ := p.stackCell
  have K : Hid (∃ m', RStep h N w m w m' ∧ m'.st = m.st) := ⟨m, .refl p, rfl⟩
  obtain ⟨len, hlen⟩ : ∃ len, m.stack.length = len := ⟨_, rfl⟩
  rw [hlen] at hc cS
  clear p hlen
  obtain rfl : len = 0 := by omega
  go_enter Tryz.func61, Tryz.ntmps61
  go_wp2
  go_ret2
  exact ⟨rfl, K.out⟩

set_option maxHeartbeats 800000 in
theorem tells_kind : TellsSays 12 kindS := by
  intro h N w m p
  by_cases hc : m.stack.length < 1
  · have e : kindS m.st = (m.st, 0, 3) := by unfold kindS; exact if_pos hc
    rw [e]
    exact tells_empty 12 h N w m p hc
  · have e : kindS m.st = (m.st, (m.st.down 0).1, 0) := by unfold kindS; exact if_neg hc
    rw [e]
    obtain ⟨ao, cap, cS⟩ := p.stackCell
    have DN := down_do p 0 (by omega)
    have D : Hid _ := DN
    have K : Hid (∀ W, Below w.heap.size w W → ∃ m', RStep h N w m W m' ∧ m'.st = m.st) := fun W hb => ⟨m, .of_below p hb, rfl⟩
    obtain ⟨len, hlen⟩ : ∃ len, m.stack.length = len := ⟨_, rfl⟩
    rw [hlen] at hc cS
    obtain ⟨x, hx⟩ : ∃ x, m.st.down 0 = x := ⟨_, rfl⟩
    rw [hx] at D ⊢
    obtain ⟨x1, x2⟩ := x
    clear p hlen e DN hx
    have hcI : ¬ (len : Int) < 1 := by omega
    go_enter Tryz.func61, Tryz.ntmps61
    go_wp2_with fail
    refine Calls.mono D.out ?_
    rintro e w1 ⟨rfl, hb⟩
    have B : Hid (Below w.heap.size w w1) := hb
    clear hb D
    go_wp2
    go_ret2
    exact ⟨rfl, K.out _ (B.out.alloc B.out.size _)⟩

set_option maxHeartbeats 800000 in
theorem tells_size : TellsSays 11 sizeS := by
  intro h N w m p
  by_cases hc : m.stack.length < 1
  · have e : sizeS m.st = (m.st, 0, 3) := by unfold sizeS; exact if_pos hc
    rw [e]
    exact tells_empty 11 h N w m p hc
  · obtain ⟨ao, cap, cS⟩ := p.stackCell
    have DN := down_do p 0 (by omega)
    have D : Hid _ := DN
    have K : Hid (∀ W, Below w.heap.size w W → ∃ m', RStep h N w m W m' ∧ m'.st = m.st) := fun W hb => ⟨m, .of_below p hb, rfl⟩
    have hv := p.inv.down 0
    by_cases he : objErr (m.st.down 0) ≠ 0
    · have e : sizeS m.st = (m.st, 0, objErr (m.st.down 0)) := by unfold sizeS; exact (if_neg hc).trans (if_pos he)
      rw [e]
      obtain ⟨len, hlen⟩ : ∃ len, m.stack.length = len := ⟨_, rfl⟩
      rw [hlen] at hc cS
      obtain ⟨x, hx⟩ : ∃ x, m.st.down 0 = x := ⟨_, rfl⟩
      rw [hx] at D he ⊢
      obtain ⟨x1, x2⟩ := x
      have OB := object_any (x1, x2)
      have O : Hid (∀ W, Calls Tryz.prog 93 #[.agg #[.int .i64 x1, .int .i64 x2]] W fun e w' => e = .returned (.int .i64 (objErr (x1, x2))) ∧ Below W.heap.size W w') := OB
      obtain ⟨er, her⟩ : ∃ er, objErr (x1, x2) = er := ⟨_, rfl⟩
      rw [her] at he O ⊢
      have he2 : (er == 0) = false := by simpa using he
      clear p hlen e DN hx hv OB her
      have hcI : ¬ (len : Int) < 1 := by omega
      go_enter Tryz.func61, Tryz.ntmps61
      go_wp2_with fail
      refine Calls.mono D.out ?_
      rintro e w1 ⟨rfl, hb⟩
      have B : Hid (Below w.heap.size w w1) := hb
      clear hb D
      go_wp2_with fail
      refine Calls.mono (O.out _) ?_
      rintro e w2 ⟨rfl, hb⟩
      have B2 : Hid (Below w.heap.size w w2) := (B.out.alloc B.out.size _).trans (hb.mono (by simp; have := B.out.size; omega))
      clear hb O
      go_wp2
      go_ret2
      exact ⟨rfl, K.out _ B2.out⟩
    · have he : objErr (m.st.down 0) = 0 := by omega
      have e : sizeS m.st = (m.st, ((m.st.fields (m.st.down 0).2).length : Int), 0) := by unfold sizeS; exact (if_neg hc).trans (if_neg (by omega))
      rw [e]
      obtain ⟨i, hi, hbi, hiN, hfs⟩ := p.obj _ (ref_of hv he)
      obtain ⟨g, capB, hvB, hg, _, _, _, hobj⟩ := p.r.view p.ok
      have cB : w.cell? ⟨h, 5, none⟩ = some (.slice (some ⟨g, 0, none⟩) (N + 1) capB) := by rw [p.r.cell.2.2.2.2.2.1, hvB]
      have c1 := (hobj i hi).2.1
      obtain ⟨fo, fc, hvF⟩ := own_slice (p.r.fields _ (List.getElem_mem hi))
      rw [hvF] at c1
      rw [hfs]
      have hh := lt_of_heap p.r.head
      obtain ⟨fl, hfl⟩ : ∃ fl, (m.objs[i]).fs.length = fl := ⟨_, rfl⟩
      rw [hfl] at c1 ⊢
      obtain ⟨len, hlen⟩ : ∃ len, m.stack.length = len := ⟨_, rfl⟩
      rw [hlen] at hc cS
      obtain ⟨x, hx⟩ : ∃ x, m.st.down 0 = x := ⟨_, rfl⟩
      rw [hx] at D he hbi
      obtain ⟨x1, x2⟩ := x
      simp only at hbi
      subst hbi
      have OB := object_any (x1, (i : Int))
      have O : Hid (∀ W, Calls Tryz.prog 93 #[.agg #[.int .i64 x1, .int .i64 i]] W fun e w' => e = .returned (.int .i64 0) ∧ Below W.heap.size W w') := fun W => (OB W).mono fun e w' ⟨h1, h2⟩ => ⟨h1.trans (ret_int he), h2⟩
      have OLD : Hid (∀ W, Below w.heap.size w W → W.cell? ⟨h, 5, none⟩ = some (.slice (some ⟨g, 0, none⟩) (N + 1) capB) ∧ W.cell? ⟨g, i * 4 + 1, none⟩ = some (.slice fo fl fc)) := fun W hb =>
        ⟨(hb.cell (p := ⟨h, 5, none⟩) hh).trans cB, (hb.cell (p := ⟨g, i * 4 + 1, none⟩) hg).trans c1⟩
      have hN := p.ok.small
      clear p hlen e DN hx hv OB he hfs hobj hvB hvF hfl cB c1
      have hcI : ¬ (len : Int) < 1 := by omega
      have hiI : (i : Int) < (N : Int) + 1 := by omega
      go_enter Tryz.func61, Tryz.ntmps61
      go_wp2_with fail
      refine Calls.mono D.out ?_
      rintro e w1 ⟨rfl, hb⟩
      have B : Hid (Below w.heap.size w w1) := hb
      clear hb D
      go_wp2_with fail
      refine Calls.mono (O.out _) ?_
      rintro e w2 ⟨rfl, hb⟩
      have B2 : Hid (Below w.heap.size w w2) := (B.out.alloc B.out.size _).trans (hb.mono (by simp; have := B.out.size; omega))
      have l1 : w2.cell? ⟨w1.heap.size, 1, none⟩ = some (.int .i64 i) := cell_of_heap (boxed' hb) rfl
      obtain ⟨d0, d1⟩ := OLD.out w2 B2.out
      clear hb O
      go_wp2
      go_quiet (fail)
      go_wp2
      go_ret2
      exact ⟨rfl, K.out _ (below_drewN B2.out _)⟩

set_option maxHeartbeats 800000 in
theorem tells_take : TellsSays 10 takeS := by
  intro h N w m p
  by_cases hc : m.stack.length < 1
  · have e : takeS m.st = (m.st, 0, 3) := by unfold takeS; exact if_pos hc
    rw [e]
    exact tells_empty 10 h N w m p hc
  · obtain ⟨ao, cap, cS⟩ := p.stackCell
    have DN := down_do p 0 (by omega)
    have D : Hid _ := DN
    have K : Hid (∀ W, Below w.heap.size w W → ∃ m', RStep h N w m W m' ∧ m'.st = m.st) := fun W hb => ⟨m, .of_below p hb, rfl⟩
    by_cases he : (m.st.down 0).1 = 1
    · have e : takeS m.st = (m.st.pop 1, (m.st.down 0).2, 0) := by unfold takeS; exact (if_neg hc).trans (if_pos he)
      rw [e]
      have POP : Hid (∀ W, Below w.heap.size w W → Calls Tryz.prog 94 #[.pointer (some ⟨h, 0, none⟩), .int .i64 1] W fun e w' => e = .returned (.tuple #[]) ∧ (∃ m', RStep h N w m w' m' ∧ m'.st = m.st.pop 1) ∧ ∀ L ob, w.heap.size ≤ L → W.heap[L]? = some ob → w'.heap[L]? = some ob) :=
        fun W hb => (pop_do (p.below hb) 1 (by omega) (by omega)).mono fun e w' ⟨he, v', hs⟩ => ⟨he, ⟨_, (RStep.of_below p hb).trans hs, rfl⟩, fun L ob hL hW => turn_local p hb hW hL hs.turn⟩
      obtain ⟨len, hlen⟩ : ∃ len, m.stack.length = len := ⟨_, rfl⟩
      rw [hlen] at hc cS
      obtain ⟨x, hx⟩ : ∃ x, m.st.down 0 = x := ⟨_, rfl⟩
      rw [hx] at D he ⊢
      obtain ⟨x1, x2⟩ := x
      simp only at he
      subst he
      clear p hlen e DN hx K
      have hcI : ¬ (len : Int) < 1 := by omega
      go_enter Tryz.func61, Tryz.ntmps61
      go_wp2_with fail
      refine Calls.mono D.out ?_
      rintro e w1 ⟨rfl, hb⟩
      have B : Hid (Below w.heap.size w w1) := hb
      clear hb D
      go_wp2_with fail
      refine Calls.mono (POP.out _ (B.out.alloc B.out.size _)) ?_
      rintro e w2 ⟨rfl, hm, hloc⟩
      have l0 := hloc w1.heap.size _ B.out.size (heap_alloc_new w1 _)
      have l1 : w2.cell? ⟨w1.heap.size, 1, none⟩ = some (.int .i64 x2) := cell_of_heap l0 rfl
      have M : Hid _ := hm
      clear hm hloc l0 POP B
      go_wp2
      go_ret2
      exact ⟨rfl, M.out⟩
    · have e : takeS m.st = (m.st, 0, 5) := by unfold takeS; exact (if_neg hc).trans (if_neg he)
      rw [e]
      obtain ⟨len, hlen⟩ : ∃ len, m.stack.length = len := ⟨_, rfl⟩
      rw [hlen] at hc cS
      obtain ⟨x, hx⟩ : ∃ x, m.st.down 0 = x := ⟨_, rfl⟩
      rw [hx] at D he
      obtain ⟨x1, x2⟩ := x
      simp only at he
      have he2 : (x1 == 1) = false := by simpa using he
      clear p hlen e DN hx
      have hcI : ¬ (len : Int) < 1 := by omega
      go_enter Tryz.func61, Tryz.ntmps61
      go_wp2_with fail
      refine Calls.mono D.out ?_
      rintro e w1 ⟨rfl, hb⟩
      have B : Hid (Below w.heap.size w w1) := hb
      clear hb D
      go_wp2
      go_ret2
      exact ⟨rfl, K.out _ (B.out.alloc B.out.size _)⟩

set_option maxHeartbeats 1000000 in
theorem tells_same : TellsSays 9 sameS := by
  intro h N w m p
  by_cases hc0 : m.stack.length < 1
  · have e : sameS m.st = (m.st, 0, 3) := by unfold sameS; exact if_pos (by show m.stack.length < 2; omega)
    rw [e]
    exact tells_empty 9 h N w m p hc0
  · obtain ⟨ao, cap, cS⟩ := p.stackCell
    by_cases hc : m.stack.length < 2
    · have e : sameS m.st = (m.st, 0, 3) := by unfold sameS; exact if_pos hc
      rw [e]
      have K : Hid (∃ m', RStep h N w m w m' ∧ m'.st = m.st) := ⟨m, .refl p, rfl⟩
      obtain ⟨len, hlen⟩ : ∃ len, m.stack.length = len := ⟨_, rfl⟩
      rw [hlen] at hc cS hc0
      clear p hlen e
      obtain rfl : len = 1 := by omega
      go_enter Tryz.func61, Tryz.ntmps61
      go_wp2
      go_ret2
      exact ⟨rfl, K.out⟩
    · have D0 : Hid _ := down_do p 0 (by omega)
      have D1 : Hid (∀ W, Below w.heap.size w W → Calls Tryz.prog 92 #[.pointer (some ⟨h, 0, none⟩), .int .i64 1] W fun e w' => e = .returned (.agg #[.int .i64 (m.st.down 1).1, .int .i64 (m.st.down 1).2]) ∧ Below W.heap.size W w') := fun W hb => down_do (p.below hb) 1 (by show 1 < m.stack.length; omega)
      have POP : Hid (∀ W, Below w.heap.size w W → Calls Tryz.prog 94 #[.pointer (some ⟨h, 0, none⟩), .int .i64 2] W fun e w' => e = .returned (.tuple #[]) ∧ (∃ m', RStep h N w m w' m' ∧ m'.st = m.st.pop 2) ∧ ∀ L ob, w.heap.size ≤ L → W.heap[L]? = some ob → w'.heap[L]? = some ob) :=
        fun W hb => (pop_do (p.below hb) 2 (by omega) (by omega)).mono fun e w' ⟨he, v', hs⟩ => ⟨he, ⟨_, (RStep.of_below p hb).trans hs, rfl⟩, fun L ob hL hW => turn_local p hb hW hL hs.turn⟩
      obtain ⟨x, hx⟩ : ∃ x, m.st.down 0 = x := ⟨_, rfl⟩
      obtain ⟨y, hy⟩ : ∃ y, m.st.down 1 = y := ⟨_, rfl⟩
      have e : sameS m.st = (m.st.pop 2, if x = y then 1 else 0, 0) := by
        unfold sameS
        refine (if_neg hc).trans ?_
        rw [hx, hy]
        by_cases hxy : x = y
        · rw [if_pos hxy, if_pos hxy]
        · rw [if_neg hxy, if_neg hxy]
      rw [e]
      rw [hx] at D0
      rw [hy] at D1
      obtain ⟨len, hlen⟩ : ∃ len, m.stack.length = len := ⟨_, rfl⟩
      rw [hlen] at hc cS hc0
      clear p hlen e hx hy
      have hcI : ¬ (len : Int) < 1 := by omega
      have hcJ : ¬ (len : Int) < 2 := by omega
      obtain ⟨x1, x2⟩ := x
      obtain ⟨y1, y2⟩ := y
      by_cases hxy : (x1, x2) = (y1, y2)
      · rw [if_pos hxy]
        simp only [Prod.mk.injEq] at hxy
        obtain ⟨rfl, rfl⟩ := hxy
        go_enter Tryz.func61, Tryz.ntmps61
        go_wp2_with fail
        refine Calls.mono D0.out ?_
        rintro e w1 ⟨rfl, hb⟩
        have B : Hid (Below w.heap.size w w1) := hb
        clear hb D0
        go_wp2_with fail
        refine Calls.mono (D1.out _ (B.out.alloc B.out.size _)) ?_
        rintro e w2 ⟨rfl, hb⟩
        have B2 : Hid (Below w.heap.size w w2 ∧ w1.heap.size + 1 ≤ w2.heap.size ∧ w2.heap[w1.heap.size]? = some (.cells #[.int .i64 x1, .int .i64 x2] 84)) := ⟨(B.out.alloc B.out.size _).trans (hb.mono (by simp; have := B.out.size; omega)), by have := hb.size; simpa using this, boxed' hb⟩
        clear hb D1
        go_wp2_with fail
        refine Calls.mono (POP.out _ (B2.out.1.alloc B2.out.1.size _)) ?_
        rintro e w3 ⟨rfl, hm, hloc⟩
        have l0 := hloc w1.heap.size _ B.out.size (by rw [hao (by have := B2.out.2.1; omega)]; exact B2.out.2.2)
        have k0 := hloc w2.heap.size _ B2.out.1.size (heap_alloc_new w2 _)
        have l1 : w3.cell? ⟨w1.heap.size, 0, none⟩ = some (.int .i64 x1) := cell_of_heap l0 rfl
        have l2 : w3.cell? ⟨w1.heap.size, 1, none⟩ = some (.int .i64 x2) := cell_of_heap l0 rfl
        have k1 : w3.cell? ⟨w2.heap.size, 0, none⟩ = some (.int .i64 x1) := cell_of_heap k0 rfl
        have k2 : w3.cell? ⟨w2.heap.size, 1, none⟩ = some (.int .i64 x2) := cell_of_heap k0 rfl
        have M : Hid _ := hm
        clear hm hloc l0 k0 POP B B2
        go_wp2
        go_ret2
        exact ⟨rfl, M.out⟩
      · rw [if_neg hxy]
        have hxy2 : ¬ (x1 = y1 ∧ x2 = y2) := by simpa using hxy
        clear hxy
        go_enter Tryz.func61, Tryz.ntmps61
        go_wp2_with fail
        refine Calls.mono D0.out ?_
        rintro e w1 ⟨rfl, hb⟩
        have B : Hid (Below w.heap.size w w1) := hb
        clear hb D0
        go_wp2_with fail
        refine Calls.mono (D1.out _ (B.out.alloc B.out.size _)) ?_
        rintro e w2 ⟨rfl, hb⟩
        have B2 : Hid (Below w.heap.size w w2 ∧ w1.heap.size + 1 ≤ w2.heap.size ∧ w2.heap[w1.heap.size]? = some (.cells #[.int .i64 x1, .int .i64 x2] 84)) := ⟨(B.out.alloc B.out.size _).trans (hb.mono (by simp; have := B.out.size; omega)), by have := hb.size; simpa using this, boxed' hb⟩
        clear hb D1
        go_wp2_with fail
        refine Calls.mono (POP.out _ (B2.out.1.alloc B2.out.1.size _)) ?_
        rintro e w3 ⟨rfl, hm, hloc⟩
        have l0 := hloc w1.heap.size _ B.out.size (by rw [hao (by have := B2.out.2.1; omega)]; exact B2.out.2.2)
        have k0 := hloc w2.heap.size _ B2.out.1.size (heap_alloc_new w2 _)
        have l1 : w3.cell? ⟨w1.heap.size, 0, none⟩ = some (.int .i64 x1) := cell_of_heap l0 rfl
        have l2 : w3.cell? ⟨w1.heap.size, 1, none⟩ = some (.int .i64 x2) := cell_of_heap l0 rfl
        have k1 : w3.cell? ⟨w2.heap.size, 0, none⟩ = some (.int .i64 y1) := cell_of_heap k0 rfl
        have k2 : w3.cell? ⟨w2.heap.size, 1, none⟩ = some (.int .i64 y2) := cell_of_heap k0 rfl
        have M : Hid _ := hm
        clear hm hloc l0 k0 POP B B2
        by_cases q1 : x1 = y1
        · have q2 : ¬ x2 = y2 := fun e => hxy2 ⟨q1, e⟩
          have q3 : (x2 == y2) = false := by simpa using q2
          subst q1
          clear hxy2
          go_wp2
          go_ret2
          exact ⟨rfl, M.out⟩
        · have q3 : (x1 == y1) = false := by simpa using q1
          clear hxy2
          go_wp2
          all_goals go_ret2
          all_goals exact ⟨rfl, M.out⟩

end Go.Proofs.YtpmkjeihbddfpabGreatDoor

/- OUR OWN. The document's heap: loaded. -/
namespace Go.Proofs.YtpmkjeihbddfpabGreatDoor
open Go.RowKit
set_option linter.unusedVariables false
set_option linter.unusedSimpArgs false

/-- the fields' row of the object in block i -/
theorem RefAt.fieldView {w : World} {h : Nat} {m : RefM} (r : RefAt w h m) (i : Nat) (hi : i < m.objs.length) (hs : 0 < (m.objs[i]).fs.length) :
    ∃ g cap, (m.objs[i]).vF = .slice (some ⟨g, 0, none⟩) (m.objs[i]).fs.length cap ∧ g < w.heap.size ∧ g ≠ h ∧ (m.objs[i]).vF.ownBlock = some g ∧ (∀ j, w.frozen? ⟨g, j, none⟩ = false) ∧
      ∀ j (hj : j < (m.objs[i]).fs.length), w.cell? ⟨g, j * 2, none⟩ = some (.int .i64 ((m.objs[i]).fs[j]).1) ∧ w.cell? ⟨g, j * 2 + 1, none⟩ = some (.int .i64 ((m.objs[i]).fs[j]).2) := by
  obtain ⟨g, cap, hv, hg, hb, hc, hcell, hf⟩ := own_view (r.fields _ (List.getElem_mem hi)) hs
  refine ⟨g, cap, hv, hg, fun e => r.ne (x := (m.objs[i]).row) (by simp only [RefM.rows, List.mem_cons, List.mem_map]; exact .inr (.inr (.inr (.inr ⟨_, List.getElem_mem hi, rfl⟩)))) (by rw [← e]; exact hb), hb, hf, fun j hj => ⟨?_, ?_⟩⟩
  · exact hcell _ _ (by have := flat_get valCells 2 (fun _ => rfl) (m.objs[i]).fs j 0 (by decide); simpa [hj, valCells] using this)
  · exact hcell _ _ (by have := flat_get valCells 2 (fun _ => rfl) (m.objs[i]).fs j 1 (by decide); simpa [hj, valCells] using this)

def LoadSays : Prop := ∀ (h N : Nat) (w : World) (m : RefM) (n : Int), RPre h N w m →
  Calls Tryz.prog 59 #[.pointer (some ⟨h, 0, none⟩), .int .i64 n] w (RDid h N w m (loadS m.deep m.st n))

set_option maxHeartbeats 1600000 in
theorem loaded_any : LoadSays := by
  intro h N w m n p
  obtain ⟨ao, cap, cS⟩ := p.stackCell
  by_cases hc : m.stack.length < 1
  · have e : loadS m.deep m.st n = (m.st, 0, 3) := by unfold loadS; exact if_pos hc
    rw [e]
    have K : Hid (∃ m', RStep h N w m w m' ∧ m'.st = m.st) := ⟨m, .refl p, rfl⟩
    obtain ⟨len, hlen⟩ : ∃ len, m.stack.length = len := ⟨_, rfl⟩
    rw [hlen] at hc cS
    clear p hlen e
    obtain rfl : len = 0 := by omega
    go_enter Tryz.func59, Tryz.ntmps59
    go_wp2
    go_ret
    exact ⟨rfl, K.out⟩
  have D : Hid _ := down_do p 0 (by omega)
  have K : Hid (∀ W, Below w.heap.size w W → ∃ m', RStep h N w m W m' ∧ m'.st = m.st) := fun W hb => ⟨m, .of_below p hb, rfl⟩
  have hv := p.inv.down 0
  have hcI0 : ¬ (m.stack.length : Int) < 1 := by omega
  by_cases he : objErr (m.st.down 0) ≠ 0
  · have e : loadS m.deep m.st n = (m.st, 0, objErr (m.st.down 0)) := by unfold loadS; exact (if_neg hc).trans (if_pos he)
    rw [e]
    obtain ⟨len, hlen⟩ : ∃ len, m.stack.length = len := ⟨_, rfl⟩
    rw [hlen] at hc cS hcI0
    obtain ⟨x, hx⟩ : ∃ x, m.st.down 0 = x := ⟨_, rfl⟩
    rw [hx] at D he ⊢
    obtain ⟨x1, x2⟩ := x
    have O : Hid (∀ W, Calls Tryz.prog 93 #[.agg #[.int .i64 x1, .int .i64 x2]] W fun e w' => e = .returned (.int .i64 (objErr (x1, x2))) ∧ Below W.heap.size W w') := object_any (x1, x2)
    obtain ⟨er, her⟩ : ∃ er, objErr (x1, x2) = er := ⟨_, rfl⟩
    rw [her] at he O ⊢
    have he2 : (er == 0) = false := by simpa using he
    clear p hlen e hx hv her
    go_enter Tryz.func59, Tryz.ntmps59
    go_wp2_with fail
    refine Calls.mono D.out ?_
    rintro e w1 ⟨rfl, hb⟩
    have B : Hid (Below w.heap.size w w1) := hb
    clear hb D
    go_wp2_with fail
    refine Calls.mono (O.out _) ?_
    rintro e w2 ⟨rfl, hb⟩
    have B2 : Hid (Below w.heap.size w w2) := (B.out.alloc B.out.size _).trans (hb.mono (by simp; have := B.out.size; omega))
    clear hb O
    go_wp2
    go_ret
    exact ⟨rfl, K.out _ B2.out⟩
  have he : objErr (m.st.down 0) = 0 := by omega
  obtain ⟨i, hi, hbi, hiN, hfs⟩ := p.obj _ (ref_of hv he)
  obtain ⟨g, capB, hvB, hg, _, _, _, hobj⟩ := p.r.view p.ok
  have cB : w.cell? ⟨h, 5, none⟩ = some (.slice (some ⟨g, 0, none⟩) (N + 1) capB) := by rw [p.r.cell.2.2.2.2.2.1, hvB]
  have c1 := (hobj i hi).2.1
  have hh := lt_of_heap p.r.head
  have hN := p.ok.small
  have hiI : (i : Int) < (N : Int) + 1 := by omega
  by_cases hr : n < 0 ∨ ((m.objs[i]).fs.length : Int) ≤ n
  · have e : loadS m.deep m.st n = (m.st, 0, 6) := by unfold loadS; exact (if_neg hc).trans ((if_neg (by omega)).trans (if_pos (by rw [hfs]; exact hr)))
    rw [e]
    obtain ⟨fo, fc, hvF⟩ := own_slice (p.r.fields _ (List.getElem_mem hi))
    rw [hvF] at c1
    obtain ⟨fl, hfl⟩ : ∃ fl, (m.objs[i]).fs.length = fl := ⟨_, rfl⟩
    rw [hfl] at c1 hr
    obtain ⟨len, hlen⟩ : ∃ len, m.stack.length = len := ⟨_, rfl⟩
    rw [hlen] at hc cS hcI0
    obtain ⟨x, hx⟩ : ∃ x, m.st.down 0 = x := ⟨_, rfl⟩
    rw [hx] at D he hbi
    obtain ⟨x1, x2⟩ := x
    simp only at hbi
    subst hbi
    have O : Hid (∀ W, Calls Tryz.prog 93 #[.agg #[.int .i64 x1, .int .i64 i]] W fun e w' => e = .returned (.int .i64 0) ∧ Below W.heap.size W w') := fun W => (object_any (x1, (i : Int)) W).mono fun e w' ⟨h1, h2⟩ => ⟨h1.trans (ret_int he), h2⟩
    have OLD : Hid (∀ W, Below w.heap.size w W → W.cell? ⟨h, 5, none⟩ = some (.slice (some ⟨g, 0, none⟩) (N + 1) capB) ∧ W.cell? ⟨g, i * 4 + 1, none⟩ = some (.slice fo fl fc)) := fun W hb =>
      ⟨(hb.cell (p := ⟨h, 5, none⟩) hh).trans cB, (hb.cell (p := ⟨g, i * 4 + 1, none⟩) hg).trans c1⟩
    clear p hlen e hx hv he hfs hobj hvB hvF hfl cB c1
    rcases hr with hr | hr
    · have hd : decide (n < 0) = true := by simpa using hr
      go_enter Tryz.func59, Tryz.ntmps59
      go_wp2_with fail
      refine Calls.mono D.out ?_
      rintro e w1 ⟨rfl, hb⟩
      have B : Hid (Below w.heap.size w w1) := hb
      clear hb D
      go_wp2_with fail
      refine Calls.mono (O.out _) ?_
      rintro e w2 ⟨rfl, hb⟩
      have B2 : Hid (Below w.heap.size w w2) := (B.out.alloc B.out.size _).trans (hb.mono (by simp; have := B.out.size; omega))
      have l1 : w2.cell? ⟨w1.heap.size, 1, none⟩ = some (.int .i64 i) := cell_of_heap (boxed' hb) rfl
      obtain ⟨d0, d1⟩ := OLD.out w2 B2.out
      clear hb O
      go_wp2_with fail
      go_quiet (fail)
      go_wp2
      go_ret
      exact ⟨rfl, K.out _ (below_drewN B2.out _)⟩
    · have hn0 : ¬ n < 0 := by omega
      have hd : decide (n < 0) = false := by simpa using hn0
      go_enter Tryz.func59, Tryz.ntmps59
      go_wp2_with fail
      refine Calls.mono D.out ?_
      rintro e w1 ⟨rfl, hb⟩
      have B : Hid (Below w.heap.size w w1) := hb
      clear hb D
      go_wp2_with fail
      refine Calls.mono (O.out _) ?_
      rintro e w2 ⟨rfl, hb⟩
      have B2 : Hid (Below w.heap.size w w2) := (B.out.alloc B.out.size _).trans (hb.mono (by simp; have := B.out.size; omega))
      have l1 : w2.cell? ⟨w1.heap.size, 1, none⟩ = some (.int .i64 i) := cell_of_heap (boxed' hb) rfl
      obtain ⟨d0, d1⟩ := OLD.out w2 B2.out
      clear hb O
      go_wp2_with fail
      go_quiet (fail)
      go_wp2
      go_ret
      exact ⟨rfl, K.out _ (below_drewN B2.out _)⟩
  obtain ⟨k, rfl⟩ : ∃ k : Nat, n = k := ⟨n.toNat, by omega⟩
  have hk : k < (m.objs[i]).fs.length := by omega
  have e : loadS m.deep m.st k = pushA m.deep (m.st.pop 1) ((m.objs[i]).fs[k]) := by
    unfold loadS
    refine (if_neg hc).trans ((if_neg (by omega)).trans ((if_neg (by rw [hfs]; exact hr)).trans ?_))
    rw [hfs, Int.toNat_natCast, List.getD_eq_getElem?_getD, List.getElem?_eq_getElem hk]
    rfl
  rw [e]
  obtain ⟨fg, fc, hvF, hfg, hfgh, hfob, _, hfc⟩ := p.r.fieldView i hi (by omega)
  rw [hvF] at c1
  obtain ⟨v0, v1⟩ := hfc k hk
  obtain ⟨fl, hfl⟩ : ∃ fl, (m.objs[i]).fs.length = fl := ⟨_, rfl⟩
  rw [hfl] at c1
  have hkl : k < fl := by omega
  -- what stays behind the pop: the blocks' row, the fields' row
  have AFTER : Hid (∀ W, Below w.heap.size w W → Calls Tryz.prog 94 #[.pointer (some ⟨h, 0, none⟩), .int .i64 1] W fun e w' => e = .returned (.tuple #[]) ∧
      (w'.cell? ⟨h, 5, none⟩ = some (.slice (some ⟨g, 0, none⟩) (N + 1) capB) ∧ w'.cell? ⟨g, i * 4 + 1, none⟩ = some (.slice (some ⟨fg, 0, none⟩) fl fc) ∧ w'.cell? ⟨fg, k * 2, none⟩ = some (.int .i64 ((m.objs[i]).fs[k]).1) ∧ w'.cell? ⟨fg, k * 2 + 1, none⟩ = some (.int .i64 ((m.objs[i]).fs[k]).2)) ∧
      (∀ W2, Below w'.heap.size w' W2 → Calls Tryz.prog 91 #[.pointer (some ⟨h, 0, none⟩), .agg #[.int .i64 ((m.objs[i]).fs[k]).1, .int .i64 ((m.objs[i]).fs[k]).2]] W2 (fun e w'' => RDid h N w m (pushA m.deep (m.st.pop 1) ((m.objs[i]).fs[k])) e w'')) ∧
      ∀ L ob, w.heap.size ≤ L → W.heap[L]? = some ob → w'.heap[L]? = some ob) := by
    intro W hb
    refine (pop_do (p.below hb) 1 (by omega) (by omega)).mono ?_
    rintro e w' ⟨he, v', hs⟩
    have s1 : RStep h N w m w' _ := (RStep.of_below p hb).trans hs
    have p1 : RPre h N w' _ := s1.pre p (by exact (p.inv.pop 1))
    have hob1 := p1.r.view p1.ok
    obtain ⟨g2, cap2, hvB2, _, _, _, _, hobj2⟩ := hob1
    have heq : (Value.slice (some ⟨g2, 0, none⟩) (N + 1) cap2) = .slice (some ⟨g, 0, none⟩) (N + 1) capB := hvB2.symm.trans hvB
    simp at heq
    obtain ⟨rfl, rfl⟩ := heq
    obtain ⟨fg2, fc2, hvF2, _, _, _, _, hfc2⟩ := p1.r.fieldView i hi (by show 0 < (m.objs[i]).fs.length; omega)
    have heq2 : (Value.slice (some ⟨fg2, 0, none⟩) (m.objs[i]).fs.length fc2) = .slice (some ⟨fg, 0, none⟩) (m.objs[i]).fs.length fc := hvF2.symm.trans hvF
    simp at heq2
    obtain ⟨rfl, rfl⟩ := heq2
    refine ⟨he, ⟨by rw [p1.r.cell.2.2.2.2.2.1]; exact congrArg some hvB, ?_, (hfc2 k hk).1, (hfc2 k hk).2⟩, fun W2 hb2 => ?_, fun L ob hL hW => turn_local p hb hW hL hs.turn⟩
    · rw [(hobj2 i hi).2.1, ← hfl]; exact congrArg some hvF
    · exact (push_do (p1.below hb2) _).mono fun e w'' ⟨he, m', hs', hm⟩ => ⟨he, m', s1.trans ((RStep.of_below p1 hb2).trans hs'), hm⟩
  obtain ⟨len, hlen⟩ : ∃ len, m.stack.length = len := ⟨_, rfl⟩
  rw [hlen] at hc cS hcI0
  obtain ⟨x, hx⟩ : ∃ x, m.st.down 0 = x := ⟨_, rfl⟩
  rw [hx] at D he hbi
  obtain ⟨x1, x2⟩ := x
  simp only at hbi
  subst hbi
  have O : Hid (∀ W, Calls Tryz.prog 93 #[.agg #[.int .i64 x1, .int .i64 i]] W fun e w' => e = .returned (.int .i64 0) ∧ Below W.heap.size W w') := fun W => (object_any (x1, (i : Int)) W).mono fun e w' ⟨h1, h2⟩ => ⟨h1.trans (ret_int he), h2⟩
  have OLD : Hid (∀ W, Below w.heap.size w W → W.cell? ⟨h, 5, none⟩ = some (.slice (some ⟨g, 0, none⟩) (N + 1) capB) ∧ W.cell? ⟨g, i * 4 + 1, none⟩ = some (.slice (some ⟨fg, 0, none⟩) fl fc)) := fun W hb =>
    ⟨(hb.cell (p := ⟨h, 5, none⟩) hh).trans cB, (hb.cell (p := ⟨g, i * 4 + 1, none⟩) hg).trans c1⟩
  obtain ⟨y, hy⟩ : ∃ y, (m.objs[i]).fs[k] = y := ⟨_, rfl⟩
  rw [hy] at AFTER ⊢
  obtain ⟨y1, y2⟩ := y
  have hn0 : ¬ (k : Int) < 0 := by omega
  have hd : decide ((k : Int) < 0) = false := by simp
  have hkI : (k : Int) < fl := by omega
  have hfl4 : fl ≤ 4 := by rw [← hfl]; exact p.ok.fields _ (List.getElem_mem hi)
  clear p hlen e hx hv he hfs hobj hvB hvF hfl cB c1 hr hk v0 v1 hfc hy K
  go_enter Tryz.func59, Tryz.ntmps59
  go_wp2_with fail
  refine Calls.mono D.out ?_
  rintro e w1 ⟨rfl, hb⟩
  have B : Hid (Below w.heap.size w w1) := hb
  clear hb D
  go_wp2_with fail
  refine Calls.mono (O.out _) ?_
  rintro e w2 ⟨rfl, hb⟩
  have B2 : Hid (Below w.heap.size w w2) := (B.out.alloc B.out.size _).trans (hb.mono (by simp; have := B.out.size; omega))
  have l1 : w2.cell? ⟨w1.heap.size, 1, none⟩ = some (.int .i64 i) := cell_of_heap (boxed' hb) rfl
  have L1 : Hid (w2.heap[w1.heap.size]? = some (.cells #[.int .i64 x1, .int .i64 i] 84)) := boxed' hb
  obtain ⟨d0, d1⟩ := OLD.out w2 B2.out
  clear hb O
  go_wp2_with fail
  go_quiet (fail)
  go_wp2_with fail
  refine Calls.mono (AFTER.out _ (below_drewN B2.out _)) ?_
  rintro e w3 ⟨rfl, ⟨a0, a1, a2, a3⟩, hpush, hloc⟩
  have l3 : w3.cell? ⟨w1.heap.size, 1, none⟩ = some (.int .i64 i) := cell_of_heap (hloc _ _ B.out.size L1.out) rfl
  have PU : Hid _ := hpush
  clear hpush hloc AFTER OLD d0 d1 l1 L1 B B2
  go_wp2_with fail
  go_region_with (go_at_call 91; refine Calls.mono (PU.out _ (Below.refl _ _).drew) ?_; rintro e w4 ⟨rfl, hm⟩; have M : Hid _ := hm; clear hm)
  all_goals go_wp2
  all_goals go_ret
  all_goals exact ⟨rfl, M.out⟩

end Go.Proofs.YtpmkjeihbddfpabGreatDoor

/- OUR OWN. The document's heap: a field is turned; what a sorting leaves clean. -/
namespace Go.Proofs.YtpmkjeihbddfpabGreatDoor
open Go.RowKit
set_option linter.unusedVariables false
set_option linter.unusedSimpArgs false

theorem countP_same (p : RObj → Bool) (l : List RObj) (i : Nat) (o o' : RObj) (h : l[i]? = some o) (hf : p o' = p o) : (l.set i o').countP p = l.countP p := by
  induction l generalizing i with
  | nil => simp at h
  | cons a l ih =>
    cases i with
    | zero => simp at h; subst h; simp [List.countP_cons, hf]
    | succ i => simp at h; rw [List.set_cons_succ, List.countP_cons, List.countP_cons, ih i h]

theorem RefAt.fieldSet {w : World} {h : Nat} {m : RefM} (r : RefAt w h m) (i : Nat) {o : RObj} (hi : m.objs[i]? = some o) {g cap : Nat} (hv : o.vF = .slice (some ⟨g, 0, none⟩) o.fs.length cap) (k : Nat) (hk : k < o.fs.length) (x : Int × Int) :
    Turn h w m ((w.setCell ⟨g, k * 2, none⟩ (.int .i64 x.1)).setCell ⟨g, k * 2 + 1, none⟩ (.int .i64 x.2)) (m.put i { o with fs := o.fs.set k x }) := by
  have hob : o.vF.ownBlock = some g := by rw [hv]; rfl
  have hmem : o.row ∈ m.rows := by simp only [RefM.rows, List.mem_cons, List.mem_map]; exact .inr (.inr (.inr (.inr ⟨o, List.mem_of_getElem? hi, rfl⟩)))
  have hgh : g ≠ h := fun e => r.ne hmem (by rw [← e]; exact hob)
  have hrow : m.rows[4 + i]? = some o.row := by
    simp only [RefM.rows, show 4 + i = i + 1 + 1 + 1 + 1 by omega, List.getElem?_cons_succ, List.getElem?_map, hi]; rfl
  refine r.turn (4 + i) o.row ({ o with fs := o.fs.set k x } : RObj).row hrow ?_ ?_ ?_ ?_ ?_
  · rw [put_rows, flat_same RObj.cells m.objs i o { o with fs := o.fs.set k x } hi rfl, List.length_set]
    simp only [RefM.rows, show 4 + i = i + 1 + 1 + 1 + 1 by omega, List.set_cons_succ, List.set_cons_zero]
  · rw [hso (fun e => hgh e.symm), hso (fun e => hgh e.symm)]; exact r.head
  · show (World.setCell _ _ _).ownsRow 0 _ 2 o.vF (o.fs.set k x).length ((o.fs.set k x).flatMap valCells)
    have hik : o.fs[k]? = some o.fs[k] := List.getElem?_eq_getElem hk
    have e1 := flat_set valCells 2 (fun _ => rfl) o.fs k 0 (by decide) _ (.int .i64 x.1) hik (x.1, (o.fs[k]).2) rfl
    have h1 : (o.fs.set k (x.1, (o.fs[k]).2))[k]? = some (x.1, (o.fs[k]).2) := by simp [hk]
    have e2 := flat_set valCells 2 (fun _ => rfl) _ k 1 (by decide) _ (.int .i64 x.2) h1 x rfl
    rw [List.set_set, e1] at e2
    rw [List.length_set, e2, Nat.add_zero]
    have hb := r.fields o (List.mem_of_getElem? hi)
    rw [hv] at hb ⊢
    exact ((hb.stored _ _).1.stored _ _).1
  · intro j hj
    exact .inl hj
  · have hm : ∀ y ∈ [g], y ∈ h :: o.row.ob.toList := fun y hy => by simp at hy; subst hy; exact List.mem_cons_of_mem _ (by simp [SRow.ob, RObj.row, vrow, hob])
    exact ((off_setCell w g _ _).mono hm).trans ((off_setCell _ g _ _).mono hm)

theorem clean_enq {m : RefM} {i : Nat} {v : Value} (hc : FreeClean m) (hw : m.waitsB i = true) : FreeClean (m.enq i v) := by
  intro o ho hf
  have ho' : o ∈ qset m.objs i := ho
  unfold RefM.waitsB at hw
  cases hi : m.objs[i]? with
  | none => rw [hi] at hw; cases hw
  | some o1 =>
    rw [hi] at hw
    rw [qset_eq hi] at ho'
    rcases List.mem_or_eq_of_mem_set ho' with e | e
    · exact hc o e hf
    · subst e
      simp at hw hf
      rw [hf] at hw
      simp at hw

theorem SortRel.clean {but : Int} {m : RefM} (hc : FreeClean m) : ∀ {k : Nat} {m' : RefM}, SortRel but m k m' → FreeClean m' := by
  intro k
  induction k with
  | zero => intro m' h; rw [show m' = m from h]; exact hc
  | succ k ih =>
    rintro m' ⟨m1, h1, ⟨hs, v, rfl⟩ | ⟨_, rfl⟩⟩
    · refine clean_enq (ih h1) ?_
      unfold sortB at hs
      simp only [Bool.and_eq_true] at hs
      exact hs.1.1
    · exact ih h1
theorem EnterRel.clean {but : Int} {m m' : RefM} {N : Nat} (hc : FreeClean m) (h : EnterRel but m N m') : FreeClean m' := by
  unfold EnterRel at h
  split at h
  · exact h.clean hc
  · rw [h]; exact hc

/-- a flag of an object is turned -/
theorem RStep.stuck {h N : Nat} {w : World} {m : RefM} (p : RPre h N w m) {g cap : Nat} (hv : m.vB = .slice (some ⟨g, 0, none⟩) (N + 1) cap) (i : Nat) {o : RObj} (hi : m.objs[i]? = some o) :
    RStep h N w m (w.setCell ⟨g, i * 4 + 2, none⟩ (.bool true)) (m.put i { o with stuck := true }) ∧ (m.put i { o with stuck := true }).st = m.st.stick i := by
  have t := p.r.flagged p.ok hv i hi { o with stuck := true } 2 (by decide) (.bool true) rfl rfl
  have hst : (m.put i { o with stuck := true }).st = m.st.stick i := by
    rw [put_st]; unfold St.stick; rw [st_ob hi]; rfl
  refine ⟨⟨t, ⟨p.ok.most, by simp [RefM.put, p.ok.len], p.ok.small, fun x hx => ?_, p.ok.stack, p.ok.globals, ?_⟩, rfl, fun x hx hf => ?_⟩, hst⟩
  · rcases List.mem_or_eq_of_mem_set hx with e | e
    · exact p.ok.fields x e
    · subst e; exact p.ok.fields o (List.mem_of_getElem? hi)
  · show m.queue.length ≤ (m.objs.set i { o with stuck := true }).countP RObj.queued
    rw [countP_same RObj.queued m.objs i o { o with stuck := true } hi rfl]; exact p.ok.queue
  · rcases List.mem_or_eq_of_mem_set hx with e | e
    · exact p.clean x e hf
    · subst e; exact p.clean o (List.mem_of_getElem? hi) hf

theorem RStep.field {h N : Nat} {w : World} {m : RefM} (p : RPre h N w m) (i : Nat) {o : RObj} (hi : m.objs[i]? = some o) {g cap : Nat} (hv : o.vF = .slice (some ⟨g, 0, none⟩) o.fs.length cap) (k : Nat) (hk : k < o.fs.length) (x : Int × Int) (hx : okV N x) :
    RStep h N w m ((w.setCell ⟨g, k * 2, none⟩ (.int .i64 x.1)).setCell ⟨g, k * 2 + 1, none⟩ (.int .i64 x.2)) (m.put i { o with fs := o.fs.set k x }) ∧
    RPre h N ((w.setCell ⟨g, k * 2, none⟩ (.int .i64 x.1)).setCell ⟨g, k * 2 + 1, none⟩ (.int .i64 x.2)) (m.put i { o with fs := o.fs.set k x }) ∧ (m.put i { o with fs := o.fs.set k x }).st = m.st.field i k x := by
  have t := p.r.fieldSet i hi hv k hk x
  have s : RStep h N w m _ _ := ⟨t, ⟨p.ok.most, by simp [RefM.put, p.ok.len], p.ok.small, fun y hy => by
      rcases List.mem_or_eq_of_mem_set hy with e | e
      · exact p.ok.fields y e
      · subst e; simpa using p.ok.fields o (List.mem_of_getElem? hi), p.ok.stack, p.ok.globals, by
      show m.queue.length ≤ (m.objs.set i { o with fs := o.fs.set k x }).countP RObj.queued
      rw [countP_same RObj.queued m.objs i o { o with fs := o.fs.set k x } hi rfl]; exact p.ok.queue⟩, rfl, fun y hy hf => by
      rcases List.mem_or_eq_of_mem_set hy with e | e
      · exact p.clean y e hf
      · subst e; exact p.clean o (List.mem_of_getElem? hi) hf⟩
  have hst : (m.put i { o with fs := o.fs.set k x }).st = m.st.field i k x := by
    rw [put_st]; unfold St.field; rw [st_ob hi]; rfl
  exact ⟨s, s.pre p (by rw [hst]; exact p.inv.setField i k hx), hst⟩

theorem RStep.enter {h N : Nat} {w w' : World} {m m' : RefM} {but : Int} (p : RPre h N w m) (he : EnterRel but m N m') (t : Turn h w m w' m') (ok : m'.Ok N) : RStep h N w m w' m' ∧ m'.st = m.st.enter m.zero but :=
  ⟨⟨t, ok, he.alike.cf, he.clean p.clean⟩, he.st p.ok⟩

end Go.Proofs.YtpmkjeihbddfpabGreatDoor

/- OUR OWN. The document's heap: stored. -/
namespace Go.Proofs.YtpmkjeihbddfpabGreatDoor
open Go.RowKit
set_option linter.unusedVariables false
set_option linter.unusedSimpArgs false

def StoreSays : Prop := ∀ (h N : Nat) (w : World) (m : RefM) (n : Int), RPre h N w m →
  Calls Tryz.prog 60 #[.pointer (some ⟨h, 0, none⟩), .int .i64 n] w (RDid h N w m (storeS m.cf m.st n))

/-- what the walk wants of a heap, in the world as it stands there: the head's cells, the object i, its field k -/
theorem RPre.facts {h N : Nat} {w : World} {m : RefM} (p : RPre h N w m) (i : Nat) (o : RObj) (hi : m.objs[i]? = some o) (k : Nat) (hk : k < o.fs.length) :
    ∃ g capB fg fc, m.vB = .slice (some ⟨g, 0, none⟩) (N + 1) capB ∧ o.vF = .slice (some ⟨fg, 0, none⟩) o.fs.length fc ∧ g < w.heap.size ∧ fg < w.heap.size ∧ w.cell? ⟨h, 5, none⟩ = some (.slice (some ⟨g, 0, none⟩) (N + 1) capB) ∧
      w.cell? ⟨g, i * 4 + 1, none⟩ = some (.slice (some ⟨fg, 0, none⟩) o.fs.length fc) ∧ w.cell? ⟨fg, k * 2, none⟩ = some (.int .i64 (o.fs[k]).1) ∧ w.cell? ⟨fg, k * 2 + 1, none⟩ = some (.int .i64 (o.fs[k]).2) ∧
      w.frozen? ⟨fg, k * 2, none⟩ = false ∧ w.frozen? ⟨fg, k * 2 + 1, none⟩ = false := by
  obtain ⟨g, capB, hvB, hg, _, _, _, hobj⟩ := p.r.view p.ok
  have hil : i < m.objs.length := (List.getElem?_eq_some_iff.1 hi).1
  have hio : m.objs[i] = o := (List.getElem?_eq_some_iff.1 hi).2
  obtain ⟨fg, fc, hvF, hfg, _, _, hfz, hfc⟩ := p.r.fieldView i hil (by rw [hio]; omega)
  have c1 := (hobj i hil).2.1
  rw [hvF] at c1
  simp only [hio] at *
  exact ⟨g, capB, fg, fc, hvB, hvF, hg, hfg, by rw [p.r.cell.2.2.2.2.2.1, hvB], c1, (hfc k hk).1, (hfc k hk).2, hfz _, hfz _⟩

theorem RPre.stuckCell {h N : Nat} {w : World} {m : RefM} (p : RPre h N w m) {g cap : Nat} (hv : m.vB = .slice (some ⟨g, 0, none⟩) (N + 1) cap) (i : Nat) (hi : i ≤ N) :
    ∃ o, m.objs[i]? = some o ∧ w.cell? ⟨g, i * 4 + 2, none⟩ = some (.bool o.stuck) ∧ w.frozen? ⟨g, i * 4 + 2, none⟩ = false := by
  obtain ⟨g', capB, hvB, hg, _, _, hfz, hobj⟩ := p.r.view p.ok
  have e : (Value.slice (some ⟨g', 0, none⟩) (N + 1) capB) = .slice (some ⟨g, 0, none⟩) (N + 1) cap := hvB.symm.trans hv
  simp at e
  obtain ⟨rfl, rfl⟩ := e
  have hil : i < m.objs.length := by rw [p.ok.len]; omega
  exact ⟨m.objs[i], List.getElem?_eq_getElem hil, (hobj i hil).2.2.1, hfz _⟩

/-- behind the store: the old value's object is let go -/
structure Tail (h N : Nat) (w : World) (m : RefM) (s' : St) (W : World) (m3 : RefM) : Prop where
  pre : RPre h N W m3
  step : RStep h N w m W m3
  st : m3.st = s'

theorem Tail.below {h N : Nat} {w W W' : World} {m m3 : RefM} {s' : St} (t : Tail h N w m s' W m3) (hb : Below W.heap.size W W') : Tail h N w m s' W' m3 := ⟨t.pre.below hb, t.step.after hb, t.st⟩

end Go.Proofs.YtpmkjeihbddfpabGreatDoor

/- OUR OWN. The document's heap: stored, where nothing is stored. -/
namespace Go.Proofs.YtpmkjeihbddfpabGreatDoor
open Go.RowKit
set_option linter.unusedVariables false
set_option linter.unusedSimpArgs false

set_option maxHeartbeats 1600000 in
theorem stored_not (h N : Nat) (w : World) (m : RefM) (n : Int) (p : RPre h N w m)
    (hbad : m.stack.length < 2 ∨ objErr (m.st.down 1) ≠ 0 ∨ n < 0 ∨ ((m.st.fields (m.st.down 1).2).length : Int) ≤ n) :
    Calls Tryz.prog 60 #[.pointer (some ⟨h, 0, none⟩), .int .i64 n] w (RDid h N w m (storeS m.cf m.st n)) := by
  obtain ⟨ao, cap, cS⟩ := p.stackCell
  by_cases hc : m.stack.length < 2
  · have e : storeS m.cf m.st n = (m.st, 0, 3) := by unfold storeS; exact if_pos hc
    rw [e]
    have K : Hid (∃ m', RStep h N w m w m' ∧ m'.st = m.st) := ⟨m, .refl p, rfl⟩
    obtain ⟨len, hlen⟩ : ∃ len, m.stack.length = len := ⟨_, rfl⟩
    rw [hlen] at hc cS
    clear p hlen e hbad
    have hcI : (len : Int) < 2 := by omega
    go_enter Tryz.func60, Tryz.ntmps60
    go_wp2
    go_ret
    exact ⟨rfl, K.out⟩
  have D0 : Hid _ := down_do p 0 (by omega)
  have D1 : Hid (∀ W, Below w.heap.size w W → Calls Tryz.prog 92 #[.pointer (some ⟨h, 0, none⟩), .int .i64 1] W fun e w' => e = .returned (.agg #[.int .i64 (m.st.down 1).1, .int .i64 (m.st.down 1).2]) ∧ Below W.heap.size W w') := fun W hb => down_do (p.below hb) 1 (by show 1 < m.stack.length; omega)
  have K : Hid (∀ W, Below w.heap.size w W → ∃ m', RStep h N w m W m' ∧ m'.st = m.st) := fun W hb => ⟨m, .of_below p hb, rfl⟩
  have hv := p.inv.down 1
  have hcI0 : ¬ (m.stack.length : Int) < 2 := by omega
  obtain ⟨x, hx⟩ : ∃ x, m.st.down 0 = x := ⟨_, rfl⟩
  rw [hx] at D0
  obtain ⟨x1, x2⟩ := x
  by_cases he : objErr (m.st.down 1) ≠ 0
  · have e : storeS m.cf m.st n = (m.st, 0, objErr (m.st.down 1)) := by unfold storeS; exact (if_neg hc).trans (if_pos he)
    rw [e]
    obtain ⟨len, hlen⟩ : ∃ len, m.stack.length = len := ⟨_, rfl⟩
    rw [hlen] at hc cS hcI0
    obtain ⟨q, hq⟩ : ∃ q, m.st.down 1 = q := ⟨_, rfl⟩
    rw [hq] at D1 he ⊢
    obtain ⟨q1, q2⟩ := q
    have O : Hid (∀ W, Calls Tryz.prog 93 #[.agg #[.int .i64 q1, .int .i64 q2]] W fun e w' => e = .returned (.int .i64 (objErr (q1, q2))) ∧ Below W.heap.size W w') := object_any (q1, q2)
    obtain ⟨er, her⟩ : ∃ er, objErr (q1, q2) = er := ⟨_, rfl⟩
    rw [her] at he O ⊢
    have he2 : (er == 0) = false := by simpa using he
    clear p hlen e hx hv her hbad hq
    go_enter Tryz.func60, Tryz.ntmps60
    go_wp2_with fail
    refine Calls.mono D0.out ?_
    rintro e w1 ⟨rfl, hb⟩
    have B : Hid (Below w.heap.size w w1) := hb
    clear hb D0
    go_wp2_with fail
    refine Calls.mono (D1.out _ (B.out.alloc B.out.size _)) ?_
    rintro e w2 ⟨rfl, hb⟩
    have B2 : Hid (Below w.heap.size w w2) := (B.out.alloc B.out.size _).trans (hb.mono (by simp; have := B.out.size; omega))
    clear hb D1
    go_wp2_with fail
    refine Calls.mono (O.out _) ?_
    rintro e w3 ⟨rfl, hb⟩
    have B3 : Hid (Below w.heap.size w w3) := (B2.out.alloc B2.out.size _).trans (hb.mono (by simp; have := B2.out.size; omega))
    clear hb O
    go_wp2
    go_ret
    exact ⟨rfl, K.out _ B3.out⟩
  have he : objErr (m.st.down 1) = 0 := by omega
  obtain ⟨i, hi, hbi, hiN, hfs⟩ := p.obj _ (ref_of hv he)
  obtain ⟨g, capB, hvB, hg, _, _, _, hobj⟩ := p.r.view p.ok
  have cB : w.cell? ⟨h, 5, none⟩ = some (.slice (some ⟨g, 0, none⟩) (N + 1) capB) := by rw [p.r.cell.2.2.2.2.2.1, hvB]
  have c1 := (hobj i hi).2.1
  have hh := lt_of_heap p.r.head
  have hN := p.ok.small
  have hiI : (i : Int) < (N : Int) + 1 := by omega
  have hr : n < 0 ∨ ((m.objs[i]).fs.length : Int) ≤ n := by
    rcases hbad with hb | hb | hb | hb
    · exact absurd hb hc
    · exact absurd he hb
    · exact .inl hb
    · rw [hfs] at hb; exact .inr hb
  have e : storeS m.cf m.st n = (m.st, 0, 6) := by unfold storeS; exact (if_neg hc).trans ((if_neg (by omega)).trans (if_pos (by rw [hfs]; exact hr)))
  rw [e]
  obtain ⟨fo, fc, hvF⟩ := own_slice (p.r.fields _ (List.getElem_mem hi))
  rw [hvF] at c1
  obtain ⟨fl, hfl⟩ : ∃ fl, (m.objs[i]).fs.length = fl := ⟨_, rfl⟩
  rw [hfl] at c1 hr
  obtain ⟨len, hlen⟩ : ∃ len, m.stack.length = len := ⟨_, rfl⟩
  rw [hlen] at hc cS hcI0
  obtain ⟨q, hq⟩ : ∃ q, m.st.down 1 = q := ⟨_, rfl⟩
  rw [hq] at D1 he hbi
  obtain ⟨q1, q2⟩ := q
  simp only at hbi
  subst hbi
  have O : Hid (∀ W, Calls Tryz.prog 93 #[.agg #[.int .i64 q1, .int .i64 i]] W fun e w' => e = .returned (.int .i64 0) ∧ Below W.heap.size W w') := fun W => (object_any (q1, (i : Int)) W).mono fun e w' ⟨h1, h2⟩ => ⟨h1.trans (ret_int he), h2⟩
  have OLD : Hid (∀ W, Below w.heap.size w W → W.cell? ⟨h, 5, none⟩ = some (.slice (some ⟨g, 0, none⟩) (N + 1) capB) ∧ W.cell? ⟨g, i * 4 + 1, none⟩ = some (.slice fo fl fc)) := fun W hb =>
    ⟨(hb.cell (p := ⟨h, 5, none⟩) hh).trans cB, (hb.cell (p := ⟨g, i * 4 + 1, none⟩) hg).trans c1⟩
  clear p hlen e hx hv he hfs hobj hvB hvF hfl cB c1 hq hbad
  rcases hr with hr | hr
  · have hd : decide (n < 0) = true := by simpa using hr
    go_enter Tryz.func60, Tryz.ntmps60
    go_wp2_with fail
    refine Calls.mono D0.out ?_
    rintro e w1 ⟨rfl, hb⟩
    have B : Hid (Below w.heap.size w w1) := hb
    clear hb D0
    go_wp2_with fail
    refine Calls.mono (D1.out _ (B.out.alloc B.out.size _)) ?_
    rintro e w2 ⟨rfl, hb⟩
    have B2 : Hid (Below w.heap.size w w2) := (B.out.alloc B.out.size _).trans (hb.mono (by simp; have := B.out.size; omega))
    clear hb D1
    go_wp2_with fail
    refine Calls.mono (O.out _) ?_
    rintro e w3 ⟨rfl, hb⟩
    have B3 : Hid (Below w.heap.size w w3) := (B2.out.alloc B2.out.size _).trans (hb.mono (by simp; have := B2.out.size; omega))
    have l1 : w3.cell? ⟨w2.heap.size, 1, none⟩ = some (.int .i64 i) := cell_of_heap (boxed' hb) rfl
    obtain ⟨d0, d1⟩ := OLD.out w3 B3.out
    clear hb O
    go_wp2_with fail
    go_quiet (fail)
    go_wp2
    go_ret
    exact ⟨rfl, K.out _ (below_drewN B3.out _)⟩
  · have hn0 : ¬ n < 0 := by omega
    have hd : decide (n < 0) = false := by simpa using hn0
    go_enter Tryz.func60, Tryz.ntmps60
    go_wp2_with fail
    refine Calls.mono D0.out ?_
    rintro e w1 ⟨rfl, hb⟩
    have B : Hid (Below w.heap.size w w1) := hb
    clear hb D0
    go_wp2_with fail
    refine Calls.mono (D1.out _ (B.out.alloc B.out.size _)) ?_
    rintro e w2 ⟨rfl, hb⟩
    have B2 : Hid (Below w.heap.size w w2) := (B.out.alloc B.out.size _).trans (hb.mono (by simp; have := B.out.size; omega))
    clear hb D1
    go_wp2_with fail
    refine Calls.mono (O.out _) ?_
    rintro e w3 ⟨rfl, hb⟩
    have B3 : Hid (Below w.heap.size w w3) := (B2.out.alloc B2.out.size _).trans (hb.mono (by simp; have := B2.out.size; omega))
    have l1 : w3.cell? ⟨w2.heap.size, 1, none⟩ = some (.int .i64 i) := cell_of_heap (boxed' hb) rfl
    obtain ⟨d0, d1⟩ := OLD.out w3 B3.out
    clear hb O
    go_wp2_with fail
    go_quiet (fail)
    go_wp2
    go_ret
    exact ⟨rfl, K.out _ (below_drewN B3.out _)⟩

end Go.Proofs.YtpmkjeihbddfpabGreatDoor

/- OUR OWN. The document's heap: stored, where a field is turned: the walk over what the callees leave. -/
namespace Go.Proofs.YtpmkjeihbddfpabGreatDoor
open Go.RowKit
set_option linter.unusedVariables false
set_option linter.unusedSimpArgs false

/-- What is known of the heap at each place of the walk, and what each callee does to it. -/
structure StoreEnv (h N g capB fg fl fc i k : Nat) (x1 x2 y1 y2 q1 over : Int) (cx ex : Nat) (ys : Nat → Bool) (cy : Int → Nat) (w : World) (Mid1 MidP TailP Done : World → Prop) : Prop where
  d0 : Calls Tryz.prog 92 #[.pointer (some ⟨h, 0, none⟩), .int .i64 0] w fun e w' => e = .returned (.agg #[.int .i64 x1, .int .i64 x2]) ∧ Below w.heap.size w w'
  d1 : ∀ W, Below w.heap.size w W → Calls Tryz.prog 92 #[.pointer (some ⟨h, 0, none⟩), .int .i64 1] W fun e w' => e = .returned (.agg #[.int .i64 q1, .int .i64 i]) ∧ Below W.heap.size W w'
  obj : ∀ W, Calls Tryz.prog 93 #[.agg #[.int .i64 q1, .int .i64 i]] W fun e w' => e = .returned (.int .i64 0) ∧ Below W.heap.size W w'
  old : ∀ W, Below w.heap.size w W → W.cell? ⟨h, 5, none⟩ = some (.slice (some ⟨g, 0, none⟩) (N + 1) capB) ∧ W.cell? ⟨g, i * 4 + 1, none⟩ = some (.slice (some ⟨fg, 0, none⟩) fl fc)
  pop : ∀ W, Below w.heap.size w W → Calls Tryz.prog 94 #[.pointer (some ⟨h, 0, none⟩), .int .i64 2] W fun e w' => e = .returned (.tuple #[]) ∧ Mid1 w' ∧ W.heap.size ≤ w'.heap.size ∧ ∀ L ob, w.heap.size ≤ L → W.heap[L]? = some ob → w'.heap[L]? = some ob
  mid : ∀ W, MidP W → W.cell? ⟨h, 5, none⟩ = some (.slice (some ⟨g, 0, none⟩) (N + 1) capB) ∧ W.cell? ⟨g, i * 4 + 1, none⟩ = some (.slice (some ⟨fg, 0, none⟩) fl fc) ∧ W.cell? ⟨fg, k * 2, none⟩ = some (.int .i64 y1) ∧ W.cell? ⟨fg, k * 2 + 1, none⟩ = some (.int .i64 y2) ∧
    W.frozen? ⟨fg, k * 2, none⟩ = false ∧ W.frozen? ⟨fg, k * 2 + 1, none⟩ = false ∧ W.cell? ⟨h, 4, none⟩ = some (.int .i64 over)
  midA : ∀ W, Mid1 W → W.cell? ⟨h, 5, none⟩ = some (.slice (some ⟨g, 0, none⟩) (N + 1) capB) ∧ W.cell? ⟨g, i * 4 + 1, none⟩ = some (.slice (some ⟨fg, 0, none⟩) fl fc) ∧ W.cell? ⟨fg, k * 2, none⟩ = some (.int .i64 y1) ∧ W.cell? ⟨fg, k * 2 + 1, none⟩ = some (.int .i64 y2) ∧
    W.frozen? ⟨fg, k * 2, none⟩ = false ∧ W.frozen? ⟨fg, k * 2 + 1, none⟩ = false ∧ W.cell? ⟨h, 4, none⟩ = some (.int .i64 over)
  mid1 : ∀ W, Mid1 W → ¬ (x1 = 2 ∧ (cx : Int) = 7 ∧ over ≤ (ex : Int)) → MidP W
  mid1B : ∀ W W', Mid1 W → Below W.heap.size W W' → Mid1 W'
  midB : ∀ W W', MidP W → Below W.heap.size W W' → MidP W'
  same : ∀ W, Mid1 W → x1 = 2 → y1 = x1 → y2 = x2 → Done W
  count : ∀ W, Mid1 W → Calls Tryz.prog 33 #[.pointer (some ⟨h, 0, none⟩), .int .i64 x2] W fun e w' => e = .returned (.int .i64 cx) ∧ w' = W
  extras : ∀ W, Mid1 W → Calls Tryz.prog 44 #[.pointer (some ⟨h, 0, none⟩)] W fun e w' => e = .returned (.int .i64 ex) ∧ Below W.heap.size W w'
  stuck : ∀ W (j : Nat), Mid1 W → x2 = j → x1 = 2 → (cx : Int) = 7 → over ≤ (ex : Int) → j ≤ N ∧ (∃ u, W.cell? ⟨g, j * 4 + 2, none⟩ = some (.bool u)) ∧ W.frozen? ⟨g, j * 4 + 2, none⟩ = false ∧ MidP (W.setCell ⟨g, j * 4 + 2, none⟩ (.bool true))
  store : ∀ W, MidP W → TailP ((W.setCell ⟨fg, k * 2, none⟩ (.int .i64 x1)).setCell ⟨fg, k * 2 + 1, none⟩ (.int .i64 x2))
  tailB : ∀ W W', TailP W → Below W.heap.size W W' → TailP W'
  tail : ∀ W, TailP W → W.cell? ⟨h, 5, none⟩ = some (.slice (some ⟨g, 0, none⟩) (N + 1) capB) ∧ ∀ j : Nat, j ≤ N → W.cell? ⟨g, j * 4 + 2, none⟩ = some (.bool (ys j))
  done : ∀ W, TailP W → ¬ (x1 = 2 ∧ y1 = x1 ∧ y2 = x2) → (∀ j : Nat, y1 = 2 → y2 = j → ys j = false → cy j = 0 → False) → Done W
  tcount : ∀ W b, TailP W → Calls Tryz.prog 33 #[.pointer (some ⟨h, 0, none⟩), .int .i64 b] W fun e w' => e = .returned (.int .i64 (cy b)) ∧ w' = W
  enter : ∀ W (j : Nat), TailP W → ¬ (x1 = 2 ∧ y1 = x1 ∧ y2 = x2) → y1 = 2 → y2 = j → ys j = false → cy j = 0 → Calls Tryz.prog 70 #[.pointer (some ⟨h, 0, none⟩), .int .i64 (j : Int)] W fun e w' => e = .returned (.tuple #[]) ∧ Done w'
  xref : x1 = 2 → ∃ j : Nat, x2 = j ∧ j ≤ N
  yref : y1 = 2 → ∃ j : Nat, y2 = j ∧ j ≤ N


end Go.Proofs.YtpmkjeihbddfpabGreatDoor

/- OUR OWN. The document's heap: stored, by cases. -/
namespace Go.Proofs.YtpmkjeihbddfpabGreatDoor
open Go.RowKit
set_option linter.unusedVariables false
set_option linter.unusedSimpArgs false

set_option maxHeartbeats 1600000 in
theorem stored_same (h N g capB fg fl fc i k len cap : Nat) (ao : Option Addr) (jx : Nat) (q1 over : Int) (cx ex : Nat) (ys : Nat → Bool) (cy : Int → Nat) (w : World) (Mid1 MidP TailP Done : World → Prop) (E : Hid (StoreEnv h N g capB fg fl fc i k 2 (jx : Int) 2 (jx : Int) q1 over cx ex ys cy w Mid1 MidP TailP Done))
    (cS : w.cell? ⟨h, 7, none⟩ = some (.slice ao len cap)) (hc : ¬ (len : Int) < 2) (hl : len ≤ 16) (hN : N ≤ 99) (hi : i ≤ N) (hk : k < fl) (hfl : fl ≤ 4) (hh : h < w.heap.size) (hg : g < w.heap.size) (hfg : fg < w.heap.size) (hgf : ¬ g = fg) :
    Calls Tryz.prog 60 #[.pointer (some ⟨h, 0, none⟩), .int .i64 k] w fun e w' => e = .returned (.int .i64 0) ∧ Done w' := by
  have hiI : (i : Int) < (N : Int) + 1 := by omega
  have hkI : (k : Int) < fl := by omega
  have hk0 : ¬ (k : Int) < 0 := by omega
  have hkd : decide ((k : Int) < 0) = false := by simp
  go_enter Tryz.func60, Tryz.ntmps60
  go_wp2_with fail
  refine Calls.mono E.out.d0 ?_
  rintro e w1 ⟨rfl, hb⟩
  have B : Hid (Below w.heap.size w w1) := hb
  clear hb
  go_wp2_with fail
  refine Calls.mono (E.out.d1 _ (B.out.alloc B.out.size _)) ?_
  rintro e w2 ⟨rfl, hb⟩
  have B2 : Hid (Below w.heap.size w w2 ∧ w1.heap.size + 1 ≤ w2.heap.size ∧ w2.heap[w1.heap.size]? = some (.cells #[.int .i64 2, .int .i64 (jx : Int)] 84)) := ⟨(B.out.alloc B.out.size _).trans (hb.mono (by simp; have := B.out.size; omega)), by have := hb.size; simpa using this, boxed' hb⟩
  clear hb
  go_wp2_with fail
  refine Calls.mono (E.out.obj _) ?_
  rintro e w3 ⟨rfl, hb⟩
  have B3 : Hid (Below w.heap.size w w3 ∧ w2.heap.size + 1 ≤ w3.heap.size ∧ w3.heap[w2.heap.size]? = some (.cells #[.int .i64 q1, .int .i64 i] 84) ∧ w3.heap[w1.heap.size]? = some (.cells #[.int .i64 2, .int .i64 (jx : Int)] 84)) :=
    ⟨(B2.out.1.alloc B2.out.1.size _).trans (hb.mono (by simp; have := B2.out.1.size; omega)), by have := hb.size; simpa using this, boxed' hb, by
      have h1 := B2.out.2.1
      rw [hb.block _ (by simp; omega), hao (by omega)]; exact B2.out.2.2⟩
  have l1 : w3.cell? ⟨w2.heap.size, 1, none⟩ = some (.int .i64 i) := cell_of_heap B3.out.2.2.1 rfl
  obtain ⟨d0, d1⟩ := E.out.old w3 B3.out.1
  clear hb
  go_wp2_with fail
  go_quiet (fail)
  go_wp2_with fail
  refine Calls.mono (E.out.pop _ (below_drewN B3.out.1 _)) ?_
  rintro e w4 ⟨rfl, hm, hsz, hloc⟩
  have a0 := hloc w1.heap.size _ B.out.size B3.out.2.2.2
  have b0 := hloc w2.heap.size _ B2.out.1.size B3.out.2.2.1
  have hsz' : w3.heap.size ≤ w4.heap.size := hsz
  have LOC : Hid (w4.heap[w1.heap.size]? = some (.cells #[.int .i64 2, .int .i64 (jx : Int)] 84) ∧ w4.heap[w2.heap.size]? = some (.cells #[.int .i64 q1, .int .i64 i] 84)) := ⟨a0, b0⟩
  have v0 : w4.cell? ⟨w1.heap.size, 0, none⟩ = some (.int .i64 2) := cell_of_heap a0 rfl
  have v1 : w4.cell? ⟨w1.heap.size, 1, none⟩ = some (.int .i64 (jx : Int)) := cell_of_heap a0 rfl
  have u1 : w4.cell? ⟨w2.heap.size, 1, none⟩ = some (.int .i64 i) := cell_of_heap b0 rfl
  have s1 := B.out.size
  have s2 := B2.out.2.1
  have s3 := B3.out.2.1
  have M4 : Hid (Mid1 w4) := hm
  obtain ⟨m0, m1, m2, m3, m4, m5, m6⟩ := E.out.midA w4 hm
  have al : ∀ (ob : Obj) (b o : Nat), b < w4.heap.size → (w4.alloc ob).cell? ⟨b, o, none⟩ = w4.cell? ⟨b, o, none⟩ := fun ob b o hlt => World.cell?_of_block (hao hlt)
  have t0 : ∀ ob, (w4.alloc ob).cell? ⟨h, 5, none⟩ = w4.cell? ⟨h, 5, none⟩ := fun ob => al ob h 5 (by omega)
  have t1 : ∀ ob, (w4.alloc ob).cell? ⟨g, i * 4 + 1, none⟩ = w4.cell? ⟨g, i * 4 + 1, none⟩ := fun ob => al ob g _ (by omega)
  have t2 : ∀ ob, (w4.alloc ob).cell? ⟨fg, k * 2, none⟩ = w4.cell? ⟨fg, k * 2, none⟩ := fun ob => al ob fg _ (by omega)
  have t3 : ∀ ob, (w4.alloc ob).cell? ⟨fg, k * 2 + 1, none⟩ = w4.cell? ⟨fg, k * 2 + 1, none⟩ := fun ob => al ob fg _ (by omega)
  have t4 : ∀ ob, (w4.alloc ob).cell? ⟨w2.heap.size, 1, none⟩ = w4.cell? ⟨w2.heap.size, 1, none⟩ := fun ob => al ob w2.heap.size _ (by omega)
  clear hm hsz hloc a0 b0 d0 d1 l1 B B2 B3 al
  go_wp2_with fail
  go_region
  obtain ⟨w5, hw5⟩ : ∃ w5, w5 = (w4.alloc (.cells #[.int .i64 2, .int .i64 (jx : Int)] 84)).drew := ⟨_, rfl⟩
  rw [← hw5]
  have M5 : Hid (Mid1 w5) := by rw [hw5]; exact E.out.mid1B _ _ M4.out ((Below.refl _ _).alloc (Nat.le_refl _) _).drew
  have L5 : Hid (w5.heap[w1.heap.size]? = some (.cells #[.int .i64 2, .int .i64 (jx : Int)] 84) ∧ w5.heap[w2.heap.size]? = some (.cells #[.int .i64 q1, .int .i64 i] 84) ∧ w5.heap[w4.heap.size]? = some (.cells #[.int .i64 2, .int .i64 (jx : Int)] 84)) := by
    rw [hw5]
    refine ⟨?_, ?_, heap_alloc_new w4 _⟩
    · show (w4.alloc _).heap[w1.heap.size]? = _
      rw [hao (by omega)]; exact LOC.out.1
    · show (w4.alloc _).heap[w2.heap.size]? = _
      rw [hao (by omega)]; exact LOC.out.2
  have s5 : w5.heap.size = w4.heap.size + 1 := by rw [hw5]; simp
  clear hw5 t0 t1 t2 t3 t4 m0 m1 m2 m3 m4 m5 m6 v0 v1 u1 LOC M4
  have lv0 : w5.cell? ⟨w1.heap.size, 0, none⟩ = some (.int .i64 2) := cell_of_heap L5.out.1 rfl
  have lv1 : w5.cell? ⟨w1.heap.size, 1, none⟩ = some (.int .i64 (jx : Int)) := cell_of_heap L5.out.1 rfl
  have ly0 : w5.cell? ⟨w4.heap.size, 0, none⟩ = some (.int .i64 2) := cell_of_heap L5.out.2.2 rfl
  have ly1 : w5.cell? ⟨w4.heap.size, 1, none⟩ = some (.int .i64 (jx : Int)) := cell_of_heap L5.out.2.2 rfl
  have DD : Hid (Done w5) := E.out.same _ M5.out rfl rfl rfl
  go_wp2
  go_ret
  exact ⟨rfl, DD.out⟩

set_option maxHeartbeats 1600000 in
theorem stored_nn (h N g capB fg fl fc i k len cap : Nat) (ao : Option Addr) (x1 x2 : Int) (xk : ¬ x1 = 2) (y1 y2 : Int) (yk : ¬ y1 = 2) (q1 over : Int) (cx ex : Nat) (ys : Nat → Bool) (cy : Int → Nat)  (w : World) (Mid1 MidP TailP Done : World → Prop) (E : Hid (StoreEnv h N g capB fg fl fc i k x1 x2 y1 y2 q1 over cx ex ys cy w Mid1 MidP TailP Done))
    (cS : w.cell? ⟨h, 7, none⟩ = some (.slice ao len cap)) (hc : ¬ (len : Int) < 2) (hl : len ≤ 16) (hN : N ≤ 99) (hi : i ≤ N) (hk : k < fl) (hfl : fl ≤ 4) (hh : h < w.heap.size) (hg : g < w.heap.size) (hfg : fg < w.heap.size) (hgf : ¬ g = fg) :
    Calls Tryz.prog 60 #[.pointer (some ⟨h, 0, none⟩), .int .i64 k] w fun e w' => e = .returned (.int .i64 0) ∧ Done w' := by
  have hiI : (i : Int) < (N : Int) + 1 := by omega
  have hkI : (k : Int) < fl := by omega
  have hk0 : ¬ (k : Int) < 0 := by omega
  have hkd : decide ((k : Int) < 0) = false := by simp
  go_enter Tryz.func60, Tryz.ntmps60
  go_wp2_with fail
  refine Calls.mono E.out.d0 ?_
  rintro e w1 ⟨rfl, hb⟩
  have B : Hid (Below w.heap.size w w1) := hb
  clear hb
  go_wp2_with fail
  refine Calls.mono (E.out.d1 _ (B.out.alloc B.out.size _)) ?_
  rintro e w2 ⟨rfl, hb⟩
  have B2 : Hid (Below w.heap.size w w2 ∧ w1.heap.size + 1 ≤ w2.heap.size ∧ w2.heap[w1.heap.size]? = some (.cells #[.int .i64 x1, .int .i64 x2] 84)) := ⟨(B.out.alloc B.out.size _).trans (hb.mono (by simp; have := B.out.size; omega)), by have := hb.size; simpa using this, boxed' hb⟩
  clear hb
  go_wp2_with fail
  refine Calls.mono (E.out.obj _) ?_
  rintro e w3 ⟨rfl, hb⟩
  have B3 : Hid (Below w.heap.size w w3 ∧ w2.heap.size + 1 ≤ w3.heap.size ∧ w3.heap[w2.heap.size]? = some (.cells #[.int .i64 q1, .int .i64 i] 84) ∧ w3.heap[w1.heap.size]? = some (.cells #[.int .i64 x1, .int .i64 x2] 84)) :=
    ⟨(B2.out.1.alloc B2.out.1.size _).trans (hb.mono (by simp; have := B2.out.1.size; omega)), by have := hb.size; simpa using this, boxed' hb, by
      have h1 := B2.out.2.1
      rw [hb.block _ (by simp; omega), hao (by omega)]; exact B2.out.2.2⟩
  have l1 : w3.cell? ⟨w2.heap.size, 1, none⟩ = some (.int .i64 i) := cell_of_heap B3.out.2.2.1 rfl
  obtain ⟨d0, d1⟩ := E.out.old w3 B3.out.1
  clear hb
  go_wp2_with fail
  go_quiet (fail)
  go_wp2_with fail
  refine Calls.mono (E.out.pop _ (below_drewN B3.out.1 _)) ?_
  rintro e w4 ⟨rfl, hm, hsz, hloc⟩
  have a0 := hloc w1.heap.size _ B.out.size B3.out.2.2.2
  have b0 := hloc w2.heap.size _ B2.out.1.size B3.out.2.2.1
  have hsz' : w3.heap.size ≤ w4.heap.size := hsz
  have LOC : Hid (w4.heap[w1.heap.size]? = some (.cells #[.int .i64 x1, .int .i64 x2] 84) ∧ w4.heap[w2.heap.size]? = some (.cells #[.int .i64 q1, .int .i64 i] 84)) := ⟨a0, b0⟩
  have v0 : w4.cell? ⟨w1.heap.size, 0, none⟩ = some (.int .i64 x1) := cell_of_heap a0 rfl
  have v1 : w4.cell? ⟨w1.heap.size, 1, none⟩ = some (.int .i64 x2) := cell_of_heap a0 rfl
  have u1 : w4.cell? ⟨w2.heap.size, 1, none⟩ = some (.int .i64 i) := cell_of_heap b0 rfl
  have s1 := B.out.size
  have s2 := B2.out.2.1
  have s3 := B3.out.2.1
  have M4 : Hid (Mid1 w4) := hm
  obtain ⟨m0, m1, m2, m3, m4, m5, m6⟩ := E.out.midA w4 hm
  have al : ∀ (ob : Obj) (b o : Nat), b < w4.heap.size → (w4.alloc ob).cell? ⟨b, o, none⟩ = w4.cell? ⟨b, o, none⟩ := fun ob b o hlt => World.cell?_of_block (hao hlt)
  have t0 : ∀ ob, (w4.alloc ob).cell? ⟨h, 5, none⟩ = w4.cell? ⟨h, 5, none⟩ := fun ob => al ob h 5 (by omega)
  have t1 : ∀ ob, (w4.alloc ob).cell? ⟨g, i * 4 + 1, none⟩ = w4.cell? ⟨g, i * 4 + 1, none⟩ := fun ob => al ob g _ (by omega)
  have t2 : ∀ ob, (w4.alloc ob).cell? ⟨fg, k * 2, none⟩ = w4.cell? ⟨fg, k * 2, none⟩ := fun ob => al ob fg _ (by omega)
  have t3 : ∀ ob, (w4.alloc ob).cell? ⟨fg, k * 2 + 1, none⟩ = w4.cell? ⟨fg, k * 2 + 1, none⟩ := fun ob => al ob fg _ (by omega)
  have t4 : ∀ ob, (w4.alloc ob).cell? ⟨w2.heap.size, 1, none⟩ = w4.cell? ⟨w2.heap.size, 1, none⟩ := fun ob => al ob w2.heap.size _ (by omega)
  clear hm hsz hloc a0 b0 d0 d1 l1 B B2 B3 al
  go_wp2_with fail
  go_region
  obtain ⟨w5, hw5⟩ : ∃ w5, w5 = (w4.alloc (.cells #[.int .i64 y1, .int .i64 y2] 84)).drew := ⟨_, rfl⟩
  rw [← hw5]
  have M5 : Hid (Mid1 w5) := by rw [hw5]; exact E.out.mid1B _ _ M4.out ((Below.refl _ _).alloc (Nat.le_refl _) _).drew
  have L5 : Hid (w5.heap[w1.heap.size]? = some (.cells #[.int .i64 x1, .int .i64 x2] 84) ∧ w5.heap[w2.heap.size]? = some (.cells #[.int .i64 q1, .int .i64 i] 84) ∧ w5.heap[w4.heap.size]? = some (.cells #[.int .i64 y1, .int .i64 y2] 84)) := by
    rw [hw5]
    refine ⟨?_, ?_, heap_alloc_new w4 _⟩
    · show (w4.alloc _).heap[w1.heap.size]? = _
      rw [hao (by omega)]; exact LOC.out.1
    · show (w4.alloc _).heap[w2.heap.size]? = _
      rw [hao (by omega)]; exact LOC.out.2
  have s5 : w5.heap.size = w4.heap.size + 1 := by rw [hw5]; simp
  clear hw5 t0 t1 t2 t3 t4 m0 m1 m2 m3 m4 m5 m6 v0 v1 u1 LOC M4
  have lv0 : w5.cell? ⟨w1.heap.size, 0, none⟩ = some (.int .i64 x1) := cell_of_heap L5.out.1 rfl
  have lv1 : w5.cell? ⟨w1.heap.size, 1, none⟩ = some (.int .i64 x2) := cell_of_heap L5.out.1 rfl
  have ly0 : w5.cell? ⟨w4.heap.size, 0, none⟩ = some (.int .i64 y1) := cell_of_heap L5.out.2.2 rfl
  have ly1 : w5.cell? ⟨w4.heap.size, 1, none⟩ = some (.int .i64 y2) := cell_of_heap L5.out.2.2 rfl
  have yk2 : (y1 == 2) = false := by simpa using yk
  have xk2 : (x1 == 2) = false := by simpa using xk
  have M : Hid (MidP w5) := E.out.mid1 _ M5.out (fun q => xk q.1)
  have L : Hid _ := L5.out
  clear lv0 lv1 ly0 ly1 M5 L5
  have lv0 : w5.cell? ⟨w1.heap.size, 0, none⟩ = some (.int .i64 x1) := cell_of_heap L.out.1 rfl
  have lv1 : w5.cell? ⟨w1.heap.size, 1, none⟩ = some (.int .i64 x2) := cell_of_heap L.out.1 rfl
  have lu1 : w5.cell? ⟨w2.heap.size, 1, none⟩ = some (.int .i64 i) := cell_of_heap L.out.2.1 rfl
  have ly0 : w5.cell? ⟨w4.heap.size, 0, none⟩ = some (.int .i64 y1) := cell_of_heap L.out.2.2 rfl
  have ly1 : w5.cell? ⟨w4.heap.size, 1, none⟩ = some (.int .i64 y2) := cell_of_heap L.out.2.2 rfl
  obtain ⟨n0, n1, n2, n3, n4, n5, n6⟩ := E.out.mid w5 M.out
  have TP : Hid (TailP ((w5.setCell ⟨fg, k * 2, none⟩ (.int .i64 x1)).setCell ⟨fg, k * 2 + 1, none⟩ (.int .i64 x2))) := E.out.store w5 M.out
  go_wp2_with fail
  go_region
  obtain ⟨w8, hw8⟩ : ∃ w8, w8 = ((w5.setCell ⟨fg, k * 2, none⟩ (.int .i64 x1)).setCell ⟨fg, k * 2 + 1, none⟩ (.int .i64 x2)).drew := ⟨_, rfl⟩
  rw [← hw8]
  have T8 : Hid (TailP w8) := by rw [hw8]; exact E.out.tailB _ _ TP.out ⟨rfl, rfl, rfl, Nat.le_refl _, fun _ _ => rfl⟩
  have h8 : w8.heap[w4.heap.size]? = some (.cells #[.int .i64 y1, .int .i64 y2] 84) := by
    rw [hw8]
    show ((w5.setCell ⟨fg, k * 2, none⟩ (.int .i64 x1)).setCell ⟨fg, k * 2 + 1, none⟩ (.int .i64 x2)).heap[w4.heap.size]? = _
    rw [hso (by omega), hso (by omega)]; exact L.out.2.2
  have z0 : w8.cell? ⟨w4.heap.size, 0, none⟩ = some (.int .i64 y1) := cell_of_heap h8 rfl
  have z1 : w8.cell? ⟨w4.heap.size, 1, none⟩ = some (.int .i64 y2) := cell_of_heap h8 rfl
  obtain ⟨c5, cst⟩ := E.out.tail w8 T8.out
  have ST : Hid (∀ j : Nat, j ≤ N → w8.cell? ⟨g, j * 4 + 2, none⟩ = some (.bool (ys j))) := cst
  clear lv0 lv1 lu1 ly0 ly1 n0 n1 n2 n3 n4 n5 n6 TP hw8 h8 M L cst
  go_wp2_with fail
  go_quiet (fail)
  go_wp2
  go_ret
  exact ⟨rfl, E.out.done _ (E.out.tailB _ _ T8.out ⟨rfl, rfl, rfl, Nat.le_refl _, fun _ _ => rfl⟩) (fun q => xk q.1) fun j h2 _ _ _ => yk h2⟩

set_option maxHeartbeats 1600000 in
theorem stored_nr (h N g capB fg fl fc i k len cap : Nat) (ao : Option Addr) (x1 x2 : Int) (xk : ¬ x1 = 2) (jy : Nat) (hjy : jy ≤ N) (q1 over : Int) (cx ex : Nat) (ys : Nat → Bool) (cy : Int → Nat)  (w : World) (Mid1 MidP TailP Done : World → Prop) (E : Hid (StoreEnv h N g capB fg fl fc i k x1 x2 2 (jy : Int) q1 over cx ex ys cy w Mid1 MidP TailP Done))
    (cS : w.cell? ⟨h, 7, none⟩ = some (.slice ao len cap)) (hc : ¬ (len : Int) < 2) (hl : len ≤ 16) (hN : N ≤ 99) (hi : i ≤ N) (hk : k < fl) (hfl : fl ≤ 4) (hh : h < w.heap.size) (hg : g < w.heap.size) (hfg : fg < w.heap.size) (hgf : ¬ g = fg) :
    Calls Tryz.prog 60 #[.pointer (some ⟨h, 0, none⟩), .int .i64 k] w fun e w' => e = .returned (.int .i64 0) ∧ Done w' := by
  have hiI : (i : Int) < (N : Int) + 1 := by omega
  have hkI : (k : Int) < fl := by omega
  have hk0 : ¬ (k : Int) < 0 := by omega
  have hkd : decide ((k : Int) < 0) = false := by simp
  go_enter Tryz.func60, Tryz.ntmps60
  go_wp2_with fail
  refine Calls.mono E.out.d0 ?_
  rintro e w1 ⟨rfl, hb⟩
  have B : Hid (Below w.heap.size w w1) := hb
  clear hb
  go_wp2_with fail
  refine Calls.mono (E.out.d1 _ (B.out.alloc B.out.size _)) ?_
  rintro e w2 ⟨rfl, hb⟩
  have B2 : Hid (Below w.heap.size w w2 ∧ w1.heap.size + 1 ≤ w2.heap.size ∧ w2.heap[w1.heap.size]? = some (.cells #[.int .i64 x1, .int .i64 x2] 84)) := ⟨(B.out.alloc B.out.size _).trans (hb.mono (by simp; have := B.out.size; omega)), by have := hb.size; simpa using this, boxed' hb⟩
  clear hb
  go_wp2_with fail
  refine Calls.mono (E.out.obj _) ?_
  rintro e w3 ⟨rfl, hb⟩
  have B3 : Hid (Below w.heap.size w w3 ∧ w2.heap.size + 1 ≤ w3.heap.size ∧ w3.heap[w2.heap.size]? = some (.cells #[.int .i64 q1, .int .i64 i] 84) ∧ w3.heap[w1.heap.size]? = some (.cells #[.int .i64 x1, .int .i64 x2] 84)) :=
    ⟨(B2.out.1.alloc B2.out.1.size _).trans (hb.mono (by simp; have := B2.out.1.size; omega)), by have := hb.size; simpa using this, boxed' hb, by
      have h1 := B2.out.2.1
      rw [hb.block _ (by simp; omega), hao (by omega)]; exact B2.out.2.2⟩
  have l1 : w3.cell? ⟨w2.heap.size, 1, none⟩ = some (.int .i64 i) := cell_of_heap B3.out.2.2.1 rfl
  obtain ⟨d0, d1⟩ := E.out.old w3 B3.out.1
  clear hb
  go_wp2_with fail
  go_quiet (fail)
  go_wp2_with fail
  refine Calls.mono (E.out.pop _ (below_drewN B3.out.1 _)) ?_
  rintro e w4 ⟨rfl, hm, hsz, hloc⟩
  have a0 := hloc w1.heap.size _ B.out.size B3.out.2.2.2
  have b0 := hloc w2.heap.size _ B2.out.1.size B3.out.2.2.1
  have hsz' : w3.heap.size ≤ w4.heap.size := hsz
  have LOC : Hid (w4.heap[w1.heap.size]? = some (.cells #[.int .i64 x1, .int .i64 x2] 84) ∧ w4.heap[w2.heap.size]? = some (.cells #[.int .i64 q1, .int .i64 i] 84)) := ⟨a0, b0⟩
  have v0 : w4.cell? ⟨w1.heap.size, 0, none⟩ = some (.int .i64 x1) := cell_of_heap a0 rfl
  have v1 : w4.cell? ⟨w1.heap.size, 1, none⟩ = some (.int .i64 x2) := cell_of_heap a0 rfl
  have u1 : w4.cell? ⟨w2.heap.size, 1, none⟩ = some (.int .i64 i) := cell_of_heap b0 rfl
  have s1 := B.out.size
  have s2 := B2.out.2.1
  have s3 := B3.out.2.1
  have M4 : Hid (Mid1 w4) := hm
  obtain ⟨m0, m1, m2, m3, m4, m5, m6⟩ := E.out.midA w4 hm
  have al : ∀ (ob : Obj) (b o : Nat), b < w4.heap.size → (w4.alloc ob).cell? ⟨b, o, none⟩ = w4.cell? ⟨b, o, none⟩ := fun ob b o hlt => World.cell?_of_block (hao hlt)
  have t0 : ∀ ob, (w4.alloc ob).cell? ⟨h, 5, none⟩ = w4.cell? ⟨h, 5, none⟩ := fun ob => al ob h 5 (by omega)
  have t1 : ∀ ob, (w4.alloc ob).cell? ⟨g, i * 4 + 1, none⟩ = w4.cell? ⟨g, i * 4 + 1, none⟩ := fun ob => al ob g _ (by omega)
  have t2 : ∀ ob, (w4.alloc ob).cell? ⟨fg, k * 2, none⟩ = w4.cell? ⟨fg, k * 2, none⟩ := fun ob => al ob fg _ (by omega)
  have t3 : ∀ ob, (w4.alloc ob).cell? ⟨fg, k * 2 + 1, none⟩ = w4.cell? ⟨fg, k * 2 + 1, none⟩ := fun ob => al ob fg _ (by omega)
  have t4 : ∀ ob, (w4.alloc ob).cell? ⟨w2.heap.size, 1, none⟩ = w4.cell? ⟨w2.heap.size, 1, none⟩ := fun ob => al ob w2.heap.size _ (by omega)
  clear hm hsz hloc a0 b0 d0 d1 l1 B B2 B3 al
  go_wp2_with fail
  go_region
  obtain ⟨w5, hw5⟩ : ∃ w5, w5 = (w4.alloc (.cells #[.int .i64 2, .int .i64 (jy : Int)] 84)).drew := ⟨_, rfl⟩
  rw [← hw5]
  have M5 : Hid (Mid1 w5) := by rw [hw5]; exact E.out.mid1B _ _ M4.out ((Below.refl _ _).alloc (Nat.le_refl _) _).drew
  have L5 : Hid (w5.heap[w1.heap.size]? = some (.cells #[.int .i64 x1, .int .i64 x2] 84) ∧ w5.heap[w2.heap.size]? = some (.cells #[.int .i64 q1, .int .i64 i] 84) ∧ w5.heap[w4.heap.size]? = some (.cells #[.int .i64 2, .int .i64 (jy : Int)] 84)) := by
    rw [hw5]
    refine ⟨?_, ?_, heap_alloc_new w4 _⟩
    · show (w4.alloc _).heap[w1.heap.size]? = _
      rw [hao (by omega)]; exact LOC.out.1
    · show (w4.alloc _).heap[w2.heap.size]? = _
      rw [hao (by omega)]; exact LOC.out.2
  have s5 : w5.heap.size = w4.heap.size + 1 := by rw [hw5]; simp
  clear hw5 t0 t1 t2 t3 t4 m0 m1 m2 m3 m4 m5 m6 v0 v1 u1 LOC M4
  have lv0 : w5.cell? ⟨w1.heap.size, 0, none⟩ = some (.int .i64 x1) := cell_of_heap L5.out.1 rfl
  have lv1 : w5.cell? ⟨w1.heap.size, 1, none⟩ = some (.int .i64 x2) := cell_of_heap L5.out.1 rfl
  have ly0 : w5.cell? ⟨w4.heap.size, 0, none⟩ = some (.int .i64 2) := cell_of_heap L5.out.2.2 rfl
  have ly1 : w5.cell? ⟨w4.heap.size, 1, none⟩ = some (.int .i64 (jy : Int)) := cell_of_heap L5.out.2.2 rfl
  have xk2 : (x1 == 2) = false := by simpa using xk
  have M : Hid (MidP w5) := E.out.mid1 _ M5.out (fun q => xk q.1)
  have L : Hid _ := L5.out
  clear lv0 lv1 ly0 ly1 M5 L5
  have lv0 : w5.cell? ⟨w1.heap.size, 0, none⟩ = some (.int .i64 x1) := cell_of_heap L.out.1 rfl
  have lv1 : w5.cell? ⟨w1.heap.size, 1, none⟩ = some (.int .i64 x2) := cell_of_heap L.out.1 rfl
  have lu1 : w5.cell? ⟨w2.heap.size, 1, none⟩ = some (.int .i64 i) := cell_of_heap L.out.2.1 rfl
  have ly0 : w5.cell? ⟨w4.heap.size, 0, none⟩ = some (.int .i64 2) := cell_of_heap L.out.2.2 rfl
  have ly1 : w5.cell? ⟨w4.heap.size, 1, none⟩ = some (.int .i64 (jy : Int)) := cell_of_heap L.out.2.2 rfl
  obtain ⟨n0, n1, n2, n3, n4, n5, n6⟩ := E.out.mid w5 M.out
  have TP : Hid (TailP ((w5.setCell ⟨fg, k * 2, none⟩ (.int .i64 x1)).setCell ⟨fg, k * 2 + 1, none⟩ (.int .i64 x2))) := E.out.store w5 M.out
  go_wp2_with fail
  go_region
  obtain ⟨w8, hw8⟩ : ∃ w8, w8 = ((w5.setCell ⟨fg, k * 2, none⟩ (.int .i64 x1)).setCell ⟨fg, k * 2 + 1, none⟩ (.int .i64 x2)).drew := ⟨_, rfl⟩
  rw [← hw8]
  have T8 : Hid (TailP w8) := by rw [hw8]; exact E.out.tailB _ _ TP.out ⟨rfl, rfl, rfl, Nat.le_refl _, fun _ _ => rfl⟩
  have h8 : w8.heap[w4.heap.size]? = some (.cells #[.int .i64 2, .int .i64 (jy : Int)] 84) := by
    rw [hw8]
    show ((w5.setCell ⟨fg, k * 2, none⟩ (.int .i64 x1)).setCell ⟨fg, k * 2 + 1, none⟩ (.int .i64 x2)).heap[w4.heap.size]? = _
    rw [hso (by omega), hso (by omega)]; exact L.out.2.2
  have z0 : w8.cell? ⟨w4.heap.size, 0, none⟩ = some (.int .i64 2) := cell_of_heap h8 rfl
  have z1 : w8.cell? ⟨w4.heap.size, 1, none⟩ = some (.int .i64 (jy : Int)) := cell_of_heap h8 rfl
  obtain ⟨c5, cst⟩ := E.out.tail w8 T8.out
  have ST : Hid (∀ j : Nat, j ≤ N → w8.cell? ⟨g, j * 4 + 2, none⟩ = some (.bool (ys j))) := cst
  clear lv0 lv1 lu1 ly0 ly1 n0 n1 n2 n3 n4 n5 n6 TP hw8 h8 M L cst
  have hu := ST.out jy hjy
  obtain ⟨u, hys⟩ : ∃ u, ys jy = u := ⟨_, rfl⟩
  rw [hys] at hu
  have HY : Hid (ys jy = u) := hys
  clear hys ST
  have hjI : (jy : Int) < (N : Int) + 1 := by omega
  cases u with
  | true =>
    go_wp2_with fail
    go_quiet (fail)
    go_wp2
    go_ret
    exact ⟨rfl, E.out.done _ (E.out.tailB _ _ T8.out ⟨rfl, rfl, rfl, Nat.le_refl _, fun _ _ => rfl⟩) (fun q => xk q.1) fun j _ hj hf _ => by
      have : j = jy := by omega
      rw [this, HY.out] at hf; cases hf⟩
  | false =>
    go_wp2_with fail
    go_quiet (fail)
    have T9 : Hid (TailP (w8.drewN nq)) := E.out.tailB _ _ T8.out ⟨rfl, rfl, rfl, Nat.le_refl _, fun _ _ => rfl⟩
    go_wp2_with fail
    have hcnt := E.out.tcount _ (jy : Int) T9.out
    obtain ⟨c, hcy⟩ : ∃ c, cy (jy : Int) = c := ⟨_, rfl⟩
    rw [hcy] at hcnt
    have HC : Hid (cy (jy : Int) = c) := hcy
    clear hcy
    refine Calls.mono hcnt ?_
    rintro e w9 ⟨rfl, hw9⟩
    have T10 : Hid (TailP w9) := by rw [hw9]; exact T9.out
    have z2 : w9.cell? ⟨w4.heap.size, 1, none⟩ = some (.int .i64 jy) := by rw [hw9]; exact z1
    clear hw9 hcnt T9
    by_cases c0 : c = 0
    · subst c0
      go_wp2_with fail
      refine Calls.mono (E.out.enter _ jy T10.out (fun q => xk q.1) rfl rfl HY.out HC.out) ?_
      rintro e w11 ⟨rfl, hd⟩
      have DD : Hid (Done w11) := hd
      clear hd
      go_wp2
      go_ret
      exact ⟨rfl, DD.out⟩
    · have c1 : ((c : Int) == 0) = false := by simp; omega
      have c2 : ¬ (c : Int) = 0 := by omega
      go_wp2
      go_ret
      exact ⟨rfl, E.out.done _ T10.out (fun q => xk q.1) fun j _ hj _ h0 => by
        have : j = jy := by omega
        rw [this, HC.out] at h0; omega⟩

end Go.Proofs.YtpmkjeihbddfpabGreatDoor

/- OUR OWN. The document's heap: stored, by cases. -/
namespace Go.Proofs.YtpmkjeihbddfpabGreatDoor
open Go.RowKit
set_option linter.unusedVariables false
set_option linter.unusedSimpArgs false

set_option maxHeartbeats 1600000 in
theorem stored_cn (h N g capB fg fl fc i k len cap : Nat) (ao : Option Addr) (jx : Nat) (hjx : jx ≤ N) (y1 y2 : Int) (yk : ¬ y1 = 2) (q1 over : Int) (cx ex : Nat) (ys : Nat → Bool) (cy : Int → Nat) (c7 : ¬ (cx : Int) = 7) (w : World) (Mid1 MidP TailP Done : World → Prop) (E : Hid (StoreEnv h N g capB fg fl fc i k 2 (jx : Int) y1 y2 q1 over cx ex ys cy w Mid1 MidP TailP Done))
    (cS : w.cell? ⟨h, 7, none⟩ = some (.slice ao len cap)) (hc : ¬ (len : Int) < 2) (hl : len ≤ 16) (hN : N ≤ 99) (hi : i ≤ N) (hk : k < fl) (hfl : fl ≤ 4) (hh : h < w.heap.size) (hg : g < w.heap.size) (hfg : fg < w.heap.size) (hgf : ¬ g = fg) :
    Calls Tryz.prog 60 #[.pointer (some ⟨h, 0, none⟩), .int .i64 k] w fun e w' => e = .returned (.int .i64 0) ∧ Done w' := by
  have hiI : (i : Int) < (N : Int) + 1 := by omega
  have hkI : (k : Int) < fl := by omega
  have hk0 : ¬ (k : Int) < 0 := by omega
  have hkd : decide ((k : Int) < 0) = false := by simp
  go_enter Tryz.func60, Tryz.ntmps60
  go_wp2_with fail
  refine Calls.mono E.out.d0 ?_
  rintro e w1 ⟨rfl, hb⟩
  have B : Hid (Below w.heap.size w w1) := hb
  clear hb
  go_wp2_with fail
  refine Calls.mono (E.out.d1 _ (B.out.alloc B.out.size _)) ?_
  rintro e w2 ⟨rfl, hb⟩
  have B2 : Hid (Below w.heap.size w w2 ∧ w1.heap.size + 1 ≤ w2.heap.size ∧ w2.heap[w1.heap.size]? = some (.cells #[.int .i64 2, .int .i64 (jx : Int)] 84)) := ⟨(B.out.alloc B.out.size _).trans (hb.mono (by simp; have := B.out.size; omega)), by have := hb.size; simpa using this, boxed' hb⟩
  clear hb
  go_wp2_with fail
  refine Calls.mono (E.out.obj _) ?_
  rintro e w3 ⟨rfl, hb⟩
  have B3 : Hid (Below w.heap.size w w3 ∧ w2.heap.size + 1 ≤ w3.heap.size ∧ w3.heap[w2.heap.size]? = some (.cells #[.int .i64 q1, .int .i64 i] 84) ∧ w3.heap[w1.heap.size]? = some (.cells #[.int .i64 2, .int .i64 (jx : Int)] 84)) :=
    ⟨(B2.out.1.alloc B2.out.1.size _).trans (hb.mono (by simp; have := B2.out.1.size; omega)), by have := hb.size; simpa using this, boxed' hb, by
      have h1 := B2.out.2.1
      rw [hb.block _ (by simp; omega), hao (by omega)]; exact B2.out.2.2⟩
  have l1 : w3.cell? ⟨w2.heap.size, 1, none⟩ = some (.int .i64 i) := cell_of_heap B3.out.2.2.1 rfl
  obtain ⟨d0, d1⟩ := E.out.old w3 B3.out.1
  clear hb
  go_wp2_with fail
  go_quiet (fail)
  go_wp2_with fail
  refine Calls.mono (E.out.pop _ (below_drewN B3.out.1 _)) ?_
  rintro e w4 ⟨rfl, hm, hsz, hloc⟩
  have a0 := hloc w1.heap.size _ B.out.size B3.out.2.2.2
  have b0 := hloc w2.heap.size _ B2.out.1.size B3.out.2.2.1
  have hsz' : w3.heap.size ≤ w4.heap.size := hsz
  have LOC : Hid (w4.heap[w1.heap.size]? = some (.cells #[.int .i64 2, .int .i64 (jx : Int)] 84) ∧ w4.heap[w2.heap.size]? = some (.cells #[.int .i64 q1, .int .i64 i] 84)) := ⟨a0, b0⟩
  have v0 : w4.cell? ⟨w1.heap.size, 0, none⟩ = some (.int .i64 2) := cell_of_heap a0 rfl
  have v1 : w4.cell? ⟨w1.heap.size, 1, none⟩ = some (.int .i64 (jx : Int)) := cell_of_heap a0 rfl
  have u1 : w4.cell? ⟨w2.heap.size, 1, none⟩ = some (.int .i64 i) := cell_of_heap b0 rfl
  have s1 := B.out.size
  have s2 := B2.out.2.1
  have s3 := B3.out.2.1
  have M4 : Hid (Mid1 w4) := hm
  obtain ⟨m0, m1, m2, m3, m4, m5, m6⟩ := E.out.midA w4 hm
  have al : ∀ (ob : Obj) (b o : Nat), b < w4.heap.size → (w4.alloc ob).cell? ⟨b, o, none⟩ = w4.cell? ⟨b, o, none⟩ := fun ob b o hlt => World.cell?_of_block (hao hlt)
  have t0 : ∀ ob, (w4.alloc ob).cell? ⟨h, 5, none⟩ = w4.cell? ⟨h, 5, none⟩ := fun ob => al ob h 5 (by omega)
  have t1 : ∀ ob, (w4.alloc ob).cell? ⟨g, i * 4 + 1, none⟩ = w4.cell? ⟨g, i * 4 + 1, none⟩ := fun ob => al ob g _ (by omega)
  have t2 : ∀ ob, (w4.alloc ob).cell? ⟨fg, k * 2, none⟩ = w4.cell? ⟨fg, k * 2, none⟩ := fun ob => al ob fg _ (by omega)
  have t3 : ∀ ob, (w4.alloc ob).cell? ⟨fg, k * 2 + 1, none⟩ = w4.cell? ⟨fg, k * 2 + 1, none⟩ := fun ob => al ob fg _ (by omega)
  have t4 : ∀ ob, (w4.alloc ob).cell? ⟨w2.heap.size, 1, none⟩ = w4.cell? ⟨w2.heap.size, 1, none⟩ := fun ob => al ob w2.heap.size _ (by omega)
  clear hm hsz hloc a0 b0 d0 d1 l1 B B2 B3 al
  go_wp2_with fail
  go_region
  obtain ⟨w5, hw5⟩ : ∃ w5, w5 = (w4.alloc (.cells #[.int .i64 y1, .int .i64 y2] 84)).drew := ⟨_, rfl⟩
  rw [← hw5]
  have M5 : Hid (Mid1 w5) := by rw [hw5]; exact E.out.mid1B _ _ M4.out ((Below.refl _ _).alloc (Nat.le_refl _) _).drew
  have L5 : Hid (w5.heap[w1.heap.size]? = some (.cells #[.int .i64 2, .int .i64 (jx : Int)] 84) ∧ w5.heap[w2.heap.size]? = some (.cells #[.int .i64 q1, .int .i64 i] 84) ∧ w5.heap[w4.heap.size]? = some (.cells #[.int .i64 y1, .int .i64 y2] 84)) := by
    rw [hw5]
    refine ⟨?_, ?_, heap_alloc_new w4 _⟩
    · show (w4.alloc _).heap[w1.heap.size]? = _
      rw [hao (by omega)]; exact LOC.out.1
    · show (w4.alloc _).heap[w2.heap.size]? = _
      rw [hao (by omega)]; exact LOC.out.2
  have s5 : w5.heap.size = w4.heap.size + 1 := by rw [hw5]; simp
  clear hw5 t0 t1 t2 t3 t4 m0 m1 m2 m3 m4 m5 m6 v0 v1 u1 LOC M4
  have lv0 : w5.cell? ⟨w1.heap.size, 0, none⟩ = some (.int .i64 2) := cell_of_heap L5.out.1 rfl
  have lv1 : w5.cell? ⟨w1.heap.size, 1, none⟩ = some (.int .i64 (jx : Int)) := cell_of_heap L5.out.1 rfl
  have ly0 : w5.cell? ⟨w4.heap.size, 0, none⟩ = some (.int .i64 y1) := cell_of_heap L5.out.2.2 rfl
  have ly1 : w5.cell? ⟨w4.heap.size, 1, none⟩ = some (.int .i64 y2) := cell_of_heap L5.out.2.2 rfl
  have yk2 : (y1 == 2) = false := by simpa using yk
  have hxI : (jx : Int) < (N : Int) + 1 := by omega
  go_wp2_with fail
  refine Calls.mono (E.out.count _ M5.out) ?_
  rintro e wc ⟨rfl, hwc⟩
  subst hwc
  go_wp2_with fail
  refine Calls.mono (E.out.extras _ M5.out) ?_
  rintro e w6 ⟨rfl, hb⟩
  have M6 : Hid (MidP w6) := E.out.mid1 _ (E.out.mid1B _ _ M5.out hb) (fun q => c7 q.2.1)
  have s6 : w4.heap.size + 1 ≤ w6.heap.size := by have := hb.size; omega
  have L6 : Hid (w6.heap[w1.heap.size]? = some (.cells #[.int .i64 2, .int .i64 (jx : Int)] 84) ∧ w6.heap[w2.heap.size]? = some (.cells #[.int .i64 q1, .int .i64 i] 84) ∧ w6.heap[w4.heap.size]? = some (.cells #[.int .i64 y1, .int .i64 y2] 84)) := by
    refine ⟨?_, ?_, ?_⟩
    · rw [hb.block _ (by omega)]; exact L5.out.1
    · rw [hb.block _ (by omega)]; exact L5.out.2.1
    · rw [hb.block _ (by omega)]; exact L5.out.2.2
  have o4 := (E.out.mid w6 M6.out).2.2.2.2.2.2
  have o5 := (E.out.mid w6 M6.out).1
  have k1 : w6.cell? ⟨w1.heap.size, 1, none⟩ = some (.int .i64 (jx : Int)) := cell_of_heap L6.out.1 rfl
  have k0 : w6.cell? ⟨w1.heap.size, 0, none⟩ = some (.int .i64 2) := cell_of_heap L6.out.1 rfl
  clear hb lv0 lv1 ly0 ly1 M5 L5
  have c72 : ((cx : Int) == 7) = false := by simpa using c7
  have M : Hid (MidP w6) := M6.out
  have L : Hid _ := L6.out
  clear M6 L6
  have lv0 : w6.cell? ⟨w1.heap.size, 0, none⟩ = some (.int .i64 2) := cell_of_heap L.out.1 rfl
  have lv1 : w6.cell? ⟨w1.heap.size, 1, none⟩ = some (.int .i64 (jx : Int)) := cell_of_heap L.out.1 rfl
  have lu1 : w6.cell? ⟨w2.heap.size, 1, none⟩ = some (.int .i64 i) := cell_of_heap L.out.2.1 rfl
  have ly0 : w6.cell? ⟨w4.heap.size, 0, none⟩ = some (.int .i64 y1) := cell_of_heap L.out.2.2 rfl
  have ly1 : w6.cell? ⟨w4.heap.size, 1, none⟩ = some (.int .i64 y2) := cell_of_heap L.out.2.2 rfl
  obtain ⟨n0, n1, n2, n3, n4, n5, n6⟩ := E.out.mid w6 M.out
  have TP : Hid (TailP ((w6.setCell ⟨fg, k * 2, none⟩ (.int .i64 2)).setCell ⟨fg, k * 2 + 1, none⟩ (.int .i64 (jx : Int)))) := E.out.store w6 M.out
  go_wp2_with fail
  go_region
  obtain ⟨w8, hw8⟩ : ∃ w8, w8 = ((w6.setCell ⟨fg, k * 2, none⟩ (.int .i64 2)).setCell ⟨fg, k * 2 + 1, none⟩ (.int .i64 (jx : Int))).drew := ⟨_, rfl⟩
  rw [← hw8]
  have T8 : Hid (TailP w8) := by rw [hw8]; exact E.out.tailB _ _ TP.out ⟨rfl, rfl, rfl, Nat.le_refl _, fun _ _ => rfl⟩
  have h8 : w8.heap[w4.heap.size]? = some (.cells #[.int .i64 y1, .int .i64 y2] 84) := by
    rw [hw8]
    show ((w6.setCell ⟨fg, k * 2, none⟩ (.int .i64 2)).setCell ⟨fg, k * 2 + 1, none⟩ (.int .i64 (jx : Int))).heap[w4.heap.size]? = _
    rw [hso (by omega), hso (by omega)]; exact L.out.2.2
  have z0 : w8.cell? ⟨w4.heap.size, 0, none⟩ = some (.int .i64 y1) := cell_of_heap h8 rfl
  have z1 : w8.cell? ⟨w4.heap.size, 1, none⟩ = some (.int .i64 y2) := cell_of_heap h8 rfl
  obtain ⟨c5, cst⟩ := E.out.tail w8 T8.out
  have ST : Hid (∀ j : Nat, j ≤ N → w8.cell? ⟨g, j * 4 + 2, none⟩ = some (.bool (ys j))) := cst
  clear lv0 lv1 lu1 ly0 ly1 n0 n1 n2 n3 n4 n5 n6 TP hw8 h8 M L cst
  go_wp2_with fail
  go_quiet (fail)
  go_wp2
  go_ret
  exact ⟨rfl, E.out.done _ (E.out.tailB _ _ T8.out ⟨rfl, rfl, rfl, Nat.le_refl _, fun _ _ => rfl⟩) (fun q => yk q.2.1) fun j h2 _ _ _ => yk h2⟩

set_option maxHeartbeats 1600000 in
theorem stored_cr (h N g capB fg fl fc i k len cap : Nat) (ao : Option Addr) (jx : Nat) (hjx : jx ≤ N) (jy : Nat) (hjy : jy ≤ N) (q1 over : Int) (cx ex : Nat) (ys : Nat → Bool) (cy : Int → Nat) (c7 : ¬ (cx : Int) = 7) (hne : ¬ (jy : Int) = (jx : Int)) (w : World) (Mid1 MidP TailP Done : World → Prop) (E : Hid (StoreEnv h N g capB fg fl fc i k 2 (jx : Int) 2 (jy : Int) q1 over cx ex ys cy w Mid1 MidP TailP Done))
    (cS : w.cell? ⟨h, 7, none⟩ = some (.slice ao len cap)) (hc : ¬ (len : Int) < 2) (hl : len ≤ 16) (hN : N ≤ 99) (hi : i ≤ N) (hk : k < fl) (hfl : fl ≤ 4) (hh : h < w.heap.size) (hg : g < w.heap.size) (hfg : fg < w.heap.size) (hgf : ¬ g = fg) :
    Calls Tryz.prog 60 #[.pointer (some ⟨h, 0, none⟩), .int .i64 k] w fun e w' => e = .returned (.int .i64 0) ∧ Done w' := by
  have hiI : (i : Int) < (N : Int) + 1 := by omega
  have hkI : (k : Int) < fl := by omega
  have hk0 : ¬ (k : Int) < 0 := by omega
  have hkd : decide ((k : Int) < 0) = false := by simp
  go_enter Tryz.func60, Tryz.ntmps60
  go_wp2_with fail
  refine Calls.mono E.out.d0 ?_
  rintro e w1 ⟨rfl, hb⟩
  have B : Hid (Below w.heap.size w w1) := hb
  clear hb
  go_wp2_with fail
  refine Calls.mono (E.out.d1 _ (B.out.alloc B.out.size _)) ?_
  rintro e w2 ⟨rfl, hb⟩
  have B2 : Hid (Below w.heap.size w w2 ∧ w1.heap.size + 1 ≤ w2.heap.size ∧ w2.heap[w1.heap.size]? = some (.cells #[.int .i64 2, .int .i64 (jx : Int)] 84)) := ⟨(B.out.alloc B.out.size _).trans (hb.mono (by simp; have := B.out.size; omega)), by have := hb.size; simpa using this, boxed' hb⟩
  clear hb
  go_wp2_with fail
  refine Calls.mono (E.out.obj _) ?_
  rintro e w3 ⟨rfl, hb⟩
  have B3 : Hid (Below w.heap.size w w3 ∧ w2.heap.size + 1 ≤ w3.heap.size ∧ w3.heap[w2.heap.size]? = some (.cells #[.int .i64 q1, .int .i64 i] 84) ∧ w3.heap[w1.heap.size]? = some (.cells #[.int .i64 2, .int .i64 (jx : Int)] 84)) :=
    ⟨(B2.out.1.alloc B2.out.1.size _).trans (hb.mono (by simp; have := B2.out.1.size; omega)), by have := hb.size; simpa using this, boxed' hb, by
      have h1 := B2.out.2.1
      rw [hb.block _ (by simp; omega), hao (by omega)]; exact B2.out.2.2⟩
  have l1 : w3.cell? ⟨w2.heap.size, 1, none⟩ = some (.int .i64 i) := cell_of_heap B3.out.2.2.1 rfl
  obtain ⟨d0, d1⟩ := E.out.old w3 B3.out.1
  clear hb
  go_wp2_with fail
  go_quiet (fail)
  go_wp2_with fail
  refine Calls.mono (E.out.pop _ (below_drewN B3.out.1 _)) ?_
  rintro e w4 ⟨rfl, hm, hsz, hloc⟩
  have a0 := hloc w1.heap.size _ B.out.size B3.out.2.2.2
  have b0 := hloc w2.heap.size _ B2.out.1.size B3.out.2.2.1
  have hsz' : w3.heap.size ≤ w4.heap.size := hsz
  have LOC : Hid (w4.heap[w1.heap.size]? = some (.cells #[.int .i64 2, .int .i64 (jx : Int)] 84) ∧ w4.heap[w2.heap.size]? = some (.cells #[.int .i64 q1, .int .i64 i] 84)) := ⟨a0, b0⟩
  have v0 : w4.cell? ⟨w1.heap.size, 0, none⟩ = some (.int .i64 2) := cell_of_heap a0 rfl
  have v1 : w4.cell? ⟨w1.heap.size, 1, none⟩ = some (.int .i64 (jx : Int)) := cell_of_heap a0 rfl
  have u1 : w4.cell? ⟨w2.heap.size, 1, none⟩ = some (.int .i64 i) := cell_of_heap b0 rfl
  have s1 := B.out.size
  have s2 := B2.out.2.1
  have s3 := B3.out.2.1
  have M4 : Hid (Mid1 w4) := hm
  obtain ⟨m0, m1, m2, m3, m4, m5, m6⟩ := E.out.midA w4 hm
  have al : ∀ (ob : Obj) (b o : Nat), b < w4.heap.size → (w4.alloc ob).cell? ⟨b, o, none⟩ = w4.cell? ⟨b, o, none⟩ := fun ob b o hlt => World.cell?_of_block (hao hlt)
  have t0 : ∀ ob, (w4.alloc ob).cell? ⟨h, 5, none⟩ = w4.cell? ⟨h, 5, none⟩ := fun ob => al ob h 5 (by omega)
  have t1 : ∀ ob, (w4.alloc ob).cell? ⟨g, i * 4 + 1, none⟩ = w4.cell? ⟨g, i * 4 + 1, none⟩ := fun ob => al ob g _ (by omega)
  have t2 : ∀ ob, (w4.alloc ob).cell? ⟨fg, k * 2, none⟩ = w4.cell? ⟨fg, k * 2, none⟩ := fun ob => al ob fg _ (by omega)
  have t3 : ∀ ob, (w4.alloc ob).cell? ⟨fg, k * 2 + 1, none⟩ = w4.cell? ⟨fg, k * 2 + 1, none⟩ := fun ob => al ob fg _ (by omega)
  have t4 : ∀ ob, (w4.alloc ob).cell? ⟨w2.heap.size, 1, none⟩ = w4.cell? ⟨w2.heap.size, 1, none⟩ := fun ob => al ob w2.heap.size _ (by omega)
  clear hm hsz hloc a0 b0 d0 d1 l1 B B2 B3 al
  go_wp2_with fail
  go_region
  obtain ⟨w5, hw5⟩ : ∃ w5, w5 = (w4.alloc (.cells #[.int .i64 2, .int .i64 (jy : Int)] 84)).drew := ⟨_, rfl⟩
  rw [← hw5]
  have M5 : Hid (Mid1 w5) := by rw [hw5]; exact E.out.mid1B _ _ M4.out ((Below.refl _ _).alloc (Nat.le_refl _) _).drew
  have L5 : Hid (w5.heap[w1.heap.size]? = some (.cells #[.int .i64 2, .int .i64 (jx : Int)] 84) ∧ w5.heap[w2.heap.size]? = some (.cells #[.int .i64 q1, .int .i64 i] 84) ∧ w5.heap[w4.heap.size]? = some (.cells #[.int .i64 2, .int .i64 (jy : Int)] 84)) := by
    rw [hw5]
    refine ⟨?_, ?_, heap_alloc_new w4 _⟩
    · show (w4.alloc _).heap[w1.heap.size]? = _
      rw [hao (by omega)]; exact LOC.out.1
    · show (w4.alloc _).heap[w2.heap.size]? = _
      rw [hao (by omega)]; exact LOC.out.2
  have s5 : w5.heap.size = w4.heap.size + 1 := by rw [hw5]; simp
  clear hw5 t0 t1 t2 t3 t4 m0 m1 m2 m3 m4 m5 m6 v0 v1 u1 LOC M4
  have lv0 : w5.cell? ⟨w1.heap.size, 0, none⟩ = some (.int .i64 2) := cell_of_heap L5.out.1 rfl
  have lv1 : w5.cell? ⟨w1.heap.size, 1, none⟩ = some (.int .i64 (jx : Int)) := cell_of_heap L5.out.1 rfl
  have ly0 : w5.cell? ⟨w4.heap.size, 0, none⟩ = some (.int .i64 2) := cell_of_heap L5.out.2.2 rfl
  have ly1 : w5.cell? ⟨w4.heap.size, 1, none⟩ = some (.int .i64 (jy : Int)) := cell_of_heap L5.out.2.2 rfl
  have hxI : (jx : Int) < (N : Int) + 1 := by omega
  have hne2 : ((jy : Int) == (jx : Int)) = false := by simpa using hne
  go_wp2_with fail
  refine Calls.mono (E.out.count _ M5.out) ?_
  rintro e wc ⟨rfl, hwc⟩
  subst hwc
  go_wp2_with fail
  refine Calls.mono (E.out.extras _ M5.out) ?_
  rintro e w6 ⟨rfl, hb⟩
  have M6 : Hid (MidP w6) := E.out.mid1 _ (E.out.mid1B _ _ M5.out hb) (fun q => c7 q.2.1)
  have s6 : w4.heap.size + 1 ≤ w6.heap.size := by have := hb.size; omega
  have L6 : Hid (w6.heap[w1.heap.size]? = some (.cells #[.int .i64 2, .int .i64 (jx : Int)] 84) ∧ w6.heap[w2.heap.size]? = some (.cells #[.int .i64 q1, .int .i64 i] 84) ∧ w6.heap[w4.heap.size]? = some (.cells #[.int .i64 2, .int .i64 (jy : Int)] 84)) := by
    refine ⟨?_, ?_, ?_⟩
    · rw [hb.block _ (by omega)]; exact L5.out.1
    · rw [hb.block _ (by omega)]; exact L5.out.2.1
    · rw [hb.block _ (by omega)]; exact L5.out.2.2
  have o4 := (E.out.mid w6 M6.out).2.2.2.2.2.2
  have o5 := (E.out.mid w6 M6.out).1
  have k1 : w6.cell? ⟨w1.heap.size, 1, none⟩ = some (.int .i64 (jx : Int)) := cell_of_heap L6.out.1 rfl
  have k0 : w6.cell? ⟨w1.heap.size, 0, none⟩ = some (.int .i64 2) := cell_of_heap L6.out.1 rfl
  clear hb lv0 lv1 ly0 ly1 M5 L5
  have c72 : ((cx : Int) == 7) = false := by simpa using c7
  have M : Hid (MidP w6) := M6.out
  have L : Hid _ := L6.out
  clear M6 L6
  have lv0 : w6.cell? ⟨w1.heap.size, 0, none⟩ = some (.int .i64 2) := cell_of_heap L.out.1 rfl
  have lv1 : w6.cell? ⟨w1.heap.size, 1, none⟩ = some (.int .i64 (jx : Int)) := cell_of_heap L.out.1 rfl
  have lu1 : w6.cell? ⟨w2.heap.size, 1, none⟩ = some (.int .i64 i) := cell_of_heap L.out.2.1 rfl
  have ly0 : w6.cell? ⟨w4.heap.size, 0, none⟩ = some (.int .i64 2) := cell_of_heap L.out.2.2 rfl
  have ly1 : w6.cell? ⟨w4.heap.size, 1, none⟩ = some (.int .i64 (jy : Int)) := cell_of_heap L.out.2.2 rfl
  obtain ⟨n0, n1, n2, n3, n4, n5, n6⟩ := E.out.mid w6 M.out
  have TP : Hid (TailP ((w6.setCell ⟨fg, k * 2, none⟩ (.int .i64 2)).setCell ⟨fg, k * 2 + 1, none⟩ (.int .i64 (jx : Int)))) := E.out.store w6 M.out
  go_wp2_with fail
  go_region
  obtain ⟨w8, hw8⟩ : ∃ w8, w8 = ((w6.setCell ⟨fg, k * 2, none⟩ (.int .i64 2)).setCell ⟨fg, k * 2 + 1, none⟩ (.int .i64 (jx : Int))).drew := ⟨_, rfl⟩
  rw [← hw8]
  have T8 : Hid (TailP w8) := by rw [hw8]; exact E.out.tailB _ _ TP.out ⟨rfl, rfl, rfl, Nat.le_refl _, fun _ _ => rfl⟩
  have h8 : w8.heap[w4.heap.size]? = some (.cells #[.int .i64 2, .int .i64 (jy : Int)] 84) := by
    rw [hw8]
    show ((w6.setCell ⟨fg, k * 2, none⟩ (.int .i64 2)).setCell ⟨fg, k * 2 + 1, none⟩ (.int .i64 (jx : Int))).heap[w4.heap.size]? = _
    rw [hso (by omega), hso (by omega)]; exact L.out.2.2
  have z0 : w8.cell? ⟨w4.heap.size, 0, none⟩ = some (.int .i64 2) := cell_of_heap h8 rfl
  have z1 : w8.cell? ⟨w4.heap.size, 1, none⟩ = some (.int .i64 (jy : Int)) := cell_of_heap h8 rfl
  obtain ⟨c5, cst⟩ := E.out.tail w8 T8.out
  have ST : Hid (∀ j : Nat, j ≤ N → w8.cell? ⟨g, j * 4 + 2, none⟩ = some (.bool (ys j))) := cst
  clear lv0 lv1 lu1 ly0 ly1 n0 n1 n2 n3 n4 n5 n6 TP hw8 h8 M L cst
  have hu := ST.out jy hjy
  obtain ⟨u, hys⟩ : ∃ u, ys jy = u := ⟨_, rfl⟩
  rw [hys] at hu
  have HY : Hid (ys jy = u) := hys
  clear hys ST
  have hjI : (jy : Int) < (N : Int) + 1 := by omega
  cases u with
  | true =>
    go_wp2_with fail
    go_quiet (fail)
    go_wp2
    go_ret
    exact ⟨rfl, E.out.done _ (E.out.tailB _ _ T8.out ⟨rfl, rfl, rfl, Nat.le_refl _, fun _ _ => rfl⟩) (fun q => hne q.2.2) fun j _ hj hf _ => by
      have : j = jy := by omega
      rw [this, HY.out] at hf; cases hf⟩
  | false =>
    go_wp2_with fail
    go_quiet (fail)
    have T9 : Hid (TailP (w8.drewN nq)) := E.out.tailB _ _ T8.out ⟨rfl, rfl, rfl, Nat.le_refl _, fun _ _ => rfl⟩
    go_wp2_with fail
    have hcnt := E.out.tcount _ (jy : Int) T9.out
    obtain ⟨c, hcy⟩ : ∃ c, cy (jy : Int) = c := ⟨_, rfl⟩
    rw [hcy] at hcnt
    have HC : Hid (cy (jy : Int) = c) := hcy
    clear hcy
    refine Calls.mono hcnt ?_
    rintro e w9 ⟨rfl, hw9⟩
    have T10 : Hid (TailP w9) := by rw [hw9]; exact T9.out
    have z2 : w9.cell? ⟨w4.heap.size, 1, none⟩ = some (.int .i64 jy) := by rw [hw9]; exact z1
    clear hw9 hcnt T9
    by_cases c0 : c = 0
    · subst c0
      go_wp2_with fail
      refine Calls.mono (E.out.enter _ jy T10.out (fun q => hne q.2.2) rfl rfl HY.out HC.out) ?_
      rintro e w11 ⟨rfl, hd⟩
      have DD : Hid (Done w11) := hd
      clear hd
      go_wp2
      go_ret
      exact ⟨rfl, DD.out⟩
    · have c1 : ((c : Int) == 0) = false := by simp; omega
      have c2 : ¬ (c : Int) = 0 := by omega
      go_wp2
      go_ret
      exact ⟨rfl, E.out.done _ T10.out (fun q => hne q.2.2) fun j _ hj _ h0 => by
        have : j = jy := by omega
        rw [this, HC.out] at h0; omega⟩

end Go.Proofs.YtpmkjeihbddfpabGreatDoor

/- OUR OWN. The document's heap: stored, by cases. -/
namespace Go.Proofs.YtpmkjeihbddfpabGreatDoor
open Go.RowKit
set_option linter.unusedVariables false
set_option linter.unusedSimpArgs false

set_option maxHeartbeats 1600000 in
theorem stored_on (h N g capB fg fl fc i k len cap : Nat) (ao : Option Addr) (jx : Nat) (hjx : jx ≤ N) (y1 y2 : Int) (yk : ¬ y1 = 2) (q1 over : Int) (cx ex : Nat) (ys : Nat → Bool) (cy : Int → Nat) (c7 : (cx : Int) = 7) (hov : ¬ over ≤ (ex : Int)) (w : World) (Mid1 MidP TailP Done : World → Prop) (E : Hid (StoreEnv h N g capB fg fl fc i k 2 (jx : Int) y1 y2 q1 over cx ex ys cy w Mid1 MidP TailP Done))
    (cS : w.cell? ⟨h, 7, none⟩ = some (.slice ao len cap)) (hc : ¬ (len : Int) < 2) (hl : len ≤ 16) (hN : N ≤ 99) (hi : i ≤ N) (hk : k < fl) (hfl : fl ≤ 4) (hh : h < w.heap.size) (hg : g < w.heap.size) (hfg : fg < w.heap.size) (hgf : ¬ g = fg) :
    Calls Tryz.prog 60 #[.pointer (some ⟨h, 0, none⟩), .int .i64 k] w fun e w' => e = .returned (.int .i64 0) ∧ Done w' := by
  have hiI : (i : Int) < (N : Int) + 1 := by omega
  have hkI : (k : Int) < fl := by omega
  have hk0 : ¬ (k : Int) < 0 := by omega
  have hkd : decide ((k : Int) < 0) = false := by simp
  go_enter Tryz.func60, Tryz.ntmps60
  go_wp2_with fail
  refine Calls.mono E.out.d0 ?_
  rintro e w1 ⟨rfl, hb⟩
  have B : Hid (Below w.heap.size w w1) := hb
  clear hb
  go_wp2_with fail
  refine Calls.mono (E.out.d1 _ (B.out.alloc B.out.size _)) ?_
  rintro e w2 ⟨rfl, hb⟩
  have B2 : Hid (Below w.heap.size w w2 ∧ w1.heap.size + 1 ≤ w2.heap.size ∧ w2.heap[w1.heap.size]? = some (.cells #[.int .i64 2, .int .i64 (jx : Int)] 84)) := ⟨(B.out.alloc B.out.size _).trans (hb.mono (by simp; have := B.out.size; omega)), by have := hb.size; simpa using this, boxed' hb⟩
  clear hb
  go_wp2_with fail
  refine Calls.mono (E.out.obj _) ?_
  rintro e w3 ⟨rfl, hb⟩
  have B3 : Hid (Below w.heap.size w w3 ∧ w2.heap.size + 1 ≤ w3.heap.size ∧ w3.heap[w2.heap.size]? = some (.cells #[.int .i64 q1, .int .i64 i] 84) ∧ w3.heap[w1.heap.size]? = some (.cells #[.int .i64 2, .int .i64 (jx : Int)] 84)) :=
    ⟨(B2.out.1.alloc B2.out.1.size _).trans (hb.mono (by simp; have := B2.out.1.size; omega)), by have := hb.size; simpa using this, boxed' hb, by
      have h1 := B2.out.2.1
      rw [hb.block _ (by simp; omega), hao (by omega)]; exact B2.out.2.2⟩
  have l1 : w3.cell? ⟨w2.heap.size, 1, none⟩ = some (.int .i64 i) := cell_of_heap B3.out.2.2.1 rfl
  obtain ⟨d0, d1⟩ := E.out.old w3 B3.out.1
  clear hb
  go_wp2_with fail
  go_quiet (fail)
  go_wp2_with fail
  refine Calls.mono (E.out.pop _ (below_drewN B3.out.1 _)) ?_
  rintro e w4 ⟨rfl, hm, hsz, hloc⟩
  have a0 := hloc w1.heap.size _ B.out.size B3.out.2.2.2
  have b0 := hloc w2.heap.size _ B2.out.1.size B3.out.2.2.1
  have hsz' : w3.heap.size ≤ w4.heap.size := hsz
  have LOC : Hid (w4.heap[w1.heap.size]? = some (.cells #[.int .i64 2, .int .i64 (jx : Int)] 84) ∧ w4.heap[w2.heap.size]? = some (.cells #[.int .i64 q1, .int .i64 i] 84)) := ⟨a0, b0⟩
  have v0 : w4.cell? ⟨w1.heap.size, 0, none⟩ = some (.int .i64 2) := cell_of_heap a0 rfl
  have v1 : w4.cell? ⟨w1.heap.size, 1, none⟩ = some (.int .i64 (jx : Int)) := cell_of_heap a0 rfl
  have u1 : w4.cell? ⟨w2.heap.size, 1, none⟩ = some (.int .i64 i) := cell_of_heap b0 rfl
  have s1 := B.out.size
  have s2 := B2.out.2.1
  have s3 := B3.out.2.1
  have M4 : Hid (Mid1 w4) := hm
  obtain ⟨m0, m1, m2, m3, m4, m5, m6⟩ := E.out.midA w4 hm
  have al : ∀ (ob : Obj) (b o : Nat), b < w4.heap.size → (w4.alloc ob).cell? ⟨b, o, none⟩ = w4.cell? ⟨b, o, none⟩ := fun ob b o hlt => World.cell?_of_block (hao hlt)
  have t0 : ∀ ob, (w4.alloc ob).cell? ⟨h, 5, none⟩ = w4.cell? ⟨h, 5, none⟩ := fun ob => al ob h 5 (by omega)
  have t1 : ∀ ob, (w4.alloc ob).cell? ⟨g, i * 4 + 1, none⟩ = w4.cell? ⟨g, i * 4 + 1, none⟩ := fun ob => al ob g _ (by omega)
  have t2 : ∀ ob, (w4.alloc ob).cell? ⟨fg, k * 2, none⟩ = w4.cell? ⟨fg, k * 2, none⟩ := fun ob => al ob fg _ (by omega)
  have t3 : ∀ ob, (w4.alloc ob).cell? ⟨fg, k * 2 + 1, none⟩ = w4.cell? ⟨fg, k * 2 + 1, none⟩ := fun ob => al ob fg _ (by omega)
  have t4 : ∀ ob, (w4.alloc ob).cell? ⟨w2.heap.size, 1, none⟩ = w4.cell? ⟨w2.heap.size, 1, none⟩ := fun ob => al ob w2.heap.size _ (by omega)
  clear hm hsz hloc a0 b0 d0 d1 l1 B B2 B3 al
  go_wp2_with fail
  go_region
  obtain ⟨w5, hw5⟩ : ∃ w5, w5 = (w4.alloc (.cells #[.int .i64 y1, .int .i64 y2] 84)).drew := ⟨_, rfl⟩
  rw [← hw5]
  have M5 : Hid (Mid1 w5) := by rw [hw5]; exact E.out.mid1B _ _ M4.out ((Below.refl _ _).alloc (Nat.le_refl _) _).drew
  have L5 : Hid (w5.heap[w1.heap.size]? = some (.cells #[.int .i64 2, .int .i64 (jx : Int)] 84) ∧ w5.heap[w2.heap.size]? = some (.cells #[.int .i64 q1, .int .i64 i] 84) ∧ w5.heap[w4.heap.size]? = some (.cells #[.int .i64 y1, .int .i64 y2] 84)) := by
    rw [hw5]
    refine ⟨?_, ?_, heap_alloc_new w4 _⟩
    · show (w4.alloc _).heap[w1.heap.size]? = _
      rw [hao (by omega)]; exact LOC.out.1
    · show (w4.alloc _).heap[w2.heap.size]? = _
      rw [hao (by omega)]; exact LOC.out.2
  have s5 : w5.heap.size = w4.heap.size + 1 := by rw [hw5]; simp
  clear hw5 t0 t1 t2 t3 t4 m0 m1 m2 m3 m4 m5 m6 v0 v1 u1 LOC M4
  have lv0 : w5.cell? ⟨w1.heap.size, 0, none⟩ = some (.int .i64 2) := cell_of_heap L5.out.1 rfl
  have lv1 : w5.cell? ⟨w1.heap.size, 1, none⟩ = some (.int .i64 (jx : Int)) := cell_of_heap L5.out.1 rfl
  have ly0 : w5.cell? ⟨w4.heap.size, 0, none⟩ = some (.int .i64 y1) := cell_of_heap L5.out.2.2 rfl
  have ly1 : w5.cell? ⟨w4.heap.size, 1, none⟩ = some (.int .i64 y2) := cell_of_heap L5.out.2.2 rfl
  have yk2 : (y1 == 2) = false := by simpa using yk
  have hxI : (jx : Int) < (N : Int) + 1 := by omega
  go_wp2_with fail
  refine Calls.mono (E.out.count _ M5.out) ?_
  rintro e wc ⟨rfl, hwc⟩
  subst hwc
  go_wp2_with fail
  refine Calls.mono (E.out.extras _ M5.out) ?_
  rintro e w6 ⟨rfl, hb⟩
  have M6 : Hid (MidP w6) := E.out.mid1 _ (E.out.mid1B _ _ M5.out hb) (fun q => by have := q.2.2; omega)
  have s6 : w4.heap.size + 1 ≤ w6.heap.size := by have := hb.size; omega
  have L6 : Hid (w6.heap[w1.heap.size]? = some (.cells #[.int .i64 2, .int .i64 (jx : Int)] 84) ∧ w6.heap[w2.heap.size]? = some (.cells #[.int .i64 q1, .int .i64 i] 84) ∧ w6.heap[w4.heap.size]? = some (.cells #[.int .i64 y1, .int .i64 y2] 84)) := by
    refine ⟨?_, ?_, ?_⟩
    · rw [hb.block _ (by omega)]; exact L5.out.1
    · rw [hb.block _ (by omega)]; exact L5.out.2.1
    · rw [hb.block _ (by omega)]; exact L5.out.2.2
  have o4 := (E.out.mid w6 M6.out).2.2.2.2.2.2
  have o5 := (E.out.mid w6 M6.out).1
  have k1 : w6.cell? ⟨w1.heap.size, 1, none⟩ = some (.int .i64 (jx : Int)) := cell_of_heap L6.out.1 rfl
  have k0 : w6.cell? ⟨w1.heap.size, 0, none⟩ = some (.int .i64 2) := cell_of_heap L6.out.1 rfl
  clear hb lv0 lv1 ly0 ly1 M5 L5
  have M : Hid (MidP w6) := M6.out
  have L : Hid _ := L6.out
  clear M6 L6
  have lv0 : w6.cell? ⟨w1.heap.size, 0, none⟩ = some (.int .i64 2) := cell_of_heap L.out.1 rfl
  have lv1 : w6.cell? ⟨w1.heap.size, 1, none⟩ = some (.int .i64 (jx : Int)) := cell_of_heap L.out.1 rfl
  have lu1 : w6.cell? ⟨w2.heap.size, 1, none⟩ = some (.int .i64 i) := cell_of_heap L.out.2.1 rfl
  have ly0 : w6.cell? ⟨w4.heap.size, 0, none⟩ = some (.int .i64 y1) := cell_of_heap L.out.2.2 rfl
  have ly1 : w6.cell? ⟨w4.heap.size, 1, none⟩ = some (.int .i64 y2) := cell_of_heap L.out.2.2 rfl
  obtain ⟨n0, n1, n2, n3, n4, n5, n6⟩ := E.out.mid w6 M.out
  have TP : Hid (TailP ((w6.setCell ⟨fg, k * 2, none⟩ (.int .i64 2)).setCell ⟨fg, k * 2 + 1, none⟩ (.int .i64 (jx : Int)))) := E.out.store w6 M.out
  go_wp2_with fail
  go_region
  obtain ⟨w8, hw8⟩ : ∃ w8, w8 = ((w6.setCell ⟨fg, k * 2, none⟩ (.int .i64 2)).setCell ⟨fg, k * 2 + 1, none⟩ (.int .i64 (jx : Int))).drew := ⟨_, rfl⟩
  rw [← hw8]
  have T8 : Hid (TailP w8) := by rw [hw8]; exact E.out.tailB _ _ TP.out ⟨rfl, rfl, rfl, Nat.le_refl _, fun _ _ => rfl⟩
  have h8 : w8.heap[w4.heap.size]? = some (.cells #[.int .i64 y1, .int .i64 y2] 84) := by
    rw [hw8]
    show ((w6.setCell ⟨fg, k * 2, none⟩ (.int .i64 2)).setCell ⟨fg, k * 2 + 1, none⟩ (.int .i64 (jx : Int))).heap[w4.heap.size]? = _
    rw [hso (by omega), hso (by omega)]; exact L.out.2.2
  have z0 : w8.cell? ⟨w4.heap.size, 0, none⟩ = some (.int .i64 y1) := cell_of_heap h8 rfl
  have z1 : w8.cell? ⟨w4.heap.size, 1, none⟩ = some (.int .i64 y2) := cell_of_heap h8 rfl
  obtain ⟨c5, cst⟩ := E.out.tail w8 T8.out
  have ST : Hid (∀ j : Nat, j ≤ N → w8.cell? ⟨g, j * 4 + 2, none⟩ = some (.bool (ys j))) := cst
  clear lv0 lv1 lu1 ly0 ly1 n0 n1 n2 n3 n4 n5 n6 TP hw8 h8 M L cst
  go_wp2_with fail
  go_quiet (fail)
  go_wp2
  go_ret
  exact ⟨rfl, E.out.done _ (E.out.tailB _ _ T8.out ⟨rfl, rfl, rfl, Nat.le_refl _, fun _ _ => rfl⟩) (fun q => yk q.2.1) fun j h2 _ _ _ => yk h2⟩

set_option maxHeartbeats 1600000 in
theorem stored_or (h N g capB fg fl fc i k len cap : Nat) (ao : Option Addr) (jx : Nat) (hjx : jx ≤ N) (jy : Nat) (hjy : jy ≤ N) (q1 over : Int) (cx ex : Nat) (ys : Nat → Bool) (cy : Int → Nat) (c7 : (cx : Int) = 7) (hov : ¬ over ≤ (ex : Int)) (hne : ¬ (jy : Int) = (jx : Int)) (w : World) (Mid1 MidP TailP Done : World → Prop) (E : Hid (StoreEnv h N g capB fg fl fc i k 2 (jx : Int) 2 (jy : Int) q1 over cx ex ys cy w Mid1 MidP TailP Done))
    (cS : w.cell? ⟨h, 7, none⟩ = some (.slice ao len cap)) (hc : ¬ (len : Int) < 2) (hl : len ≤ 16) (hN : N ≤ 99) (hi : i ≤ N) (hk : k < fl) (hfl : fl ≤ 4) (hh : h < w.heap.size) (hg : g < w.heap.size) (hfg : fg < w.heap.size) (hgf : ¬ g = fg) :
    Calls Tryz.prog 60 #[.pointer (some ⟨h, 0, none⟩), .int .i64 k] w fun e w' => e = .returned (.int .i64 0) ∧ Done w' := by
  have hiI : (i : Int) < (N : Int) + 1 := by omega
  have hkI : (k : Int) < fl := by omega
  have hk0 : ¬ (k : Int) < 0 := by omega
  have hkd : decide ((k : Int) < 0) = false := by simp
  go_enter Tryz.func60, Tryz.ntmps60
  go_wp2_with fail
  refine Calls.mono E.out.d0 ?_
  rintro e w1 ⟨rfl, hb⟩
  have B : Hid (Below w.heap.size w w1) := hb
  clear hb
  go_wp2_with fail
  refine Calls.mono (E.out.d1 _ (B.out.alloc B.out.size _)) ?_
  rintro e w2 ⟨rfl, hb⟩
  have B2 : Hid (Below w.heap.size w w2 ∧ w1.heap.size + 1 ≤ w2.heap.size ∧ w2.heap[w1.heap.size]? = some (.cells #[.int .i64 2, .int .i64 (jx : Int)] 84)) := ⟨(B.out.alloc B.out.size _).trans (hb.mono (by simp; have := B.out.size; omega)), by have := hb.size; simpa using this, boxed' hb⟩
  clear hb
  go_wp2_with fail
  refine Calls.mono (E.out.obj _) ?_
  rintro e w3 ⟨rfl, hb⟩
  have B3 : Hid (Below w.heap.size w w3 ∧ w2.heap.size + 1 ≤ w3.heap.size ∧ w3.heap[w2.heap.size]? = some (.cells #[.int .i64 q1, .int .i64 i] 84) ∧ w3.heap[w1.heap.size]? = some (.cells #[.int .i64 2, .int .i64 (jx : Int)] 84)) :=
    ⟨(B2.out.1.alloc B2.out.1.size _).trans (hb.mono (by simp; have := B2.out.1.size; omega)), by have := hb.size; simpa using this, boxed' hb, by
      have h1 := B2.out.2.1
      rw [hb.block _ (by simp; omega), hao (by omega)]; exact B2.out.2.2⟩
  have l1 : w3.cell? ⟨w2.heap.size, 1, none⟩ = some (.int .i64 i) := cell_of_heap B3.out.2.2.1 rfl
  obtain ⟨d0, d1⟩ := E.out.old w3 B3.out.1
  clear hb
  go_wp2_with fail
  go_quiet (fail)
  go_wp2_with fail
  refine Calls.mono (E.out.pop _ (below_drewN B3.out.1 _)) ?_
  rintro e w4 ⟨rfl, hm, hsz, hloc⟩
  have a0 := hloc w1.heap.size _ B.out.size B3.out.2.2.2
  have b0 := hloc w2.heap.size _ B2.out.1.size B3.out.2.2.1
  have hsz' : w3.heap.size ≤ w4.heap.size := hsz
  have LOC : Hid (w4.heap[w1.heap.size]? = some (.cells #[.int .i64 2, .int .i64 (jx : Int)] 84) ∧ w4.heap[w2.heap.size]? = some (.cells #[.int .i64 q1, .int .i64 i] 84)) := ⟨a0, b0⟩
  have v0 : w4.cell? ⟨w1.heap.size, 0, none⟩ = some (.int .i64 2) := cell_of_heap a0 rfl
  have v1 : w4.cell? ⟨w1.heap.size, 1, none⟩ = some (.int .i64 (jx : Int)) := cell_of_heap a0 rfl
  have u1 : w4.cell? ⟨w2.heap.size, 1, none⟩ = some (.int .i64 i) := cell_of_heap b0 rfl
  have s1 := B.out.size
  have s2 := B2.out.2.1
  have s3 := B3.out.2.1
  have M4 : Hid (Mid1 w4) := hm
  obtain ⟨m0, m1, m2, m3, m4, m5, m6⟩ := E.out.midA w4 hm
  have al : ∀ (ob : Obj) (b o : Nat), b < w4.heap.size → (w4.alloc ob).cell? ⟨b, o, none⟩ = w4.cell? ⟨b, o, none⟩ := fun ob b o hlt => World.cell?_of_block (hao hlt)
  have t0 : ∀ ob, (w4.alloc ob).cell? ⟨h, 5, none⟩ = w4.cell? ⟨h, 5, none⟩ := fun ob => al ob h 5 (by omega)
  have t1 : ∀ ob, (w4.alloc ob).cell? ⟨g, i * 4 + 1, none⟩ = w4.cell? ⟨g, i * 4 + 1, none⟩ := fun ob => al ob g _ (by omega)
  have t2 : ∀ ob, (w4.alloc ob).cell? ⟨fg, k * 2, none⟩ = w4.cell? ⟨fg, k * 2, none⟩ := fun ob => al ob fg _ (by omega)
  have t3 : ∀ ob, (w4.alloc ob).cell? ⟨fg, k * 2 + 1, none⟩ = w4.cell? ⟨fg, k * 2 + 1, none⟩ := fun ob => al ob fg _ (by omega)
  have t4 : ∀ ob, (w4.alloc ob).cell? ⟨w2.heap.size, 1, none⟩ = w4.cell? ⟨w2.heap.size, 1, none⟩ := fun ob => al ob w2.heap.size _ (by omega)
  clear hm hsz hloc a0 b0 d0 d1 l1 B B2 B3 al
  go_wp2_with fail
  go_region
  obtain ⟨w5, hw5⟩ : ∃ w5, w5 = (w4.alloc (.cells #[.int .i64 2, .int .i64 (jy : Int)] 84)).drew := ⟨_, rfl⟩
  rw [← hw5]
  have M5 : Hid (Mid1 w5) := by rw [hw5]; exact E.out.mid1B _ _ M4.out ((Below.refl _ _).alloc (Nat.le_refl _) _).drew
  have L5 : Hid (w5.heap[w1.heap.size]? = some (.cells #[.int .i64 2, .int .i64 (jx : Int)] 84) ∧ w5.heap[w2.heap.size]? = some (.cells #[.int .i64 q1, .int .i64 i] 84) ∧ w5.heap[w4.heap.size]? = some (.cells #[.int .i64 2, .int .i64 (jy : Int)] 84)) := by
    rw [hw5]
    refine ⟨?_, ?_, heap_alloc_new w4 _⟩
    · show (w4.alloc _).heap[w1.heap.size]? = _
      rw [hao (by omega)]; exact LOC.out.1
    · show (w4.alloc _).heap[w2.heap.size]? = _
      rw [hao (by omega)]; exact LOC.out.2
  have s5 : w5.heap.size = w4.heap.size + 1 := by rw [hw5]; simp
  clear hw5 t0 t1 t2 t3 t4 m0 m1 m2 m3 m4 m5 m6 v0 v1 u1 LOC M4
  have lv0 : w5.cell? ⟨w1.heap.size, 0, none⟩ = some (.int .i64 2) := cell_of_heap L5.out.1 rfl
  have lv1 : w5.cell? ⟨w1.heap.size, 1, none⟩ = some (.int .i64 (jx : Int)) := cell_of_heap L5.out.1 rfl
  have ly0 : w5.cell? ⟨w4.heap.size, 0, none⟩ = some (.int .i64 2) := cell_of_heap L5.out.2.2 rfl
  have ly1 : w5.cell? ⟨w4.heap.size, 1, none⟩ = some (.int .i64 (jy : Int)) := cell_of_heap L5.out.2.2 rfl
  have hxI : (jx : Int) < (N : Int) + 1 := by omega
  have hne2 : ((jy : Int) == (jx : Int)) = false := by simpa using hne
  go_wp2_with fail
  refine Calls.mono (E.out.count _ M5.out) ?_
  rintro e wc ⟨rfl, hwc⟩
  subst hwc
  go_wp2_with fail
  refine Calls.mono (E.out.extras _ M5.out) ?_
  rintro e w6 ⟨rfl, hb⟩
  have M6 : Hid (MidP w6) := E.out.mid1 _ (E.out.mid1B _ _ M5.out hb) (fun q => by have := q.2.2; omega)
  have s6 : w4.heap.size + 1 ≤ w6.heap.size := by have := hb.size; omega
  have L6 : Hid (w6.heap[w1.heap.size]? = some (.cells #[.int .i64 2, .int .i64 (jx : Int)] 84) ∧ w6.heap[w2.heap.size]? = some (.cells #[.int .i64 q1, .int .i64 i] 84) ∧ w6.heap[w4.heap.size]? = some (.cells #[.int .i64 2, .int .i64 (jy : Int)] 84)) := by
    refine ⟨?_, ?_, ?_⟩
    · rw [hb.block _ (by omega)]; exact L5.out.1
    · rw [hb.block _ (by omega)]; exact L5.out.2.1
    · rw [hb.block _ (by omega)]; exact L5.out.2.2
  have o4 := (E.out.mid w6 M6.out).2.2.2.2.2.2
  have o5 := (E.out.mid w6 M6.out).1
  have k1 : w6.cell? ⟨w1.heap.size, 1, none⟩ = some (.int .i64 (jx : Int)) := cell_of_heap L6.out.1 rfl
  have k0 : w6.cell? ⟨w1.heap.size, 0, none⟩ = some (.int .i64 2) := cell_of_heap L6.out.1 rfl
  clear hb lv0 lv1 ly0 ly1 M5 L5
  have M : Hid (MidP w6) := M6.out
  have L : Hid _ := L6.out
  clear M6 L6
  have lv0 : w6.cell? ⟨w1.heap.size, 0, none⟩ = some (.int .i64 2) := cell_of_heap L.out.1 rfl
  have lv1 : w6.cell? ⟨w1.heap.size, 1, none⟩ = some (.int .i64 (jx : Int)) := cell_of_heap L.out.1 rfl
  have lu1 : w6.cell? ⟨w2.heap.size, 1, none⟩ = some (.int .i64 i) := cell_of_heap L.out.2.1 rfl
  have ly0 : w6.cell? ⟨w4.heap.size, 0, none⟩ = some (.int .i64 2) := cell_of_heap L.out.2.2 rfl
  have ly1 : w6.cell? ⟨w4.heap.size, 1, none⟩ = some (.int .i64 (jy : Int)) := cell_of_heap L.out.2.2 rfl
  obtain ⟨n0, n1, n2, n3, n4, n5, n6⟩ := E.out.mid w6 M.out
  have TP : Hid (TailP ((w6.setCell ⟨fg, k * 2, none⟩ (.int .i64 2)).setCell ⟨fg, k * 2 + 1, none⟩ (.int .i64 (jx : Int)))) := E.out.store w6 M.out
  go_wp2_with fail
  go_region
  obtain ⟨w8, hw8⟩ : ∃ w8, w8 = ((w6.setCell ⟨fg, k * 2, none⟩ (.int .i64 2)).setCell ⟨fg, k * 2 + 1, none⟩ (.int .i64 (jx : Int))).drew := ⟨_, rfl⟩
  rw [← hw8]
  have T8 : Hid (TailP w8) := by rw [hw8]; exact E.out.tailB _ _ TP.out ⟨rfl, rfl, rfl, Nat.le_refl _, fun _ _ => rfl⟩
  have h8 : w8.heap[w4.heap.size]? = some (.cells #[.int .i64 2, .int .i64 (jy : Int)] 84) := by
    rw [hw8]
    show ((w6.setCell ⟨fg, k * 2, none⟩ (.int .i64 2)).setCell ⟨fg, k * 2 + 1, none⟩ (.int .i64 (jx : Int))).heap[w4.heap.size]? = _
    rw [hso (by omega), hso (by omega)]; exact L.out.2.2
  have z0 : w8.cell? ⟨w4.heap.size, 0, none⟩ = some (.int .i64 2) := cell_of_heap h8 rfl
  have z1 : w8.cell? ⟨w4.heap.size, 1, none⟩ = some (.int .i64 (jy : Int)) := cell_of_heap h8 rfl
  obtain ⟨c5, cst⟩ := E.out.tail w8 T8.out
  have ST : Hid (∀ j : Nat, j ≤ N → w8.cell? ⟨g, j * 4 + 2, none⟩ = some (.bool (ys j))) := cst
  clear lv0 lv1 lu1 ly0 ly1 n0 n1 n2 n3 n4 n5 n6 TP hw8 h8 M L cst
  have hu := ST.out jy hjy
  obtain ⟨u, hys⟩ : ∃ u, ys jy = u := ⟨_, rfl⟩
  rw [hys] at hu
  have HY : Hid (ys jy = u) := hys
  clear hys ST
  have hjI : (jy : Int) < (N : Int) + 1 := by omega
  cases u with
  | true =>
    go_wp2_with fail
    go_quiet (fail)
    go_wp2
    go_ret
    exact ⟨rfl, E.out.done _ (E.out.tailB _ _ T8.out ⟨rfl, rfl, rfl, Nat.le_refl _, fun _ _ => rfl⟩) (fun q => hne q.2.2) fun j _ hj hf _ => by
      have : j = jy := by omega
      rw [this, HY.out] at hf; cases hf⟩
  | false =>
    go_wp2_with fail
    go_quiet (fail)
    have T9 : Hid (TailP (w8.drewN nq)) := E.out.tailB _ _ T8.out ⟨rfl, rfl, rfl, Nat.le_refl _, fun _ _ => rfl⟩
    go_wp2_with fail
    have hcnt := E.out.tcount _ (jy : Int) T9.out
    obtain ⟨c, hcy⟩ : ∃ c, cy (jy : Int) = c := ⟨_, rfl⟩
    rw [hcy] at hcnt
    have HC : Hid (cy (jy : Int) = c) := hcy
    clear hcy
    refine Calls.mono hcnt ?_
    rintro e w9 ⟨rfl, hw9⟩
    have T10 : Hid (TailP w9) := by rw [hw9]; exact T9.out
    have z2 : w9.cell? ⟨w4.heap.size, 1, none⟩ = some (.int .i64 jy) := by rw [hw9]; exact z1
    clear hw9 hcnt T9
    by_cases c0 : c = 0
    · subst c0
      go_wp2_with fail
      refine Calls.mono (E.out.enter _ jy T10.out (fun q => hne q.2.2) rfl rfl HY.out HC.out) ?_
      rintro e w11 ⟨rfl, hd⟩
      have DD : Hid (Done w11) := hd
      clear hd
      go_wp2
      go_ret
      exact ⟨rfl, DD.out⟩
    · have c1 : ((c : Int) == 0) = false := by simp; omega
      have c2 : ¬ (c : Int) = 0 := by omega
      go_wp2
      go_ret
      exact ⟨rfl, E.out.done _ T10.out (fun q => hne q.2.2) fun j _ hj _ h0 => by
        have : j = jy := by omega
        rw [this, HC.out] at h0; omega⟩

end Go.Proofs.YtpmkjeihbddfpabGreatDoor

/- OUR OWN. The document's heap: stored, by cases. -/
namespace Go.Proofs.YtpmkjeihbddfpabGreatDoor
open Go.RowKit
set_option linter.unusedVariables false
set_option linter.unusedSimpArgs false

set_option maxHeartbeats 1600000 in
theorem stored_sn (h N g capB fg fl fc i k len cap : Nat) (ao : Option Addr) (jx : Nat) (hjx : jx ≤ N) (y1 y2 : Int) (yk : ¬ y1 = 2) (q1 over : Int) (cx ex : Nat) (ys : Nat → Bool) (cy : Int → Nat) (c7 : (cx : Int) = 7) (hov : over ≤ (ex : Int)) (w : World) (Mid1 MidP TailP Done : World → Prop) (E : Hid (StoreEnv h N g capB fg fl fc i k 2 (jx : Int) y1 y2 q1 over cx ex ys cy w Mid1 MidP TailP Done))
    (cS : w.cell? ⟨h, 7, none⟩ = some (.slice ao len cap)) (hc : ¬ (len : Int) < 2) (hl : len ≤ 16) (hN : N ≤ 99) (hi : i ≤ N) (hk : k < fl) (hfl : fl ≤ 4) (hh : h < w.heap.size) (hg : g < w.heap.size) (hfg : fg < w.heap.size) (hgf : ¬ g = fg) :
    Calls Tryz.prog 60 #[.pointer (some ⟨h, 0, none⟩), .int .i64 k] w fun e w' => e = .returned (.int .i64 0) ∧ Done w' := by
  have hiI : (i : Int) < (N : Int) + 1 := by omega
  have hkI : (k : Int) < fl := by omega
  have hk0 : ¬ (k : Int) < 0 := by omega
  have hkd : decide ((k : Int) < 0) = false := by simp
  go_enter Tryz.func60, Tryz.ntmps60
  go_wp2_with fail
  refine Calls.mono E.out.d0 ?_
  rintro e w1 ⟨rfl, hb⟩
  have B : Hid (Below w.heap.size w w1) := hb
  clear hb
  go_wp2_with fail
  refine Calls.mono (E.out.d1 _ (B.out.alloc B.out.size _)) ?_
  rintro e w2 ⟨rfl, hb⟩
  have B2 : Hid (Below w.heap.size w w2 ∧ w1.heap.size + 1 ≤ w2.heap.size ∧ w2.heap[w1.heap.size]? = some (.cells #[.int .i64 2, .int .i64 (jx : Int)] 84)) := ⟨(B.out.alloc B.out.size _).trans (hb.mono (by simp; have := B.out.size; omega)), by have := hb.size; simpa using this, boxed' hb⟩
  clear hb
  go_wp2_with fail
  refine Calls.mono (E.out.obj _) ?_
  rintro e w3 ⟨rfl, hb⟩
  have B3 : Hid (Below w.heap.size w w3 ∧ w2.heap.size + 1 ≤ w3.heap.size ∧ w3.heap[w2.heap.size]? = some (.cells #[.int .i64 q1, .int .i64 i] 84) ∧ w3.heap[w1.heap.size]? = some (.cells #[.int .i64 2, .int .i64 (jx : Int)] 84)) :=
    ⟨(B2.out.1.alloc B2.out.1.size _).trans (hb.mono (by simp; have := B2.out.1.size; omega)), by have := hb.size; simpa using this, boxed' hb, by
      have h1 := B2.out.2.1
      rw [hb.block _ (by simp; omega), hao (by omega)]; exact B2.out.2.2⟩
  have l1 : w3.cell? ⟨w2.heap.size, 1, none⟩ = some (.int .i64 i) := cell_of_heap B3.out.2.2.1 rfl
  obtain ⟨d0, d1⟩ := E.out.old w3 B3.out.1
  clear hb
  go_wp2_with fail
  go_quiet (fail)
  go_wp2_with fail
  refine Calls.mono (E.out.pop _ (below_drewN B3.out.1 _)) ?_
  rintro e w4 ⟨rfl, hm, hsz, hloc⟩
  have a0 := hloc w1.heap.size _ B.out.size B3.out.2.2.2
  have b0 := hloc w2.heap.size _ B2.out.1.size B3.out.2.2.1
  have hsz' : w3.heap.size ≤ w4.heap.size := hsz
  have LOC : Hid (w4.heap[w1.heap.size]? = some (.cells #[.int .i64 2, .int .i64 (jx : Int)] 84) ∧ w4.heap[w2.heap.size]? = some (.cells #[.int .i64 q1, .int .i64 i] 84)) := ⟨a0, b0⟩
  have v0 : w4.cell? ⟨w1.heap.size, 0, none⟩ = some (.int .i64 2) := cell_of_heap a0 rfl
  have v1 : w4.cell? ⟨w1.heap.size, 1, none⟩ = some (.int .i64 (jx : Int)) := cell_of_heap a0 rfl
  have u1 : w4.cell? ⟨w2.heap.size, 1, none⟩ = some (.int .i64 i) := cell_of_heap b0 rfl
  have s1 := B.out.size
  have s2 := B2.out.2.1
  have s3 := B3.out.2.1
  have M4 : Hid (Mid1 w4) := hm
  obtain ⟨m0, m1, m2, m3, m4, m5, m6⟩ := E.out.midA w4 hm
  have al : ∀ (ob : Obj) (b o : Nat), b < w4.heap.size → (w4.alloc ob).cell? ⟨b, o, none⟩ = w4.cell? ⟨b, o, none⟩ := fun ob b o hlt => World.cell?_of_block (hao hlt)
  have t0 : ∀ ob, (w4.alloc ob).cell? ⟨h, 5, none⟩ = w4.cell? ⟨h, 5, none⟩ := fun ob => al ob h 5 (by omega)
  have t1 : ∀ ob, (w4.alloc ob).cell? ⟨g, i * 4 + 1, none⟩ = w4.cell? ⟨g, i * 4 + 1, none⟩ := fun ob => al ob g _ (by omega)
  have t2 : ∀ ob, (w4.alloc ob).cell? ⟨fg, k * 2, none⟩ = w4.cell? ⟨fg, k * 2, none⟩ := fun ob => al ob fg _ (by omega)
  have t3 : ∀ ob, (w4.alloc ob).cell? ⟨fg, k * 2 + 1, none⟩ = w4.cell? ⟨fg, k * 2 + 1, none⟩ := fun ob => al ob fg _ (by omega)
  have t4 : ∀ ob, (w4.alloc ob).cell? ⟨w2.heap.size, 1, none⟩ = w4.cell? ⟨w2.heap.size, 1, none⟩ := fun ob => al ob w2.heap.size _ (by omega)
  clear hm hsz hloc a0 b0 d0 d1 l1 B B2 B3 al
  go_wp2_with fail
  go_region
  obtain ⟨w5, hw5⟩ : ∃ w5, w5 = (w4.alloc (.cells #[.int .i64 y1, .int .i64 y2] 84)).drew := ⟨_, rfl⟩
  rw [← hw5]
  have M5 : Hid (Mid1 w5) := by rw [hw5]; exact E.out.mid1B _ _ M4.out ((Below.refl _ _).alloc (Nat.le_refl _) _).drew
  have L5 : Hid (w5.heap[w1.heap.size]? = some (.cells #[.int .i64 2, .int .i64 (jx : Int)] 84) ∧ w5.heap[w2.heap.size]? = some (.cells #[.int .i64 q1, .int .i64 i] 84) ∧ w5.heap[w4.heap.size]? = some (.cells #[.int .i64 y1, .int .i64 y2] 84)) := by
    rw [hw5]
    refine ⟨?_, ?_, heap_alloc_new w4 _⟩
    · show (w4.alloc _).heap[w1.heap.size]? = _
      rw [hao (by omega)]; exact LOC.out.1
    · show (w4.alloc _).heap[w2.heap.size]? = _
      rw [hao (by omega)]; exact LOC.out.2
  have s5 : w5.heap.size = w4.heap.size + 1 := by rw [hw5]; simp
  clear hw5 t0 t1 t2 t3 t4 m0 m1 m2 m3 m4 m5 m6 v0 v1 u1 LOC M4
  have lv0 : w5.cell? ⟨w1.heap.size, 0, none⟩ = some (.int .i64 2) := cell_of_heap L5.out.1 rfl
  have lv1 : w5.cell? ⟨w1.heap.size, 1, none⟩ = some (.int .i64 (jx : Int)) := cell_of_heap L5.out.1 rfl
  have ly0 : w5.cell? ⟨w4.heap.size, 0, none⟩ = some (.int .i64 y1) := cell_of_heap L5.out.2.2 rfl
  have ly1 : w5.cell? ⟨w4.heap.size, 1, none⟩ = some (.int .i64 y2) := cell_of_heap L5.out.2.2 rfl
  have yk2 : (y1 == 2) = false := by simpa using yk
  have hxI : (jx : Int) < (N : Int) + 1 := by omega
  go_wp2_with fail
  refine Calls.mono (E.out.count _ M5.out) ?_
  rintro e wc ⟨rfl, hwc⟩
  subst hwc
  go_wp2_with fail
  refine Calls.mono (E.out.extras _ M5.out) ?_
  rintro e w6 ⟨rfl, hb⟩
  have M6 : Hid (Mid1 w6) := E.out.mid1B _ _ M5.out hb
  have s6 : w4.heap.size + 1 ≤ w6.heap.size := by have := hb.size; omega
  have L6 : Hid (w6.heap[w1.heap.size]? = some (.cells #[.int .i64 2, .int .i64 (jx : Int)] 84) ∧ w6.heap[w2.heap.size]? = some (.cells #[.int .i64 q1, .int .i64 i] 84) ∧ w6.heap[w4.heap.size]? = some (.cells #[.int .i64 y1, .int .i64 y2] 84)) := by
    refine ⟨?_, ?_, ?_⟩
    · rw [hb.block _ (by omega)]; exact L5.out.1
    · rw [hb.block _ (by omega)]; exact L5.out.2.1
    · rw [hb.block _ (by omega)]; exact L5.out.2.2
  have o4 := (E.out.midA w6 M6.out).2.2.2.2.2.2
  have o5 := (E.out.midA w6 M6.out).1
  have k1 : w6.cell? ⟨w1.heap.size, 1, none⟩ = some (.int .i64 (jx : Int)) := cell_of_heap L6.out.1 rfl
  have k0 : w6.cell? ⟨w1.heap.size, 0, none⟩ = some (.int .i64 2) := cell_of_heap L6.out.1 rfl
  clear hb lv0 lv1 ly0 ly1 M5 L5
  obtain ⟨_, ⟨u, hu⟩, hf, hM⟩ := E.out.stuck w6 jx M6.out rfl rfl c7 hov
  have M7' : Hid (MidP (w6.setCell ⟨g, jx * 4 + 2, none⟩ (.bool true))) := hM
  clear hM
  go_wp2_with fail
  go_region
  obtain ⟨w7, hw7⟩ : ∃ w7, w7 = (w6.setCell ⟨g, jx * 4 + 2, none⟩ (.bool true)).drew := ⟨_, rfl⟩
  rw [← hw7]
  have M : Hid (MidP w7) := by rw [hw7]; exact E.out.midB _ _ M7'.out ⟨rfl, rfl, rfl, Nat.le_refl _, fun _ _ => rfl⟩
  have s7 : w7.heap.size = w6.heap.size := by rw [hw7]; simp [World.setCell]
  have L : Hid (w7.heap[w1.heap.size]? = some (.cells #[.int .i64 2, .int .i64 (jx : Int)] 84) ∧ w7.heap[w2.heap.size]? = some (.cells #[.int .i64 q1, .int .i64 i] 84) ∧ w7.heap[w4.heap.size]? = some (.cells #[.int .i64 y1, .int .i64 y2] 84)) := by
    rw [hw7]
    refine ⟨?_, ?_, ?_⟩
    · show (w6.setCell ⟨g, jx * 4 + 2, none⟩ (.bool true)).heap[w1.heap.size]? = _
      rw [hso (by omega)]; exact L6.out.1
    · show (w6.setCell ⟨g, jx * 4 + 2, none⟩ (.bool true)).heap[w2.heap.size]? = _
      rw [hso (by omega)]; exact L6.out.2.1
    · show (w6.setCell ⟨g, jx * 4 + 2, none⟩ (.bool true)).heap[w4.heap.size]? = _
      rw [hso (by omega)]; exact L6.out.2.2
  clear hw7 M7' hu hf o4 o5 k1 k0 M6 L6
  have lv0 : w7.cell? ⟨w1.heap.size, 0, none⟩ = some (.int .i64 2) := cell_of_heap L.out.1 rfl
  have lv1 : w7.cell? ⟨w1.heap.size, 1, none⟩ = some (.int .i64 (jx : Int)) := cell_of_heap L.out.1 rfl
  have lu1 : w7.cell? ⟨w2.heap.size, 1, none⟩ = some (.int .i64 i) := cell_of_heap L.out.2.1 rfl
  have ly0 : w7.cell? ⟨w4.heap.size, 0, none⟩ = some (.int .i64 y1) := cell_of_heap L.out.2.2 rfl
  have ly1 : w7.cell? ⟨w4.heap.size, 1, none⟩ = some (.int .i64 y2) := cell_of_heap L.out.2.2 rfl
  obtain ⟨n0, n1, n2, n3, n4, n5, n6⟩ := E.out.mid w7 M.out
  have TP : Hid (TailP ((w7.setCell ⟨fg, k * 2, none⟩ (.int .i64 2)).setCell ⟨fg, k * 2 + 1, none⟩ (.int .i64 (jx : Int)))) := E.out.store w7 M.out
  go_wp2_with fail
  go_region
  obtain ⟨w8, hw8⟩ : ∃ w8, w8 = ((w7.setCell ⟨fg, k * 2, none⟩ (.int .i64 2)).setCell ⟨fg, k * 2 + 1, none⟩ (.int .i64 (jx : Int))).drew := ⟨_, rfl⟩
  rw [← hw8]
  have T8 : Hid (TailP w8) := by rw [hw8]; exact E.out.tailB _ _ TP.out ⟨rfl, rfl, rfl, Nat.le_refl _, fun _ _ => rfl⟩
  have h8 : w8.heap[w4.heap.size]? = some (.cells #[.int .i64 y1, .int .i64 y2] 84) := by
    rw [hw8]
    show ((w7.setCell ⟨fg, k * 2, none⟩ (.int .i64 2)).setCell ⟨fg, k * 2 + 1, none⟩ (.int .i64 (jx : Int))).heap[w4.heap.size]? = _
    rw [hso (by omega), hso (by omega)]; exact L.out.2.2
  have z0 : w8.cell? ⟨w4.heap.size, 0, none⟩ = some (.int .i64 y1) := cell_of_heap h8 rfl
  have z1 : w8.cell? ⟨w4.heap.size, 1, none⟩ = some (.int .i64 y2) := cell_of_heap h8 rfl
  obtain ⟨c5, cst⟩ := E.out.tail w8 T8.out
  have ST : Hid (∀ j : Nat, j ≤ N → w8.cell? ⟨g, j * 4 + 2, none⟩ = some (.bool (ys j))) := cst
  clear lv0 lv1 lu1 ly0 ly1 n0 n1 n2 n3 n4 n5 n6 TP hw8 h8 M L cst
  go_wp2_with fail
  go_quiet (fail)
  go_wp2
  go_ret
  exact ⟨rfl, E.out.done _ (E.out.tailB _ _ T8.out ⟨rfl, rfl, rfl, Nat.le_refl _, fun _ _ => rfl⟩) (fun q => yk q.2.1) fun j h2 _ _ _ => yk h2⟩

set_option maxHeartbeats 1600000 in
theorem stored_sr (h N g capB fg fl fc i k len cap : Nat) (ao : Option Addr) (jx : Nat) (hjx : jx ≤ N) (jy : Nat) (hjy : jy ≤ N) (q1 over : Int) (cx ex : Nat) (ys : Nat → Bool) (cy : Int → Nat) (c7 : (cx : Int) = 7) (hov : over ≤ (ex : Int)) (hne : ¬ (jy : Int) = (jx : Int)) (w : World) (Mid1 MidP TailP Done : World → Prop) (E : Hid (StoreEnv h N g capB fg fl fc i k 2 (jx : Int) 2 (jy : Int) q1 over cx ex ys cy w Mid1 MidP TailP Done))
    (cS : w.cell? ⟨h, 7, none⟩ = some (.slice ao len cap)) (hc : ¬ (len : Int) < 2) (hl : len ≤ 16) (hN : N ≤ 99) (hi : i ≤ N) (hk : k < fl) (hfl : fl ≤ 4) (hh : h < w.heap.size) (hg : g < w.heap.size) (hfg : fg < w.heap.size) (hgf : ¬ g = fg) :
    Calls Tryz.prog 60 #[.pointer (some ⟨h, 0, none⟩), .int .i64 k] w fun e w' => e = .returned (.int .i64 0) ∧ Done w' := by
  have hiI : (i : Int) < (N : Int) + 1 := by omega
  have hkI : (k : Int) < fl := by omega
  have hk0 : ¬ (k : Int) < 0 := by omega
  have hkd : decide ((k : Int) < 0) = false := by simp
  go_enter Tryz.func60, Tryz.ntmps60
  go_wp2_with fail
  refine Calls.mono E.out.d0 ?_
  rintro e w1 ⟨rfl, hb⟩
  have B : Hid (Below w.heap.size w w1) := hb
  clear hb
  go_wp2_with fail
  refine Calls.mono (E.out.d1 _ (B.out.alloc B.out.size _)) ?_
  rintro e w2 ⟨rfl, hb⟩
  have B2 : Hid (Below w.heap.size w w2 ∧ w1.heap.size + 1 ≤ w2.heap.size ∧ w2.heap[w1.heap.size]? = some (.cells #[.int .i64 2, .int .i64 (jx : Int)] 84)) := ⟨(B.out.alloc B.out.size _).trans (hb.mono (by simp; have := B.out.size; omega)), by have := hb.size; simpa using this, boxed' hb⟩
  clear hb
  go_wp2_with fail
  refine Calls.mono (E.out.obj _) ?_
  rintro e w3 ⟨rfl, hb⟩
  have B3 : Hid (Below w.heap.size w w3 ∧ w2.heap.size + 1 ≤ w3.heap.size ∧ w3.heap[w2.heap.size]? = some (.cells #[.int .i64 q1, .int .i64 i] 84) ∧ w3.heap[w1.heap.size]? = some (.cells #[.int .i64 2, .int .i64 (jx : Int)] 84)) :=
    ⟨(B2.out.1.alloc B2.out.1.size _).trans (hb.mono (by simp; have := B2.out.1.size; omega)), by have := hb.size; simpa using this, boxed' hb, by
      have h1 := B2.out.2.1
      rw [hb.block _ (by simp; omega), hao (by omega)]; exact B2.out.2.2⟩
  have l1 : w3.cell? ⟨w2.heap.size, 1, none⟩ = some (.int .i64 i) := cell_of_heap B3.out.2.2.1 rfl
  obtain ⟨d0, d1⟩ := E.out.old w3 B3.out.1
  clear hb
  go_wp2_with fail
  go_quiet (fail)
  go_wp2_with fail
  refine Calls.mono (E.out.pop _ (below_drewN B3.out.1 _)) ?_
  rintro e w4 ⟨rfl, hm, hsz, hloc⟩
  have a0 := hloc w1.heap.size _ B.out.size B3.out.2.2.2
  have b0 := hloc w2.heap.size _ B2.out.1.size B3.out.2.2.1
  have hsz' : w3.heap.size ≤ w4.heap.size := hsz
  have LOC : Hid (w4.heap[w1.heap.size]? = some (.cells #[.int .i64 2, .int .i64 (jx : Int)] 84) ∧ w4.heap[w2.heap.size]? = some (.cells #[.int .i64 q1, .int .i64 i] 84)) := ⟨a0, b0⟩
  have v0 : w4.cell? ⟨w1.heap.size, 0, none⟩ = some (.int .i64 2) := cell_of_heap a0 rfl
  have v1 : w4.cell? ⟨w1.heap.size, 1, none⟩ = some (.int .i64 (jx : Int)) := cell_of_heap a0 rfl
  have u1 : w4.cell? ⟨w2.heap.size, 1, none⟩ = some (.int .i64 i) := cell_of_heap b0 rfl
  have s1 := B.out.size
  have s2 := B2.out.2.1
  have s3 := B3.out.2.1
  have M4 : Hid (Mid1 w4) := hm
  obtain ⟨m0, m1, m2, m3, m4, m5, m6⟩ := E.out.midA w4 hm
  have al : ∀ (ob : Obj) (b o : Nat), b < w4.heap.size → (w4.alloc ob).cell? ⟨b, o, none⟩ = w4.cell? ⟨b, o, none⟩ := fun ob b o hlt => World.cell?_of_block (hao hlt)
  have t0 : ∀ ob, (w4.alloc ob).cell? ⟨h, 5, none⟩ = w4.cell? ⟨h, 5, none⟩ := fun ob => al ob h 5 (by omega)
  have t1 : ∀ ob, (w4.alloc ob).cell? ⟨g, i * 4 + 1, none⟩ = w4.cell? ⟨g, i * 4 + 1, none⟩ := fun ob => al ob g _ (by omega)
  have t2 : ∀ ob, (w4.alloc ob).cell? ⟨fg, k * 2, none⟩ = w4.cell? ⟨fg, k * 2, none⟩ := fun ob => al ob fg _ (by omega)
  have t3 : ∀ ob, (w4.alloc ob).cell? ⟨fg, k * 2 + 1, none⟩ = w4.cell? ⟨fg, k * 2 + 1, none⟩ := fun ob => al ob fg _ (by omega)
  have t4 : ∀ ob, (w4.alloc ob).cell? ⟨w2.heap.size, 1, none⟩ = w4.cell? ⟨w2.heap.size, 1, none⟩ := fun ob => al ob w2.heap.size _ (by omega)
  clear hm hsz hloc a0 b0 d0 d1 l1 B B2 B3 al
  go_wp2_with fail
  go_region
  obtain ⟨w5, hw5⟩ : ∃ w5, w5 = (w4.alloc (.cells #[.int .i64 2, .int .i64 (jy : Int)] 84)).drew := ⟨_, rfl⟩
  rw [← hw5]
  have M5 : Hid (Mid1 w5) := by rw [hw5]; exact E.out.mid1B _ _ M4.out ((Below.refl _ _).alloc (Nat.le_refl _) _).drew
  have L5 : Hid (w5.heap[w1.heap.size]? = some (.cells #[.int .i64 2, .int .i64 (jx : Int)] 84) ∧ w5.heap[w2.heap.size]? = some (.cells #[.int .i64 q1, .int .i64 i] 84) ∧ w5.heap[w4.heap.size]? = some (.cells #[.int .i64 2, .int .i64 (jy : Int)] 84)) := by
    rw [hw5]
    refine ⟨?_, ?_, heap_alloc_new w4 _⟩
    · show (w4.alloc _).heap[w1.heap.size]? = _
      rw [hao (by omega)]; exact LOC.out.1
    · show (w4.alloc _).heap[w2.heap.size]? = _
      rw [hao (by omega)]; exact LOC.out.2
  have s5 : w5.heap.size = w4.heap.size + 1 := by rw [hw5]; simp
  clear hw5 t0 t1 t2 t3 t4 m0 m1 m2 m3 m4 m5 m6 v0 v1 u1 LOC M4
  have lv0 : w5.cell? ⟨w1.heap.size, 0, none⟩ = some (.int .i64 2) := cell_of_heap L5.out.1 rfl
  have lv1 : w5.cell? ⟨w1.heap.size, 1, none⟩ = some (.int .i64 (jx : Int)) := cell_of_heap L5.out.1 rfl
  have ly0 : w5.cell? ⟨w4.heap.size, 0, none⟩ = some (.int .i64 2) := cell_of_heap L5.out.2.2 rfl
  have ly1 : w5.cell? ⟨w4.heap.size, 1, none⟩ = some (.int .i64 (jy : Int)) := cell_of_heap L5.out.2.2 rfl
  have hxI : (jx : Int) < (N : Int) + 1 := by omega
  have hne2 : ((jy : Int) == (jx : Int)) = false := by simpa using hne
  go_wp2_with fail
  refine Calls.mono (E.out.count _ M5.out) ?_
  rintro e wc ⟨rfl, hwc⟩
  subst hwc
  go_wp2_with fail
  refine Calls.mono (E.out.extras _ M5.out) ?_
  rintro e w6 ⟨rfl, hb⟩
  have M6 : Hid (Mid1 w6) := E.out.mid1B _ _ M5.out hb
  have s6 : w4.heap.size + 1 ≤ w6.heap.size := by have := hb.size; omega
  have L6 : Hid (w6.heap[w1.heap.size]? = some (.cells #[.int .i64 2, .int .i64 (jx : Int)] 84) ∧ w6.heap[w2.heap.size]? = some (.cells #[.int .i64 q1, .int .i64 i] 84) ∧ w6.heap[w4.heap.size]? = some (.cells #[.int .i64 2, .int .i64 (jy : Int)] 84)) := by
    refine ⟨?_, ?_, ?_⟩
    · rw [hb.block _ (by omega)]; exact L5.out.1
    · rw [hb.block _ (by omega)]; exact L5.out.2.1
    · rw [hb.block _ (by omega)]; exact L5.out.2.2
  have o4 := (E.out.midA w6 M6.out).2.2.2.2.2.2
  have o5 := (E.out.midA w6 M6.out).1
  have k1 : w6.cell? ⟨w1.heap.size, 1, none⟩ = some (.int .i64 (jx : Int)) := cell_of_heap L6.out.1 rfl
  have k0 : w6.cell? ⟨w1.heap.size, 0, none⟩ = some (.int .i64 2) := cell_of_heap L6.out.1 rfl
  clear hb lv0 lv1 ly0 ly1 M5 L5
  obtain ⟨_, ⟨u, hu⟩, hf, hM⟩ := E.out.stuck w6 jx M6.out rfl rfl c7 hov
  have M7' : Hid (MidP (w6.setCell ⟨g, jx * 4 + 2, none⟩ (.bool true))) := hM
  clear hM
  go_wp2_with fail
  go_region
  obtain ⟨w7, hw7⟩ : ∃ w7, w7 = (w6.setCell ⟨g, jx * 4 + 2, none⟩ (.bool true)).drew := ⟨_, rfl⟩
  rw [← hw7]
  have M : Hid (MidP w7) := by rw [hw7]; exact E.out.midB _ _ M7'.out ⟨rfl, rfl, rfl, Nat.le_refl _, fun _ _ => rfl⟩
  have s7 : w7.heap.size = w6.heap.size := by rw [hw7]; simp [World.setCell]
  have L : Hid (w7.heap[w1.heap.size]? = some (.cells #[.int .i64 2, .int .i64 (jx : Int)] 84) ∧ w7.heap[w2.heap.size]? = some (.cells #[.int .i64 q1, .int .i64 i] 84) ∧ w7.heap[w4.heap.size]? = some (.cells #[.int .i64 2, .int .i64 (jy : Int)] 84)) := by
    rw [hw7]
    refine ⟨?_, ?_, ?_⟩
    · show (w6.setCell ⟨g, jx * 4 + 2, none⟩ (.bool true)).heap[w1.heap.size]? = _
      rw [hso (by omega)]; exact L6.out.1
    · show (w6.setCell ⟨g, jx * 4 + 2, none⟩ (.bool true)).heap[w2.heap.size]? = _
      rw [hso (by omega)]; exact L6.out.2.1
    · show (w6.setCell ⟨g, jx * 4 + 2, none⟩ (.bool true)).heap[w4.heap.size]? = _
      rw [hso (by omega)]; exact L6.out.2.2
  clear hw7 M7' hu hf o4 o5 k1 k0 M6 L6
  have lv0 : w7.cell? ⟨w1.heap.size, 0, none⟩ = some (.int .i64 2) := cell_of_heap L.out.1 rfl
  have lv1 : w7.cell? ⟨w1.heap.size, 1, none⟩ = some (.int .i64 (jx : Int)) := cell_of_heap L.out.1 rfl
  have lu1 : w7.cell? ⟨w2.heap.size, 1, none⟩ = some (.int .i64 i) := cell_of_heap L.out.2.1 rfl
  have ly0 : w7.cell? ⟨w4.heap.size, 0, none⟩ = some (.int .i64 2) := cell_of_heap L.out.2.2 rfl
  have ly1 : w7.cell? ⟨w4.heap.size, 1, none⟩ = some (.int .i64 (jy : Int)) := cell_of_heap L.out.2.2 rfl
  obtain ⟨n0, n1, n2, n3, n4, n5, n6⟩ := E.out.mid w7 M.out
  have TP : Hid (TailP ((w7.setCell ⟨fg, k * 2, none⟩ (.int .i64 2)).setCell ⟨fg, k * 2 + 1, none⟩ (.int .i64 (jx : Int)))) := E.out.store w7 M.out
  go_wp2_with fail
  go_region
  obtain ⟨w8, hw8⟩ : ∃ w8, w8 = ((w7.setCell ⟨fg, k * 2, none⟩ (.int .i64 2)).setCell ⟨fg, k * 2 + 1, none⟩ (.int .i64 (jx : Int))).drew := ⟨_, rfl⟩
  rw [← hw8]
  have T8 : Hid (TailP w8) := by rw [hw8]; exact E.out.tailB _ _ TP.out ⟨rfl, rfl, rfl, Nat.le_refl _, fun _ _ => rfl⟩
  have h8 : w8.heap[w4.heap.size]? = some (.cells #[.int .i64 2, .int .i64 (jy : Int)] 84) := by
    rw [hw8]
    show ((w7.setCell ⟨fg, k * 2, none⟩ (.int .i64 2)).setCell ⟨fg, k * 2 + 1, none⟩ (.int .i64 (jx : Int))).heap[w4.heap.size]? = _
    rw [hso (by omega), hso (by omega)]; exact L.out.2.2
  have z0 : w8.cell? ⟨w4.heap.size, 0, none⟩ = some (.int .i64 2) := cell_of_heap h8 rfl
  have z1 : w8.cell? ⟨w4.heap.size, 1, none⟩ = some (.int .i64 (jy : Int)) := cell_of_heap h8 rfl
  obtain ⟨c5, cst⟩ := E.out.tail w8 T8.out
  have ST : Hid (∀ j : Nat, j ≤ N → w8.cell? ⟨g, j * 4 + 2, none⟩ = some (.bool (ys j))) := cst
  clear lv0 lv1 lu1 ly0 ly1 n0 n1 n2 n3 n4 n5 n6 TP hw8 h8 M L cst
  have hu := ST.out jy hjy
  obtain ⟨u, hys⟩ : ∃ u, ys jy = u := ⟨_, rfl⟩
  rw [hys] at hu
  have HY : Hid (ys jy = u) := hys
  clear hys ST
  have hjI : (jy : Int) < (N : Int) + 1 := by omega
  cases u with
  | true =>
    go_wp2_with fail
    go_quiet (fail)
    go_wp2
    go_ret
    exact ⟨rfl, E.out.done _ (E.out.tailB _ _ T8.out ⟨rfl, rfl, rfl, Nat.le_refl _, fun _ _ => rfl⟩) (fun q => hne q.2.2) fun j _ hj hf _ => by
      have : j = jy := by omega
      rw [this, HY.out] at hf; cases hf⟩
  | false =>
    go_wp2_with fail
    go_quiet (fail)
    have T9 : Hid (TailP (w8.drewN nq)) := E.out.tailB _ _ T8.out ⟨rfl, rfl, rfl, Nat.le_refl _, fun _ _ => rfl⟩
    go_wp2_with fail
    have hcnt := E.out.tcount _ (jy : Int) T9.out
    obtain ⟨c, hcy⟩ : ∃ c, cy (jy : Int) = c := ⟨_, rfl⟩
    rw [hcy] at hcnt
    have HC : Hid (cy (jy : Int) = c) := hcy
    clear hcy
    refine Calls.mono hcnt ?_
    rintro e w9 ⟨rfl, hw9⟩
    have T10 : Hid (TailP w9) := by rw [hw9]; exact T9.out
    have z2 : w9.cell? ⟨w4.heap.size, 1, none⟩ = some (.int .i64 jy) := by rw [hw9]; exact z1
    clear hw9 hcnt T9
    by_cases c0 : c = 0
    · subst c0
      go_wp2_with fail
      refine Calls.mono (E.out.enter _ jy T10.out (fun q => hne q.2.2) rfl rfl HY.out HC.out) ?_
      rintro e w11 ⟨rfl, hd⟩
      have DD : Hid (Done w11) := hd
      clear hd
      go_wp2
      go_ret
      exact ⟨rfl, DD.out⟩
    · have c1 : ((c : Int) == 0) = false := by simp; omega
      have c2 : ¬ (c : Int) = 0 := by omega
      go_wp2
      go_ret
      exact ⟨rfl, E.out.done _ T10.out (fun q => hne q.2.2) fun j _ hj _ h0 => by
        have : j = jy := by omega
        rw [this, HC.out] at h0; omega⟩

end Go.Proofs.YtpmkjeihbddfpabGreatDoor

/- OUR OWN. The document's heap: stored whole; Do. -/
namespace Go.Proofs.YtpmkjeihbddfpabGreatDoor
open Go.RowKit
set_option linter.unusedVariables false
set_option linter.unusedSimpArgs false

/-- the heap as it stands ahead of the store: the stack is cut, object i has its fields where they were -/
structure Mid (h N : Nat) (w : World) (m : RefM) (i : Nat) (o : RObj) (s2 : St) (W : World) (m2 : RefM) : Prop where
  pre : RPre h N W m2
  step : RStep h N w m W m2
  st : m2.st = s2
  vB : m2.vB = m.vB
  obj : ∃ o2, m2.objs[i]? = some o2 ∧ o2.fs = o.fs ∧ o2.here = o.here ∧ o2.vF = o.vF

theorem Mid.below {h N : Nat} {w W W' : World} {m m2 : RefM} {i : Nat} {o : RObj} {s2 : St} (t : Mid h N w m i o s2 W m2) (hb : Below W.heap.size W W') : Mid h N w m i o s2 W' m2 := ⟨t.pre.below hb, t.step.after hb, t.st, t.vB, t.obj⟩

theorem Mid.stuck {h N : Nat} {w W : World} {m m2 : RefM} {i : Nat} {o : RObj} {s2 : St} (t : Mid h N w m i o s2 W m2) {g cap : Nat} (hv : m.vB = .slice (some ⟨g, 0, none⟩) (N + 1) cap) (j : Nat) {oj : RObj} (hj : m2.objs[j]? = some oj) :
    Mid h N w m i o (s2.stick j) (W.setCell ⟨g, j * 4 + 2, none⟩ (.bool true)) (m2.put j { oj with stuck := true }) := by
  obtain ⟨s, hst⟩ := RStep.stuck t.pre (t.vB.trans hv) j hj
  refine ⟨s.pre t.pre (by rw [hst]; exact t.pre.inv.stick j), t.step.trans s, hst.trans (by rw [t.st]), t.vB, ?_⟩
  obtain ⟨o1, h1, h2, h3, h4⟩ := t.obj
  have hl : j < m2.objs.length := (List.getElem?_eq_some_iff.1 hj).1
  by_cases hij : j = i
  · subst hij
    rw [hj] at h1
    cases h1
    exact ⟨{ oj with stuck := true }, by simp [RefM.put, hl], h2, h3, h4⟩
  · exact ⟨o1, by simp only [RefM.put]; rw [List.getElem?_set_ne hij]; exact h1, h2, h3, h4⟩

/-- the field is turned, the old value's object not yet let go -/
structure Tl (h N : Nat) (w : World) (m : RefM) (s' : St) (W : World) (m3 : RefM) : Prop where
  pre : RPre h N W m3
  step : RStep h N w m W m3
  st : m3.st = s'
  vB : m3.vB = m.vB

theorem stored_any : StoreSays := by
  intro h N w m n p
  by_cases hbad : m.stack.length < 2 ∨ objErr (m.st.down 1) ≠ 0 ∨ n < 0 ∨ ((m.st.fields (m.st.down 1).2).length : Int) ≤ n
  · exact stored_not h N w m n p hbad
  simp only [not_or] at hbad
  obtain ⟨hc, he', hn0, hnl⟩ := hbad
  have he : objErr (m.st.down 1) = 0 := by omega
  obtain ⟨k, rfl⟩ : ∃ k : Nat, n = k := ⟨n.toNat, by omega⟩
  have hk : k < (m.st.fields (m.st.down 1).2).length := by omega
  obtain ⟨ao, cap, cS⟩ := p.stackCell
  have hv := p.inv.down 1
  have hvx := p.inv.down 0
  obtain ⟨i, hi, hbi, hiN, hfs⟩ := p.obj _ (ref_of hv he)
  have hio : m.objs[i]? = some m.objs[i] := List.getElem?_eq_getElem hi
  rw [hfs] at hk
  obtain ⟨g, capB, fg, fc, hvB, hvF, hg, hfg, cB, c1, y0, y1, f0, f1⟩ := p.facts i _ hio k hk
  have hyok : okV N ((m.objs[i]).fs[k]) := by
    have := p.inv.ob i
    rw [st_ob hio] at this
    exact this _ (List.getElem_mem hk)
  have hyg : (m.st.fields (m.st.down 1).2).getD k (0, 0) = (m.objs[i]).fs[k] := by
    rw [hfs, List.getD_eq_getElem?_getD, List.getElem?_eq_getElem hk]; rfl
  have e : storeS m.cf m.st k = (putS m.cf (m.st.pop 2) i k (m.st.down 0) ((m.objs[i]).fs[k]), 0, 0) := by
    unfold storeS
    refine (if_neg hc).trans ((if_neg (by omega)).trans ((if_neg (by rw [hfs]; omega)).trans ?_))
    rw [Int.toNat_natCast, hyg, hbi, Int.toNat_natCast]
  rw [e]
  have hgf : ¬ g = fg := fun eq => by
    have hap := (List.nodup_cons.1 p.r.rowsAt.apart).2
    have h1 : m.rows[0]? = some ⟨73, 4, m.vB, m.objs.length, m.objs.flatMap RObj.cells⟩ := rfl
    have h2 : m.rows[4 + i]? = some (m.objs[i]).row := by
      simp only [RefM.rows, show 4 + i = i + 1 + 1 + 1 + 1 by omega, List.getElem?_cons_succ, List.getElem?_map, hio]; rfl
    have := filterMap_idx SRow.ob m.rows hap 0 (4 + i) _ _ g h1 h2 (by show m.vB.ownBlock = _; rw [hvB]; rfl) (by show (m.objs[i]).vF.ownBlock = _; rw [hvF, eq]; rfl)
    omega
  have RANGE : ∀ v : Int × Int, okV N v → v.1 = 2 → ∃ j : Nat, v.2 = j ∧ j ≤ N := fun v hok h2 => by
    rcases hok with h | h | h
    · omega
    · omega
    · exact ⟨v.2.toNat, by omega, by omega⟩
  have COUNTM : ∀ W m2 b, RPre h N W m2 → Calls Tryz.prog 33 #[.pointer (some ⟨h, 0, none⟩), .int .i64 b] W fun e w' => e = .returned (.int .i64 (m2.count b)) ∧ w' = W := fun W m2 b p2 => count_any p2.r p2.ok b
  obtain ⟨x, hx⟩ : ∃ x, m.st.down 0 = x := ⟨_, rfl⟩
  obtain ⟨y, hy⟩ : ∃ y, (m.objs[i]).fs[k] = y := ⟨_, rfl⟩
  obtain ⟨q, hq⟩ : ∃ q, m.st.down 1 = q := ⟨_, rfl⟩
  rw [hx, hy]
  obtain ⟨A, hA⟩ : ∃ A, m.st.pop 2 = A := ⟨_, rfl⟩
  have hAc : ∀ b, A.count b = m.count b := fun b => by rw [← hA]; exact st_count m b
  have hAe : A.extras = m.extrasN N := by rw [← hA]; exact st_extras p.ok
  obtain ⟨B, hB⟩ : ∃ B, stickS m.over A x = B := ⟨_, rfl⟩
  obtain ⟨C, hC⟩ : ∃ C, B.field i k x = C := ⟨_, rfl⟩
  obtain ⟨target, htarget⟩ : ∃ t : St, t = putS m.cf A i k x y := ⟨_, rfl⟩
  rw [hA, ← htarget]
  have tsame : x.1 = 2 → y = x → target = A := fun h1 h2 => by rw [htarget]; unfold putS; exact if_pos ⟨h1, h2⟩
  have tput : ¬ (x.1 = 2 ∧ y.1 = x.1 ∧ y.2 = x.2) → target = dropS' m.zero C y := fun h1 => by
    rw [htarget]; unfold putS
    refine (if_neg fun h2 => h1 ⟨h2.1, by rw [h2.2], by rw [h2.2]⟩).trans ?_
    show dropS' m.zero ((stickS m.over A x).field i k x) y = _
    rw [hB, hC]
  have ENV : StoreEnv h N g capB fg (m.objs[i]).fs.length fc i k x.1 x.2 y.1 y.2 q.1 m.over (m.count x.2) (m.extrasN N) (fun j => (C.ob j).stuck) (fun b => C.count b) w
      (fun W => ∃ v', Mid h N w m i m.objs[i] A W { m with vS := v', stack := m.stack.take (m.stack.length - 2) }) (fun W => ∃ m2, Mid h N w m i m.objs[i] B W m2) (fun W => ∃ m3, Tl h N w m C W m3) (fun W => ∃ m', RStep h N w m W m' ∧ m'.st = target) := by
    have MID : ∀ (s2 : St) W m2, Mid h N w m i m.objs[i] s2 W m2 → W.cell? ⟨h, 5, none⟩ = some (.slice (some ⟨g, 0, none⟩) (N + 1) capB) ∧ W.cell? ⟨g, i * 4 + 1, none⟩ = some (.slice (some ⟨fg, 0, none⟩) (m.objs[i]).fs.length fc) ∧ W.cell? ⟨fg, k * 2, none⟩ = some (.int .i64 y.1) ∧ W.cell? ⟨fg, k * 2 + 1, none⟩ = some (.int .i64 y.2) ∧
        W.frozen? ⟨fg, k * 2, none⟩ = false ∧ W.frozen? ⟨fg, k * 2 + 1, none⟩ = false ∧ W.cell? ⟨h, 4, none⟩ = some (.int .i64 m.over) := by
      intro s2 W m2 t
      obtain ⟨o2, ho2, h1, h2, h3⟩ := t.obj
      obtain ⟨g', capB', fg', fc', hvB', hvF', _, _, a1, a2, a3, a4, a5, a6⟩ := t.pre.facts i o2 ho2 k (by rw [h1]; exact hk)
      have e1 : (Value.slice (some ⟨g', 0, none⟩) (N + 1) capB') = .slice (some ⟨g, 0, none⟩) (N + 1) capB := hvB'.symm.trans (t.vB.trans hvB)
      simp at e1
      obtain ⟨rfl, rfl⟩ := e1
      have e2 : (Value.slice (some ⟨fg', 0, none⟩) o2.fs.length fc') = .slice (some ⟨fg, 0, none⟩) (m.objs[i]).fs.length fc := hvF'.symm.trans (h3.trans hvF)
      simp at e2
      obtain ⟨rfl, _, rfl⟩ := e2
      have h4 : o2.fs[k]'(by rw [h1]; exact hk) = y := by rw [← hy]; simp only [h1]
      rw [h4] at a3 a4
      rw [h1] at a2
      have ho : m2.over = m.over := congrArg Cf.over t.step.cf
      exact ⟨a1, a2, a3, a4, a5, a6, by rw [t.pre.r.cell.2.2.2.2.1, ho]⟩
    refine ⟨?_, ?_, ?_, ?_, ?_, ?_, ?_, ?_, ?_, ?_, ?_, ?_, ?_, ?_, ?_, ?_, ?_, ?_, ?_, ?_, ?_, ?_⟩
    · rw [← hx]; exact down_do p 0 (by omega)
    · intro W hb
      have := down_do (p.below hb) 1 (by show 1 < m.stack.length; omega)
      rw [hbi, hq] at this
      exact this
    · intro W
      refine (object_any (q.1, (i : Int)) W).mono fun e w' ⟨h1, h2⟩ => ⟨h1.trans (ret_int ?_), h2⟩
      have : objErr q = 0 := by rw [← hq]; exact he
      exact this
    · intro W hb
      exact ⟨(hb.cell (p := ⟨h, 5, none⟩) (lt_of_heap p.r.head)).trans cB, (hb.cell (p := ⟨g, i * 4 + 1, none⟩) hg).trans c1⟩
    · intro W hb
      refine (pop_do (p.below hb) 2 (by omega) (by omega)).mono ?_
      rintro e w' ⟨he, v', hs⟩
      have s1 : RStep h N w m w' _ := (RStep.of_below p hb).trans hs
      have p1 : RPre h N w' _ := s1.pre p (by exact (p.inv.pop 2))
      exact ⟨he, ⟨v', p1, s1, hA, rfl, ⟨_, hio, rfl, rfl, rfl⟩⟩, hs.turn.off.size, fun L ob hL hW => turn_local p hb hW hL hs.turn⟩
    · rintro W ⟨m2, t⟩; exact MID _ W m2 t
    · rintro W ⟨v', t⟩; exact MID _ W _ t
    · rintro W ⟨v', t⟩ hn
      have hBA : B = A := by
        rw [← hB]; unfold stickS
        exact if_neg fun h1 => hn ⟨h1.1, by have := h1.2.1; rw [hAc] at this; omega, by have := h1.2.2; rw [hAe] at this; exact this⟩
      exact ⟨_, by rw [hBA]; exact t⟩
    · rintro W W' ⟨v', t⟩ hb; exact ⟨v', t.below hb⟩
    · rintro W W' ⟨m2, t⟩ hb; exact ⟨m2, t.below hb⟩
    · rintro W ⟨v', t⟩ h0 h1 h2
      exact ⟨_, t.step, t.st.trans (tsame h0 (Prod.ext h1 h2)).symm⟩
    · rintro W ⟨v', t⟩
      have h1 := COUNTM W _ x.2 t.pre
      exact h1
    · rintro W ⟨v', t⟩
      have h1 := extras_any t.pre.r t.pre.ok
      exact h1
    · rintro W j ⟨v', t⟩ h1 h2 h7 hov
      obtain ⟨j', hj', hjN⟩ := RANGE x (by rw [← hx]; exact hvx) h2
      have hjj : j' = j := by omega
      subst hjj
      obtain ⟨oj, hoj, a1, a2⟩ := t.pre.stuckCell (t.vB.trans hvB) j' hjN
      have hBA : B = A.stick j' := by
        rw [← hB]; unfold stickS
        rw [if_pos ⟨h2, by rw [hAc]; omega, by rw [hAe]; exact hov⟩, hj', Int.toNat_natCast]
      have t2 := t.stuck hvB j' hoj
      rw [← hBA] at t2
      exact ⟨hjN, ⟨_, a1⟩, a2, _, t2⟩
    · rintro W ⟨m2, t⟩
      obtain ⟨o2, ho2, h1, h2, h3⟩ := t.obj
      obtain ⟨s, pp, hst⟩ := RStep.field t.pre i ho2 (by rw [h3, h1]; exact hvF) k (by rw [h1]; exact hk) x (by rw [← hx]; exact hvx)
      exact ⟨_, pp, t.step.trans s, by rw [hst, t.st, hC], t.vB⟩
    · rintro W W' ⟨m3, t⟩ hb; exact ⟨m3, t.pre.below hb, t.step.after hb, t.st, t.vB⟩
    · rintro W ⟨m3, t⟩
      refine ⟨by rw [t.pre.r.cell.2.2.2.2.2.1, t.vB, hvB], fun j hj => ?_⟩
      obtain ⟨oj, hoj, a1, _⟩ := t.pre.stuckCell (t.vB.trans hvB) j hj
      rw [a1, ← t.st, st_ob hoj]; rfl
    · rintro W ⟨m3, t⟩ hns hno
      refine ⟨m3, t.step, t.st.trans ?_⟩
      rw [tput hns]
      unfold dropS'
      refine (if_neg fun h1 => ?_).symm
      obtain ⟨j, hj, _⟩ := RANGE y (by rw [← hy]; exact hyok) h1.1
      rw [hj, Int.toNat_natCast] at h1
      exact hno j h1.1 hj h1.2.1 h1.2.2
    · rintro W b ⟨m3, t⟩
      have := COUNTM W m3 b t.pre
      rw [← st_count, t.st] at this
      exact this
    · rintro W j ⟨m3, t⟩ hns h2 hj hs hz
      refine (enter_any t.pre.r t.pre.ok (j : Int)).mono ?_
      rintro e w' ⟨he, m', hE, hT, hok⟩
      obtain ⟨s, hst⟩ := RStep.enter t.pre hE hT hok
      refine ⟨he, m', t.step.trans s, hst.trans ?_⟩
      have hz' : m3.zero = m.zero := congrArg Cf.zero t.step.cf
      rw [tput hns, t.st, hz']
      unfold dropS'
      rw [if_pos ⟨h2, by rw [hj, Int.toNat_natCast]; exact hs, by rw [hj]; exact hz⟩, hj]
    · intro h2; exact RANGE x (by rw [← hx]; exact hvx) h2
    · intro h2; exact RANGE y (by rw [← hy]; exact hyok) h2
  have hN := p.ok.small
  have hl := p.ok.stack
  have hfl := p.ok.fields _ (List.getElem_mem hi)
  have hh := lt_of_heap p.r.head
  have hcI : ¬ (m.stack.length : Int) < 2 := by omega
  have RX := RANGE x (by rw [← hx]; exact hvx)
  have RY := RANGE y (by rw [← hy]; exact hyok)
  obtain ⟨x1, x2⟩ := x
  obtain ⟨y1, y2⟩ := y
  simp only at ENV RX RY
  clear tsame tput htarget hB hC hA hAc hAe
  show Calls Tryz.prog _ _ w fun e w' => e = .returned (.int .i64 0) ∧ _
  by_cases xk : x1 = 2
  · obtain ⟨jx, rfl, hjx⟩ := RX xk
    subst xk
    by_cases yk : y1 = 2
    · obtain ⟨jy, rfl, hjy⟩ := RY yk
      subst yk
      by_cases hne : (jy : Int) = (jx : Int)
      · rw [hne] at ENV
        exact stored_same h N g capB fg _ fc i k _ cap ao jx _ _ _ _ _ _ w _ _ _ _ ENV cS hcI hl hN hiN hk hfl hh hg hfg hgf
      · by_cases c7 : ((m.count (jx : Int) : Nat) : Int) = 7
        · by_cases hov : m.over ≤ ((m.extrasN N : Nat) : Int)
          · exact stored_sr h N g capB fg _ fc i k _ cap ao jx hjx jy hjy _ _ _ _ _ _ c7 hov hne w _ _ _ _ ENV cS hcI hl hN hiN hk hfl hh hg hfg hgf
          · exact stored_or h N g capB fg _ fc i k _ cap ao jx hjx jy hjy _ _ _ _ _ _ c7 hov hne w _ _ _ _ ENV cS hcI hl hN hiN hk hfl hh hg hfg hgf
        · exact stored_cr h N g capB fg _ fc i k _ cap ao jx hjx jy hjy _ _ _ _ _ _ c7 hne w _ _ _ _ ENV cS hcI hl hN hiN hk hfl hh hg hfg hgf
    · by_cases c7 : ((m.count (jx : Int) : Nat) : Int) = 7
      · by_cases hov : m.over ≤ ((m.extrasN N : Nat) : Int)
        · exact stored_sn h N g capB fg _ fc i k _ cap ao jx hjx y1 y2 yk _ _ _ _ _ _ c7 hov w _ _ _ _ ENV cS hcI hl hN hiN hk hfl hh hg hfg hgf
        · exact stored_on h N g capB fg _ fc i k _ cap ao jx hjx y1 y2 yk _ _ _ _ _ _ c7 hov w _ _ _ _ ENV cS hcI hl hN hiN hk hfl hh hg hfg hgf
      · exact stored_cn h N g capB fg _ fc i k _ cap ao jx hjx y1 y2 yk _ _ _ _ _ _ c7 w _ _ _ _ ENV cS hcI hl hN hiN hk hfl hh hg hfg hgf
  · by_cases yk : y1 = 2
    · obtain ⟨jy, rfl, hjy⟩ := RY yk
      subst yk
      exact stored_nr h N g capB fg _ fc i k _ cap ao x1 x2 xk jy hjy _ _ _ _ _ _ w _ _ _ _ ENV cS hcI hl hN hiN hk hfl hh hg hfg hgf
    · exact stored_nn h N g capB fg _ fc i k _ cap ao x1 x2 xk y1 y2 yk _ _ _ _ _ _ w _ _ _ _ ENV cS hcI hl hN hiN hk hfl hh hg hfg hgf

end Go.Proofs.YtpmkjeihbddfpabGreatDoor

/- OUR OWN. The document's heap: Do. -/
namespace Go.Proofs.YtpmkjeihbddfpabGreatDoor
open Go.RowKit
set_option linter.unusedVariables false
set_option linter.unusedSimpArgs false

theorem free_first {m : RefM} {N k : Nat} (ok : m.Ok N) (hk : free? m.st = some k) : k < N ∧ ∃ o, m.objs[k + 1]? = some o ∧ o.here = false ∧ ∀ j, j < k → ∃ o, m.objs[j + 1]? = some o ∧ o.here = true := by
  unfold free? at hk
  obtain ⟨hkl, hkf, hka⟩ := List.findIdx?_eq_some_iff_getElem.1 hk
  have hlen : m.st.objs.tail.length = N := by simp [RefM.st, ok.len]
  have hol : k + 1 < m.objs.length := by rw [ok.len]; omega
  have tl : ∀ j (hj : j + 1 < m.objs.length) (hj' : j < m.st.objs.tail.length), m.st.objs.tail[j] = (m.objs[j + 1]).ob := fun j hj hj' => by
    simp [RefM.st, List.getElem_tail]
  refine ⟨by omega, m.objs[k + 1], List.getElem?_eq_getElem hol, ?_, fun j hj => ?_⟩
  · rw [tl k hol hkl] at hkf; simpa [RObj.ob] using hkf
  · have hjl : j + 1 < m.objs.length := by omega
    have := hka j hj
    rw [tl j hjl (by omega)] at this
    exact ⟨_, List.getElem?_eq_getElem hjl, by simpa [RObj.ob] using this⟩

def MadeSays (h N : Nat) (w : World) (m : RefM) (n : Int) : Prop := Calls Tryz.prog 58 #[.pointer (some ⟨h, 0, none⟩), .int .i64 n] w (RDid h N w m (newS m.cf m.st n))

/-- what a new object and its reference leave -/
theorem laid_st {h N : Nat} {w w' : World} {m m2 : RefM} {vF vS : Value} {k j : Nat} (p : RPre h N w m) {o0 : RObj} (ho0 : m.objs[k + 1]? = some o0) (hoq : o0.queued = false) (hj : j ≤ 4)
    (hE : EnterRel ((k : Int) + 1) (m.put (k + 1) ⟨true, vF, List.replicate j (0, 0), false, false⟩) N m2)
    (hT : Turn h w m w' { m2 with vS := vS, stack := m2.stack ++ [(2, (k : Int) + 1)] }) (hok : RefM.Ok { m2 with vS := vS, stack := m2.stack ++ [(2, (k : Int) + 1)] } N) :
    RStep h N w m w' { m2 with vS := vS, stack := m2.stack ++ [(2, (k : Int) + 1)] } ∧ ({ m2 with vS := vS, stack := m2.stack ++ [(2, (k : Int) + 1)] } : RefM).st = layS m.zero m.st (k + 1) j := by
  have al := hE.alike
  have ok1 := p.ok.put ho0 hoq ⟨true, vF, List.replicate j (0, 0), false, false⟩ (by simpa using hj)
  have hc1 : FreeClean (m.put (k + 1) ⟨true, vF, List.replicate j (0, 0), false, false⟩) := fun o ho hf => by
    rcases List.mem_or_eq_of_mem_set ho with e | e
    · exact p.clean o e hf
    · subst e; cases hf
  have hst := hE.st ok1
  rw [put_st] at hst
  refine ⟨⟨hT, hok, al.cf, fun o ho hf => hE.clean hc1 o ho hf⟩, ?_⟩
  show ({ m2.st with stack := m2.stack ++ [(2, (k : Int) + 1)] } : St) = _
  have hs : m2.stack = m.stack := al.stack
  rw [hst, hs]
  rfl

/-- OpNew, as long as a block is free -/
theorem made_do {h N : Nat} {w : World} {m : RefM} (p : RPre h N w m) (n : Int) (hfree : ¬ (n < 0 ∨ 4 < n) → ¬ m.deep ≤ m.stack.length → ∃ k, free? m.st = some k) : MadeSays h N w m n := by
  unfold MadeSays
  by_cases h1 : n < 0 ∨ 4 < n
  · have e : newS m.cf m.st n = (m.st, 0, 6) := by unfold newS; exact if_pos h1
    rw [e]
    exact (made_index n h1).mono fun e w' ⟨he, hw⟩ => ⟨he, m, by rw [hw]; exact .refl p, rfl⟩
  by_cases h2 : m.deep ≤ m.stack.length
  · have e : newS m.cf m.st n = (m.st, 0, 7) := by unfold newS; exact (if_neg h1).trans (if_pos h2)
    rw [e]
    exact (made_deep p.r p.ok.stack n (by omega) (by omega) h2).mono fun e w' ⟨he, hb⟩ => ⟨he, m, .of_below p hb, rfl⟩
  obtain ⟨k, hk⟩ := hfree h1 h2
  obtain ⟨j, rfl⟩ : ∃ j : Nat, n = j := ⟨n.toNat, by omega⟩
  have e : newS m.cf m.st j = (layS m.zero m.st (k + 1) j, 0, 0) := by
    unfold newS
    refine (if_neg h1).trans ((if_neg h2).trans ?_)
    rw [room_of_free hk, hk, Int.toNat_natCast]
    rfl
  rw [e]
  obtain ⟨hkN, o0, ho0, hfr, hall⟩ := free_first p.ok hk
  have hoq : o0.queued = false := p.clean _ (List.mem_of_getElem? ho0) hfr
  refine (made_room p.r p.ok j (by omega) (by omega) p.deep k hkN _ ho0 hfr hoq hall).mono ?_
  rintro e w' ⟨he, vF, m2, vS, hE, hT, hok⟩
  obtain ⟨s, hst⟩ := laid_st p ho0 hoq (by omega) hE hT hok
  exact ⟨he, _, s, hst⟩

def DoSays (op : Int) : Prop := ∀ (h N : Nat) (w : World) (m : RefM) (n : Int), RPre h N w m → (op = 2 → MadeSays h N w m n) →
  Calls Tryz.prog 23 #[.pointer (some ⟨h, 0, none⟩), .int .i64 op, .int .i64 n] w (RDid2 h N w m (doS m.cf m.st op n))

set_option maxHeartbeats 400000 in
theorem do_0 : DoSays 0 := by
  intro h N w m n p hf
  have e : doS m.cf m.st 0 n = pushA m.deep m.st (0, 0) := by simp [doS, RefM.cf]
  rw [e]
  have C : Hid _ := (moves_nil h N w m n p)
  clear p e hf
  go_enter Tryz.func23, Tryz.ntmps23
  go_wp2_with fail
  refine Calls.mono C.out ?_
  rintro e w1 ⟨rfl, hm⟩
  have M : Hid _ := hm
  clear hm C
  go_wp2
  go_ret2
  exact ⟨ret_zero (push_zero _ _ _), M.out⟩

set_option maxHeartbeats 400000 in
theorem do_1 : DoSays 1 := by
  intro h N w m n p hf
  have e : doS m.cf m.st 1 n = pushA m.deep m.st (1, n) := by simp [doS, RefM.cf]
  rw [e]
  have C : Hid _ := (moves_int h N w m n p)
  clear p e hf
  go_enter Tryz.func23, Tryz.ntmps23
  go_wp2_with fail
  refine Calls.mono C.out ?_
  rintro e w1 ⟨rfl, hm⟩
  have M : Hid _ := hm
  clear hm C
  go_wp2
  go_ret2
  exact ⟨ret_zero (push_zero _ _ _), M.out⟩

set_option maxHeartbeats 400000 in
theorem do_2 : DoSays 2 := by
  intro h N w m n p hf
  have e : doS m.cf m.st 2 n = newS m.cf m.st n := by simp [doS, RefM.cf]
  rw [e]
  have C : Hid _ := (hf rfl)
  clear p e hf
  go_enter Tryz.func23, Tryz.ntmps23
  go_wp2_with fail
  refine Calls.mono C.out ?_
  rintro e w1 ⟨rfl, hm⟩
  have M : Hid _ := hm
  clear hm C
  go_wp2
  go_ret2
  exact ⟨ret_zero (new_zero _ _ _), M.out⟩

set_option maxHeartbeats 400000 in
theorem do_3 : DoSays 3 := by
  intro h N w m n p hf
  have e : doS m.cf m.st 3 n = dupS m.deep m.st n := by simp [doS, RefM.cf]
  rw [e]
  have C : Hid _ := (moves_dup h N w m n p)
  clear p e hf
  go_enter Tryz.func23, Tryz.ntmps23
  go_wp2_with fail
  refine Calls.mono C.out ?_
  rintro e w1 ⟨rfl, hm⟩
  have M : Hid _ := hm
  clear hm C
  go_wp2
  go_ret2
  exact ⟨ret_zero (dup_zero _ _ _), M.out⟩

set_option maxHeartbeats 400000 in
theorem do_4 : DoSays 4 := by
  intro h N w m n p hf
  have e : doS m.cf m.st 4 n = dropS m.st := by simp [doS, RefM.cf]
  rw [e]
  have C : Hid _ := (moves_drop h N w m n p)
  clear p e hf
  go_enter Tryz.func23, Tryz.ntmps23
  go_wp2_with fail
  refine Calls.mono C.out ?_
  rintro e w1 ⟨rfl, hm⟩
  have M : Hid _ := hm
  clear hm C
  go_wp2
  go_ret2
  exact ⟨ret_zero (drop_zero _), M.out⟩

set_option maxHeartbeats 400000 in
theorem do_5 : DoSays 5 := by
  intro h N w m n p hf
  have e : doS m.cf m.st 5 n = getS m.deep m.st n := by simp [doS, RefM.cf]
  rw [e]
  have C : Hid _ := (moves_get h N w m n p)
  clear p e hf
  go_enter Tryz.func23, Tryz.ntmps23
  go_wp2_with fail
  refine Calls.mono C.out ?_
  rintro e w1 ⟨rfl, hm⟩
  have M : Hid _ := hm
  clear hm C
  go_wp2
  go_ret2
  exact ⟨ret_zero (get_zero _ _ _), M.out⟩

set_option maxHeartbeats 400000 in
theorem do_6 : DoSays 6 := by
  intro h N w m n p hf
  have e : doS m.cf m.st 6 n = setS m.st n := by simp [doS, RefM.cf]
  rw [e]
  have C : Hid _ := (moves_set h N w m n p)
  clear p e hf
  go_enter Tryz.func23, Tryz.ntmps23
  go_wp2_with fail
  refine Calls.mono C.out ?_
  rintro e w1 ⟨rfl, hm⟩
  have M : Hid _ := hm
  clear hm C
  go_wp2
  go_ret2
  exact ⟨ret_zero (set_zero _ _), M.out⟩

set_option maxHeartbeats 400000 in
theorem do_7 : DoSays 7 := by
  intro h N w m n p hf
  have e : doS m.cf m.st 7 n = loadS m.deep m.st n := by simp [doS, RefM.cf]
  rw [e]
  have C : Hid _ := (loaded_any h N w m n p)
  clear p e hf
  go_enter Tryz.func23, Tryz.ntmps23
  go_wp2_with fail
  refine Calls.mono C.out ?_
  rintro e w1 ⟨rfl, hm⟩
  have M : Hid _ := hm
  clear hm C
  go_wp2
  go_ret2
  exact ⟨ret_zero (load_zero _ _ _), M.out⟩

set_option maxHeartbeats 400000 in
theorem do_8 : DoSays 8 := by
  intro h N w m n p hf
  have e : doS m.cf m.st 8 n = storeS m.cf m.st n := by simp [doS, RefM.cf]
  rw [e]
  have C : Hid _ := (stored_any h N w m n p)
  clear p e hf
  go_enter Tryz.func23, Tryz.ntmps23
  go_wp2_with fail
  refine Calls.mono C.out ?_
  rintro e w1 ⟨rfl, hm⟩
  have M : Hid _ := hm
  clear hm C
  go_wp2
  go_ret2
  exact ⟨ret_zero (store_zero _ _ _), M.out⟩

set_option maxHeartbeats 400000 in
theorem do_9 : DoSays 9 := by
  intro h N w m n p hf
  have e : doS m.cf m.st 9 n = sameS m.st := by simp [doS, RefM.cf]
  rw [e]
  have C : Hid _ := (tells_same h N w m p)
  clear p e hf
  go_enter Tryz.func23, Tryz.ntmps23
  go_wp2_with fail
  refine Calls.mono C.out ?_
  rintro e w1 ⟨rfl, hm⟩
  have M : Hid _ := hm
  clear hm C
  go_wp2
  go_ret2
  exact ⟨rfl, M.out⟩

set_option maxHeartbeats 400000 in
theorem do_10 : DoSays 10 := by
  intro h N w m n p hf
  have e : doS m.cf m.st 10 n = takeS m.st := by simp [doS, RefM.cf]
  rw [e]
  have C : Hid _ := (tells_take h N w m p)
  clear p e hf
  go_enter Tryz.func23, Tryz.ntmps23
  go_wp2_with fail
  refine Calls.mono C.out ?_
  rintro e w1 ⟨rfl, hm⟩
  have M : Hid _ := hm
  clear hm C
  go_wp2
  go_ret2
  exact ⟨rfl, M.out⟩

set_option maxHeartbeats 400000 in
theorem do_11 : DoSays 11 := by
  intro h N w m n p hf
  have e : doS m.cf m.st 11 n = sizeS m.st := by simp [doS, RefM.cf]
  rw [e]
  have C : Hid _ := (tells_size h N w m p)
  clear p e hf
  go_enter Tryz.func23, Tryz.ntmps23
  go_wp2_with fail
  refine Calls.mono C.out ?_
  rintro e w1 ⟨rfl, hm⟩
  have M : Hid _ := hm
  clear hm C
  go_wp2
  go_ret2
  exact ⟨rfl, M.out⟩

set_option maxHeartbeats 400000 in
theorem do_12 : DoSays 12 := by
  intro h N w m n p hf
  have e : doS m.cf m.st 12 n = kindS m.st := by simp [doS, RefM.cf]
  rw [e]
  have C : Hid _ := (tells_kind h N w m p)
  clear p e hf
  go_enter Tryz.func23, Tryz.ntmps23
  go_wp2_with fail
  refine Calls.mono C.out ?_
  rintro e w1 ⟨rfl, hm⟩
  have M : Hid _ := hm
  clear hm C
  go_wp2
  go_ret2
  exact ⟨rfl, M.out⟩

set_option maxHeartbeats 400000 in
theorem do_none (op : Int) (h0 : ¬ op = 0) (h1 : ¬ op = 1) (h2 : ¬ op = 2) (h3 : ¬ op = 3) (h4 : ¬ op = 4) (h5 : ¬ op = 5) (h6 : ¬ op = 6) (h7 : ¬ op = 7) (h8 : ¬ op = 8) (h9 : ¬ op = 9) (h10 : ¬ op = 10) (h11 : ¬ op = 11) (h12 : ¬ op = 12) : DoSays op := by
  intro h N w m n p hf
  have e : doS m.cf m.st op n = (m.st, 0, 2) := by simp [doS, RefM.cf, h0, h1, h2, h3, h4, h5, h6, h7, h8, h9, h10, h11, h12]
  rw [e]
  have K : Hid (∃ m', RStep h N w m w m' ∧ m'.st = m.st) := ⟨m, .refl p, rfl⟩
  have e0 : (op == 0) = false := by simpa using h0
  have e1 : (op == 1) = false := by simpa using h1
  have e2 : (op == 2) = false := by simpa using h2
  have e3 : (op == 3) = false := by simpa using h3
  have e4 : (op == 4) = false := by simpa using h4
  have e5 : (op == 5) = false := by simpa using h5
  have e6 : (op == 6) = false := by simpa using h6
  have e7 : (op == 7) = false := by simpa using h7
  have e8 : (op == 8) = false := by simpa using h8
  have e9 : (op == 9) = false := by simpa using h9
  have e10 : (op == 10) = false := by simpa using h10
  have e11 : (op == 11) = false := by simpa using h11
  have e12 : (op == 12) = false := by simpa using h12
  clear p e hf
  go_enter Tryz.func23, Tryz.ntmps23
  go_wp2
  go_ret2
  exact ⟨rfl, K.out⟩

theorem do_ref (op : Int) : DoSays op := by
  by_cases h0 : op = 0
  · subst h0; exact do_0
  by_cases h1 : op = 1
  · subst h1; exact do_1
  by_cases h2 : op = 2
  · subst h2; exact do_2
  by_cases h3 : op = 3
  · subst h3; exact do_3
  by_cases h4 : op = 4
  · subst h4; exact do_4
  by_cases h5 : op = 5
  · subst h5; exact do_5
  by_cases h6 : op = 6
  · subst h6; exact do_6
  by_cases h7 : op = 7
  · subst h7; exact do_7
  by_cases h8 : op = 8
  · subst h8; exact do_8
  by_cases h9 : op = 9
  · subst h9; exact do_9
  by_cases h10 : op = 10
  · subst h10; exact do_10
  by_cases h11 : op = 11
  · subst h11; exact do_11
  by_cases h12 : op = 12
  · subst h12; exact do_12
  exact do_none op h0 h1 h2 h3 h4 h5 h6 h7 h8 h9 h10 h11 h12

end Go.Proofs.YtpmkjeihbddfpabGreatDoor

/- OUR OWN. The document's heap: free, the walk over what the callees leave. -/
namespace Go.Proofs.YtpmkjeihbddfpabGreatDoor
open Go.RowKit
set_option linter.unusedVariables false
set_option linter.unusedSimpArgs false

def noObj : RObj := ⟨false, .slice none 0 0, [], false, false⟩

/-- P j: ahead of field j; Q: field j is nil, what it had is not let go yet. -/
structure FreeEnv (h N g capB fl fc b : Nat) (ao : Option Addr) (P : Nat → World → Prop) (Q : Nat → Int → Int → World → Prop) (Done : World → Prop) : Prop where
  pbelow : ∀ j W W', P j W → Below W.heap.size W W' → P j W'
  lt : ∀ j W, P j W → h < W.heap.size ∧ g < W.heap.size
  cells : ∀ j W, P j W → W.cell? ⟨h, 5, none⟩ = some (.slice (some ⟨g, 0, none⟩) (N + 1) capB) ∧ W.cell? ⟨g, b * 4 + 1, none⟩ = some (.slice ao fl fc)
  round : ∀ j W, P j W → j < fl → ∃ (fg : Nat) (y1 y2 : Int), ao = some ⟨fg, 0, none⟩ ∧ fg < W.heap.size ∧ fg ≠ h ∧ fg ≠ g ∧ W.cell? ⟨fg, j * 2, none⟩ = some (.int .i64 y1) ∧ W.cell? ⟨fg, j * 2 + 1, none⟩ = some (.int .i64 y2) ∧
    W.frozen? ⟨fg, j * 2, none⟩ = false ∧ W.frozen? ⟨fg, j * 2 + 1, none⟩ = false ∧ ∀ W', Below W.heap.size W W' → Q j y1 y2 ((W'.setCell ⟨fg, j * 2, none⟩ (.int .i64 0)).setCell ⟨fg, j * 2 + 1, none⟩ (.int .i64 0))
  qbelow : ∀ j y1 y2 W W', Q j y1 y2 W → Below W.heap.size W W' → Q j y1 y2 W'
  skip : ∀ j y1 y2 W, Q j y1 y2 W → y1 ≠ 2 → P (j + 1) W
  ref : ∀ j y2 W, Q j 2 y2 W → ∃ (i c : Nat) (st rb : Bool), i ≤ N ∧ y2 = i ∧ W.cell? ⟨h, 5, none⟩ = some (.slice (some ⟨g, 0, none⟩) (N + 1) capB) ∧ W.cell? ⟨g, i * 4 + 2, none⟩ = some (.bool st) ∧
    (Calls Tryz.prog 33 #[.pointer (some ⟨h, 0, none⟩), .int .i64 i] W fun e w' => e = .returned (.int .i64 c) ∧ w' = W) ∧ (0 < c → P (j + 1) W) ∧ (st = true → P (j + 1) W) ∧
    (∀ W', Below W.heap.size W W' → Calls Tryz.prog 68 #[.pointer (some ⟨h, 0, none⟩), .int .i64 i] W' fun e w' => e = .returned (.bool rb) ∧ w' = W') ∧
    (∀ W', Below W.heap.size W W' → c = 0 → st = false → rb = true → Calls Tryz.prog 70 #[.pointer (some ⟨h, 0, none⟩), .int .i64 i] W' fun e w' => e = .returned (.tuple #[]) ∧ P (j + 1) w') ∧
    (∀ W', Below W.heap.size W W' → c = 0 → st = false → rb = false → Calls Tryz.prog 69 #[.pointer (some ⟨h, 0, none⟩), .int .i64 i] W' fun e w' => e = .returned (.tuple #[]) ∧ P (j + 1) w')
  stop : ∀ W, P fl W → ∃ (qg qo ql qc : Nat) (u0 u1 u2 u3 : Value), W.cell? ⟨h, 6, none⟩ = some (.slice (some ⟨qg, qo, none⟩) (ql + 1) qc) ∧ ql + 1 ≤ qc ∧ qc ≤ maxLen ∧ W.cell? ⟨g, b * 4, none⟩ = some u0 ∧ W.cell? ⟨g, b * 4 + 1, none⟩ = some u1 ∧ W.cell? ⟨g, b * 4 + 2, none⟩ = some u2 ∧ W.cell? ⟨g, b * 4 + 3, none⟩ = some u3 ∧
    (∀ o, W.frozen? ⟨g, o, none⟩ = false) ∧ W.frozen? ⟨h, 6, none⟩ = false ∧ ∀ W' qo', (qo' = qo + 1 ∨ (qc = 1 ∧ qo' = qo)) → W' = ((layObj W g b noObj).setCell ⟨h, 6, none⟩ (.slice (some ⟨qg, qo', none⟩) ql (qc - 1))) → ∀ W'', Below W'.heap.size W' W'' → Done W''

set_option maxHeartbeats 4000000 in
set_option maxRecDepth 10000 in
theorem free_walk (h N g capB fl fc b qg0 qo0 ql0 qc0 : Nat) (ao : Option Addr) (w : World) (P : Nat → World → Prop) (Q : Nat → Int → Int → World → Prop) (Done : World → Prop) (E : Hid (FreeEnv h N g capB fl fc b ao P Q Done))
    (cQ : w.cell? ⟨h, 6, none⟩ = some (.slice (some ⟨qg0, qo0, none⟩) (ql0 + 1) qc0)) (c0 : w.cell? ⟨qg0, qo0, none⟩ = some (.int .i64 b)) (P0 : Hid (P 0 w)) (hN : N ≤ 99) (hb : b ≤ N) (hfl : fl ≤ 4) (hgh : g ≠ h) :
    Calls Tryz.prog 27 #[.pointer (some ⟨h, 0, none⟩)] w fun e w' => e = .returned (.tuple #[]) ∧ Done w' := by
  have hbI : (b : Int) < (N : Int) + 1 := by omega
  have hq0 : (0 : Int) < (ql0 : Int) + 1 := by omega
  go_enter Tryz.func27, Tryz.ntmps27
  go_wp2
  go_loopw [3] (fun i wr => ∃ j : Nat, j ≤ fl ∧ i = .int .i64 j ∧ P j wr) (fun i _ => fl - (intOf i).toNat)
  case atStart => exact ⟨0, Nat.zero_le _, rfl, P0.out⟩
  case round =>
    obtain ⟨j, hj, rfl, hp⟩ := hrel
    have K : Hid (P j wr) := hp
    obtain ⟨hh, hg⟩ := E.out.lt j wr hp
    obtain ⟨d0, d1⟩ := E.out.cells j wr hp
    clear hp
    by_cases hlt : j < fl
    · obtain ⟨fg, y1, y2, hao, hfg, hfh, hfgg, e0, e1, z0, z1, hQ⟩ := E.out.round j wr K.out hlt
      subst hao
      have QQ : Hid (∀ W', Below wr.heap.size wr W' → Q j y1 y2 ((W'.setCell ⟨fg, j * 2, none⟩ (.int .i64 0)).setCell ⟨fg, j * 2 + 1, none⟩ (.int .i64 0))) := hQ
      clear hQ
      have hltI : (j : Int) < fl := by omega
      have n1 : ¬ wr.heap.size = fg := by omega
      have n2 : ¬ wr.heap.size = g := by omega
      have n3 : ¬ wr.heap.size = h := by omega
      have BQ : Hid (Below wr.heap.size wr (wr.alloc (.cells #[.int .i64 y1, .int .i64 y2] 84))) := (Below.refl _ _).alloc (Nat.le_refl _) _
      have LL : Hid (fg ≠ wr.heap.size) := by show fg ≠ wr.heap.size; omega
      have al : ∀ (ob : Obj) (b o : Nat), b < wr.heap.size → (wr.alloc ob).cell? ⟨b, o, none⟩ = wr.cell? ⟨b, o, none⟩ ∧ (wr.alloc ob).frozen? ⟨b, o, none⟩ = wr.frozen? ⟨b, o, none⟩ := fun ob b o hlt => ⟨World.cell?_of_block (hao hlt), World.frozen?_of_block (hao hlt)⟩
      have t0 : ∀ ob, (wr.alloc ob).cell? ⟨h, 5, none⟩ = wr.cell? ⟨h, 5, none⟩ := fun ob => (al ob h 5 hh).1
      have t1 : ∀ ob, (wr.alloc ob).cell? ⟨g, b * 4 + 1, none⟩ = wr.cell? ⟨g, b * 4 + 1, none⟩ := fun ob => (al ob g _ hg).1
      have t2 : ∀ ob, (wr.alloc ob).cell? ⟨fg, j * 2, none⟩ = wr.cell? ⟨fg, j * 2, none⟩ := fun ob => (al ob fg _ hfg).1
      have t3 : ∀ ob, (wr.alloc ob).cell? ⟨fg, j * 2 + 1, none⟩ = wr.cell? ⟨fg, j * 2 + 1, none⟩ := fun ob => (al ob fg _ hfg).1
      have t4 : ∀ ob, (wr.alloc ob).frozen? ⟨fg, j * 2, none⟩ = wr.frozen? ⟨fg, j * 2, none⟩ := fun ob => (al ob fg _ hfg).2
      have t5 : ∀ ob, (wr.alloc ob).frozen? ⟨fg, j * 2 + 1, none⟩ = wr.frozen? ⟨fg, j * 2 + 1, none⟩ := fun ob => (al ob fg _ hfg).2
      clear hfh hfgg hgh hq0 cQ c0 K hh hg hfg al
      by_cases hy : y1 = 2
      · subst hy
        go_wp2_with fail
        obtain ⟨w2, hw2⟩ : ∃ w2, w2 = (((wr.alloc (.cells #[.int .i64 2, .int .i64 y2] 84)).setCell ⟨fg, j * 2, none⟩ (.int .i64 0)).setCell ⟨fg, j * 2 + 1, none⟩ (.int .i64 0)) := ⟨_, rfl⟩
        rw [← hw2]
        have Q2 := QQ.out _ BQ.out
        rw [← hw2] at Q2
        have L2 : w2.heap[wr.heap.size]? = some (.cells #[.int .i64 2, .int .i64 y2] 84) := by
          rw [hw2, hso (fun e => LL.out e.symm), hso (fun e => LL.out e.symm)]; exact heap_alloc_new wr _
        obtain ⟨i, c, st, rb, hi, hy2, d0', d2', CNT, C1, C2, C3, C4, C5⟩ := E.out.ref j y2 w2 Q2
        subst hy2
        have l1 : w2.cell? ⟨wr.heap.size, 1, none⟩ = some (.int .i64 (i : Int)) := cell_of_heap L2 rfl
        have CC : Hid _ := And.intro C1 (And.intro C2 (And.intro C3 (And.intro C4 C5)))
        have hiI : (i : Int) < (N : Int) + 1 := by omega
        clear hw2 Q2 L2 C1 C2 C3 C4 C5 QQ BQ t0 t1 t2 t3 t4 t5 d0 d1 e0 e1 z0 z1 n1 n2 n3 LL
        refine Calls.mono CNT ?_
        rintro e w3 ⟨rfl, hw3⟩
        subst hw3
        clear CNT
        by_cases hc : c = 0
        · subst hc
          cases st with
          | true =>
            go_wp2_with fail
            go_quiet (fail)
            go_wp2
            go_roundw
            case rel => exact ⟨j + 1, by omega, by go_num, E.out.pbelow _ _ _ (CC.out.2.1 (by simp)) (below_drewN (Below.refl _ _) _)⟩
            case measure => simp [intOf]; omega
          | false =>
            go_wp2_with fail
            go_quiet (fail)
            go_wp2_with fail
            refine Calls.mono (CC.out.2.2.1 _ (below_drewN (Below.refl _ _) _)) ?_
            rintro e w4 ⟨rfl, hw4⟩
            have l4 : w4.cell? ⟨wr.heap.size, 1, none⟩ = some (.int .i64 (i : Int)) := by rw [hw4]; exact l1
            have B4 : Hid (Below w3.heap.size w3 w4) := by rw [hw4]; exact below_drewN (Below.refl _ _) _
            clear hw4
            cases rb with
            | true =>
              go_wp2_with fail
              refine Calls.mono (CC.out.2.2.2.1 _ B4.out (by simp) (by simp) (by simp)) ?_
              rintro e w5 ⟨rfl, hp⟩
              have PP : Hid _ := hp
              clear hp
              go_wp2
              go_roundw
              case rel => exact ⟨j + 1, by omega, by go_num, PP.out⟩
              case measure => simp [intOf]; omega
            | false =>
              go_wp2_with fail
              refine Calls.mono (CC.out.2.2.2.2 _ B4.out (by simp) (by simp) (by simp)) ?_
              rintro e w5 ⟨rfl, hp⟩
              have PP : Hid _ := hp
              clear hp
              go_wp2
              go_roundw
              case rel => exact ⟨j + 1, by omega, by go_num, PP.out⟩
              case measure => simp [intOf]; omega
        · have hcI : (0 : Int) < c := by omega
          have hcd : decide ((0 : Int) < c) = true := by simpa using hcI
          go_wp2_with fail
          go_quiet (fail)
          go_wp2
          go_roundw
          case rel => exact ⟨j + 1, by omega, by go_num, E.out.pbelow _ _ _ (CC.out.1 (by omega)) (below_drewN (Below.refl _ _) _)⟩
          case measure => simp [intOf]; omega
      · have hy2 : (y1 == 2) = false := by simpa using hy
        go_wp2
        go_roundw
        case rel => exact ⟨j + 1, by omega, by go_num, E.out.skip _ _ _ _ (QQ.out _ BQ.out) hy⟩
        case measure => simp [intOf]; omega
    · obtain rfl : j = fl := by omega
      obtain ⟨qg, qo, ql, qc, u0, u1, u2, u3, e6, hq1, hq2, e0, e1, e2, e3, fz, f6, hD⟩ := E.out.stop wr K.out
      have DD : Hid _ := hD
      have f0 := fz (b * 4)
      have f1 := fz (b * 4 + 1)
      have f2 := fz (b * 4 + 2)
      have f3 := fz (b * 4 + 3)
      clear hD fz cQ c0 K hq0
      have hq3 : (1 : Int) ≤ (ql : Int) + 1 := by omega
      unfold maxLen at hq2
      by_cases hq5 : qc = 1
      · subst hq5
        obtain rfl : ql = 0 := by omega
        go_wp2
        go_end0
        exact ⟨rfl, DD.out _ qo (by simp) (by simp [layObj, noObj]) _ (Below.refl _ _)⟩
      · go_wp2
        go_end0
        exact ⟨rfl, DD.out _ (qo + 1) (by simp) (by simp [layObj, noObj]) _ (Below.refl _ _)⟩

end Go.Proofs.YtpmkjeihbddfpabGreatDoor

/- OUR OWN. The document's heap: free, exact. -/
namespace Go.Proofs.YtpmkjeihbddfpabGreatDoor
open Go.RowKit
set_option linter.unusedVariables false
set_option linter.unusedSimpArgs false

theorem SortRel.vB {but : Int} {m : RefM} : ∀ {k : Nat} {m' : RefM}, SortRel but m k m' → m'.vB = m.vB := by
  intro k
  induction k with
  | zero => intro m' h; rw [show m' = m from h]
  | succ k ih =>
    rintro m' ⟨m1, h1, ⟨_, v, rfl⟩ | ⟨_, rfl⟩⟩
    · have := ih h1; exact this
    · exact ih h1
theorem EnterRel.vB {but : Int} {m m' : RefM} {N : Nat} (h : EnterRel but m N m') : m'.vB = m.vB := by
  unfold EnterRel at h
  split at h
  · exact h.vB
  · rw [h]
theorem alike_obj {m m' : RefM} (a : Alikeq m m') {i : Nat} {o : RObj} (h : m.objs[i]? = some o) : ∃ o', m'.objs[i]? = some o' ∧ o'.vF = o.vF ∧ o'.fs = o.fs ∧ o'.here = o.here ∧ o'.stuck = o.stuck := by
  have e := congrArg (fun l => l[i]?) a.objs
  simp only [List.getElem?_map, h] at e
  cases h' : m'.objs[i]? with
  | none => rw [h'] at e; cases e
  | some o' =>
    rw [h'] at e
    simp [RObj.strip] at e
    exact ⟨o', rfl, e.2.1, e.2.2.1, e.1, e.2.2.2⟩

/-- the blocks' row and an object's fields lie apart -/
theorem RPre.apart {h N : Nat} {w : World} {m : RefM} (p : RPre h N w m) {i : Nat} {o : RObj} (hi : m.objs[i]? = some o) {g fg : Nat} (hg : m.vB.ownBlock = some g) (hf : o.vF.ownBlock = some fg) : fg ≠ g ∧ fg ≠ h := by
  have hap := List.nodup_cons.1 p.r.rowsAt.apart
  have h1 : m.rows[0]? = some ⟨73, 4, m.vB, m.objs.length, m.objs.flatMap RObj.cells⟩ := rfl
  have h2 : m.rows[4 + i]? = some o.row := by
    simp only [RefM.rows, show 4 + i = i + 1 + 1 + 1 + 1 by omega, List.getElem?_cons_succ, List.getElem?_map, hi]; rfl
  refine ⟨fun e => ?_, fun e => ?_⟩
  · subst e
    have := filterMap_idx SRow.ob m.rows hap.2 0 (4 + i) _ _ fg h1 h2 hg hf
    omega
  · subst e
    exact p.r.ne (List.mem_of_getElem? h2) hf

/-! ### What letting go does, by cases -/
/-- the heap in the midst of it: the object in block b has its fields where they were -/
structure Fr (h N : Nat) (w : World) (m : RefM) (b : Nat) (vF : Value) (fl : Nat) (s : St) (W : World) (m1 : RefM) : Prop where
  pre : RPre h N W m1
  step : RStep h N w m W m1
  st : m1.st = s
  vB : m1.vB = m.vB
  obj : ∃ o, m1.objs[b]? = some o ∧ o.vF = vF ∧ o.fs.length = fl
theorem Fr.below {h N : Nat} {w W W' : World} {m m1 : RefM} {b fl : Nat} {vF : Value} {s : St} (t : Fr h N w m b vF fl s W m1) (hb : Below W.heap.size W W') : Fr h N w m b vF fl s W' m1 := ⟨t.pre.below hb, t.step.after hb, t.st, t.vB, t.obj⟩
theorem Fr.zero {h N : Nat} {w W : World} {m m1 : RefM} {b fl : Nat} {vF : Value} {s : St} (t : Fr h N w m b vF fl s W m1) : m1.zero = m.zero := congrArg Cf.zero t.step.cf

/-- an object in the block of which the state says so -/
theorem st_obj {m : RefM} {i : Nat} (h : (m.st.ob i).here = true) : ∃ o, m.objs[i]? = some o ∧ o.ob = m.st.ob i := by
  cases e : m.objs[i]? with
  | none => rw [st_ob_none e] at h; cases h
  | some o => exact ⟨o, rfl, (st_ob e).symm⟩

theorem win_tail {w : World} {g off n cap : Nat} {x : Value} {xs : List Value} {e : TypeId} (h : ownsWin w e (.slice (some ⟨g, off, none⟩) (n + 1) cap) (n + 1) (x :: xs)) (off' : Nat) (ho : off' = off + 1 ∨ (cap = 1 ∧ off' = off)) :
    ownsWin w e (.slice (some ⟨g, off', none⟩) n (cap - 1)) n xs := by
  rcases h.2 with ⟨hv, _⟩ | ⟨g', off1, cap', cur, hv, h1, h2, h3, h4, h5⟩
  · cases hv
  · simp at hv
    obtain ⟨⟨rfl, rfl⟩, rfl⟩ := hv
    have hl := h.1
    simp at hl
    refine ⟨hl, .inr ⟨g, off', cap - 1, cur, rfl, h1, by omega, by omega, by omega, fun j u hu => ?_⟩⟩
    have hj : j < xs.length := (List.getElem?_eq_some_iff.1 hu).1
    rcases ho with rfl | ⟨hc, _⟩
    · have := h5 (j + 1) u (by simpa using hu)
      rw [show off + 1 + j = off + (j + 1) by omega]; exact this
    · omega

theorem countP_unset {l : List RObj} {i : Nat} {o o' : RObj} (h : l[i]? = some o) (hq : o.queued = true) (hq' : o'.queued = false) : (l.set i o').countP RObj.queued + 1 = l.countP RObj.queued := by
  induction l generalizing i with
  | nil => simp at h
  | cons a l ih =>
    cases i with
    | zero => simp at h; subst h; simp [List.countP_cons, hq, hq']
    | succ i => simp at h; rw [List.set_cons_succ, List.countP_cons, List.countP_cons]; have := ih h; omega

/-- the first of the queue leaves it, its block is free -/
theorem RStep.leave {h N : Nat} {W : World} {m : RefM} (p : RPre h N W m) {g capB b qg qo ql qc qo' : Nat} (hvB : m.vB = .slice (some ⟨g, 0, none⟩) (N + 1) capB) {o : RObj} (hi : m.objs[b]? = some o) (hq : o.queued = true) {q : List Int} (hqe : m.queue = (b : Int) :: q)
    (hvQ : m.vQ = .slice (some ⟨qg, qo, none⟩) (ql + 1) qc) (hql : m.queue.length = ql + 1) (ho : qo' = qo + 1 ∨ (qc = 1 ∧ qo' = qo)) :
    ∃ m', RStep h N W m ((layObj W g b noObj).setCell ⟨h, 6, none⟩ (.slice (some ⟨qg, qo', none⟩) ql (qc - 1))) m' ∧ m'.st = m.st.leave b ∧ m'.vB = m.vB := by
  have t1 : Turn h W m (layObj W g b noObj) (m.put b noObj) := p.r.placed p.ok (Below.refl _ _) hvB b hi noObj (World.ownsRow_nil _ _ _ _) (fun x hx => by cases hx)
  have r1 := t1.here
  have hw : ownsWin (layObj W g b noObj) 3 (.slice (some ⟨qg, qo, none⟩) (ql + 1) qc) (ql + 1) (.int .i64 (b : Int) :: q.map (Value.int .i64)) := by
    have := r1.queue
    have e1 : (m.put b noObj).vQ = .slice (some ⟨qg, qo, none⟩) (ql + 1) qc := hvQ
    have e2 : (m.put b noObj).queue = (b : Int) :: q := hqe
    have e3 : (m.put b noObj).queue.length = ql + 1 := hql
    rw [e3, e1, e2] at this
    exact this
  have hw' := win_tail hw qo' ho
  have hl : q.length = ql := by rw [hqe] at hql; simpa using hql
  have t2 := r1.requeued (w1 := layObj W g b noObj) (.slice (some ⟨qg, qo', none⟩) ql (qc - 1)) q (by rw [hl]; exact hw') (Off.refl _ _) (fun x hx => .inl (by
    have e1 : (m.put b noObj).vQ = .slice (some ⟨qg, qo, none⟩) (ql + 1) qc := hvQ
    rw [e1]; exact hx))
  refine ⟨_, ⟨t1.trans t2, ⟨p.ok.most, by simp [RefM.put, p.ok.len], p.ok.small, fun x hx => ?_, p.ok.stack, p.ok.globals, ?_⟩, rfl, fun x hx hf => ?_⟩, ?_, rfl⟩
  · rcases List.mem_or_eq_of_mem_set hx with e | e
    · exact p.ok.fields x e
    · subst e; simp [noObj]
  · show q.length ≤ (m.objs.set b noObj).countP RObj.queued
    have := countP_unset (o' := noObj) hi hq rfl
    have := p.ok.queue
    omega
  · rcases List.mem_or_eq_of_mem_set hx with e | e
    · exact p.clean x e hf
    · subst e; rfl
  · have e1 : (m.put b noObj).st = m.st.put b Ob.free := put_st m b noObj
    unfold St.leave
    have e2 : m.st.queue = (b : Int) :: q := hqe
    rw [e2]
    show (⟨m.stack, m.globals, (m.objs.set b noObj).map RObj.ob, q⟩ : St) = ⟨m.stack, m.globals, (m.objs.map RObj.ob).set b Ob.free, q⟩
    rw [List.map_set]; rfl

theorem free_any {h N : Nat} {w : World} {m : RefM} (p : RPre h N w m) (gd : m.st.Good N) (hq : m.queue.length ≠ 0) :
    Calls Tryz.prog 27 #[.pointer (some ⟨h, 0, none⟩)] w fun e w' => e = .returned (.tuple #[]) ∧ ∃ m', RStep h N w m w' m' ∧ m'.st = m.st.free m.zero ∧ m'.vB = m.vB := by
  obtain ⟨q, hqe⟩ := gd.first hq
  obtain ⟨b, hb⟩ : ∃ b, m.st.first = b := ⟨_, rfl⟩
  rw [hb] at hqe
  have hqd : (m.st.ob b).queued = true := (gd.inq b).1 (by rw [hqe]; simp)
  have hh : (m.st.ob b).here = true := by
    cases e : (m.st.ob b).here with
    | true => rfl
    | false => rw [gd.gone b e] at hqd; cases hqd
  have hbN := gd.ne_zero hh
  obtain ⟨o, ho, hoo⟩ := st_obj hh
  have hbl : b < m.objs.length := (List.getElem?_eq_some_iff.1 ho).1
  have hom : o ∈ m.objs := List.mem_of_getElem? ho
  obtain ⟨ao, fc, hvF⟩ := own_slice (p.r.fields o hom)
  obtain ⟨g, capB, hvB, hg, hgh, hgo, hfz, hobj⟩ := p.r.view p.ok
  obtain ⟨fl, hfl⟩ : ∃ fl, o.fs.length = fl := ⟨_, rfl⟩
  have hfs : (m.st.ob b).fs = o.fs := by rw [← hoo]; rfl
  obtain ⟨S, hS⟩ : ∃ S : Nat → St, S = fun j => letTo m.zero b m.st j := ⟨_, rfl⟩
  have gS : ∀ j, (S j).Good N := fun j => by rw [hS]; exact gd.letTo _ _ _
  have S0 : S 0 = m.st := by rw [hS]; rfl
  have S1 : ∀ j, S (j + 1) = letGo m.zero b j (S j) := fun j => by rw [hS]; rfl
  have target : m.st.free m.zero = (S fl).leave b := by
    unfold St.free
    rw [hb, hfs, hfl, hS]
  rw [target]
  obtain ⟨qg0, qo0, qc0, hvQ0, _, _, hqc0, hqcell0, _⟩ := win_view p.r.queue (by omega)
  obtain ⟨ql0, hql0⟩ : ∃ ql0, m.queue.length = ql0 + 1 := ⟨m.queue.length - 1, by omega⟩
  have VIEW : ∀ (s : St) W m1, Fr h N w m b o.vF fl s W m1 → W.cell? ⟨h, 5, none⟩ = some (.slice (some ⟨g, 0, none⟩) (N + 1) capB) ∧ g < W.heap.size ∧ (∀ j, W.frozen? ⟨g, j, none⟩ = false) ∧ (∀ i (hi : i < m1.objs.length), W.cell? ⟨g, i * 4, none⟩ = some (.bool (m1.objs[i]).here) ∧ W.cell? ⟨g, i * 4 + 1, none⟩ = some (m1.objs[i]).vF ∧
      W.cell? ⟨g, i * 4 + 2, none⟩ = some (.bool (m1.objs[i]).stuck) ∧ W.cell? ⟨g, i * 4 + 3, none⟩ = some (.bool (m1.objs[i]).queued)) := by
    intro s W m1 t
    obtain ⟨g', capB', hvB', hg', _, _, hfz', hobj'⟩ := t.pre.r.view t.pre.ok
    have e1 : (Value.slice (some ⟨g', 0, none⟩) (N + 1) capB') = .slice (some ⟨g, 0, none⟩) (N + 1) capB := hvB'.symm.trans (t.vB.trans hvB)
    simp at e1
    obtain ⟨rfl, rfl⟩ := e1
    exact ⟨by rw [t.pre.r.cell.2.2.2.2.2.1, hvB'], hg', hfz', hobj'⟩
  have OBJ : ∀ (s : St) W m1, Fr h N w m b o.vF fl s W m1 → W.cell? ⟨g, b * 4 + 1, none⟩ = some (.slice ao fl fc) := by
    intro s W m1 t
    obtain ⟨o1, h1, h2, h3⟩ := t.obj
    have hl : b < m1.objs.length := (List.getElem?_eq_some_iff.1 h1).1
    have e : m1.objs[b] = o1 := (List.getElem?_eq_some_iff.1 h1).2
    rw [((VIEW s W m1 t).2.2.2 b hl).2.1, e, h2, hvF, hfl]
  have ENV : FreeEnv h N g capB fl fc b ao (fun j W => ∃ m1, Fr h N w m b o.vF fl (S j) W m1) (fun j y1 y2 W => ∃ m2, Fr h N w m b o.vF fl ((S j).field b j (0, 0)) W m2 ∧ ((S j).ob b).fs.getD j (0, 0) = (y1, y2))
      (fun W => ∃ m', RStep h N w m W m' ∧ m'.st = (S fl).leave b ∧ m'.vB = m.vB) := by
    refine ⟨?_, ?_, ?_, ?_, ?_, ?_, ?_, ?_⟩
    · rintro j W W' ⟨m1, t⟩ hbl; exact ⟨m1, t.below hbl⟩
    · rintro j W ⟨m1, t⟩; exact ⟨lt_of_heap t.pre.r.head, (VIEW _ W m1 t).2.1⟩
    · rintro j W ⟨m1, t⟩; exact ⟨(VIEW _ W m1 t).1, OBJ _ W m1 t⟩
    · rintro j W ⟨m1, t⟩ hj
      obtain ⟨o1, h1, h2, h3⟩ := t.obj
      have hj1 : j < o1.fs.length := by omega
      obtain ⟨g', capB', fg, fc', hvB', hvF', hg', hfg, a1, a2, a3, a4, a5, a6⟩ := t.pre.facts b o1 h1 j hj1
      have e1 : (Value.slice (some ⟨g', 0, none⟩) (N + 1) capB') = .slice (some ⟨g, 0, none⟩) (N + 1) capB := hvB'.symm.trans (t.vB.trans hvB)
      simp at e1
      obtain ⟨rfl, rfl⟩ := e1
      have e2 : (Value.slice (some ⟨fg, 0, none⟩) o1.fs.length fc') = .slice ao o.fs.length fc := hvF'.symm.trans (h2.trans hvF)
      simp at e2
      obtain ⟨e2, _, rfl⟩ := e2
      obtain ⟨ne1, ne2⟩ := t.pre.apart h1 (by rw [hvB']; rfl) (by rw [hvF']; rfl)
      refine ⟨fg, (o1.fs[j]).1, (o1.fs[j]).2, e2.symm, hfg, ne2, ne1, a3, a4, a5, a6, fun W' hbl => ?_⟩
      obtain ⟨s1, p1, st1⟩ := RStep.field (t.pre.below hbl) b h1 hvF' j hj1 (0, 0) (.inl rfl)
      refine ⟨_, ⟨p1, (t.step.after hbl).trans s1, ?_, t.vB, ?_⟩, ?_⟩
      · rw [st1, t.st]
      · have hl : b < m1.objs.length := (List.getElem?_eq_some_iff.1 h1).1
        exact ⟨{ o1 with fs := o1.fs.set j (0, 0) }, by simp [RefM.put, hl], h2, by simpa using h3⟩
      · rw [← t.st, st_ob h1]
        show o1.fs.getD j (0, 0) = _
        rw [List.getD_eq_getElem?_getD, List.getElem?_eq_getElem hj1]; rfl
    · rintro j y1 y2 W W' ⟨m2, t, hy⟩ hbl; exact ⟨m2, t.below hbl, hy⟩
    · rintro j y1 y2 W ⟨m2, t, hy⟩ hne
      refine ⟨m2, ?_⟩
      rw [S1, letGo_not (by rw [hy]; exact hne)]; exact t
    · rintro j y2 W ⟨m2, t, hy⟩
      have hlead : ((S j).field b j (0, 0)).leads (2, y2) := leads_put (i := b) (o := { (S j).ob b with fs := ((S j).ob b).fs.set j (0, 0) }) rfl rfl (by rw [← hy]; exact leads_getD ((gS j).fields b) j)
      obtain ⟨i, hi, ha⟩ := leads_ref hlead rfl
      have hi' : y2 = i := hi
      subst hi'
      rw [← t.st] at ha
      have g2 : m2.st.Good N := by rw [t.st]; exact (gS j).setField b j (.inl rfl)
      have hiN := g2.ne_zero ha.1
      obtain ⟨oi, hoi, hoo2⟩ := st_obj ha.1
      have hil : i < m2.objs.length := (List.getElem?_eq_some_iff.1 hoi).1
      have eoi : m2.objs[i] = oi := (List.getElem?_eq_some_iff.1 hoi).2
      have hstk : oi.stuck = (m2.st.ob i).stuck := by rw [← hoo2]; rfl
      have hqi : oi.queued = false := by have : (oi.ob).queued = false := by rw [hoo2]; exact ha.2
                                         exact this
      refine ⟨i, m2.st.count i, (m2.st.ob i).stuck, m2.st.rooted i, hiN.2, rfl, (VIEW _ W m2 t).1, ?_, ?_, ?_, ?_, ?_, ?_, ?_⟩
      · rw [((VIEW _ W m2 t).2.2.2 i hil).2.2.1, eoi, hstk]
      · rw [st_count]; exact count_any t.pre.r t.pre.ok i
      · intro hc
        exact ⟨m2, by rw [S1, letGo_held hy (.inl (by rw [← t.st]; exact hc))]; exact t⟩
      · intro hc
        exact ⟨m2, by rw [S1, letGo_held hy (.inr (by rw [← t.st]; exact hc))]; exact t⟩
      · intro W' hbl
        exact rooted_any (t.below hbl).pre.r t.pre.ok i
      · intro W' hbl hc hs hr
        have t' := t.below hbl
        refine (enter_any t'.pre.r t'.pre.ok (i : Int)).mono ?_
        rintro e w' ⟨he, m3, hE, hT, hok⟩
        obtain ⟨s3, st3⟩ := RStep.enter t'.pre hE hT hok
        have st4 : m3.st = S (j + 1) := by
          rw [S1, letGo_root hy (by rw [← t.st]; exact hc) (by rw [← t.st]; exact hs) (by rw [← t.st]; exact hr), st3, t.zero, t.st]
        obtain ⟨o2, h1, h2, h3⟩ := t.obj
        obtain ⟨o3, k1, k2, k3, _, _⟩ := alike_obj hE.alike h1
        exact ⟨he, m3, s3.pre t'.pre (by rw [st4]; exact (gS (j + 1)).inv), t'.step.trans s3, st4, hE.vB.trans t.vB, ⟨o3, k1, k2.trans h2, by rw [k3]; exact h3⟩⟩
      · intro W' hbl hc hs hr
        have t' := t.below hbl
        refine (queued_any t'.pre.r t'.pre.ok i hiN.2).mono ?_
        rintro e w' ⟨he, v', hT⟩
        have hwait : m2.waitsB i = true := by
          rw [← st_waits]
          exact waits_iff.2 ⟨ha, hs, hc⟩
        have st4 : (m2.enq i v').st = S (j + 1) := by
          rw [S1, letGo_queue hy (by rw [← t.st]; exact hc) (by rw [← t.st]; exact hs) (by rw [← t.st]; exact hr), enq_st, t.st]
        have s3 : RStep h N W' m2 w' (m2.enq i v') := ⟨hT, t.pre.ok.enq hoi hqi v', rfl, clean_enq t.pre.clean hwait⟩
        obtain ⟨o2, h1, h2, h3⟩ := t.obj
        obtain ⟨o3, k1, k2, k3, _, _⟩ := alike_obj (alikeq_enq m2 i v') h1
        exact ⟨he, m2.enq i v', s3.pre t'.pre (by rw [st4]; exact (gS (j + 1)).inv), t'.step.trans s3, st4, t.vB, ⟨o3, k1, k2.trans h2, by rw [k3]; exact h3⟩⟩
    · rintro W ⟨m1, t⟩
      obtain ⟨_, _, _, q', hq'⟩ := letTo_same m.zero b m.st fl
      have hqm : m1.queue = (b : Int) :: (q ++ q') := by
        have : m1.st.queue = (b : Int) :: (q ++ q') := by rw [t.st, hS]; show (letTo m.zero b m.st fl).queue = _; rw [hq', hqe]; simp
        exact this
      obtain ⟨o1, h1, h2, h3⟩ := t.obj
      have hl : b < m1.objs.length := (List.getElem?_eq_some_iff.1 h1).1
      have eo : m1.objs[b] = o1 := (List.getElem?_eq_some_iff.1 h1).2
      have hqd1 : o1.queued = true := by
        have := ((gS fl).inq b).1 (by rw [← t.st]; show (b : Int) ∈ m1.queue; rw [hqm]; simp)
        rw [← t.st, st_ob h1] at this
        exact this
      obtain ⟨ql, hql⟩ : ∃ ql, m1.queue.length = ql + 1 := ⟨(q ++ q').length, by rw [hqm]; rfl⟩
      have hw := t.pre.r.queue
      obtain ⟨qg, qo, qc, hvQ, _, _, hqc, _, _⟩ := win_view hw (by omega)
      have hmax : qc ≤ maxLen := by
        rcases hw.2 with ⟨hn, _⟩ | ⟨g', off', cap', cur, hn, _, _, hx, _⟩
        · rw [hvQ] at hn; cases hn
        · rw [hvQ] at hn; simp at hn; rw [hn.2]; exact hx
      rw [hql] at hvQ hqc
      obtain ⟨v1, v2, v3, v4⟩ := VIEW _ W m1 t
      obtain ⟨d0, d1, d2, d3⟩ := v4 b hl
      refine ⟨qg, qo, ql, qc, _, _, _, _, by rw [t.pre.r.cell.2.2.2.2.2.2.1, hvQ], hqc, hmax, d0, d1, d2, d3, v3, frozen_of_heap t.pre.r.head, fun W' qo' hqo hW' W'' hbl => ?_⟩
      obtain ⟨m', s', st', vb'⟩ := RStep.leave t.pre (t.vB.trans hvB) h1 hqd1 hqm hvQ hql hqo
      rw [← hW'] at s'
      exact ⟨m', (t.step.trans s').after hbl, by rw [st', t.st], vb'.trans t.vB⟩
  refine free_walk h N g capB fl fc b qg0 qo0 ql0 qc0 ao w _ _ _ ENV ?_ ?_ ?_ p.ok.small hbN.2 ?_ hgh
  · rw [p.r.cell.2.2.2.2.2.2.1, hvQ0, hql0]
  · have := hqcell0 0 (.int .i64 b) (by
      have e : m.queue = (b : Int) :: q := hqe
      rw [e]; rfl)
    simpa using this
  · exact ⟨m, ⟨p, .refl p, S0.symm, rfl, ⟨o, ho, rfl, hfl⟩⟩⟩
  · rw [← hfl]; exact p.ok.fields o hom

end Go.Proofs.YtpmkjeihbddfpabGreatDoor

