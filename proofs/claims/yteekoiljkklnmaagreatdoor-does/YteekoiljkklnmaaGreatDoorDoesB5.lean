import Derived.Test.YteekoiljkklnmaaGreatDoorDoesB4
import Derived.Deep.RegionWith
/- OUR OWN. The document's heap: moves, by operation. -/
namespace Go.Proofs.YteekoiljkklnmaaGreatDoor
open Go.RowKit
set_option linter.unusedVariables false
set_option linter.unusedSimpArgs false

theorem boxed' {w w1 : World} {cs : Array Value} {t : TypeId} (hb : Below (w.alloc (.cells cs t)).heap.size (w.alloc (.cells cs t)) w1) : w1.heap[w.heap.size]? = some (.cells cs t) := by
  rw [hb.block _ (by simp)]; exact heap_alloc_new w _

def FreeClean (m : RefM) : Prop := ∀ o ∈ m.objs, o.here = false → o.queued = false

structure RPre (h N : Nat) (w : World) (m : RefM) : Prop where
  r : RefAt w h m
  ok : m.Ok N
  clean : FreeClean m
  inv : m.st.Inv N
  deep : m.deep ≤ 16

structure RStep (h N : Nat) (w : World) (m : RefM) (w' : World) (m' : RefM) : Prop where
  turn : Turn h w m w' m'
  ok : m'.Ok N
  cf : m'.cf = m.cf
  clean : FreeClean m'

theorem RStep.of_below {h N : Nat} {w w' : World} {m : RefM} (p : RPre h N w m) (hb : Below w.heap.size w w') : RStep h N w m w' m := ⟨.of_below p.r hb, p.ok, rfl, p.clean⟩
theorem RStep.refl {h N : Nat} {w : World} {m : RefM} (p : RPre h N w m) : RStep h N w m w m := ⟨.refl p.r, p.ok, rfl, p.clean⟩
theorem RStep.trans {h N : Nat} {w w1 w2 : World} {m m1 m2 : RefM} (a : RStep h N w m w1 m1) (b : RStep h N w1 m1 w2 m2) : RStep h N w m w2 m2 := ⟨a.turn.trans b.turn, b.ok, b.cf.trans a.cf, b.clean⟩
theorem RStep.after {h N : Nat} {w w1 w2 : World} {m m1 : RefM} (a : RStep h N w m w1 m1) (hb : Below w1.heap.size w1 w2) : RStep h N w m w2 m1 := ⟨a.turn.after hb, a.ok, a.cf, a.clean⟩
theorem RStep.pre {h N : Nat} {w w' : World} {m m' : RefM} (a : RStep h N w m w' m') (p : RPre h N w m) (hi : m'.st.Inv N) : RPre h N w' m' := ⟨a.turn.here, a.ok, a.clean, hi, by have h1 : m'.deep = m.deep := congrArg Cf.deep a.cf; rw [h1]; exact p.deep⟩
theorem RPre.below {h N : Nat} {w w' : World} {m : RefM} (p : RPre h N w m) (hb : Below w.heap.size w w') : RPre h N w' m := ⟨(Turn.of_below p.r hb).here, p.ok, p.clean, p.inv, p.deep⟩

def RDid (h N : Nat) (w : World) (m : RefM) (p : St × Int × Int) (e : Ending) (w' : World) : Prop := e = .returned (.int .i64 p.2.2) ∧ ∃ m', RStep h N w m w' m' ∧ m'.st = p.1

theorem push_do {h N : Nat} {w : World} {m : RefM} (p : RPre h N w m) (x : Int × Int) :
    Calls Tryz.prog 80 #[.pointer (some ⟨h, 0, none⟩), .agg #[.int .i64 x.1, .int .i64 x.2]] w (RDid h N w m (pushA m.deep m.st x)) := by
  by_cases hd : m.deep ≤ m.stack.length
  · have e : pushA m.deep m.st x = (m.st, 0, 7) := by unfold pushA pushS; rw [if_pos (show m.deep ≤ (m.st.stack.length : Int) from hd)]
    refine (push_full p.r p.ok.stack x hd).mono fun e' w' ⟨he, hb⟩ => ?_
    rw [e]
    exact ⟨he, m, .of_below p hb, rfl⟩
  · have e : pushA m.deep m.st x = ({ m.st with stack := m.stack ++ [x] }, 0, 0) := by unfold pushA pushS; rw [if_neg (show ¬ m.deep ≤ (m.st.stack.length : Int) from hd)]; rfl
    refine (push_room p.r p.ok.stack x (by omega)).mono fun e' w' ⟨he, v', ht⟩ => ?_
    rw [e]
    refine ⟨he, _, ⟨ht, ⟨p.ok.most, p.ok.len, p.ok.small, p.ok.fields, ?_, p.ok.globals, p.ok.queue⟩, rfl, p.clean⟩, rfl⟩
    have := p.deep
    simp; omega

theorem pop_do {h N : Nat} {w : World} {m : RefM} (p : RPre h N w m) (n : Nat) (hn : n ≤ m.stack.length) (h0 : 0 < m.stack.length) :
    Calls Tryz.prog 83 #[.pointer (some ⟨h, 0, none⟩), .int .i64 n] w fun e w' => e = .returned (.tuple #[]) ∧ ∃ v', RStep h N w m w' { m with vS := v', stack := m.stack.take (m.stack.length - n) } := by
  refine (pop_any p.r p.ok.stack n hn h0).mono fun e' w' ⟨he, v', ht⟩ => ⟨he, v', ht, ⟨p.ok.most, p.ok.len, p.ok.small, p.ok.fields, ?_, p.ok.globals, p.ok.queue⟩, rfl, p.clean⟩
  have := p.ok.stack
  simp; omega

theorem st_down (m : RefM) (k : Nat) (hk : k < m.stack.length) : m.stack[m.stack.length - 1 - k]'(by omega) = m.st.down k := by
  unfold St.down
  rw [List.getD_eq_getElem?_getD]
  show _ = (m.stack[m.stack.length - 1 - k]?).getD _
  rw [List.getElem?_eq_getElem (by omega)]
  rfl

theorem down_do {h N : Nat} {w : World} {m : RefM} (p : RPre h N w m) (k : Nat) (hk : k < m.stack.length) :
    Calls Tryz.prog 81 #[.pointer (some ⟨h, 0, none⟩), .int .i64 k] w
      fun e w' => e = .returned (.agg #[.int .i64 (m.st.down k).1, .int .i64 (m.st.down k).2]) ∧ Below w.heap.size w w' := by
  have := down_any p.r p.ok.stack k hk
  rw [st_down m k hk] at this
  exact this

theorem RPre.stackCell {h N : Nat} {w : World} {m : RefM} (p : RPre h N w m) : ∃ ao cap, w.cell? ⟨h, 7, none⟩ = some (.slice ao m.stack.length cap) := by
  obtain ⟨ao, cap, hv⟩ := own_slice p.r.stack
  exact ⟨ao, cap, by rw [p.r.cell.2.2.2.2.2.2.2.1, hv]⟩

def MovesSays (op : Int) (f : Int → St → Int → St × Int × Int) : Prop := ∀ (h N : Nat) (w : World) (m : RefM) (n : Int), RPre h N w m →
  Calls Tryz.prog 55 #[.pointer (some ⟨h, 0, none⟩), .int .i64 op, .int .i64 n] w (RDid h N w m (f m.deep m.st n))

set_option maxHeartbeats 400000 in
theorem moves_nil : MovesSays 0 (fun d s _ => pushA d s (0, 0)) := by
  intro h N w m n p
  have PU := push_do p (0, 0)
  have P : Hid _ := PU
  clear PU p
  go_enter Tryz.func55, Tryz.ntmps55
  go_wp2_with fail
  refine Calls.mono P.out ?_
  rintro e w1 ⟨rfl, hm⟩
  have M : Hid _ := hm
  clear hm P
  go_wp2
  go_ret
  exact ⟨rfl, M.out⟩

set_option maxHeartbeats 400000 in
theorem moves_int : MovesSays 1 (fun d s n => pushA d s (1, n)) := by
  intro h N w m n p
  have PU := push_do p (1, n)
  have P : Hid _ := PU
  clear PU p
  go_enter Tryz.func55, Tryz.ntmps55
  go_wp2_with fail
  refine Calls.mono P.out ?_
  rintro e w1 ⟨rfl, hm⟩
  have M : Hid _ := hm
  clear hm P
  go_wp2
  go_ret
  exact ⟨rfl, M.out⟩

set_option maxHeartbeats 800000 in
theorem moves_dup : MovesSays 3 (fun d s n => dupS d s n) := by
  intro h N w m n p
  obtain ⟨ao, cap, cS⟩ := p.stackCell
  have hl := p.ok.stack
  by_cases hc : n < 0 ∨ (m.stack.length : Int) ≤ n
  · have e : dupS m.deep m.st n = (m.st, 0, 6) := by unfold dupS; exact if_pos hc
    simp only [e]
    have K : Hid (∃ m', RStep h N w m w m' ∧ m'.st = m.st) := ⟨m, .refl p, rfl⟩
    obtain ⟨len, hlen⟩ : ∃ len, m.stack.length = len := ⟨_, rfl⟩
    rw [hlen] at hc cS hl
    clear p e hlen
    rcases hc with hc | hc
    · go_enter Tryz.func55, Tryz.ntmps55
      go_wp2
      go_ret
      exact ⟨rfl, K.out⟩
    · have hn : ¬ n < 0 := by omega
      go_enter Tryz.func55, Tryz.ntmps55
      go_wp2
      go_ret
      exact ⟨rfl, K.out⟩
  · obtain ⟨k, rfl⟩ : ∃ k : Nat, n = k := ⟨n.toNat, by omega⟩
    have hk : k < m.stack.length := by omega
    have e : dupS m.deep m.st k = pushA m.deep m.st (m.st.down k) := by unfold dupS; exact (if_neg hc).trans (by rw [Int.toNat_natCast])
    simp only [e]
    have DN := down_do p k hk
    have D : Hid _ := DN
    have PU : Hid (∀ W, Below w.heap.size w W → Calls Tryz.prog 80 #[.pointer (some ⟨h, 0, none⟩), .agg #[.int .i64 (m.st.down k).1, .int .i64 (m.st.down k).2]] W fun e w' => RDid h N w m (pushA m.deep m.st (m.st.down k)) e w') :=
      fun W hb => (push_do (p.below hb) (m.st.down k)).mono fun e w' ⟨he, m', hs, hm⟩ => ⟨he, m', (RStep.of_below p hb).trans hs, hm⟩
    obtain ⟨len, hlen⟩ : ∃ len, m.stack.length = len := ⟨_, rfl⟩
    rw [hlen] at hc cS hl hk
    obtain ⟨x, hx⟩ : ∃ x, m.st.down k = x := ⟨_, rfl⟩
    rw [hx] at D PU ⊢
    obtain ⟨x1, x2⟩ := x
    clear p e DN hlen hx hc
    have hkI : (k : Int) < len := by omega
    go_enter Tryz.func55, Tryz.ntmps55
    go_wp2_with fail
    refine Calls.mono D.out ?_
    rintro e w1 ⟨rfl, hb⟩
    have B : Hid (Below w.heap.size w w1) := hb
    clear hb D
    go_wp2_with fail
    refine Calls.mono (PU.out _ (B.out.alloc B.out.size _)) ?_
    rintro e w2 ⟨rfl, hm⟩
    have M : Hid _ := hm
    clear hm PU
    go_wp2
    go_ret
    exact ⟨rfl, M.out⟩

set_option maxHeartbeats 400000 in
theorem moves_drop : MovesSays 4 (fun _ s _ => dropS s) := by
  intro h N w m n p
  obtain ⟨ao, cap, cS⟩ := p.stackCell
  have hl := p.ok.stack
  by_cases hc : m.stack.length < 1
  · have e : dropS m.st = (m.st, 0, 3) := by unfold dropS; rw [if_pos (show m.st.stack.length < 1 from hc)]
    simp only [e]
    have K : Hid (∃ m', RStep h N w m w m' ∧ m'.st = m.st) := ⟨m, .refl p, rfl⟩
    obtain ⟨len, hlen⟩ : ∃ len, m.stack.length = len := ⟨_, rfl⟩
    rw [hlen] at hc cS hl
    clear p e hlen
    obtain rfl : len = 0 := by omega
    go_enter Tryz.func55, Tryz.ntmps55
    go_wp2
    go_ret
    exact ⟨rfl, K.out⟩
  · have e : dropS m.st = (m.st.pop 1, 0, 0) := by unfold dropS; rw [if_neg (show ¬ m.st.stack.length < 1 from hc)]
    simp only [e]
    have PO := pop_do p 1 (by omega) (by omega)
    have P : Hid _ := PO
    obtain ⟨len, hlen⟩ : ∃ len, m.stack.length = len := ⟨_, rfl⟩
    rw [hlen] at hc cS hl
    have L : Hid (m.stack.length = len) := hlen
    clear p e hlen PO
    go_enter Tryz.func55, Tryz.ntmps55
    go_wp2_with fail
    refine Calls.mono P.out ?_
    rintro e w1 ⟨rfl, v', hm⟩
    have M : Hid (∃ m', RStep h N w m w1 m' ∧ m'.st = m.st.pop 1) := ⟨_, hm, rfl⟩
    clear hm P
    go_wp2
    go_ret
    exact ⟨rfl, M.out⟩

theorem RPre.globalCell {h N : Nat} {w : World} {m : RefM} (p : RPre h N w m) : ∃ ao cap, w.cell? ⟨h, 8, none⟩ = some (.slice ao m.globals.length cap) := by
  obtain ⟨ao, cap, hv⟩ := own_slice p.r.globals
  exact ⟨ao, cap, by rw [p.r.cell.2.2.2.2.2.2.2.2.1, hv]⟩

/-- the globals' row -/
theorem RefAt.globalView {w : World} {h : Nat} {m : RefM} (r : RefAt w h m) (hs : 0 < m.globals.length) :
    ∃ g cap, m.vG = .slice (some ⟨g, 0, none⟩) m.globals.length cap ∧ g < w.heap.size ∧ g ≠ h ∧ m.vG.ownBlock = some g ∧ (∀ j, w.frozen? ⟨g, j, none⟩ = false) ∧
      ∀ i (hi : i < m.globals.length), w.cell? ⟨g, i * 2, none⟩ = some (.int .i64 (m.globals[i]).1) ∧ w.cell? ⟨g, i * 2 + 1, none⟩ = some (.int .i64 (m.globals[i]).2) := by
  obtain ⟨g, cap, hv, hg, hb, hc, hcell, hf⟩ := own_view r.globals hs
  refine ⟨g, cap, hv, hg, fun e => r.ne (x := vrow m.vG m.globals) (by simp [RefM.rows]) (by rw [← e]; exact hb), hb, hf, fun i hi => ⟨?_, ?_⟩⟩
  · exact hcell _ _ (by have := flat_get valCells 2 (fun _ => rfl) m.globals i 0 (by decide); simpa [hi, valCells] using this)
  · exact hcell _ _ (by have := flat_get valCells 2 (fun _ => rfl) m.globals i 1 (by decide); simpa [hi, valCells] using this)

set_option maxHeartbeats 800000 in
theorem moves_get : MovesSays 5 (fun d s n => getS d s n) := by
  intro h N w m n p
  obtain ⟨ao, cap, cG⟩ := p.globalCell
  have hl := p.ok.globals
  by_cases hc : n < 0 ∨ (m.globals.length : Int) ≤ n
  · have e : getS m.deep m.st n = (m.st, 0, 6) := by unfold getS; exact if_pos hc
    simp only [e]
    have K : Hid (∃ m', RStep h N w m w m' ∧ m'.st = m.st) := ⟨m, .refl p, rfl⟩
    obtain ⟨len, hlen⟩ : ∃ len, m.globals.length = len := ⟨_, rfl⟩
    rw [hlen] at hc cG hl
    clear p e hlen
    rcases hc with hc | hc
    · go_enter Tryz.func55, Tryz.ntmps55
      go_wp2
      go_ret
      exact ⟨rfl, K.out⟩
    · have hn : ¬ n < 0 := by omega
      go_enter Tryz.func55, Tryz.ntmps55
      go_wp2
      go_ret
      exact ⟨rfl, K.out⟩
  · obtain ⟨k, rfl⟩ : ∃ k : Nat, n = k := ⟨n.toNat, by omega⟩
    have hk : k < m.globals.length := by omega
    have e : getS m.deep m.st k = pushA m.deep m.st m.globals[k] := by
      unfold getS
      exact (if_neg hc).trans (by rw [Int.toNat_natCast, List.getD_eq_getElem?_getD]; show pushA _ _ ((m.globals[k]?).getD _) = _; rw [List.getElem?_eq_getElem hk]; rfl)
    simp only [e]
    obtain ⟨g, cap', hv, hg, hgh, _, _, hcell⟩ := p.r.globalView (by omega)
    have cG' : w.cell? ⟨h, 8, none⟩ = some (.slice (some ⟨g, 0, none⟩) m.globals.length cap') := by rw [p.r.cell.2.2.2.2.2.2.2.2.1, hv]
    obtain ⟨c0, c1⟩ := hcell k hk
    have PU := push_do p m.globals[k]
    have P : Hid _ := PU
    obtain ⟨x, hx⟩ : ∃ x, m.globals[k] = x := ⟨_, rfl⟩
    rw [hx] at P c0 c1 ⊢
    obtain ⟨len, hlen⟩ : ∃ len, m.globals.length = len := ⟨_, rfl⟩
    rw [hlen] at hc cG' hl hk
    obtain ⟨x1, x2⟩ := x
    simp only at c0 c1
    clear p e PU hlen hx hc cG hcell hv
    have hkI : (k : Int) < len := by omega
    go_enter Tryz.func55, Tryz.ntmps55
    go_wp2_with fail
    refine Calls.mono P.out ?_
    rintro e w1 ⟨rfl, hm⟩
    have M : Hid _ := hm
    clear hm P
    go_wp2
    go_ret
    exact ⟨rfl, M.out⟩

/-- a global is turned -/
theorem RefAt.globalSet {w : World} {h : Nat} {m : RefM} (r : RefAt w h m) {g cap : Nat} (hv : m.vG = .slice (some ⟨g, 0, none⟩) m.globals.length cap) (k : Nat) (hk : k < m.globals.length) (x : Int × Int) :
    Turn h w m ((w.setCell ⟨g, k * 2, none⟩ (.int .i64 x.1)).setCell ⟨g, k * 2 + 1, none⟩ (.int .i64 x.2)) { m with globals := m.globals.set k x } := by
  have hob : m.vG.ownBlock = some g := by rw [hv]; rfl
  have hgh : g ≠ h := fun e => r.ne (x := vrow m.vG m.globals) (by simp [RefM.rows]) (by rw [← e]; exact hob)
  refine r.turn 3 (vrow m.vG m.globals) (vrow m.vG (m.globals.set k x)) rfl rfl ?_ ?_ ?_ ?_
  · rw [hso (fun e => hgh e.symm), hso (fun e => hgh e.symm)]; exact r.head
  · show (World.setCell _ _ _).ownsRow 0 _ 2 m.vG (m.globals.set k x).length ((m.globals.set k x).flatMap valCells)
    have hi : m.globals[k]? = some m.globals[k] := List.getElem?_eq_getElem hk
    have e1 := flat_set valCells 2 (fun _ => rfl) m.globals k 0 (by decide) _ (.int .i64 x.1) hi (x.1, (m.globals[k]).2) rfl
    have h1 : (m.globals.set k (x.1, (m.globals[k]).2))[k]? = some (x.1, (m.globals[k]).2) := by simp [hk]
    have e2 := flat_set valCells 2 (fun _ => rfl) _ k 1 (by decide) _ (.int .i64 x.2) h1 x rfl
    rw [List.set_set, e1] at e2
    rw [List.length_set, e2, Nat.add_zero]
    have hb := r.globals
    rw [hv] at hb ⊢
    exact ((hb.stored _ _).1.stored _ _).1
  · intro j hj
    exact .inl hj
  · have hm : ∀ y ∈ [g], y ∈ h :: (vrow m.vG m.globals).ob.toList := fun y hy => by simp at hy; subst hy; exact List.mem_cons_of_mem _ (by simp [SRow.ob, vrow, hob])
    exact ((off_setCell w g _ _).mono hm).trans ((off_setCell _ g _ _).mono hm)

set_option maxHeartbeats 1000000 in
theorem moves_set : MovesSays 6 (fun _ s n => setS s n) := by
  intro h N w m n p
  obtain ⟨ao, cap, cG⟩ := p.globalCell
  obtain ⟨so, sc, cS⟩ := p.stackCell
  have hl := p.ok.globals
  have hls := p.ok.stack
  by_cases hc : n < 0 ∨ (m.globals.length : Int) ≤ n
  · have e : setS m.st n = (m.st, 0, 6) := by unfold setS; exact if_pos hc
    simp only [e]
    have K : Hid (∃ m', RStep h N w m w m' ∧ m'.st = m.st) := ⟨m, .refl p, rfl⟩
    obtain ⟨len, hlen⟩ : ∃ len, m.globals.length = len := ⟨_, rfl⟩
    rw [hlen] at hc cG hl
    clear p e hlen
    rcases hc with hc | hc
    · go_enter Tryz.func55, Tryz.ntmps55
      go_wp2
      go_ret
      exact ⟨rfl, K.out⟩
    · have hn : ¬ n < 0 := by omega
      go_enter Tryz.func55, Tryz.ntmps55
      go_wp2
      go_ret
      exact ⟨rfl, K.out⟩
  · obtain ⟨k, rfl⟩ : ∃ k : Nat, n = k := ⟨n.toNat, by omega⟩
    have hk : k < m.globals.length := by omega
    by_cases h0 : m.stack.length < 1
    · have e : setS m.st k = (m.st, 0, 3) := by unfold setS; exact (if_neg hc).trans (if_pos h0)
      simp only [e]
      have K : Hid (∃ m', RStep h N w m w m' ∧ m'.st = m.st) := ⟨m, .refl p, rfl⟩
      obtain ⟨len, hlen⟩ : ∃ len, m.globals.length = len := ⟨_, rfl⟩
      rw [hlen] at hc cG hl hk
      obtain ⟨sl, hsl⟩ : ∃ sl, m.stack.length = sl := ⟨_, rfl⟩
      rw [hsl] at h0 cS hls
      clear p e hlen hc hsl
      obtain rfl : sl = 0 := by omega
      have hkI : (k : Int) < len := by omega
      go_enter Tryz.func55, Tryz.ntmps55
      go_wp2
      go_ret
      exact ⟨rfl, K.out⟩
    · have e : setS m.st k = ({ m.st.pop 1 with globals := m.globals.set k (m.st.down 0) }, 0, 0) := by unfold setS; exact (if_neg hc).trans ((if_neg h0).trans (by rw [Int.toNat_natCast]; rfl))
      simp only [e]
      obtain ⟨g, cap', hv, hg, hgh, _, hfz, hcell⟩ := p.r.globalView (by omega)
      have cG' : w.cell? ⟨h, 8, none⟩ = some (.slice (some ⟨g, 0, none⟩) m.globals.length cap') := by rw [p.r.cell.2.2.2.2.2.2.2.2.1, hv]
      obtain ⟨c0, c1⟩ := hcell k hk
      have hh := lt_of_heap p.r.head
      have DN : Hid (∀ W, Below w.heap.size w W → Calls Tryz.prog 81 #[.pointer (some ⟨h, 0, none⟩), .int .i64 0] W fun e w' => e = .returned (.agg #[.int .i64 (m.st.down 0).1, .int .i64 (m.st.down 0).2]) ∧ Below W.heap.size W w') := fun W hb => down_do (p.below hb) 0 (by show 0 < m.stack.length; omega)
      have FIN : Hid (∀ W, Below w.heap.size w W → RPre h N ((W.setCell ⟨g, k * 2, none⟩ (.int .i64 (m.st.down 0).1)).setCell ⟨g, k * 2 + 1, none⟩ (.int .i64 (m.st.down 0).2)) { m with globals := m.globals.set k (m.st.down 0) } ∧
        RStep h N w m ((W.setCell ⟨g, k * 2, none⟩ (.int .i64 (m.st.down 0).1)).setCell ⟨g, k * 2 + 1, none⟩ (.int .i64 (m.st.down 0).2)) { m with globals := m.globals.set k (m.st.down 0) }) := by
        intro W hb
        have t := Turn.pre p.r hb ((p.below hb).r.globalSet hv k hk (m.st.down 0))
        have s : RStep h N w m _ _ := ⟨t, ⟨p.ok.most, p.ok.len, p.ok.small, p.ok.fields, p.ok.stack, by simpa using p.ok.globals, p.ok.queue⟩, rfl, p.clean⟩
        refine ⟨s.pre p ⟨p.inv.stack, fun v hv => ?_, p.inv.fields, p.inv.len⟩, s⟩
        rcases List.mem_or_eq_of_mem_set hv with e | e
        · exact p.inv.globals v e
        · subst e; exact p.inv.down 0
      have OLD : Hid (∀ W, Below w.heap.size w W → W.cell? ⟨h, 8, none⟩ = some (.slice (some ⟨g, 0, none⟩) m.globals.length cap') ∧ W.cell? ⟨g, k * 2, none⟩ = some (.int .i64 (m.globals[k]).1) ∧ W.cell? ⟨g, k * 2 + 1, none⟩ = some (.int .i64 (m.globals[k]).2) ∧ W.frozen? ⟨g, k * 2, none⟩ = false ∧ W.frozen? ⟨g, k * 2 + 1, none⟩ = false) := fun W hb =>
        ⟨(hb.cell (p := ⟨h, 8, none⟩) hh).trans cG', (hb.cell (p := ⟨g, k * 2, none⟩) hg).trans c0, (hb.cell (p := ⟨g, k * 2 + 1, none⟩) hg).trans c1, (hb.frozen (p := ⟨g, k * 2, none⟩) hg).trans (hfz _), (hb.frozen (p := ⟨g, k * 2 + 1, none⟩) hg).trans (hfz _)⟩
      have hsl : 0 < m.stack.length := by omega
      obtain ⟨x, hx⟩ : ∃ x, m.st.down 0 = x := ⟨_, rfl⟩
      rw [hx] at DN FIN ⊢
      obtain ⟨y, hy⟩ : ∃ y, m.globals[k] = y := ⟨_, rfl⟩
      rw [hy] at c0 c1 OLD
      obtain ⟨x1, x2⟩ := x
      obtain ⟨y1, y2⟩ := y
      have POP : Hid (∀ W, RPre h N W { m with globals := m.globals.set k (x1, x2) } → RStep h N w m W { m with globals := m.globals.set k (x1, x2) } → Calls Tryz.prog 83 #[.pointer (some ⟨h, 0, none⟩), .int .i64 1] W fun e w' => e = .returned (.tuple #[]) ∧ ∃ m', RStep h N w m w' m' ∧ m'.st = { m.st.pop 1 with globals := m.globals.set k (x1, x2) }) :=
        fun W hp hs => (pop_do hp 1 hsl hsl).mono fun e w' ⟨he, v', hs'⟩ => ⟨he, _, hs.trans hs', rfl⟩
      obtain ⟨len, hlen⟩ : ∃ len, m.globals.length = len := ⟨_, rfl⟩
      rw [hlen] at hc cG' hl hk OLD
      obtain ⟨sl, hsl'⟩ : ∃ sl, m.stack.length = sl := ⟨_, rfl⟩
      rw [hsl'] at h0 cS hls hsl
      simp only at *
      clear p e hlen hx hy hc cG hcell hv hfz hsl'
      have hkI : (k : Int) < len := by omega
      go_enter Tryz.func55, Tryz.ntmps55
      go_wp2_with fail
      go_region_with (go_at_call 81; refine (DN.out _ (Below.refl _ _).drew).mono ?_; rintro e w1 ⟨rfl, hb⟩; have B1 : Hid (Below w.heap.size w w1) := ((Below.refl _ _).drew).trans hb; obtain ⟨d0, d1, d2, d3, d4⟩ := OLD.out w1 B1.out; clear hb)
      all_goals
        have FF := FIN.out _ B1.out
        clear d0 d1 d2 d3 d4
        have F1 : Hid _ := FF
        clear FF
        go_wp2_with fail
        refine Calls.mono (POP.out _ F1.out.1 F1.out.2) ?_
        rintro e w2 ⟨rfl, hm⟩
        have M : Hid _ := hm
        clear hm
        go_wp2
        go_ret
        exact ⟨rfl, M.out⟩

end Go.Proofs.YteekoiljkklnmaaGreatDoor

/- OUR OWN. The document's heap: tells, by operation. -/
namespace Go.Proofs.YteekoiljkklnmaaGreatDoor
open Go.RowKit
set_option linter.unusedVariables false
set_option linter.unusedSimpArgs false

def RDid2 (h N : Nat) (w : World) (m : RefM) (p : St × Int × Int) (e : Ending) (w' : World) : Prop := e = .returned (.tuple #[.int .i64 p.2.1, .int .i64 p.2.2]) ∧ ∃ m', RStep h N w m w' m' ∧ m'.st = p.1
def TellsSays (op : Int) (f : St → St × Int × Int) : Prop := ∀ (h N : Nat) (w : World) (m : RefM), RPre h N w m →
  Calls Tryz.prog 54 #[.pointer (some ⟨h, 0, none⟩), .int .i64 op] w (RDid2 h N w m (f m.st))

theorem turn_local {h N L : Nat} {w W w' : World} {m m' : RefM} {ob : Obj} (p : RPre h N w m) (hb : Below w.heap.size w W) (hW : W.heap[L]? = some ob) (hL : w.heap.size ≤ L) (t : Turn h W m w' m') : w'.heap[L]? = some ob := by
  rw [t.off.block L (lt_of_heap hW) ?_]
  · exact hW
  · intro e
    have := p.r.lt L e
    omega

/-- the fields of the object that a reference leads to -/
theorem RPre.obj {h N : Nat} {w : World} {m : RefM} (p : RPre h N w m) (b : Int) (hb : 1 ≤ b ∧ b ≤ N) : ∃ (i : Nat) (hi : i < m.objs.length), b = i ∧ i ≤ N ∧ m.st.fields b = (m.objs[i]).fs := by
  refine ⟨b.toNat, by rw [p.ok.len]; omega, by omega, by omega, ?_⟩
  unfold St.fields
  rw [st_ob (List.getElem?_eq_getElem (by rw [p.ok.len]; omega))]
  rfl

theorem ref_of {N : Nat} {v : Int × Int} (h : okV N v) (he : objErr v = 0) : 1 ≤ v.2 ∧ v.2 ≤ N := by
  unfold objErr at he
  rcases h with h | h | h
  · rw [if_pos h] at he; omega
  · rw [if_neg (by omega), if_pos h] at he; omega
  · exact h

set_option maxHeartbeats 800000 in
theorem tells_empty (op : Int) (h N : Nat) (w : World) (m : RefM) (p : RPre h N w m) (hc : m.stack.length < 1) :
    Calls Tryz.prog 54 #[.pointer (some ⟨h, 0, none⟩), .int .i64 op] w (RDid2 h N w m (m.st, 0, 3)) := by
  obtain ⟨ao, cap, cS⟩ := p.stackCell
  have K : Hid (∃ m', RStep h N w m w m' ∧ m'.st = m.st) := ⟨m, .refl p, rfl⟩
  obtain ⟨len, hlen⟩ : ∃ len, m.stack.length = len := ⟨_, rfl⟩
  rw [hlen] at hc cS
  clear p hlen
  obtain rfl : len = 0 := by omega
  go_enter Tryz.func54, Tryz.ntmps54
  go_wp2
  go_ret2
  exact ⟨rfl, K.out⟩

set_option maxHeartbeats 800000 in
theorem tells_kind : TellsSays 12 kindS := by
  intro h N w m p
  by_cases hc : m.stack.length < 1
  · have e : kindS m.st = (m.st, 0, 3) := by unfold kindS; exact if_pos hc
    rw [e]
    exact tells_empty 12 h N w m p hc
  · have e : kindS m.st = (m.st, (m.st.down 0).1, 0) := by unfold kindS; exact if_neg hc
    rw [e]
    obtain ⟨ao, cap, cS⟩ := p.stackCell
    have DN := down_do p 0 (by omega)
    have D : Hid _ := DN
    have K : Hid (∀ W, Below w.heap.size w W → ∃ m', RStep h N w m W m' ∧ m'.st = m.st) := fun W hb => ⟨m, .of_below p hb, rfl⟩
    obtain ⟨len, hlen⟩ : ∃ len, m.stack.length = len := ⟨_, rfl⟩
    rw [hlen] at hc cS
    obtain ⟨x, hx⟩ : ∃ x, m.st.down 0 = x := ⟨_, rfl⟩
    rw [hx] at D ⊢
    obtain ⟨x1, x2⟩ := x
    clear p hlen e DN hx
    have hcI : ¬ (len : Int) < 1 := by omega
    go_enter Tryz.func54, Tryz.ntmps54
    go_wp2_with fail
    refine Calls.mono D.out ?_
    rintro e w1 ⟨rfl, hb⟩
    have B : Hid (Below w.heap.size w w1) := hb
    clear hb D
    go_wp2
    go_ret2
    exact ⟨rfl, K.out _ (B.out.alloc B.out.size _)⟩

set_option maxHeartbeats 800000 in
theorem tells_size : TellsSays 11 sizeS := by
  intro h N w m p
  by_cases hc : m.stack.length < 1
  · have e : sizeS m.st = (m.st, 0, 3) := by unfold sizeS; exact if_pos hc
    rw [e]
    exact tells_empty 11 h N w m p hc
  · obtain ⟨ao, cap, cS⟩ := p.stackCell
    have DN := down_do p 0 (by omega)
    have D : Hid _ := DN
    have K : Hid (∀ W, Below w.heap.size w W → ∃ m', RStep h N w m W m' ∧ m'.st = m.st) := fun W hb => ⟨m, .of_below p hb, rfl⟩
    have hv := p.inv.down 0
    by_cases he : objErr (m.st.down 0) ≠ 0
    · have e : sizeS m.st = (m.st, 0, objErr (m.st.down 0)) := by unfold sizeS; exact (if_neg hc).trans (if_pos he)
      rw [e]
      obtain ⟨len, hlen⟩ : ∃ len, m.stack.length = len := ⟨_, rfl⟩
      rw [hlen] at hc cS
      obtain ⟨x, hx⟩ : ∃ x, m.st.down 0 = x := ⟨_, rfl⟩
      rw [hx] at D he ⊢
      obtain ⟨x1, x2⟩ := x
      have OB := object_any (x1, x2)
      have O : Hid (∀ W, Calls Tryz.prog 82 #[.agg #[.int .i64 x1, .int .i64 x2]] W fun e w' => e = .returned (.int .i64 (objErr (x1, x2))) ∧ Below W.heap.size W w') := OB
      obtain ⟨er, her⟩ : ∃ er, objErr (x1, x2) = er := ⟨_, rfl⟩
      rw [her] at he O ⊢
      have he2 : (er == 0) = false := by simpa using he
      clear p hlen e DN hx hv OB her
      have hcI : ¬ (len : Int) < 1 := by omega
      go_enter Tryz.func54, Tryz.ntmps54
      go_wp2_with fail
      refine Calls.mono D.out ?_
      rintro e w1 ⟨rfl, hb⟩
      have B : Hid (Below w.heap.size w w1) := hb
      clear hb D
      go_wp2_with fail
      refine Calls.mono (O.out _) ?_
      rintro e w2 ⟨rfl, hb⟩
      have B2 : Hid (Below w.heap.size w w2) := (B.out.alloc B.out.size _).trans (hb.mono (by simp; have := B.out.size; omega))
      clear hb O
      go_wp2
      go_ret2
      exact ⟨rfl, K.out _ B2.out⟩
    · have he : objErr (m.st.down 0) = 0 := by omega
      have e : sizeS m.st = (m.st, ((m.st.fields (m.st.down 0).2).length : Int), 0) := by unfold sizeS; exact (if_neg hc).trans (if_neg (by omega))
      rw [e]
      obtain ⟨i, hi, hbi, hiN, hfs⟩ := p.obj _ (ref_of hv he)
      obtain ⟨g, capB, hvB, hg, _, _, _, hobj⟩ := p.r.view p.ok
      have cB : w.cell? ⟨h, 5, none⟩ = some (.slice (some ⟨g, 0, none⟩) (N + 1) capB) := by rw [p.r.cell.2.2.2.2.2.1, hvB]
      have c1 := (hobj i hi).2.1
      obtain ⟨fo, fc, hvF⟩ := own_slice (p.r.fields _ (List.getElem_mem hi))
      rw [hvF] at c1
      rw [hfs]
      have hh := lt_of_heap p.r.head
      obtain ⟨fl, hfl⟩ : ∃ fl, (m.objs[i]).fs.length = fl := ⟨_, rfl⟩
      rw [hfl] at c1 ⊢
      obtain ⟨len, hlen⟩ : ∃ len, m.stack.length = len := ⟨_, rfl⟩
      rw [hlen] at hc cS
      obtain ⟨x, hx⟩ : ∃ x, m.st.down 0 = x := ⟨_, rfl⟩
      rw [hx] at D he hbi
      obtain ⟨x1, x2⟩ := x
      simp only at hbi
      subst hbi
      have OB := object_any (x1, (i : Int))
      have O : Hid (∀ W, Calls Tryz.prog 82 #[.agg #[.int .i64 x1, .int .i64 i]] W fun e w' => e = .returned (.int .i64 0) ∧ Below W.heap.size W w') := fun W => (OB W).mono fun e w' ⟨h1, h2⟩ => ⟨h1.trans (ret_int he), h2⟩
      have OLD : Hid (∀ W, Below w.heap.size w W → W.cell? ⟨h, 5, none⟩ = some (.slice (some ⟨g, 0, none⟩) (N + 1) capB) ∧ W.cell? ⟨g, i * 4 + 1, none⟩ = some (.slice fo fl fc)) := fun W hb =>
        ⟨(hb.cell (p := ⟨h, 5, none⟩) hh).trans cB, (hb.cell (p := ⟨g, i * 4 + 1, none⟩) hg).trans c1⟩
      have hN := p.ok.small
      clear p hlen e DN hx hv OB he hfs hobj hvB hvF hfl cB c1
      have hcI : ¬ (len : Int) < 1 := by omega
      have hiI : (i : Int) < (N : Int) + 1 := by omega
      go_enter Tryz.func54, Tryz.ntmps54
      go_wp2_with fail
      refine Calls.mono D.out ?_
      rintro e w1 ⟨rfl, hb⟩
      have B : Hid (Below w.heap.size w w1) := hb
      clear hb D
      go_wp2_with fail
      refine Calls.mono (O.out _) ?_
      rintro e w2 ⟨rfl, hb⟩
      have B2 : Hid (Below w.heap.size w w2) := (B.out.alloc B.out.size _).trans (hb.mono (by simp; have := B.out.size; omega))
      have l1 : w2.cell? ⟨w1.heap.size, 1, none⟩ = some (.int .i64 i) := cell_of_heap (boxed' hb) rfl
      obtain ⟨d0, d1⟩ := OLD.out w2 B2.out
      clear hb O
      go_wp2
      go_quiet (fail)
      go_wp2
      go_ret2
      exact ⟨rfl, K.out _ (below_drewN B2.out _)⟩

set_option maxHeartbeats 800000 in
theorem tells_take : TellsSays 10 takeS := by
  intro h N w m p
  by_cases hc : m.stack.length < 1
  · have e : takeS m.st = (m.st, 0, 3) := by unfold takeS; exact if_pos hc
    rw [e]
    exact tells_empty 10 h N w m p hc
  · obtain ⟨ao, cap, cS⟩ := p.stackCell
    have DN := down_do p 0 (by omega)
    have D : Hid _ := DN
    have K : Hid (∀ W, Below w.heap.size w W → ∃ m', RStep h N w m W m' ∧ m'.st = m.st) := fun W hb => ⟨m, .of_below p hb, rfl⟩
    by_cases he : (m.st.down 0).1 = 1
    · have e : takeS m.st = (m.st.pop 1, (m.st.down 0).2, 0) := by unfold takeS; exact (if_neg hc).trans (if_pos he)
      rw [e]
      have POP : Hid (∀ W, Below w.heap.size w W → Calls Tryz.prog 83 #[.pointer (some ⟨h, 0, none⟩), .int .i64 1] W fun e w' => e = .returned (.tuple #[]) ∧ (∃ m', RStep h N w m w' m' ∧ m'.st = m.st.pop 1) ∧ ∀ L ob, w.heap.size ≤ L → W.heap[L]? = some ob → w'.heap[L]? = some ob) :=
        fun W hb => (pop_do (p.below hb) 1 (by omega) (by omega)).mono fun e w' ⟨he, v', hs⟩ => ⟨he, ⟨_, (RStep.of_below p hb).trans hs, rfl⟩, fun L ob hL hW => turn_local p hb hW hL hs.turn⟩
      obtain ⟨len, hlen⟩ : ∃ len, m.stack.length = len := ⟨_, rfl⟩
      rw [hlen] at hc cS
      obtain ⟨x, hx⟩ : ∃ x, m.st.down 0 = x := ⟨_, rfl⟩
      rw [hx] at D he ⊢
      obtain ⟨x1, x2⟩ := x
      simp only at he
      subst he
      clear p hlen e DN hx K
      have hcI : ¬ (len : Int) < 1 := by omega
      go_enter Tryz.func54, Tryz.ntmps54
      go_wp2_with fail
      refine Calls.mono D.out ?_
      rintro e w1 ⟨rfl, hb⟩
      have B : Hid (Below w.heap.size w w1) := hb
      clear hb D
      go_wp2_with fail
      refine Calls.mono (POP.out _ (B.out.alloc B.out.size _)) ?_
      rintro e w2 ⟨rfl, hm, hloc⟩
      have l0 := hloc w1.heap.size _ B.out.size (heap_alloc_new w1 _)
      have l1 : w2.cell? ⟨w1.heap.size, 1, none⟩ = some (.int .i64 x2) := cell_of_heap l0 rfl
      have M : Hid _ := hm
      clear hm hloc l0 POP B
      go_wp2
      go_ret2
      exact ⟨rfl, M.out⟩
    · have e : takeS m.st = (m.st, 0, 5) := by unfold takeS; exact (if_neg hc).trans (if_neg he)
      rw [e]
      obtain ⟨len, hlen⟩ : ∃ len, m.stack.length = len := ⟨_, rfl⟩
      rw [hlen] at hc cS
      obtain ⟨x, hx⟩ : ∃ x, m.st.down 0 = x := ⟨_, rfl⟩
      rw [hx] at D he
      obtain ⟨x1, x2⟩ := x
      simp only at he
      have he2 : (x1 == 1) = false := by simpa using he
      clear p hlen e DN hx
      have hcI : ¬ (len : Int) < 1 := by omega
      go_enter Tryz.func54, Tryz.ntmps54
      go_wp2_with fail
      refine Calls.mono D.out ?_
      rintro e w1 ⟨rfl, hb⟩
      have B : Hid (Below w.heap.size w w1) := hb
      clear hb D
      go_wp2
      go_ret2
      exact ⟨rfl, K.out _ (B.out.alloc B.out.size _)⟩

set_option maxHeartbeats 1000000 in
theorem tells_same : TellsSays 9 sameS := by
  intro h N w m p
  by_cases hc0 : m.stack.length < 1
  · have e : sameS m.st = (m.st, 0, 3) := by unfold sameS; exact if_pos (by show m.stack.length < 2; omega)
    rw [e]
    exact tells_empty 9 h N w m p hc0
  · obtain ⟨ao, cap, cS⟩ := p.stackCell
    by_cases hc : m.stack.length < 2
    · have e : sameS m.st = (m.st, 0, 3) := by unfold sameS; exact if_pos hc
      rw [e]
      have K : Hid (∃ m', RStep h N w m w m' ∧ m'.st = m.st) := ⟨m, .refl p, rfl⟩
      obtain ⟨len, hlen⟩ : ∃ len, m.stack.length = len := ⟨_, rfl⟩
      rw [hlen] at hc cS hc0
      clear p hlen e
      obtain rfl : len = 1 := by omega
      go_enter Tryz.func54, Tryz.ntmps54
      go_wp2
      go_ret2
      exact ⟨rfl, K.out⟩
    · have D0 : Hid _ := down_do p 0 (by omega)
      have D1 : Hid (∀ W, Below w.heap.size w W → Calls Tryz.prog 81 #[.pointer (some ⟨h, 0, none⟩), .int .i64 1] W fun e w' => e = .returned (.agg #[.int .i64 (m.st.down 1).1, .int .i64 (m.st.down 1).2]) ∧ Below W.heap.size W w') := fun W hb => down_do (p.below hb) 1 (by show 1 < m.stack.length; omega)
      have POP : Hid (∀ W, Below w.heap.size w W → Calls Tryz.prog 83 #[.pointer (some ⟨h, 0, none⟩), .int .i64 2] W fun e w' => e = .returned (.tuple #[]) ∧ (∃ m', RStep h N w m w' m' ∧ m'.st = m.st.pop 2) ∧ ∀ L ob, w.heap.size ≤ L → W.heap[L]? = some ob → w'.heap[L]? = some ob) :=
        fun W hb => (pop_do (p.below hb) 2 (by omega) (by omega)).mono fun e w' ⟨he, v', hs⟩ => ⟨he, ⟨_, (RStep.of_below p hb).trans hs, rfl⟩, fun L ob hL hW => turn_local p hb hW hL hs.turn⟩
      obtain ⟨x, hx⟩ : ∃ x, m.st.down 0 = x := ⟨_, rfl⟩
      obtain ⟨y, hy⟩ : ∃ y, m.st.down 1 = y := ⟨_, rfl⟩
      have e : sameS m.st = (m.st.pop 2, if x = y then 1 else 0, 0) := by
        unfold sameS
        refine (if_neg hc).trans ?_
        rw [hx, hy]
        by_cases hxy : x = y
        · rw [if_pos hxy, if_pos hxy]
        · rw [if_neg hxy, if_neg hxy]
      rw [e]
      rw [hx] at D0
      rw [hy] at D1
      obtain ⟨len, hlen⟩ : ∃ len, m.stack.length = len := ⟨_, rfl⟩
      rw [hlen] at hc cS hc0
      clear p hlen e hx hy
      have hcI : ¬ (len : Int) < 1 := by omega
      have hcJ : ¬ (len : Int) < 2 := by omega
      obtain ⟨x1, x2⟩ := x
      obtain ⟨y1, y2⟩ := y
      by_cases hxy : (x1, x2) = (y1, y2)
      · rw [if_pos hxy]
        simp only [Prod.mk.injEq] at hxy
        obtain ⟨rfl, rfl⟩ := hxy
        go_enter Tryz.func54, Tryz.ntmps54
        go_wp2_with fail
        refine Calls.mono D0.out ?_
        rintro e w1 ⟨rfl, hb⟩
        have B : Hid (Below w.heap.size w w1) := hb
        clear hb D0
        go_wp2_with fail
        refine Calls.mono (D1.out _ (B.out.alloc B.out.size _)) ?_
        rintro e w2 ⟨rfl, hb⟩
        have B2 : Hid (Below w.heap.size w w2 ∧ w1.heap.size + 1 ≤ w2.heap.size ∧ w2.heap[w1.heap.size]? = some (.cells #[.int .i64 x1, .int .i64 x2] 78)) := ⟨(B.out.alloc B.out.size _).trans (hb.mono (by simp; have := B.out.size; omega)), by have := hb.size; simpa using this, boxed' hb⟩
        clear hb D1
        go_wp2_with fail
        refine Calls.mono (POP.out _ (B2.out.1.alloc B2.out.1.size _)) ?_
        rintro e w3 ⟨rfl, hm, hloc⟩
        have l0 := hloc w1.heap.size _ B.out.size (by rw [hao (by have := B2.out.2.1; omega)]; exact B2.out.2.2)
        have k0 := hloc w2.heap.size _ B2.out.1.size (heap_alloc_new w2 _)
        have l1 : w3.cell? ⟨w1.heap.size, 0, none⟩ = some (.int .i64 x1) := cell_of_heap l0 rfl
        have l2 : w3.cell? ⟨w1.heap.size, 1, none⟩ = some (.int .i64 x2) := cell_of_heap l0 rfl
        have k1 : w3.cell? ⟨w2.heap.size, 0, none⟩ = some (.int .i64 x1) := cell_of_heap k0 rfl
        have k2 : w3.cell? ⟨w2.heap.size, 1, none⟩ = some (.int .i64 x2) := cell_of_heap k0 rfl
        have M : Hid _ := hm
        clear hm hloc l0 k0 POP B B2
        go_wp2
        go_ret2
        exact ⟨rfl, M.out⟩
      · rw [if_neg hxy]
        have hxy2 : ¬ (x1 = y1 ∧ x2 = y2) := by simpa using hxy
        clear hxy
        go_enter Tryz.func54, Tryz.ntmps54
        go_wp2_with fail
        refine Calls.mono D0.out ?_
        rintro e w1 ⟨rfl, hb⟩
        have B : Hid (Below w.heap.size w w1) := hb
        clear hb D0
        go_wp2_with fail
        refine Calls.mono (D1.out _ (B.out.alloc B.out.size _)) ?_
        rintro e w2 ⟨rfl, hb⟩
        have B2 : Hid (Below w.heap.size w w2 ∧ w1.heap.size + 1 ≤ w2.heap.size ∧ w2.heap[w1.heap.size]? = some (.cells #[.int .i64 x1, .int .i64 x2] 78)) := ⟨(B.out.alloc B.out.size _).trans (hb.mono (by simp; have := B.out.size; omega)), by have := hb.size; simpa using this, boxed' hb⟩
        clear hb D1
        go_wp2_with fail
        refine Calls.mono (POP.out _ (B2.out.1.alloc B2.out.1.size _)) ?_
        rintro e w3 ⟨rfl, hm, hloc⟩
        have l0 := hloc w1.heap.size _ B.out.size (by rw [hao (by have := B2.out.2.1; omega)]; exact B2.out.2.2)
        have k0 := hloc w2.heap.size _ B2.out.1.size (heap_alloc_new w2 _)
        have l1 : w3.cell? ⟨w1.heap.size, 0, none⟩ = some (.int .i64 x1) := cell_of_heap l0 rfl
        have l2 : w3.cell? ⟨w1.heap.size, 1, none⟩ = some (.int .i64 x2) := cell_of_heap l0 rfl
        have k1 : w3.cell? ⟨w2.heap.size, 0, none⟩ = some (.int .i64 y1) := cell_of_heap k0 rfl
        have k2 : w3.cell? ⟨w2.heap.size, 1, none⟩ = some (.int .i64 y2) := cell_of_heap k0 rfl
        have M : Hid _ := hm
        clear hm hloc l0 k0 POP B B2
        by_cases q1 : x1 = y1
        · have q2 : ¬ x2 = y2 := fun e => hxy2 ⟨q1, e⟩
          have q3 : (x2 == y2) = false := by simpa using q2
          subst q1
          clear hxy2
          go_wp2
          go_ret2
          exact ⟨rfl, M.out⟩
        · have q3 : (x1 == y1) = false := by simpa using q1
          clear hxy2
          go_wp2
          all_goals go_ret2
          all_goals exact ⟨rfl, M.out⟩

end Go.Proofs.YteekoiljkklnmaaGreatDoor

/- OUR OWN. The document's heap: loaded. -/
namespace Go.Proofs.YteekoiljkklnmaaGreatDoor
open Go.RowKit
set_option linter.unusedVariables false
set_option linter.unusedSimpArgs false

/-- the fields' row of the object in block i -/
theorem RefAt.fieldView {w : World} {h : Nat} {m : RefM} (r : RefAt w h m) (i : Nat) (hi : i < m.objs.length) (hs : 0 < (m.objs[i]).fs.length) :
    ∃ g cap, (m.objs[i]).vF = .slice (some ⟨g, 0, none⟩) (m.objs[i]).fs.length cap ∧ g < w.heap.size ∧ g ≠ h ∧ (m.objs[i]).vF.ownBlock = some g ∧ (∀ j, w.frozen? ⟨g, j, none⟩ = false) ∧
      ∀ j (hj : j < (m.objs[i]).fs.length), w.cell? ⟨g, j * 2, none⟩ = some (.int .i64 ((m.objs[i]).fs[j]).1) ∧ w.cell? ⟨g, j * 2 + 1, none⟩ = some (.int .i64 ((m.objs[i]).fs[j]).2) := by
  obtain ⟨g, cap, hv, hg, hb, hc, hcell, hf⟩ := own_view (r.fields _ (List.getElem_mem hi)) hs
  refine ⟨g, cap, hv, hg, fun e => r.ne (x := (m.objs[i]).row) (by simp only [RefM.rows, List.mem_cons, List.mem_map]; exact .inr (.inr (.inr (.inr ⟨_, List.getElem_mem hi, rfl⟩)))) (by rw [← e]; exact hb), hb, hf, fun j hj => ⟨?_, ?_⟩⟩
  · exact hcell _ _ (by have := flat_get valCells 2 (fun _ => rfl) (m.objs[i]).fs j 0 (by decide); simpa [hj, valCells] using this)
  · exact hcell _ _ (by have := flat_get valCells 2 (fun _ => rfl) (m.objs[i]).fs j 1 (by decide); simpa [hj, valCells] using this)

def LoadSays : Prop := ∀ (h N : Nat) (w : World) (m : RefM) (n : Int), RPre h N w m →
  Calls Tryz.prog 52 #[.pointer (some ⟨h, 0, none⟩), .int .i64 n] w (RDid h N w m (loadS m.deep m.st n))

set_option maxHeartbeats 1600000 in
theorem loaded_any : LoadSays := by
  intro h N w m n p
  obtain ⟨ao, cap, cS⟩ := p.stackCell
  by_cases hc : m.stack.length < 1
  · have e : loadS m.deep m.st n = (m.st, 0, 3) := by unfold loadS; exact if_pos hc
    rw [e]
    have K : Hid (∃ m', RStep h N w m w m' ∧ m'.st = m.st) := ⟨m, .refl p, rfl⟩
    obtain ⟨len, hlen⟩ : ∃ len, m.stack.length = len := ⟨_, rfl⟩
    rw [hlen] at hc cS
    clear p hlen e
    obtain rfl : len = 0 := by omega
    go_enter Tryz.func52, Tryz.ntmps52
    go_wp2
    go_ret
    exact ⟨rfl, K.out⟩
  have D : Hid _ := down_do p 0 (by omega)
  have K : Hid (∀ W, Below w.heap.size w W → ∃ m', RStep h N w m W m' ∧ m'.st = m.st) := fun W hb => ⟨m, .of_below p hb, rfl⟩
  have hv := p.inv.down 0
  have hcI0 : ¬ (m.stack.length : Int) < 1 := by omega
  by_cases he : objErr (m.st.down 0) ≠ 0
  · have e : loadS m.deep m.st n = (m.st, 0, objErr (m.st.down 0)) := by unfold loadS; exact (if_neg hc).trans (if_pos he)
    rw [e]
    obtain ⟨len, hlen⟩ : ∃ len, m.stack.length = len := ⟨_, rfl⟩
    rw [hlen] at hc cS hcI0
    obtain ⟨x, hx⟩ : ∃ x, m.st.down 0 = x := ⟨_, rfl⟩
    rw [hx] at D he ⊢
    obtain ⟨x1, x2⟩ := x
    have O : Hid (∀ W, Calls Tryz.prog 82 #[.agg #[.int .i64 x1, .int .i64 x2]] W fun e w' => e = .returned (.int .i64 (objErr (x1, x2))) ∧ Below W.heap.size W w') := object_any (x1, x2)
    obtain ⟨er, her⟩ : ∃ er, objErr (x1, x2) = er := ⟨_, rfl⟩
    rw [her] at he O ⊢
    have he2 : (er == 0) = false := by simpa using he
    clear p hlen e hx hv her
    go_enter Tryz.func52, Tryz.ntmps52
    go_wp2_with fail
    refine Calls.mono D.out ?_
    rintro e w1 ⟨rfl, hb⟩
    have B : Hid (Below w.heap.size w w1) := hb
    clear hb D
    go_wp2_with fail
    refine Calls.mono (O.out _) ?_
    rintro e w2 ⟨rfl, hb⟩
    have B2 : Hid (Below w.heap.size w w2) := (B.out.alloc B.out.size _).trans (hb.mono (by simp; have := B.out.size; omega))
    clear hb O
    go_wp2
    go_ret
    exact ⟨rfl, K.out _ B2.out⟩
  have he : objErr (m.st.down 0) = 0 := by omega
  obtain ⟨i, hi, hbi, hiN, hfs⟩ := p.obj _ (ref_of hv he)
  obtain ⟨g, capB, hvB, hg, _, _, _, hobj⟩ := p.r.view p.ok
  have cB : w.cell? ⟨h, 5, none⟩ = some (.slice (some ⟨g, 0, none⟩) (N + 1) capB) := by rw [p.r.cell.2.2.2.2.2.1, hvB]
  have c1 := (hobj i hi).2.1
  have hh := lt_of_heap p.r.head
  have hN := p.ok.small
  have hiI : (i : Int) < (N : Int) + 1 := by omega
  by_cases hr : n < 0 ∨ ((m.objs[i]).fs.length : Int) ≤ n
  · have e : loadS m.deep m.st n = (m.st, 0, 6) := by unfold loadS; exact (if_neg hc).trans ((if_neg (by omega)).trans (if_pos (by rw [hfs]; exact hr)))
    rw [e]
    obtain ⟨fo, fc, hvF⟩ := own_slice (p.r.fields _ (List.getElem_mem hi))
    rw [hvF] at c1
    obtain ⟨fl, hfl⟩ : ∃ fl, (m.objs[i]).fs.length = fl := ⟨_, rfl⟩
    rw [hfl] at c1 hr
    obtain ⟨len, hlen⟩ : ∃ len, m.stack.length = len := ⟨_, rfl⟩
    rw [hlen] at hc cS hcI0
    obtain ⟨x, hx⟩ : ∃ x, m.st.down 0 = x := ⟨_, rfl⟩
    rw [hx] at D he hbi
    obtain ⟨x1, x2⟩ := x
    simp only at hbi
    subst hbi
    have O : Hid (∀ W, Calls Tryz.prog 82 #[.agg #[.int .i64 x1, .int .i64 i]] W fun e w' => e = .returned (.int .i64 0) ∧ Below W.heap.size W w') := fun W => (object_any (x1, (i : Int)) W).mono fun e w' ⟨h1, h2⟩ => ⟨h1.trans (ret_int he), h2⟩
    have OLD : Hid (∀ W, Below w.heap.size w W → W.cell? ⟨h, 5, none⟩ = some (.slice (some ⟨g, 0, none⟩) (N + 1) capB) ∧ W.cell? ⟨g, i * 4 + 1, none⟩ = some (.slice fo fl fc)) := fun W hb =>
      ⟨(hb.cell (p := ⟨h, 5, none⟩) hh).trans cB, (hb.cell (p := ⟨g, i * 4 + 1, none⟩) hg).trans c1⟩
    clear p hlen e hx hv he hfs hobj hvB hvF hfl cB c1
    rcases hr with hr | hr
    · have hd : decide (n < 0) = true := by simpa using hr
      go_enter Tryz.func52, Tryz.ntmps52
      go_wp2_with fail
      refine Calls.mono D.out ?_
      rintro e w1 ⟨rfl, hb⟩
      have B : Hid (Below w.heap.size w w1) := hb
      clear hb D
      go_wp2_with fail
      refine Calls.mono (O.out _) ?_
      rintro e w2 ⟨rfl, hb⟩
      have B2 : Hid (Below w.heap.size w w2) := (B.out.alloc B.out.size _).trans (hb.mono (by simp; have := B.out.size; omega))
      have l1 : w2.cell? ⟨w1.heap.size, 1, none⟩ = some (.int .i64 i) := cell_of_heap (boxed' hb) rfl
      obtain ⟨d0, d1⟩ := OLD.out w2 B2.out
      clear hb O
      go_wp2_with fail
      go_quiet (fail)
      go_wp2
      go_ret
      exact ⟨rfl, K.out _ (below_drewN B2.out _)⟩
    · have hn0 : ¬ n < 0 := by omega
      have hd : decide (n < 0) = false := by simpa using hn0
      go_enter Tryz.func52, Tryz.ntmps52
      go_wp2_with fail
      refine Calls.mono D.out ?_
      rintro e w1 ⟨rfl, hb⟩
      have B : Hid (Below w.heap.size w w1) := hb
      clear hb D
      go_wp2_with fail
      refine Calls.mono (O.out _) ?_
      rintro e w2 ⟨rfl, hb⟩
      have B2 : Hid (Below w.heap.size w w2) := (B.out.alloc B.out.size _).trans (hb.mono (by simp; have := B.out.size; omega))
      have l1 : w2.cell? ⟨w1.heap.size, 1, none⟩ = some (.int .i64 i) := cell_of_heap (boxed' hb) rfl
      obtain ⟨d0, d1⟩ := OLD.out w2 B2.out
      clear hb O
      go_wp2_with fail
      go_quiet (fail)
      go_wp2
      go_ret
      exact ⟨rfl, K.out _ (below_drewN B2.out _)⟩
  obtain ⟨k, rfl⟩ : ∃ k : Nat, n = k := ⟨n.toNat, by omega⟩
  have hk : k < (m.objs[i]).fs.length := by omega
  have e : loadS m.deep m.st k = pushA m.deep (m.st.pop 1) ((m.objs[i]).fs[k]) := by
    unfold loadS
    refine (if_neg hc).trans ((if_neg (by omega)).trans ((if_neg (by rw [hfs]; exact hr)).trans ?_))
    rw [hfs, Int.toNat_natCast, List.getD_eq_getElem?_getD, List.getElem?_eq_getElem hk]
    rfl
  rw [e]
  obtain ⟨fg, fc, hvF, hfg, hfgh, hfob, _, hfc⟩ := p.r.fieldView i hi (by omega)
  rw [hvF] at c1
  obtain ⟨v0, v1⟩ := hfc k hk
  obtain ⟨fl, hfl⟩ : ∃ fl, (m.objs[i]).fs.length = fl := ⟨_, rfl⟩
  rw [hfl] at c1
  have hkl : k < fl := by omega
  -- what stays behind the pop: the blocks' row, the fields' row
  have AFTER : Hid (∀ W, Below w.heap.size w W → Calls Tryz.prog 83 #[.pointer (some ⟨h, 0, none⟩), .int .i64 1] W fun e w' => e = .returned (.tuple #[]) ∧
      (w'.cell? ⟨h, 5, none⟩ = some (.slice (some ⟨g, 0, none⟩) (N + 1) capB) ∧ w'.cell? ⟨g, i * 4 + 1, none⟩ = some (.slice (some ⟨fg, 0, none⟩) fl fc) ∧ w'.cell? ⟨fg, k * 2, none⟩ = some (.int .i64 ((m.objs[i]).fs[k]).1) ∧ w'.cell? ⟨fg, k * 2 + 1, none⟩ = some (.int .i64 ((m.objs[i]).fs[k]).2)) ∧
      (∀ W2, Below w'.heap.size w' W2 → Calls Tryz.prog 80 #[.pointer (some ⟨h, 0, none⟩), .agg #[.int .i64 ((m.objs[i]).fs[k]).1, .int .i64 ((m.objs[i]).fs[k]).2]] W2 (fun e w'' => RDid h N w m (pushA m.deep (m.st.pop 1) ((m.objs[i]).fs[k])) e w'')) ∧
      ∀ L ob, w.heap.size ≤ L → W.heap[L]? = some ob → w'.heap[L]? = some ob) := by
    intro W hb
    refine (pop_do (p.below hb) 1 (by omega) (by omega)).mono ?_
    rintro e w' ⟨he, v', hs⟩
    have s1 : RStep h N w m w' _ := (RStep.of_below p hb).trans hs
    have p1 : RPre h N w' _ := s1.pre p (by exact (p.inv.pop 1))
    have hob1 := p1.r.view p1.ok
    obtain ⟨g2, cap2, hvB2, _, _, _, _, hobj2⟩ := hob1
    have heq : (Value.slice (some ⟨g2, 0, none⟩) (N + 1) cap2) = .slice (some ⟨g, 0, none⟩) (N + 1) capB := hvB2.symm.trans hvB
    simp at heq
    obtain ⟨rfl, rfl⟩ := heq
    obtain ⟨fg2, fc2, hvF2, _, _, _, _, hfc2⟩ := p1.r.fieldView i hi (by show 0 < (m.objs[i]).fs.length; omega)
    have heq2 : (Value.slice (some ⟨fg2, 0, none⟩) (m.objs[i]).fs.length fc2) = .slice (some ⟨fg, 0, none⟩) (m.objs[i]).fs.length fc := hvF2.symm.trans hvF
    simp at heq2
    obtain ⟨rfl, rfl⟩ := heq2
    refine ⟨he, ⟨by rw [p1.r.cell.2.2.2.2.2.1]; exact congrArg some hvB, ?_, (hfc2 k hk).1, (hfc2 k hk).2⟩, fun W2 hb2 => ?_, fun L ob hL hW => turn_local p hb hW hL hs.turn⟩
    · rw [(hobj2 i hi).2.1, ← hfl]; exact congrArg some hvF
    · exact (push_do (p1.below hb2) _).mono fun e w'' ⟨he, m', hs', hm⟩ => ⟨he, m', s1.trans ((RStep.of_below p1 hb2).trans hs'), hm⟩
  obtain ⟨len, hlen⟩ : ∃ len, m.stack.length = len := ⟨_, rfl⟩
  rw [hlen] at hc cS hcI0
  obtain ⟨x, hx⟩ : ∃ x, m.st.down 0 = x := ⟨_, rfl⟩
  rw [hx] at D he hbi
  obtain ⟨x1, x2⟩ := x
  simp only at hbi
  subst hbi
  have O : Hid (∀ W, Calls Tryz.prog 82 #[.agg #[.int .i64 x1, .int .i64 i]] W fun e w' => e = .returned (.int .i64 0) ∧ Below W.heap.size W w') := fun W => (object_any (x1, (i : Int)) W).mono fun e w' ⟨h1, h2⟩ => ⟨h1.trans (ret_int he), h2⟩
  have OLD : Hid (∀ W, Below w.heap.size w W → W.cell? ⟨h, 5, none⟩ = some (.slice (some ⟨g, 0, none⟩) (N + 1) capB) ∧ W.cell? ⟨g, i * 4 + 1, none⟩ = some (.slice (some ⟨fg, 0, none⟩) fl fc)) := fun W hb =>
    ⟨(hb.cell (p := ⟨h, 5, none⟩) hh).trans cB, (hb.cell (p := ⟨g, i * 4 + 1, none⟩) hg).trans c1⟩
  obtain ⟨y, hy⟩ : ∃ y, (m.objs[i]).fs[k] = y := ⟨_, rfl⟩
  rw [hy] at AFTER ⊢
  obtain ⟨y1, y2⟩ := y
  have hn0 : ¬ (k : Int) < 0 := by omega
  have hd : decide ((k : Int) < 0) = false := by simp
  have hkI : (k : Int) < fl := by omega
  have hfl4 : fl ≤ 4 := by rw [← hfl]; exact p.ok.fields _ (List.getElem_mem hi)
  clear p hlen e hx hv he hfs hobj hvB hvF hfl cB c1 hr hk v0 v1 hfc hy K
  go_enter Tryz.func52, Tryz.ntmps52
  go_wp2_with fail
  refine Calls.mono D.out ?_
  rintro e w1 ⟨rfl, hb⟩
  have B : Hid (Below w.heap.size w w1) := hb
  clear hb D
  go_wp2_with fail
  refine Calls.mono (O.out _) ?_
  rintro e w2 ⟨rfl, hb⟩
  have B2 : Hid (Below w.heap.size w w2) := (B.out.alloc B.out.size _).trans (hb.mono (by simp; have := B.out.size; omega))
  have l1 : w2.cell? ⟨w1.heap.size, 1, none⟩ = some (.int .i64 i) := cell_of_heap (boxed' hb) rfl
  have L1 : Hid (w2.heap[w1.heap.size]? = some (.cells #[.int .i64 x1, .int .i64 i] 78)) := boxed' hb
  obtain ⟨d0, d1⟩ := OLD.out w2 B2.out
  clear hb O
  go_wp2_with fail
  go_quiet (fail)
  go_wp2_with fail
  refine Calls.mono (AFTER.out _ (below_drewN B2.out _)) ?_
  rintro e w3 ⟨rfl, ⟨a0, a1, a2, a3⟩, hpush, hloc⟩
  have l3 : w3.cell? ⟨w1.heap.size, 1, none⟩ = some (.int .i64 i) := cell_of_heap (hloc _ _ B.out.size L1.out) rfl
  have PU : Hid _ := hpush
  clear hpush hloc AFTER OLD d0 d1 l1 L1 B B2
  go_wp2_with fail
  go_region_with (go_at_call 80; refine Calls.mono (PU.out _ (Below.refl _ _).drew) ?_; rintro e w4 ⟨rfl, hm⟩; have M : Hid _ := hm; clear hm)
  all_goals go_wp2
  all_goals go_ret
  all_goals exact ⟨rfl, M.out⟩

end Go.Proofs.YteekoiljkklnmaaGreatDoor

/- OUR OWN. The document's heap: a field is turned; what a sorting leaves clean. -/
namespace Go.Proofs.YteekoiljkklnmaaGreatDoor
open Go.RowKit
set_option linter.unusedVariables false
set_option linter.unusedSimpArgs false

theorem flat_same {α : Type} (f : α → List Value) (l : List α) (i : Nat) (o o' : α) (h : l[i]? = some o) (hf : f o' = f o) : (l.set i o').flatMap f = l.flatMap f := by
  rw [List.flatMap_def, List.flatMap_def, map_set_same f l i o o' h hf]

theorem countP_same (p : RObj → Bool) (l : List RObj) (i : Nat) (o o' : RObj) (h : l[i]? = some o) (hf : p o' = p o) : (l.set i o').countP p = l.countP p := by
  induction l generalizing i with
  | nil => simp at h
  | cons a l ih =>
    cases i with
    | zero => simp at h; subst h; simp [List.countP_cons, hf]
    | succ i => simp at h; rw [List.set_cons_succ, List.countP_cons, List.countP_cons, ih i h]

theorem RefAt.fieldSet {w : World} {h : Nat} {m : RefM} (r : RefAt w h m) (i : Nat) {o : RObj} (hi : m.objs[i]? = some o) {g cap : Nat} (hv : o.vF = .slice (some ⟨g, 0, none⟩) o.fs.length cap) (k : Nat) (hk : k < o.fs.length) (x : Int × Int) :
    Turn h w m ((w.setCell ⟨g, k * 2, none⟩ (.int .i64 x.1)).setCell ⟨g, k * 2 + 1, none⟩ (.int .i64 x.2)) (m.put i { o with fs := o.fs.set k x }) := by
  have hob : o.vF.ownBlock = some g := by rw [hv]; rfl
  have hmem : o.row ∈ m.rows := by simp only [RefM.rows, List.mem_cons, List.mem_map]; exact .inr (.inr (.inr (.inr ⟨o, List.mem_of_getElem? hi, rfl⟩)))
  have hgh : g ≠ h := fun e => r.ne hmem (by rw [← e]; exact hob)
  have hrow : m.rows[4 + i]? = some o.row := by
    simp only [RefM.rows, show 4 + i = i + 1 + 1 + 1 + 1 by omega, List.getElem?_cons_succ, List.getElem?_map, hi]; rfl
  refine r.turn (4 + i) o.row ({ o with fs := o.fs.set k x } : RObj).row hrow ?_ ?_ ?_ ?_ ?_
  · rw [put_rows, flat_same RObj.cells m.objs i o { o with fs := o.fs.set k x } hi rfl, List.length_set]
    simp only [RefM.rows, show 4 + i = i + 1 + 1 + 1 + 1 by omega, List.set_cons_succ, List.set_cons_zero]
  · rw [hso (fun e => hgh e.symm), hso (fun e => hgh e.symm)]; exact r.head
  · show (World.setCell _ _ _).ownsRow 0 _ 2 o.vF (o.fs.set k x).length ((o.fs.set k x).flatMap valCells)
    have hik : o.fs[k]? = some o.fs[k] := List.getElem?_eq_getElem hk
    have e1 := flat_set valCells 2 (fun _ => rfl) o.fs k 0 (by decide) _ (.int .i64 x.1) hik (x.1, (o.fs[k]).2) rfl
    have h1 : (o.fs.set k (x.1, (o.fs[k]).2))[k]? = some (x.1, (o.fs[k]).2) := by simp [hk]
    have e2 := flat_set valCells 2 (fun _ => rfl) _ k 1 (by decide) _ (.int .i64 x.2) h1 x rfl
    rw [List.set_set, e1] at e2
    rw [List.length_set, e2, Nat.add_zero]
    have hb := r.fields o (List.mem_of_getElem? hi)
    rw [hv] at hb ⊢
    exact ((hb.stored _ _).1.stored _ _).1
  · intro j hj
    exact .inl hj
  · have hm : ∀ y ∈ [g], y ∈ h :: o.row.ob.toList := fun y hy => by simp at hy; subst hy; exact List.mem_cons_of_mem _ (by simp [SRow.ob, RObj.row, vrow, hob])
    exact ((off_setCell w g _ _).mono hm).trans ((off_setCell _ g _ _).mono hm)

theorem clean_enq {m : RefM} {i : Nat} {v : Value} (hc : FreeClean m) (hw : m.waitsB i = true) : FreeClean (m.enq i v) := by
  intro o ho hf
  have ho' : o ∈ qset m.objs i := ho
  unfold RefM.waitsB at hw
  cases hi : m.objs[i]? with
  | none => rw [hi] at hw; cases hw
  | some o1 =>
    rw [hi] at hw
    rw [qset_eq hi] at ho'
    rcases List.mem_or_eq_of_mem_set ho' with e | e
    · exact hc o e hf
    · subst e
      simp at hw hf
      rw [hf] at hw
      simp at hw

theorem SortRel.clean {but : Int} {m : RefM} (hc : FreeClean m) : ∀ {k : Nat} {m' : RefM}, SortRel but m k m' → FreeClean m' := by
  intro k
  induction k with
  | zero => intro m' h; rw [show m' = m from h]; exact hc
  | succ k ih =>
    rintro m' ⟨m1, h1, ⟨hs, v, rfl⟩ | ⟨_, rfl⟩⟩
    · refine clean_enq (ih h1) ?_
      unfold sortB at hs
      simp only [Bool.and_eq_true] at hs
      exact hs.1.1
    · exact ih h1
theorem EnterRel.clean {but : Int} {m m' : RefM} {N : Nat} (hc : FreeClean m) (h : EnterRel but m N m') : FreeClean m' := by
  unfold EnterRel at h
  split at h
  · exact h.clean hc
  · rw [h]; exact hc

/-- a flag of an object is turned -/
theorem RStep.stuck {h N : Nat} {w : World} {m : RefM} (p : RPre h N w m) {g cap : Nat} (hv : m.vB = .slice (some ⟨g, 0, none⟩) (N + 1) cap) (i : Nat) {o : RObj} (hi : m.objs[i]? = some o) :
    RStep h N w m (w.setCell ⟨g, i * 4 + 2, none⟩ (.bool true)) (m.put i { o with stuck := true }) ∧ (m.put i { o with stuck := true }).st = m.st.stick i := by
  have t := p.r.flagged p.ok hv i hi { o with stuck := true } 2 (by decide) (.bool true) rfl rfl
  have hst : (m.put i { o with stuck := true }).st = m.st.stick i := by
    rw [put_st]; unfold St.stick; rw [st_ob hi]; rfl
  refine ⟨⟨t, ⟨p.ok.most, by simp [RefM.put, p.ok.len], p.ok.small, fun x hx => ?_, p.ok.stack, p.ok.globals, ?_⟩, rfl, fun x hx hf => ?_⟩, hst⟩
  · rcases List.mem_or_eq_of_mem_set hx with e | e
    · exact p.ok.fields x e
    · subst e; exact p.ok.fields o (List.mem_of_getElem? hi)
  · show m.queue.length ≤ (m.objs.set i { o with stuck := true }).countP RObj.queued
    rw [countP_same RObj.queued m.objs i o { o with stuck := true } hi rfl]; exact p.ok.queue
  · rcases List.mem_or_eq_of_mem_set hx with e | e
    · exact p.clean x e hf
    · subst e; exact p.clean o (List.mem_of_getElem? hi) hf

theorem RStep.field {h N : Nat} {w : World} {m : RefM} (p : RPre h N w m) (i : Nat) {o : RObj} (hi : m.objs[i]? = some o) {g cap : Nat} (hv : o.vF = .slice (some ⟨g, 0, none⟩) o.fs.length cap) (k : Nat) (hk : k < o.fs.length) (x : Int × Int) (hx : okV N x) :
    RStep h N w m ((w.setCell ⟨g, k * 2, none⟩ (.int .i64 x.1)).setCell ⟨g, k * 2 + 1, none⟩ (.int .i64 x.2)) (m.put i { o with fs := o.fs.set k x }) ∧
    RPre h N ((w.setCell ⟨g, k * 2, none⟩ (.int .i64 x.1)).setCell ⟨g, k * 2 + 1, none⟩ (.int .i64 x.2)) (m.put i { o with fs := o.fs.set k x }) ∧ (m.put i { o with fs := o.fs.set k x }).st = m.st.field i k x := by
  have t := p.r.fieldSet i hi hv k hk x
  have s : RStep h N w m _ _ := ⟨t, ⟨p.ok.most, by simp [RefM.put, p.ok.len], p.ok.small, fun y hy => by
      rcases List.mem_or_eq_of_mem_set hy with e | e
      · exact p.ok.fields y e
      · subst e; simpa using p.ok.fields o (List.mem_of_getElem? hi), p.ok.stack, p.ok.globals, by
      show m.queue.length ≤ (m.objs.set i { o with fs := o.fs.set k x }).countP RObj.queued
      rw [countP_same RObj.queued m.objs i o { o with fs := o.fs.set k x } hi rfl]; exact p.ok.queue⟩, rfl, fun y hy hf => by
      rcases List.mem_or_eq_of_mem_set hy with e | e
      · exact p.clean y e hf
      · subst e; exact p.clean o (List.mem_of_getElem? hi) hf⟩
  have hst : (m.put i { o with fs := o.fs.set k x }).st = m.st.field i k x := by
    rw [put_st]; unfold St.field; rw [st_ob hi]; rfl
  exact ⟨s, s.pre p (by rw [hst]; exact p.inv.setField i k hx), hst⟩

theorem RStep.enter {h N : Nat} {w w' : World} {m m' : RefM} {but : Int} (p : RPre h N w m) (he : EnterRel but m N m') (t : Turn h w m w' m') (ok : m'.Ok N) : RStep h N w m w' m' ∧ m'.st = m.st.enter m.zero but :=
  ⟨⟨t, ok, he.alike.cf, he.clean p.clean⟩, he.st p.ok⟩

end Go.Proofs.YteekoiljkklnmaaGreatDoor

/- OUR OWN. isConfig, May, num, pick. -/
namespace Go.Proofs.YteekoiljkklnmaaGreatDoor
open Go.RowKit
set_option linter.unusedVariables false
set_option linter.unusedSimpArgs false

theorem cfg_parts {b s g u z o : Int} (h : cfgB b s g u z o = true) :
    inB b 1 99 = true ∧ inB s 1 16 = true ∧ inB g 0 8 = true ∧ inB u 1 99 = true ∧ inB o 0 9 = true ∧ inB z (s + g + 1) 99 = true := by
  simp [cfgB, inB] at h ⊢; omega

theorem cfg_not {b s g u z o : Int} (h1 : inB b 1 99 = true) (h2 : inB s 1 16 = true) (h3 : inB g 0 8 = true) (h4 : inB u 1 99 = true) (h5 : inB o 0 9 = true) (h : cfgB b s g u z o = false) :
    inB z (s + g + 1) 99 = false := by
  simp [cfgB, inB] at *; omega

set_option maxHeartbeats 400000 in
theorem isConfig_yes (b s g u z o : Int) (w : World) (h : cfgB b s g u z o = true) :
    Calls Tryz.prog 38 #[.agg #[.int .i64 b, .int .i64 s, .int .i64 g, .int .i64 u, .int .i64 z, .int .i64 o]] w
      fun e w' => e = .returned (.bool true) ∧ Below w.heap.size w w' := by
  have ⟨h1, h2, h3, h4, h5, h6⟩ := cfg_parts h
  have ⟨b1, b2⟩ : 0 ≤ s ∧ s ≤ 16 := by simp [inB] at h2; omega
  have ⟨b3, b4⟩ : 0 ≤ g ∧ g ≤ 8 := by simp [inB] at h3; omega
  clear h
  go_enter Tryz.func38, Tryz.ntmps38
  go_wp2_with (go_at_call 69; refine (within_yes _ _ _ _ (by assumption)).mono ?_; rintro e w' ⟨rfl, rfl⟩)
  go_ret
  exact ⟨rfl, (Below.refl _ _).alloc (Nat.le_refl _) _⟩

set_option maxHeartbeats 800000 in
theorem isConfig_no (b s g u z o : Int) (w : World) (h : cfgB b s g u z o = false) :
    Calls Tryz.prog 38 #[.agg #[.int .i64 b, .int .i64 s, .int .i64 g, .int .i64 u, .int .i64 z, .int .i64 o]] w
      fun e w' => e = .returned (.bool false) ∧ Below w.heap.size w w' := by
  have H : Hid (cfgB b s g u z o = false) := h
  clear h
  rcases h1 : inB b 1 99 with _ | _
  · go_enter Tryz.func38, Tryz.ntmps38
    go_wp2_with (first | (go_at_call 69; refine (within_yes _ _ _ _ (by assumption)).mono ?_; rintro e w' ⟨rfl, rfl⟩) | (go_at_call 69; refine (within_no _ _ _ _ (by assumption)).mono ?_; rintro e w' ⟨rfl, rfl⟩))
    go_ret
    exact ⟨rfl, (Below.refl _ _).alloc (Nat.le_refl _) _⟩
  rcases h2 : inB s 1 16 with _ | _
  · go_enter Tryz.func38, Tryz.ntmps38
    go_wp2_with (first | (go_at_call 69; refine (within_yes _ _ _ _ (by assumption)).mono ?_; rintro e w' ⟨rfl, rfl⟩) | (go_at_call 69; refine (within_no _ _ _ _ (by assumption)).mono ?_; rintro e w' ⟨rfl, rfl⟩))
    go_ret
    exact ⟨rfl, (Below.refl _ _).alloc (Nat.le_refl _) _⟩
  rcases h3 : inB g 0 8 with _ | _
  · go_enter Tryz.func38, Tryz.ntmps38
    go_wp2_with (first | (go_at_call 69; refine (within_yes _ _ _ _ (by assumption)).mono ?_; rintro e w' ⟨rfl, rfl⟩) | (go_at_call 69; refine (within_no _ _ _ _ (by assumption)).mono ?_; rintro e w' ⟨rfl, rfl⟩))
    go_ret
    exact ⟨rfl, (Below.refl _ _).alloc (Nat.le_refl _) _⟩
  rcases h4 : inB u 1 99 with _ | _
  · go_enter Tryz.func38, Tryz.ntmps38
    go_wp2_with (first | (go_at_call 69; refine (within_yes _ _ _ _ (by assumption)).mono ?_; rintro e w' ⟨rfl, rfl⟩) | (go_at_call 69; refine (within_no _ _ _ _ (by assumption)).mono ?_; rintro e w' ⟨rfl, rfl⟩))
    go_ret
    exact ⟨rfl, (Below.refl _ _).alloc (Nat.le_refl _) _⟩
  rcases h5 : inB o 0 9 with _ | _
  · go_enter Tryz.func38, Tryz.ntmps38
    go_wp2_with (first | (go_at_call 69; refine (within_yes _ _ _ _ (by assumption)).mono ?_; rintro e w' ⟨rfl, rfl⟩) | (go_at_call 69; refine (within_no _ _ _ _ (by assumption)).mono ?_; rintro e w' ⟨rfl, rfl⟩))
    go_ret
    exact ⟨rfl, (Below.refl _ _).alloc (Nat.le_refl _) _⟩
  have h6 := cfg_not h1 h2 h3 h4 h5 H.out
  have ⟨b1, b2⟩ : 0 ≤ s ∧ s ≤ 16 := by simp [inB] at h2; omega
  have ⟨b3, b4⟩ : 0 ≤ g ∧ g ≤ 8 := by simp [inB] at h3; omega
  go_enter Tryz.func38, Tryz.ntmps38
  go_wp2_with (first | (go_at_call 69; refine (within_yes _ _ _ _ (by assumption)).mono ?_; rintro e w' ⟨rfl, rfl⟩) | (go_at_call 69; refine (within_no _ _ _ _ (by assumption)).mono ?_; rintro e w' ⟨rfl, rfl⟩))
  go_ret
  exact ⟨rfl, (Below.refl _ _).alloc (Nat.le_refl _) _⟩

end Go.Proofs.YteekoiljkklnmaaGreatDoor

