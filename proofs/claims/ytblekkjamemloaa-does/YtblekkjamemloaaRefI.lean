/- OUR OWN. The document's heap: moves, by operation. -/
import Derived.Test.YtblekkjamemloaaRefH
import Derived.Test.YtblekkjamemloaaPure
import Derived.Deep.RegionWith
namespace Go.Proofs.Ytblekkjamemloaa
open Go.RowKit
set_option linter.unusedVariables false
set_option linter.unusedSimpArgs false

theorem boxed' {w w1 : World} {cs : Array Value} {t : TypeId} (hb : Below (w.alloc (.cells cs t)).heap.size (w.alloc (.cells cs t)) w1) : w1.heap[w.heap.size]? = some (.cells cs t) := by
  rw [hb.block _ (by simp)]; exact heap_alloc_new w _

def RefM.st (m : RefM) : St := ⟨m.stack, m.globals, m.objs.map fun o => (o.here, o.fs)⟩
def FreeClean (m : RefM) : Prop := ∀ o ∈ m.objs, o.here = false → o.queued = false

structure RPre (h N : Nat) (w : World) (m : RefM) : Prop where
  r : RefAt w h m
  ok : m.Ok N
  clean : FreeClean m
  inv : m.st.Inv N
  deep : m.deep ≤ 16

structure RStep (h N : Nat) (w : World) (m : RefM) (w' : World) (m' : RefM) : Prop where
  turn : Turn h w m w' m'
  ok : m'.Ok N
  deep : m'.deep = m.deep
  clean : FreeClean m'

theorem RStep.of_below {h N : Nat} {w w' : World} {m : RefM} (p : RPre h N w m) (hb : Below w.heap.size w w') : RStep h N w m w' m := ⟨.of_below p.r hb, p.ok, rfl, p.clean⟩
theorem RStep.refl {h N : Nat} {w : World} {m : RefM} (p : RPre h N w m) : RStep h N w m w m := ⟨.refl p.r, p.ok, rfl, p.clean⟩
theorem RStep.trans {h N : Nat} {w w1 w2 : World} {m m1 m2 : RefM} (a : RStep h N w m w1 m1) (b : RStep h N w1 m1 w2 m2) : RStep h N w m w2 m2 := ⟨a.turn.trans b.turn, b.ok, b.deep.trans a.deep, b.clean⟩
theorem RStep.after {h N : Nat} {w w1 w2 : World} {m m1 : RefM} (a : RStep h N w m w1 m1) (hb : Below w1.heap.size w1 w2) : RStep h N w m w2 m1 := ⟨a.turn.after hb, a.ok, a.deep, a.clean⟩
theorem RStep.pre {h N : Nat} {w w' : World} {m m' : RefM} (a : RStep h N w m w' m') (p : RPre h N w m) (hi : m'.st.Inv N) : RPre h N w' m' := ⟨a.turn.here, a.ok, a.clean, hi, by rw [a.deep]; exact p.deep⟩
theorem RPre.below {h N : Nat} {w w' : World} {m : RefM} (p : RPre h N w m) (hb : Below w.heap.size w w') : RPre h N w' m := ⟨(Turn.of_below p.r hb).here, p.ok, p.clean, p.inv, p.deep⟩

def RDid (h N : Nat) (w : World) (m : RefM) (p : St × Int × Int) (e : Ending) (w' : World) : Prop := e = .returned (.int .i64 p.2.2) ∧ ∃ m', RStep h N w m w' m' ∧ m'.st = p.1

theorem push_do {h N : Nat} {w : World} {m : RefM} (p : RPre h N w m) (x : Int × Int) :
    Calls Try.prog 77 #[.pointer (some ⟨h, 0, none⟩), .agg #[.int .i64 x.1, .int .i64 x.2]] w (RDid h N w m (pushA m.deep m.st x)) := by
  by_cases hd : m.deep ≤ m.stack.length
  · have e : pushA m.deep m.st x = (m.st, 0, 7) := by unfold pushA pushS; rw [if_pos (show m.deep ≤ (m.st.stack.length : Int) from hd)]
    refine (push_full p.r p.ok.stack x hd).mono fun e' w' ⟨he, hb⟩ => ?_
    rw [e]
    exact ⟨he, m, .of_below p hb, rfl⟩
  · have e : pushA m.deep m.st x = ({ m.st with stack := m.stack ++ [x] }, 0, 0) := by unfold pushA pushS; rw [if_neg (show ¬ m.deep ≤ (m.st.stack.length : Int) from hd)]; rfl
    refine (push_room p.r p.ok.stack x (by omega)).mono fun e' w' ⟨he, v', ht⟩ => ?_
    rw [e]
    refine ⟨he, _, ⟨ht, ⟨p.ok.most, p.ok.len, p.ok.small, p.ok.fields, ?_, p.ok.globals, p.ok.queue⟩, rfl, p.clean⟩, rfl⟩
    have := p.deep
    simp; omega

theorem pop_do {h N : Nat} {w : World} {m : RefM} (p : RPre h N w m) (n : Nat) (hn : n ≤ m.stack.length) (h0 : 0 < m.stack.length) :
    Calls Try.prog 80 #[.pointer (some ⟨h, 0, none⟩), .int .i64 n] w fun e w' => e = .returned (.tuple #[]) ∧ ∃ v', RStep h N w m w' { m with vS := v', stack := m.stack.take (m.stack.length - n) } := by
  refine (pop_any p.r p.ok.stack n hn h0).mono fun e' w' ⟨he, v', ht⟩ => ⟨he, v', ht, ⟨p.ok.most, p.ok.len, p.ok.small, p.ok.fields, ?_, p.ok.globals, p.ok.queue⟩, rfl, p.clean⟩
  have := p.ok.stack
  simp; omega

theorem st_down (m : RefM) (k : Nat) (hk : k < m.stack.length) : m.stack[m.stack.length - 1 - k]'(by omega) = m.st.down k := by
  unfold St.down
  rw [List.getD_eq_getElem?_getD]
  show _ = (m.stack[m.stack.length - 1 - k]?).getD _
  rw [List.getElem?_eq_getElem (by omega)]
  rfl

theorem down_do {h N : Nat} {w : World} {m : RefM} (p : RPre h N w m) (k : Nat) (hk : k < m.stack.length) :
    Calls Try.prog 78 #[.pointer (some ⟨h, 0, none⟩), .int .i64 k] w
      fun e w' => e = .returned (.agg #[.int .i64 (m.st.down k).1, .int .i64 (m.st.down k).2]) ∧ Below w.heap.size w w' := by
  have := down_any p.r p.ok.stack k hk
  rw [st_down m k hk] at this
  exact this

theorem RPre.stackCell {h N : Nat} {w : World} {m : RefM} (p : RPre h N w m) : ∃ ao cap, w.cell? ⟨h, 7, none⟩ = some (.slice ao m.stack.length cap) := by
  obtain ⟨ao, cap, hv⟩ := own_slice p.r.stack
  exact ⟨ao, cap, by rw [p.r.cell.2.2.2.2.2.2.2.1, hv]⟩

def MovesSays (op : Int) (f : Int → St → Int → St × Int × Int) : Prop := ∀ (h N : Nat) (w : World) (m : RefM) (n : Int), RPre h N w m →
  Calls Try.prog 68 #[.pointer (some ⟨h, 0, none⟩), .int .i64 op, .int .i64 n] w (RDid h N w m (f m.deep m.st n))

set_option maxHeartbeats 400000 in
theorem moves_nil : MovesSays 0 (fun d s _ => pushA d s (0, 0)) := by
  intro h N w m n p
  have PU := push_do p (0, 0)
  have P : Hid _ := PU
  clear PU p
  go_enter Try.func68, Try.ntmps68
  go_wp2_with fail
  refine Calls.mono P.out ?_
  rintro e w1 ⟨rfl, hm⟩
  have M : Hid _ := hm
  clear hm P
  go_wp2
  go_ret
  exact ⟨rfl, M.out⟩

set_option maxHeartbeats 400000 in
theorem moves_int : MovesSays 1 (fun d s n => pushA d s (1, n)) := by
  intro h N w m n p
  have PU := push_do p (1, n)
  have P : Hid _ := PU
  clear PU p
  go_enter Try.func68, Try.ntmps68
  go_wp2_with fail
  refine Calls.mono P.out ?_
  rintro e w1 ⟨rfl, hm⟩
  have M : Hid _ := hm
  clear hm P
  go_wp2
  go_ret
  exact ⟨rfl, M.out⟩

set_option maxHeartbeats 800000 in
theorem moves_dup : MovesSays 3 (fun d s n => dupS d s n) := by
  intro h N w m n p
  obtain ⟨ao, cap, cS⟩ := p.stackCell
  have hl := p.ok.stack
  by_cases hc : n < 0 ∨ (m.stack.length : Int) ≤ n
  · have e : dupS m.deep m.st n = (m.st, 0, 6) := by unfold dupS; exact if_pos hc
    simp only [e]
    have K : Hid (∃ m', RStep h N w m w m' ∧ m'.st = m.st) := ⟨m, .refl p, rfl⟩
    obtain ⟨len, hlen⟩ : ∃ len, m.stack.length = len := ⟨_, rfl⟩
    rw [hlen] at hc cS hl
    clear p e hlen
    rcases hc with hc | hc
    · go_enter Try.func68, Try.ntmps68
      go_wp2
      go_ret
      exact ⟨rfl, K.out⟩
    · have hn : ¬ n < 0 := by omega
      go_enter Try.func68, Try.ntmps68
      go_wp2
      go_ret
      exact ⟨rfl, K.out⟩
  · obtain ⟨k, rfl⟩ : ∃ k : Nat, n = k := ⟨n.toNat, by omega⟩
    have hk : k < m.stack.length := by omega
    have e : dupS m.deep m.st k = pushA m.deep m.st (m.st.down k) := by unfold dupS; exact (if_neg hc).trans (by rw [Int.toNat_natCast])
    simp only [e]
    have DN := down_do p k hk
    have D : Hid _ := DN
    have PU : Hid (∀ W, Below w.heap.size w W → Calls Try.prog 77 #[.pointer (some ⟨h, 0, none⟩), .agg #[.int .i64 (m.st.down k).1, .int .i64 (m.st.down k).2]] W fun e w' => RDid h N w m (pushA m.deep m.st (m.st.down k)) e w') :=
      fun W hb => (push_do (p.below hb) (m.st.down k)).mono fun e w' ⟨he, m', hs, hm⟩ => ⟨he, m', (RStep.of_below p hb).trans hs, hm⟩
    obtain ⟨len, hlen⟩ : ∃ len, m.stack.length = len := ⟨_, rfl⟩
    rw [hlen] at hc cS hl hk
    obtain ⟨x, hx⟩ : ∃ x, m.st.down k = x := ⟨_, rfl⟩
    rw [hx] at D PU ⊢
    obtain ⟨x1, x2⟩ := x
    clear p e DN hlen hx hc
    have hkI : (k : Int) < len := by omega
    go_enter Try.func68, Try.ntmps68
    go_wp2_with fail
    refine Calls.mono D.out ?_
    rintro e w1 ⟨rfl, hb⟩
    have B : Hid (Below w.heap.size w w1) := hb
    clear hb D
    go_wp2_with fail
    refine Calls.mono (PU.out _ (B.out.alloc B.out.size _)) ?_
    rintro e w2 ⟨rfl, hm⟩
    have M : Hid _ := hm
    clear hm PU
    go_wp2
    go_ret
    exact ⟨rfl, M.out⟩

set_option maxHeartbeats 400000 in
theorem moves_drop : MovesSays 4 (fun _ s _ => dropS s) := by
  intro h N w m n p
  obtain ⟨ao, cap, cS⟩ := p.stackCell
  have hl := p.ok.stack
  by_cases hc : m.stack.length < 1
  · have e : dropS m.st = (m.st, 0, 3) := by unfold dropS; rw [if_pos (show m.st.stack.length < 1 from hc)]
    simp only [e]
    have K : Hid (∃ m', RStep h N w m w m' ∧ m'.st = m.st) := ⟨m, .refl p, rfl⟩
    obtain ⟨len, hlen⟩ : ∃ len, m.stack.length = len := ⟨_, rfl⟩
    rw [hlen] at hc cS hl
    clear p e hlen
    obtain rfl : len = 0 := by omega
    go_enter Try.func68, Try.ntmps68
    go_wp2
    go_ret
    exact ⟨rfl, K.out⟩
  · have e : dropS m.st = (m.st.pop 1, 0, 0) := by unfold dropS; rw [if_neg (show ¬ m.st.stack.length < 1 from hc)]
    simp only [e]
    have PO := pop_do p 1 (by omega) (by omega)
    have P : Hid _ := PO
    obtain ⟨len, hlen⟩ : ∃ len, m.stack.length = len := ⟨_, rfl⟩
    rw [hlen] at hc cS hl
    have L : Hid (m.stack.length = len) := hlen
    clear p e hlen PO
    go_enter Try.func68, Try.ntmps68
    go_wp2_with fail
    refine Calls.mono P.out ?_
    rintro e w1 ⟨rfl, v', hm⟩
    have M : Hid (∃ m', RStep h N w m w1 m' ∧ m'.st = m.st.pop 1) := ⟨_, hm, rfl⟩
    clear hm P
    go_wp2
    go_ret
    exact ⟨rfl, M.out⟩

theorem RPre.globalCell {h N : Nat} {w : World} {m : RefM} (p : RPre h N w m) : ∃ ao cap, w.cell? ⟨h, 8, none⟩ = some (.slice ao m.globals.length cap) := by
  obtain ⟨ao, cap, hv⟩ := own_slice p.r.globals
  exact ⟨ao, cap, by rw [p.r.cell.2.2.2.2.2.2.2.2.1, hv]⟩

/-- the globals' row -/
theorem RefAt.globalView {w : World} {h : Nat} {m : RefM} (r : RefAt w h m) (hs : 0 < m.globals.length) :
    ∃ g cap, m.vG = .slice (some ⟨g, 0, none⟩) m.globals.length cap ∧ g < w.heap.size ∧ g ≠ h ∧ m.vG.ownBlock = some g ∧ (∀ j, w.frozen? ⟨g, j, none⟩ = false) ∧
      ∀ i (hi : i < m.globals.length), w.cell? ⟨g, i * 2, none⟩ = some (.int .i64 (m.globals[i]).1) ∧ w.cell? ⟨g, i * 2 + 1, none⟩ = some (.int .i64 (m.globals[i]).2) := by
  obtain ⟨g, cap, hv, hg, hb, hc, hcell, hf⟩ := own_view r.globals hs
  refine ⟨g, cap, hv, hg, fun e => r.ne (x := vrow m.vG m.globals) (by simp [RefM.rows]) (by rw [← e]; exact hb), hb, hf, fun i hi => ⟨?_, ?_⟩⟩
  · exact hcell _ _ (by have := flat_get valCells 2 (fun _ => rfl) m.globals i 0 (by decide); simpa [hi, valCells] using this)
  · exact hcell _ _ (by have := flat_get valCells 2 (fun _ => rfl) m.globals i 1 (by decide); simpa [hi, valCells] using this)

set_option maxHeartbeats 800000 in
theorem moves_get : MovesSays 5 (fun d s n => getS d s n) := by
  intro h N w m n p
  obtain ⟨ao, cap, cG⟩ := p.globalCell
  have hl := p.ok.globals
  by_cases hc : n < 0 ∨ (m.globals.length : Int) ≤ n
  · have e : getS m.deep m.st n = (m.st, 0, 6) := by unfold getS; exact if_pos hc
    simp only [e]
    have K : Hid (∃ m', RStep h N w m w m' ∧ m'.st = m.st) := ⟨m, .refl p, rfl⟩
    obtain ⟨len, hlen⟩ : ∃ len, m.globals.length = len := ⟨_, rfl⟩
    rw [hlen] at hc cG hl
    clear p e hlen
    rcases hc with hc | hc
    · go_enter Try.func68, Try.ntmps68
      go_wp2
      go_ret
      exact ⟨rfl, K.out⟩
    · have hn : ¬ n < 0 := by omega
      go_enter Try.func68, Try.ntmps68
      go_wp2
      go_ret
      exact ⟨rfl, K.out⟩
  · obtain ⟨k, rfl⟩ : ∃ k : Nat, n = k := ⟨n.toNat, by omega⟩
    have hk : k < m.globals.length := by omega
    have e : getS m.deep m.st k = pushA m.deep m.st m.globals[k] := by
      unfold getS
      exact (if_neg hc).trans (by rw [Int.toNat_natCast, List.getD_eq_getElem?_getD]; show pushA _ _ ((m.globals[k]?).getD _) = _; rw [List.getElem?_eq_getElem hk]; rfl)
    simp only [e]
    obtain ⟨g, cap', hv, hg, hgh, _, _, hcell⟩ := p.r.globalView (by omega)
    have cG' : w.cell? ⟨h, 8, none⟩ = some (.slice (some ⟨g, 0, none⟩) m.globals.length cap') := by rw [p.r.cell.2.2.2.2.2.2.2.2.1, hv]
    obtain ⟨c0, c1⟩ := hcell k hk
    have PU := push_do p m.globals[k]
    have P : Hid _ := PU
    obtain ⟨x, hx⟩ : ∃ x, m.globals[k] = x := ⟨_, rfl⟩
    rw [hx] at P c0 c1 ⊢
    obtain ⟨len, hlen⟩ : ∃ len, m.globals.length = len := ⟨_, rfl⟩
    rw [hlen] at hc cG' hl hk
    obtain ⟨x1, x2⟩ := x
    simp only at c0 c1
    clear p e PU hlen hx hc cG hcell hv
    have hkI : (k : Int) < len := by omega
    go_enter Try.func68, Try.ntmps68
    go_wp2_with fail
    refine Calls.mono P.out ?_
    rintro e w1 ⟨rfl, hm⟩
    have M : Hid _ := hm
    clear hm P
    go_wp2
    go_ret
    exact ⟨rfl, M.out⟩

/-- a global is turned -/
theorem RefAt.globalSet {w : World} {h : Nat} {m : RefM} (r : RefAt w h m) {g cap : Nat} (hv : m.vG = .slice (some ⟨g, 0, none⟩) m.globals.length cap) (k : Nat) (hk : k < m.globals.length) (x : Int × Int) :
    Turn h w m ((w.setCell ⟨g, k * 2, none⟩ (.int .i64 x.1)).setCell ⟨g, k * 2 + 1, none⟩ (.int .i64 x.2)) { m with globals := m.globals.set k x } := by
  have hob : m.vG.ownBlock = some g := by rw [hv]; rfl
  have hgh : g ≠ h := fun e => r.ne (x := vrow m.vG m.globals) (by simp [RefM.rows]) (by rw [← e]; exact hob)
  refine r.turn 3 (vrow m.vG m.globals) (vrow m.vG (m.globals.set k x)) rfl rfl ?_ ?_ ?_ ?_
  · rw [hso (fun e => hgh e.symm), hso (fun e => hgh e.symm)]; exact r.head
  · show (World.setCell _ _ _).ownsRow 0 _ 2 m.vG (m.globals.set k x).length ((m.globals.set k x).flatMap valCells)
    have hi : m.globals[k]? = some m.globals[k] := List.getElem?_eq_getElem hk
    have e1 := flat_set valCells 2 (fun _ => rfl) m.globals k 0 (by decide) _ (.int .i64 x.1) hi (x.1, (m.globals[k]).2) rfl
    have h1 : (m.globals.set k (x.1, (m.globals[k]).2))[k]? = some (x.1, (m.globals[k]).2) := by simp [hk]
    have e2 := flat_set valCells 2 (fun _ => rfl) _ k 1 (by decide) _ (.int .i64 x.2) h1 x rfl
    rw [List.set_set, e1] at e2
    rw [List.length_set, e2, Nat.add_zero]
    have hb := r.globals
    rw [hv] at hb ⊢
    exact ((hb.stored _ _).1.stored _ _).1
  · intro j hj
    exact .inl hj
  · have hm : ∀ y ∈ [g], y ∈ h :: (vrow m.vG m.globals).ob.toList := fun y hy => by simp at hy; subst hy; exact List.mem_cons_of_mem _ (by simp [SRow.ob, vrow, hob])
    exact ((off_setCell w g _ _).mono hm).trans ((off_setCell _ g _ _).mono hm)

set_option maxHeartbeats 1000000 in
theorem moves_set : MovesSays 6 (fun _ s n => setS s n) := by
  intro h N w m n p
  obtain ⟨ao, cap, cG⟩ := p.globalCell
  obtain ⟨so, sc, cS⟩ := p.stackCell
  have hl := p.ok.globals
  have hls := p.ok.stack
  by_cases hc : n < 0 ∨ (m.globals.length : Int) ≤ n
  · have e : setS m.st n = (m.st, 0, 6) := by unfold setS; exact if_pos hc
    simp only [e]
    have K : Hid (∃ m', RStep h N w m w m' ∧ m'.st = m.st) := ⟨m, .refl p, rfl⟩
    obtain ⟨len, hlen⟩ : ∃ len, m.globals.length = len := ⟨_, rfl⟩
    rw [hlen] at hc cG hl
    clear p e hlen
    rcases hc with hc | hc
    · go_enter Try.func68, Try.ntmps68
      go_wp2
      go_ret
      exact ⟨rfl, K.out⟩
    · have hn : ¬ n < 0 := by omega
      go_enter Try.func68, Try.ntmps68
      go_wp2
      go_ret
      exact ⟨rfl, K.out⟩
  · obtain ⟨k, rfl⟩ : ∃ k : Nat, n = k := ⟨n.toNat, by omega⟩
    have hk : k < m.globals.length := by omega
    by_cases h0 : m.stack.length < 1
    · have e : setS m.st k = (m.st, 0, 3) := by unfold setS; exact (if_neg hc).trans (if_pos h0)
      simp only [e]
      have K : Hid (∃ m', RStep h N w m w m' ∧ m'.st = m.st) := ⟨m, .refl p, rfl⟩
      obtain ⟨len, hlen⟩ : ∃ len, m.globals.length = len := ⟨_, rfl⟩
      rw [hlen] at hc cG hl hk
      obtain ⟨sl, hsl⟩ : ∃ sl, m.stack.length = sl := ⟨_, rfl⟩
      rw [hsl] at h0 cS hls
      clear p e hlen hc hsl
      obtain rfl : sl = 0 := by omega
      have hkI : (k : Int) < len := by omega
      go_enter Try.func68, Try.ntmps68
      go_wp2
      go_ret
      exact ⟨rfl, K.out⟩
    · have e : setS m.st k = ({ m.st.pop 1 with globals := m.globals.set k (m.st.down 0) }, 0, 0) := by unfold setS; exact (if_neg hc).trans ((if_neg h0).trans (by rw [Int.toNat_natCast]; rfl))
      simp only [e]
      obtain ⟨g, cap', hv, hg, hgh, _, hfz, hcell⟩ := p.r.globalView (by omega)
      have cG' : w.cell? ⟨h, 8, none⟩ = some (.slice (some ⟨g, 0, none⟩) m.globals.length cap') := by rw [p.r.cell.2.2.2.2.2.2.2.2.1, hv]
      obtain ⟨c0, c1⟩ := hcell k hk
      have hh := lt_of_heap p.r.head
      have DN : Hid (∀ W, Below w.heap.size w W → Calls Try.prog 78 #[.pointer (some ⟨h, 0, none⟩), .int .i64 0] W fun e w' => e = .returned (.agg #[.int .i64 (m.st.down 0).1, .int .i64 (m.st.down 0).2]) ∧ Below W.heap.size W w') := fun W hb => down_do (p.below hb) 0 (by show 0 < m.stack.length; omega)
      have FIN : Hid (∀ W, Below w.heap.size w W → RPre h N ((W.setCell ⟨g, k * 2, none⟩ (.int .i64 (m.st.down 0).1)).setCell ⟨g, k * 2 + 1, none⟩ (.int .i64 (m.st.down 0).2)) { m with globals := m.globals.set k (m.st.down 0) } ∧
        RStep h N w m ((W.setCell ⟨g, k * 2, none⟩ (.int .i64 (m.st.down 0).1)).setCell ⟨g, k * 2 + 1, none⟩ (.int .i64 (m.st.down 0).2)) { m with globals := m.globals.set k (m.st.down 0) }) := by
        intro W hb
        have t := Turn.pre p.r hb ((p.below hb).r.globalSet hv k hk (m.st.down 0))
        have s : RStep h N w m _ _ := ⟨t, ⟨p.ok.most, p.ok.len, p.ok.small, p.ok.fields, p.ok.stack, by simpa using p.ok.globals, p.ok.queue⟩, rfl, p.clean⟩
        refine ⟨s.pre p ⟨p.inv.stack, fun v hv => ?_, p.inv.fields, p.inv.len⟩, s⟩
        rcases List.mem_or_eq_of_mem_set hv with e | e
        · exact p.inv.globals v e
        · subst e; exact p.inv.down 0
      have OLD : Hid (∀ W, Below w.heap.size w W → W.cell? ⟨h, 8, none⟩ = some (.slice (some ⟨g, 0, none⟩) m.globals.length cap') ∧ W.cell? ⟨g, k * 2, none⟩ = some (.int .i64 (m.globals[k]).1) ∧ W.cell? ⟨g, k * 2 + 1, none⟩ = some (.int .i64 (m.globals[k]).2) ∧ W.frozen? ⟨g, k * 2, none⟩ = false ∧ W.frozen? ⟨g, k * 2 + 1, none⟩ = false) := fun W hb =>
        ⟨(hb.cell (p := ⟨h, 8, none⟩) hh).trans cG', (hb.cell (p := ⟨g, k * 2, none⟩) hg).trans c0, (hb.cell (p := ⟨g, k * 2 + 1, none⟩) hg).trans c1, (hb.frozen (p := ⟨g, k * 2, none⟩) hg).trans (hfz _), (hb.frozen (p := ⟨g, k * 2 + 1, none⟩) hg).trans (hfz _)⟩
      have hsl : 0 < m.stack.length := by omega
      obtain ⟨x, hx⟩ : ∃ x, m.st.down 0 = x := ⟨_, rfl⟩
      rw [hx] at DN FIN ⊢
      obtain ⟨y, hy⟩ : ∃ y, m.globals[k] = y := ⟨_, rfl⟩
      rw [hy] at c0 c1 OLD
      obtain ⟨x1, x2⟩ := x
      obtain ⟨y1, y2⟩ := y
      have POP : Hid (∀ W, RPre h N W { m with globals := m.globals.set k (x1, x2) } → RStep h N w m W { m with globals := m.globals.set k (x1, x2) } → Calls Try.prog 80 #[.pointer (some ⟨h, 0, none⟩), .int .i64 1] W fun e w' => e = .returned (.tuple #[]) ∧ ∃ m', RStep h N w m w' m' ∧ m'.st = { m.st.pop 1 with globals := m.globals.set k (x1, x2) }) :=
        fun W hp hs => (pop_do hp 1 hsl hsl).mono fun e w' ⟨he, v', hs'⟩ => ⟨he, _, hs.trans hs', rfl⟩
      obtain ⟨len, hlen⟩ : ∃ len, m.globals.length = len := ⟨_, rfl⟩
      rw [hlen] at hc cG' hl hk OLD
      obtain ⟨sl, hsl'⟩ : ∃ sl, m.stack.length = sl := ⟨_, rfl⟩
      rw [hsl'] at h0 cS hls hsl
      simp only at *
      clear p e hlen hx hy hc cG hcell hv hfz hsl'
      have hkI : (k : Int) < len := by omega
      go_enter Try.func68, Try.ntmps68
      go_wp2_with fail
      go_region_with (go_at_call 78; refine (DN.out _ (Below.refl _ _).drew).mono ?_; rintro e w1 ⟨rfl, hb⟩; have B1 : Hid (Below w.heap.size w w1) := ((Below.refl _ _).drew).trans hb; obtain ⟨d0, d1, d2, d3, d4⟩ := OLD.out w1 B1.out; clear hb)
      all_goals
        have FF := FIN.out _ B1.out
        clear d0 d1 d2 d3 d4
        have F1 : Hid _ := FF
        clear FF
        go_wp2_with fail
        refine Calls.mono (POP.out _ F1.out.1 F1.out.2) ?_
        rintro e w2 ⟨rfl, hm⟩
        have M : Hid _ := hm
        clear hm
        go_wp2
        go_ret
        exact ⟨rfl, M.out⟩

end Go.Proofs.Ytblekkjamemloaa
