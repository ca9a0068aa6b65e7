/- OUR OWN. The document's heap: what a sorting leaves alone; made, where a block is free. -/
import Derived.Test.YtblekkjamemloaaRefF
namespace Go.Proofs.Ytblekkjamemloaa
open Go.RowKit
set_option linter.unusedVariables false
set_option linter.unusedSimpArgs false

/-- an object but for the queue -/
def RObj.strip (o : RObj) : Bool × Value × List (Int × Int) × Bool := (o.here, o.vF, o.fs, o.stuck)

structure Alikeq (m m' : RefM) : Prop where
  most : m'.most = m.most
  deep : m'.deep = m.deep
  budget : m'.budget = m.budget
  zero : m'.zero = m.zero
  over : m'.over = m.over
  stack : m'.stack = m.stack
  globals : m'.globals = m.globals
  objs : m'.objs.map RObj.strip = m.objs.map RObj.strip

theorem Alikeq.refl (m : RefM) : Alikeq m m := ⟨rfl, rfl, rfl, rfl, rfl, rfl, rfl, rfl⟩
theorem Alikeq.trans {a b c : RefM} (h : Alikeq a b) (k : Alikeq b c) : Alikeq a c :=
  ⟨k.most.trans h.most, k.deep.trans h.deep, k.budget.trans h.budget, k.zero.trans h.zero, k.over.trans h.over, k.stack.trans h.stack, k.globals.trans h.globals, k.objs.trans h.objs⟩
theorem alikeq_enq (m : RefM) (i : Nat) (v : Value) : Alikeq m (m.enq i v) := by
  refine ⟨rfl, rfl, rfl, rfl, rfl, rfl, rfl, ?_⟩
  show (qset m.objs i).map RObj.strip = _
  cases h : m.objs[i]? with
  | none => unfold qset; rw [h]
  | some o => rw [qset_eq h, map_set_same RObj.strip m.objs i o { o with queued := true } h rfl]
theorem SortRel.alike {but : Int} {m : RefM} : ∀ {k : Nat} {m' : RefM}, SortRel but m k m' → Alikeq m m' := by
  intro k
  induction k with
  | zero => intro m' h; rw [show m' = m from h]; exact .refl m
  | succ k ih =>
    rintro m' ⟨m1, h1, ⟨_, v, rfl⟩ | ⟨_, rfl⟩⟩
    · exact (ih h1).trans (alikeq_enq _ _ _)
    · exact ih h1
theorem EnterRel.alike {but : Int} {m m' : RefM} {N : Nat} (h : EnterRel but m N m') : Alikeq m m' := by
  unfold EnterRel at h
  split at h
  · exact h.alike
  · rw [h]; exact .refl m

/-! ### An object is laid into a block -/
def RefM.put (m : RefM) (i : Nat) (o : RObj) : RefM := { m with objs := m.objs.set i o }

theorem put_rows (m : RefM) (i : Nat) (o : RObj) : (m.put i o).rows = (m.rows.set (4 + i) o.row).set 0 ⟨81, 4, m.vB, (m.objs.set i o).length, (m.objs.set i o).flatMap RObj.cells⟩ := by
  simp only [RefM.rows, RefM.put, show 4 + i = i + 1 + 1 + 1 + 1 by omega, List.set_cons_succ, List.set_cons_zero, List.map_set]

theorem flat_set4 (l : List RObj) (i : Nat) (o o' : RObj) (h : l[i]? = some o) :
    (l.set i o').flatMap RObj.cells = (((((l.flatMap RObj.cells).set (i * 4) (.bool o'.here)).set (i * 4 + 1) o'.vF).set (i * 4 + 2) (.bool o'.stuck)).set (i * 4 + 3) (.bool o'.queued)) := by
  have hl : i < l.length := (List.getElem?_eq_some_iff.1 h).1
  have e1 := flat_set RObj.cells 4 (fun _ => rfl) l i 0 (by decide) o (.bool o'.here) h { o with here := o'.here } rfl
  have h1 : (l.set i { o with here := o'.here })[i]? = some { o with here := o'.here } := by simp [hl]
  have e2 := flat_set RObj.cells 4 (fun _ => rfl) _ i 1 (by decide) _ o'.vF h1 { o with here := o'.here, vF := o'.vF } rfl
  rw [List.set_set] at e2
  have h2 : (l.set i { o with here := o'.here, vF := o'.vF })[i]? = some { o with here := o'.here, vF := o'.vF } := by simp [hl]
  have e3 := flat_set RObj.cells 4 (fun _ => rfl) _ i 2 (by decide) _ (.bool o'.stuck) h2 { o with here := o'.here, vF := o'.vF, stuck := o'.stuck } rfl
  rw [List.set_set] at e3
  have h3 : (l.set i { o with here := o'.here, vF := o'.vF, stuck := o'.stuck })[i]? = some { o with here := o'.here, vF := o'.vF, stuck := o'.stuck } := by simp [hl]
  have e4 := flat_set RObj.cells 4 (fun _ => rfl) _ i 3 (by decide) _ (.bool o'.queued) h3 o' rfl
  rw [List.set_set] at e4
  rw [e4, e3, e2, e1, Nat.add_zero]

/-- The four cells of an object that is laid into block i. -/
def layObj (w : World) (g i : Nat) (o : RObj) : World :=
  (((w.setCell ⟨g, i * 4, none⟩ (.bool o.here)).setCell ⟨g, i * 4 + 1, none⟩ o.vF).setCell ⟨g, i * 4 + 2, none⟩ (.bool o.stuck)).setCell ⟨g, i * 4 + 3, none⟩ (.bool o.queued)

theorem RefAt.placed {w w1 : World} {h : Nat} {m : RefM} {N : Nat} (r : RefAt w h m) (ok : m.Ok N) (hb : Below w.heap.size w w1) {g cap : Nat} (hv : m.vB = .slice (some ⟨g, 0, none⟩) (N + 1) cap) (i : Nat) {o0 : RObj} (hi : m.objs[i]? = some o0) (o : RObj)
    (ho : o.row.At w1) (hg : ∀ b, o.vF.ownBlock = some b → w.heap.size ≤ b) : Turn h w m (layObj w1 g i o) (m.put i o) := by
  have hob : m.vB.ownBlock = some g := by rw [hv]; rfl
  have hmem0 : (⟨81, 4, m.vB, m.objs.length, m.objs.flatMap RObj.cells⟩ : SRow) ∈ m.rows := by simp [RefM.rows]
  have hgh : g ≠ h := fun e => r.ne hmem0 (by rw [← e]; exact hob)
  have hglt : g < w.heap.size := rows_lt r.rowsAt g (List.mem_cons_of_mem _ (List.mem_filterMap.2 ⟨_, hmem0, hob⟩))
  have hrow : m.rows[4 + i]? = some o0.row := by
    simp only [RefM.rows, show 4 + i = i + 1 + 1 + 1 + 1 by omega, List.getElem?_cons_succ, List.getElem?_map, hi]; rfl
  obtain ⟨R1, F1⟩ := r.rowsAt.set hrow o.row ho (fun b hbb => .inr (hg b hbb)) (fun k hk _ _ => hb.block k hk) hb.size
  have hlay : ∀ k, k ≠ g → (layObj w1 g i o).heap[k]? = w1.heap[k]? := fun k hk => by unfold layObj; rw [hso hk, hso hk, hso hk, hso hk]
  have hsz : (layObj w1 g i o).heap.size = w1.heap.size := by unfold layObj; simp [World.setCell]
  have h0 : (m.rows.set (4 + i) o.row)[0]? = some ⟨81, 4, m.vB, m.objs.length, m.objs.flatMap RObj.cells⟩ := by
    simp [RefM.rows, show 4 + i = i + 1 + 1 + 1 + 1 by omega]
  have hblk : (⟨81, 4, m.vB, (m.objs.set i o).length, (m.objs.set i o).flatMap RObj.cells⟩ : SRow).At (layObj w1 g i o) := by
    show (layObj w1 g i o).ownsRow 0 _ 4 m.vB (m.objs.set i o).length _
    rw [List.length_set, flat_set4 m.objs i o0 o hi]
    have hb0 : w1.ownsRow 0 81 4 m.vB m.objs.length (m.objs.flatMap RObj.cells) := own_carry r.blocks fun j hj => hb.block j (own_lt r.blocks hj).2
    rw [hv, ok.len] at hb0 ⊢
    unfold layObj
    exact ((((hb0.stored _ _).1.stored _ _).1.stored _ _).1.stored _ _).1
  obtain ⟨R2, F2⟩ := R1.set h0 _ hblk (fun b hbb => .inl hbb) (fun k _ _ h2 => hlay k (fun e => h2 (by rw [e]; exact hob))) (by rw [hsz]; exact Nat.le_refl _)
  rw [← put_rows] at R2 F2
  refine ⟨R2.refAt ?_, fun b hbb => ?_, ⟨?_, ?_, ?_, ?_, ?_⟩⟩
  · rw [hlay h (fun e => hgh e.symm), hb.block h (lt_of_heap r.head)]; exact r.head
  · rw [← rows_foot] at hbb ⊢
    rcases F2 b hbb with e | e
    · exact F1 b e
    · have := hb.size; exact .inr (by omega)
  · exact hb.os
  · exact hb.tape
  · exact hb.output
  · rw [hsz]; exact hb.size
  · intro k hk hF
    have hkg : k ≠ g := fun e => hF (by rw [e, ← rows_foot]; exact List.mem_cons_of_mem _ (List.mem_filterMap.2 ⟨_, hmem0, hob⟩))
    rw [hlay k hkg, hb.block k hk]

theorem RefM.Ok.put {m : RefM} {N : Nat} (ok : m.Ok N) {i : Nat} {o0 : RObj} (hi : m.objs[i]? = some o0) (hq : o0.queued = false) (o : RObj) (hf : o.fs.length ≤ 4) : (m.put i o).Ok N := by
  refine ⟨ok.most, by simp [RefM.put, ok.len], ok.small, fun x hx => ?_, ok.stack, ok.globals, ?_⟩
  · rcases List.mem_or_eq_of_mem_set hx with e | e
    · exact ok.fields x e
    · subst e; exact hf
  · have hc : ∀ (l : List RObj) (i : Nat), l[i]? = some o0 → l.countP RObj.queued ≤ (l.set i o).countP RObj.queued := by
      intro l
      induction l with
      | nil => intro i h; simp at h
      | cons a l ih =>
        intro i h
        cases i with
        | zero => simp at h; subst h; simp [List.countP_cons, hq]
        | succ i => simp at h; rw [List.set_cons_succ, List.countP_cons, List.countP_cons]; have := ih i h; omega
    exact Nat.le_trans ok.queue (hc _ _ hi)

end Go.Proofs.Ytblekkjamemloaa
