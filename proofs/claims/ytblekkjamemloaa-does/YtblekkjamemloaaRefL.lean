/- OUR OWN. The document's heap: a field is turned; what a sorting leaves clean. -/
import Derived.Test.YtblekkjamemloaaRefK
namespace Go.Proofs.Ytblekkjamemloaa
open Go.RowKit
set_option linter.unusedVariables false
set_option linter.unusedSimpArgs false

theorem flat_same {α : Type} (f : α → List Value) (l : List α) (i : Nat) (o o' : α) (h : l[i]? = some o) (hf : f o' = f o) : (l.set i o').flatMap f = l.flatMap f := by
  rw [List.flatMap_def, List.flatMap_def, map_set_same f l i o o' h hf]

theorem countP_same (p : RObj → Bool) (l : List RObj) (i : Nat) (o o' : RObj) (h : l[i]? = some o) (hf : p o' = p o) : (l.set i o').countP p = l.countP p := by
  induction l generalizing i with
  | nil => simp at h
  | cons a l ih =>
    cases i with
    | zero => simp at h; subst h; simp [List.countP_cons, hf]
    | succ i => simp at h; rw [List.set_cons_succ, List.countP_cons, List.countP_cons, ih i h]

theorem RefAt.fieldSet {w : World} {h : Nat} {m : RefM} (r : RefAt w h m) (i : Nat) {o : RObj} (hi : m.objs[i]? = some o) {g cap : Nat} (hv : o.vF = .slice (some ⟨g, 0, none⟩) o.fs.length cap) (k : Nat) (hk : k < o.fs.length) (x : Int × Int) :
    Turn h w m ((w.setCell ⟨g, k * 2, none⟩ (.int .i64 x.1)).setCell ⟨g, k * 2 + 1, none⟩ (.int .i64 x.2)) (m.put i { o with fs := o.fs.set k x }) := by
  have hob : o.vF.ownBlock = some g := by rw [hv]; rfl
  have hmem : o.row ∈ m.rows := by simp only [RefM.rows, List.mem_cons, List.mem_map]; exact .inr (.inr (.inr (.inr ⟨o, List.mem_of_getElem? hi, rfl⟩)))
  have hgh : g ≠ h := fun e => r.ne hmem (by rw [← e]; exact hob)
  have hrow : m.rows[4 + i]? = some o.row := by
    simp only [RefM.rows, show 4 + i = i + 1 + 1 + 1 + 1 by omega, List.getElem?_cons_succ, List.getElem?_map, hi]; rfl
  refine r.turn (4 + i) o.row ({ o with fs := o.fs.set k x } : RObj).row hrow ?_ ?_ ?_ ?_ ?_
  · rw [put_rows, flat_same RObj.cells m.objs i o { o with fs := o.fs.set k x } hi rfl, List.length_set]
    simp only [RefM.rows, show 4 + i = i + 1 + 1 + 1 + 1 by omega, List.set_cons_succ, List.set_cons_zero]
  · rw [hso (fun e => hgh e.symm), hso (fun e => hgh e.symm)]; exact r.head
  · show (World.setCell _ _ _).ownsRow 0 _ 2 o.vF (o.fs.set k x).length ((o.fs.set k x).flatMap valCells)
    have hik : o.fs[k]? = some o.fs[k] := List.getElem?_eq_getElem hk
    have e1 := flat_set valCells 2 (fun _ => rfl) o.fs k 0 (by decide) _ (.int .i64 x.1) hik (x.1, (o.fs[k]).2) rfl
    have h1 : (o.fs.set k (x.1, (o.fs[k]).2))[k]? = some (x.1, (o.fs[k]).2) := by simp [hk]
    have e2 := flat_set valCells 2 (fun _ => rfl) _ k 1 (by decide) _ (.int .i64 x.2) h1 x rfl
    rw [List.set_set, e1] at e2
    rw [List.length_set, e2, Nat.add_zero]
    have hb := r.fields o (List.mem_of_getElem? hi)
    rw [hv] at hb ⊢
    exact ((hb.stored _ _).1.stored _ _).1
  · intro j hj
    exact .inl hj
  · have hm : ∀ y ∈ [g], y ∈ h :: o.row.ob.toList := fun y hy => by simp at hy; subst hy; exact List.mem_cons_of_mem _ (by simp [SRow.ob, RObj.row, vrow, hob])
    exact ((off_setCell w g _ _).mono hm).trans ((off_setCell _ g _ _).mono hm)

theorem clean_enq {m : RefM} {i : Nat} {v : Value} (hc : FreeClean m) (hw : m.waitsB i = true) : FreeClean (m.enq i v) := by
  intro o ho hf
  have ho' : o ∈ qset m.objs i := ho
  unfold RefM.waitsB at hw
  cases hi : m.objs[i]? with
  | none => rw [hi] at hw; cases hw
  | some o1 =>
    rw [hi] at hw
    rw [qset_eq hi] at ho'
    rcases List.mem_or_eq_of_mem_set ho' with e | e
    · exact hc o e hf
    · subst e
      simp at hw hf
      rw [hf] at hw
      simp at hw

theorem SortRel.clean {but : Int} {m : RefM} (hc : FreeClean m) : ∀ {k : Nat} {m' : RefM}, SortRel but m k m' → FreeClean m' := by
  intro k
  induction k with
  | zero => intro m' h; rw [show m' = m from h]; exact hc
  | succ k ih =>
    rintro m' ⟨m1, h1, ⟨hs, v, rfl⟩ | ⟨_, rfl⟩⟩
    · refine clean_enq (ih h1) ?_
      unfold sortB at hs
      simp only [Bool.and_eq_true] at hs
      exact hs.1.1
    · exact ih h1
theorem EnterRel.clean {but : Int} {m m' : RefM} {N : Nat} (hc : FreeClean m) (h : EnterRel but m N m') : FreeClean m' := by
  unfold EnterRel at h
  split at h
  · exact h.clean hc
  · rw [h]; exact hc

theorem Alikeq.st {m m' : RefM} (a : Alikeq m m') : m'.st = m.st := by
  unfold RefM.st
  have h : m'.objs.map (fun o => (o.here, o.fs)) = m.objs.map (fun o => (o.here, o.fs)) := by
    have := congrArg (List.map fun (t : Bool × Value × List (Int × Int) × Bool) => (t.1, t.2.2.1)) a.objs
    simpa [List.map_map, RObj.strip, Function.comp_def] using this
  rw [a.stack, a.globals, h]

theorem put_st (m : RefM) (i : Nat) (o : RObj) : (m.put i o).st = { m.st with objs := m.st.objs.set i (o.here, o.fs) } := by
  simp [RefM.st, RefM.put, List.map_set]

/-- a flag of an object is turned -/
theorem RStep.stuck {h N : Nat} {w : World} {m : RefM} (p : RPre h N w m) {g cap : Nat} (hv : m.vB = .slice (some ⟨g, 0, none⟩) (N + 1) cap) (i : Nat) {o : RObj} (hi : m.objs[i]? = some o) :
    RStep h N w m (w.setCell ⟨g, i * 4 + 2, none⟩ (.bool true)) (m.put i { o with stuck := true }) ∧ (m.put i { o with stuck := true }).st = m.st := by
  have t := p.r.flagged p.ok hv i hi { o with stuck := true } 2 (by decide) (.bool true) rfl rfl
  have hst : (m.put i { o with stuck := true }).st = m.st := by
    unfold RefM.st RefM.put
    simp only
    rw [map_set_same (fun o : RObj => (o.here, o.fs)) m.objs i o { o with stuck := true } hi rfl]
  refine ⟨⟨t, ⟨p.ok.most, by simp [RefM.put, p.ok.len], p.ok.small, fun x hx => ?_, p.ok.stack, p.ok.globals, ?_⟩, rfl, fun x hx hf => ?_⟩, hst⟩
  · rcases List.mem_or_eq_of_mem_set hx with e | e
    · exact p.ok.fields x e
    · subst e; exact p.ok.fields o (List.mem_of_getElem? hi)
  · show m.queue.length ≤ (m.objs.set i { o with stuck := true }).countP RObj.queued
    rw [countP_same RObj.queued m.objs i o { o with stuck := true } hi rfl]; exact p.ok.queue
  · rcases List.mem_or_eq_of_mem_set hx with e | e
    · exact p.clean x e hf
    · subst e; exact p.clean o (List.mem_of_getElem? hi) hf

theorem RStep.field {h N : Nat} {w : World} {m : RefM} (p : RPre h N w m) (i : Nat) {o : RObj} (hi : m.objs[i]? = some o) {g cap : Nat} (hv : o.vF = .slice (some ⟨g, 0, none⟩) o.fs.length cap) (k : Nat) (hk : k < o.fs.length) (x : Int × Int) (hx : okV N x) :
    RStep h N w m ((w.setCell ⟨g, k * 2, none⟩ (.int .i64 x.1)).setCell ⟨g, k * 2 + 1, none⟩ (.int .i64 x.2)) (m.put i { o with fs := o.fs.set k x }) ∧
    RPre h N ((w.setCell ⟨g, k * 2, none⟩ (.int .i64 x.1)).setCell ⟨g, k * 2 + 1, none⟩ (.int .i64 x.2)) (m.put i { o with fs := o.fs.set k x }) := by
  have t := p.r.fieldSet i hi hv k hk x
  have s : RStep h N w m _ _ := ⟨t, ⟨p.ok.most, by simp [RefM.put, p.ok.len], p.ok.small, fun y hy => by
      rcases List.mem_or_eq_of_mem_set hy with e | e
      · exact p.ok.fields y e
      · subst e; simpa using p.ok.fields o (List.mem_of_getElem? hi), p.ok.stack, p.ok.globals, by
      show m.queue.length ≤ (m.objs.set i { o with fs := o.fs.set k x }).countP RObj.queued
      rw [countP_same RObj.queued m.objs i o { o with fs := o.fs.set k x } hi rfl]; exact p.ok.queue⟩, rfl, fun y hy hf => by
      rcases List.mem_or_eq_of_mem_set hy with e | e
      · exact p.clean y e hf
      · subst e; exact p.clean o (List.mem_of_getElem? hi) hf⟩
  refine ⟨s, s.pre p ?_⟩
  rw [put_st]
  refine ⟨p.inv.stack, p.inv.globals, fun y hy v hv => ?_, by simpa using p.inv.len⟩
  rcases List.mem_or_eq_of_mem_set hy with e | e
  · exact p.inv.fields y e v hv
  · subst e
    rcases List.mem_or_eq_of_mem_set hv with e | e
    · exact p.inv.fields (o.here, o.fs) (List.mem_map.2 ⟨o, List.mem_of_getElem? hi, rfl⟩) v e
    · subst e; exact hx

theorem RStep.enter {h N : Nat} {w w' : World} {m m' : RefM} {but : Int} (p : RPre h N w m) (he : EnterRel but m N m') (t : Turn h w m w' m') (ok : m'.Ok N) : RStep h N w m w' m' ∧ m'.st = m.st :=
  ⟨⟨t, ok, he.alike.deep, he.clean p.clean⟩, he.alike.st⟩

end Go.Proofs.Ytblekkjamemloaa
