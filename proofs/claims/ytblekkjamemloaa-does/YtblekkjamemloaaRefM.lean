/- OUR OWN. The document's heap: stored. -/
import Derived.Test.YtblekkjamemloaaRefL
namespace Go.Proofs.Ytblekkjamemloaa
open Go.RowKit
set_option linter.unusedVariables false
set_option linter.unusedSimpArgs false

def StoreSays : Prop := ∀ (h N : Nat) (w : World) (m : RefM) (n : Int), RPre h N w m →
  Calls Try.prog 66 #[.pointer (some ⟨h, 0, none⟩), .int .i64 n] w (RDid h N w m (storeS m.st n))

/-- what the walk wants of a heap, in the world as it stands there: the head's cells, the object i, its field k -/
theorem RPre.facts {h N : Nat} {w : World} {m : RefM} (p : RPre h N w m) (i : Nat) (o : RObj) (hi : m.objs[i]? = some o) (k : Nat) (hk : k < o.fs.length) :
    ∃ g capB fg fc, m.vB = .slice (some ⟨g, 0, none⟩) (N + 1) capB ∧ o.vF = .slice (some ⟨fg, 0, none⟩) o.fs.length fc ∧ g < w.heap.size ∧ fg < w.heap.size ∧ w.cell? ⟨h, 5, none⟩ = some (.slice (some ⟨g, 0, none⟩) (N + 1) capB) ∧
      w.cell? ⟨g, i * 4 + 1, none⟩ = some (.slice (some ⟨fg, 0, none⟩) o.fs.length fc) ∧ w.cell? ⟨fg, k * 2, none⟩ = some (.int .i64 (o.fs[k]).1) ∧ w.cell? ⟨fg, k * 2 + 1, none⟩ = some (.int .i64 (o.fs[k]).2) ∧
      w.frozen? ⟨fg, k * 2, none⟩ = false ∧ w.frozen? ⟨fg, k * 2 + 1, none⟩ = false := by
  obtain ⟨g, capB, hvB, hg, _, _, _, hobj⟩ := p.r.view p.ok
  have hil : i < m.objs.length := (List.getElem?_eq_some_iff.1 hi).1
  have hio : m.objs[i] = o := (List.getElem?_eq_some_iff.1 hi).2
  obtain ⟨fg, fc, hvF, hfg, _, _, hfz, hfc⟩ := p.r.fieldView i hil (by rw [hio]; omega)
  have c1 := (hobj i hil).2.1
  rw [hvF] at c1
  simp only [hio] at *
  exact ⟨g, capB, fg, fc, hvB, hvF, hg, hfg, by rw [p.r.cell.2.2.2.2.2.1, hvB], c1, (hfc k hk).1, (hfc k hk).2, hfz _, hfz _⟩

theorem RPre.stuckCell {h N : Nat} {w : World} {m : RefM} (p : RPre h N w m) {g cap : Nat} (hv : m.vB = .slice (some ⟨g, 0, none⟩) (N + 1) cap) (i : Nat) (hi : i ≤ N) :
    ∃ o, m.objs[i]? = some o ∧ w.cell? ⟨g, i * 4 + 2, none⟩ = some (.bool o.stuck) ∧ w.frozen? ⟨g, i * 4 + 2, none⟩ = false := by
  obtain ⟨g', capB, hvB, hg, _, _, hfz, hobj⟩ := p.r.view p.ok
  have e : (Value.slice (some ⟨g', 0, none⟩) (N + 1) capB) = .slice (some ⟨g, 0, none⟩) (N + 1) cap := hvB.symm.trans hv
  simp at e
  obtain ⟨rfl, rfl⟩ := e
  have hil : i < m.objs.length := by rw [p.ok.len]; omega
  exact ⟨m.objs[i], List.getElem?_eq_getElem hil, (hobj i hil).2.2.1, hfz _⟩

/-- behind the store: the old value's object is let go -/
structure Tail (h N : Nat) (w : World) (m : RefM) (s' : St) (W : World) (m3 : RefM) : Prop where
  pre : RPre h N W m3
  step : RStep h N w m W m3
  st : m3.st = s'

theorem Tail.below {h N : Nat} {w W W' : World} {m m3 : RefM} {s' : St} (t : Tail h N w m s' W m3) (hb : Below W.heap.size W W') : Tail h N w m s' W' m3 := ⟨t.pre.below hb, t.step.after hb, t.st⟩

end Go.Proofs.Ytblekkjamemloaa
