/- OUR OWN. late: the steps that are left out. -/
import Derived.Test.YtblekkjamemloaaMade
import Derived.WalkSmall
namespace Go.Proofs.Ytblekkjamemloaa
open Go.RowKit

variable {Sim : HeapM → RefM → Int → Prop}

/-- a step, as its ten numbers -/
structure StepM where
  kind : Int
  a : Int
  op : Int
  n : Int
  b : Int
  s : Int
  g : Int
  u : Int
  z : Int
  o : Int

def StepM.cells (t : StepM) : List Value := [.int .i64 t.kind, .int .i64 t.a, .int .i64 t.op, .int .i64 t.n, .int .i64 t.b, .int .i64 t.s, .int .i64 t.g, .int .i64 t.u, .int .i64 t.z, .int .i64 t.o]
def StepM.val (t : StepM) : Value := .agg #[.int .i64 t.kind, .int .i64 t.a, .int .i64 t.op, .int .i64 t.n, .int .i64 t.b, .int .i64 t.s, .int .i64 t.g, .int .i64 t.u, .int .i64 t.z, .int .i64 t.o]
def fits (x : Int) : Prop := -9223372036854775808 ≤ x ∧ x ≤ 9223372036854775807
/-- the configuration in a step -/
def StepM.cfg (t : StepM) : Bool := cfgB t.b t.s t.g t.u t.z t.o

theorem LawAt.form {B : Nat} {w : World} {wb : Nat} {v : Value} {ps : List PairM} (r : LawAt Sim B w wb v ps) (hp : 0 < ps.length) :
    ∃ g cap, v = .slice (some ⟨g, 0, none⟩) ps.length cap ∧ g < w.heap.size ∧ ∀ k (hk : k < ps.length), w.cell? ⟨g, k, none⟩ = some (ptr (ps[k]).p) := by
  obtain ⟨g, cap, hv, _, hg⟩ := r.row.form hp
  refine ⟨g, cap, hv, hg, fun k hk => ?_⟩
  have := r.row.cells (g := g) (by rw [hv]; rfl) k (ptr (ps[k]).p) (by simp [hk])
  rwa [show (⟨g, 0, none⟩ : Addr).add k = ⟨g, k, none⟩ by unfold Addr.add; split <;> simp_all] at this

set_option maxHeartbeats 400000 in
theorem late_kind (wb : Nat) (t : StepM) (left : Int) (w : World) (h : t.kind ≠ 2 ∨ t.op ≠ 2) :
    Calls Try.prog 17 #[ptr wb, t.val, .int .i64 left] w fun e w' => e = .returned (.bool false) ∧ Below w.heap.size w w' := by
  obtain ⟨kind, a, op, n, b, s, g, u, z, o⟩ := t
  simp only at h
  unfold ptr StepM.val
  by_cases h1 : kind = 2
  · have h3 : ¬ op = 2 := by rcases h with h | h <;> simp_all
    have h2 : (op == 2) = false := by simpa using h3
    clear h
    subst h1
    go_enter Try.func17, Try.ntmps17
    go_wp2
    go_ret
    exact ⟨rfl, (Below.refl _ _).alloc (Nat.le_refl _) _⟩
  · have h2 : (kind == 2) = false := by simpa using h1
    clear h
    go_enter Try.func17, Try.ntmps17
    go_wp2
    go_ret
    exact ⟨rfl, (Below.refl _ _).alloc (Nat.le_refl _) _⟩

set_option maxHeartbeats 400000 in
theorem late_none {B : Nat} {w : World} {wb : Nat} {v : Value} (r : LawAt Sim B w wb v []) (t : StepM) (left : Int) (h1 : t.kind = 2) (h2 : t.op = 2) :
    Calls Try.prog 17 #[ptr wb, t.val, .int .i64 left] w fun e w' => e = .returned (.bool false) ∧ Below w.heap.size w w' := by
  obtain ⟨kind, a, op, n, b, s, g, u, z, o⟩ := t
  simp only at h1 h2
  subst h1 h2
  have hw := lt_of_heap r.head
  have hc : w.cell? ⟨wb, 0, none⟩ = some v := cell_of_heap r.head rfl
  obtain ⟨ao, cap, hv⟩ : ∃ ao cap, v = .slice ao 0 cap := by
    rcases r.row.2 with ⟨hv, _⟩ | ⟨g, cap, cur, hv, _⟩
    · exact ⟨_, _, hv⟩
    · exact ⟨_, _, hv⟩
  subst hv
  clear r
  unfold ptr StepM.val
  go_enter Try.func17, Try.ntmps17
  go_wp2
  go_ret
  exact ⟨rfl, (Below.refl _ _).alloc (Nat.le_refl _) _⟩

set_option maxHeartbeats 800000 in
theorem late_core (w : World) (wb gb cap len k qp qh : Nat) (nw mo a n b s g u z o : Int) (hw : wb < w.heap.size) (hgb : gb < w.heap.size) (hqp : qp < w.heap.size) (hqh : qh < w.heap.size)
    (hc : w.cell? ⟨wb, 0, none⟩ = some (.slice (some ⟨gb, 0, none⟩) len cap)) (hc1 : w.cell? ⟨gb, k, none⟩ = some (.pointer (some ⟨qp, 0, none⟩)))
    (hc2 : w.cell? ⟨qp, 1, none⟩ = some (.pointer (some ⟨qh, 0, none⟩))) (hc3 : w.cell? ⟨qp, 2, none⟩ = some (.int .i64 nw)) (hc4 : w.cell? ⟨qh, 0, none⟩ = some (.int .i64 mo))
    (hp : 0 < len) (hk : k < len) (PK : ∀ w, Calls Try.prog 33 #[.int .i64 a, .int .i64 len] w fun r w' => r = .returned (.int .i64 k) ∧ w' = w) :
    Calls Try.prog 17 #[.pointer (some ⟨wb, 0, none⟩), .agg #[.int .i64 2, .int .i64 a, .int .i64 2, .int .i64 n, .int .i64 b, .int .i64 s, .int .i64 g, .int .i64 u, .int .i64 z, .int .i64 o], .int .i64 1] w fun e w' =>
      e = .returned (.bool (decide (mo ≤ nw))) ∧ Below w.heap.size w w' := by
  have hkI : (k : Int) < len := by omega
  have hne : ((len : Int) == 0) = false := by simp; omega
  have hl0 : ¬ len = 0 := by omega
  go_enter Try.func17, Try.ntmps17
  go_wp2_with fail
  go_quiet ((go_at_call 33; exact Calls.quiet_of_same (PK _)))
  go_wp2
  go_quiet (fail)
  go_wp2
  go_ret
  exact ⟨rfl, below_drewN (below_drewN ((Below.refl _ _).alloc (Nat.le_refl _) _) _) _⟩

theorem late_early {B : Nat} {w : World} {wb : Nat} {v : Value} {ps : List PairM} (r : LawAt Sim B w wb v ps) (t : StepM) (h1 : t.kind = 2) (h2 : t.op = 2) (ha : fits t.a) (hp : 0 < ps.length) (hm : ps.length ≤ 2000000000000) :
    Calls Try.prog 17 #[ptr wb, t.val, .int .i64 1] w fun e w' =>
      e = .returned (.bool (decide ((ps[pickN t.a ps.length]'(pickN_lt _ _ hp)).rm.most ≤ (ps[pickN t.a ps.length]'(pickN_lt _ _ hp)).news))) ∧ Below w.heap.size w w' := by
  obtain ⟨kind, a, op, n, b, s, g, u, z, o⟩ := t
  simp only at h1 h2 ha ⊢
  subst h1 h2
  have hw := lt_of_heap r.head
  obtain ⟨gb, cap, rfl, hgb, hrow⟩ := r.form hp
  have hk := pickN_lt a ps.length hp
  have pa := r.pairs _ (List.getElem_mem hk)
  exact late_core w wb gb cap ps.length (pickN a ps.length) _ _ _ _ a n b s g u z o hw hgb (lt_of_heap pa.head) (lt_of_heap pa.ref.head) (cell_of_heap r.head rfl) (hrow _ hk)
    (cell_of_heap pa.head rfl) (cell_of_heap pa.head rfl) (cell_of_heap pa.ref.head rfl) hp hk (fun w => pick_any a ps.length w ha hp hm)

end Go.Proofs.Ytblekkjamemloaa
