/- OUR OWN. The document's heap: stored, where a field is turned: the walk over what the callees leave. -/
import Derived.Test.YtblekkjamemloaaRefN
namespace Go.Proofs.Ytblekkjamemloaa
open Go.RowKit
set_option linter.unusedVariables false
set_option linter.unusedSimpArgs false

/-- What is known of the heap at each place of the walk, and what each callee does to it. -/
structure StoreEnv (h N g capB fg fl fc i k : Nat) (x1 x2 y1 y2 q1 over : Int) (cx ex : Nat) (w : World) (Mid1 MidP TailP Done : World → Prop) : Prop where
  d0 : Calls Try.prog 78 #[.pointer (some ⟨h, 0, none⟩), .int .i64 0] w fun e w' => e = .returned (.agg #[.int .i64 x1, .int .i64 x2]) ∧ Below w.heap.size w w'
  d1 : ∀ W, Below w.heap.size w W → Calls Try.prog 78 #[.pointer (some ⟨h, 0, none⟩), .int .i64 1] W fun e w' => e = .returned (.agg #[.int .i64 q1, .int .i64 i]) ∧ Below W.heap.size W w'
  obj : ∀ W, Calls Try.prog 79 #[.agg #[.int .i64 q1, .int .i64 i]] W fun e w' => e = .returned (.int .i64 0) ∧ Below W.heap.size W w'
  old : ∀ W, Below w.heap.size w W → W.cell? ⟨h, 5, none⟩ = some (.slice (some ⟨g, 0, none⟩) (N + 1) capB) ∧ W.cell? ⟨g, i * 4 + 1, none⟩ = some (.slice (some ⟨fg, 0, none⟩) fl fc)
  pop : ∀ W, Below w.heap.size w W → Calls Try.prog 80 #[.pointer (some ⟨h, 0, none⟩), .int .i64 2] W fun e w' => e = .returned (.tuple #[]) ∧ Mid1 w' ∧ W.heap.size ≤ w'.heap.size ∧ ∀ L ob, w.heap.size ≤ L → W.heap[L]? = some ob → w'.heap[L]? = some ob
  mid : ∀ W, MidP W → W.cell? ⟨h, 5, none⟩ = some (.slice (some ⟨g, 0, none⟩) (N + 1) capB) ∧ W.cell? ⟨g, i * 4 + 1, none⟩ = some (.slice (some ⟨fg, 0, none⟩) fl fc) ∧ W.cell? ⟨fg, k * 2, none⟩ = some (.int .i64 y1) ∧ W.cell? ⟨fg, k * 2 + 1, none⟩ = some (.int .i64 y2) ∧
    W.frozen? ⟨fg, k * 2, none⟩ = false ∧ W.frozen? ⟨fg, k * 2 + 1, none⟩ = false ∧ W.cell? ⟨h, 4, none⟩ = some (.int .i64 over)
  mid1 : ∀ W, Mid1 W → MidP W
  mid1B : ∀ W W', Mid1 W → Below W.heap.size W W' → Mid1 W'
  midB : ∀ W W', MidP W → Below W.heap.size W W' → MidP W'
  same : ∀ W, MidP W → y1 = x1 → y2 = x2 → Done W
  count : ∀ W, Mid1 W → Calls Try.prog 61 #[.pointer (some ⟨h, 0, none⟩), .int .i64 x2] W fun e w' => e = .returned (.int .i64 cx) ∧ w' = W
  extras : ∀ W, Mid1 W → Calls Try.prog 50 #[.pointer (some ⟨h, 0, none⟩)] W fun e w' => e = .returned (.int .i64 ex) ∧ Below W.heap.size W w'
  stuck : ∀ W (j : Nat), MidP W → x2 = j → x1 = 2 → j ≤ N ∧ (∃ u, W.cell? ⟨g, j * 4 + 2, none⟩ = some (.bool u)) ∧ W.frozen? ⟨g, j * 4 + 2, none⟩ = false ∧ MidP (W.setCell ⟨g, j * 4 + 2, none⟩ (.bool true))
  store : ∀ W, MidP W → TailP ((W.setCell ⟨fg, k * 2, none⟩ (.int .i64 x1)).setCell ⟨fg, k * 2 + 1, none⟩ (.int .i64 x2))
  tailB : ∀ W W', TailP W → Below W.heap.size W W' → TailP W'
  tail : ∀ W, TailP W → W.cell? ⟨h, 5, none⟩ = some (.slice (some ⟨g, 0, none⟩) (N + 1) capB) ∧ ∀ j : Nat, j ≤ N → ∃ u, W.cell? ⟨g, j * 4 + 2, none⟩ = some (.bool u)
  done : ∀ W, TailP W → Done W
  tcount : ∀ W b, TailP W → ∃ c : Nat, Calls Try.prog 61 #[.pointer (some ⟨h, 0, none⟩), .int .i64 b] W fun e w' => e = .returned (.int .i64 c) ∧ w' = W
  enter : ∀ W b, TailP W → Calls Try.prog 74 #[.pointer (some ⟨h, 0, none⟩), .int .i64 b] W fun e w' => e = .returned (.tuple #[]) ∧ Done w'
  xref : x1 = 2 → ∃ j : Nat, x2 = j ∧ j ≤ N
  yref : y1 = 2 → ∃ j : Nat, y2 = j ∧ j ≤ N


end Go.Proofs.Ytblekkjamemloaa
