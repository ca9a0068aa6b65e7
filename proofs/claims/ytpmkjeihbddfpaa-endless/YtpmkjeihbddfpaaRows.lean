/-
  No cell of these rows narrows 'for every input' (looked for: loops, veiled, ifaces, maps, wideKeys, modest, calm, conditions, laid).
  DERIVED. THE GIVEN ROWS OF THIS SEAT. 4 by the template 'for every input the law returns true; each argument reads behind the call as it read before'; 0 by the template 'total and deterministic' (their statements: YtpmkjeihbddfpaaTotals.lean).
  GIVEN WITH THE SEED: the statements are not yours to turn. If you find one false, say at which input.
  Laid BY PROGRAM, IN A SANDBOX (cutbox-rows.mjs): the forced cells as the released guide's own fill.sh prints them over the translation 64350050d01252bd… (all of the seat's roots in one cut). By AI agents, Wed Nov 11 2026. No macro, syntax, notation, axiom, sorry.
-/
import Derived.Test.YtpmkjeihbddfpaaChecked
import GoSem.Claim
import GoSem.ClaimJoined
import GoSem.ClaimMapViews
import Derived.JoinedTies
import Derived.KernelRfl
namespace Go.Proofs.Ytpmkjeihbddfpaa
/- THE CELL 'sum', in the pinned program and in every row, IS THE sha256 OF THE DUMP (.gsa) THAT YtpmkjeihbddfpaaProg.lean LOADS. Nothing in Lean hashes anything: it is a label: what it is worth is what the hold of that sum in a sandbox is worth. -/
noncomputable def Try.pinned : Pinned := { name := "ytpmkjeihbddfpaa", sum := "64350050d01252bdf4d0657b0aaf629ef418641126a11ac65545befc56c756d6", checked := Try.checked }
namespace Rows
def none {H : Type} : Left H := { results := [], args := [] }

/-- 'reclaimkeep.Drained': WHATEVER THE INPUT: true; the input reads as it did. -/
def drainedSpec : ChangeSpec := { name := "drained", fn := fun _ => fun
  | [d1, d2] => { results := [.lit (.bool true)], args := [d1, d2] }
  | _ => none }
def drainedRow : OpenClaim := { program := "ytpmkjeihbddfpaa", sum := "64350050d01252bdf4d0657b0aaf629ef418641126a11ac65545befc56c756d6", func := "reclaim/reclaimkeep.Drained", spec := "drained", apart := false }
def DrainedSaid : Prop := drainedRow.holds Try.pinned (OpenSpec.ofChange drainedSpec)

/-- ITS FALSE NEIGHBOUR: 'it returns false'. Refute it at one input. -/
def drainedWrong : ChangeSpec := { name := "drained", fn := fun _ => fun
  | [d1, d2] => { results := [.lit (.bool false)], args := [d1, d2] }
  | _ => none }
def DrainedWrongFalsely : Prop := drainedRow.holds Try.pinned (OpenSpec.ofChange drainedWrong)

/-- 'reclaimkeep.Transparent': WHATEVER THE INPUT: true; the input reads as it did. -/
def transparentSpec : ChangeSpec := { name := "transparent", fn := fun _ => fun
  | [d1, d2, d3, d4] => { results := [.lit (.bool true)], args := [d1, d2, d3, d4] }
  | _ => none }
def transparentRow : OpenClaim := { program := "ytpmkjeihbddfpaa", sum := "64350050d01252bdf4d0657b0aaf629ef418641126a11ac65545befc56c756d6", func := "reclaim/reclaimkeep.Transparent", spec := "transparent", apart := false }
def TransparentSaid : Prop := transparentRow.holds Try.pinned (OpenSpec.ofChange transparentSpec)

/-- ITS FALSE NEIGHBOUR: 'it returns false'. Refute it at one input. -/
def transparentWrong : ChangeSpec := { name := "transparent", fn := fun _ => fun
  | [d1, d2, d3, d4] => { results := [.lit (.bool false)], args := [d1, d2, d3, d4] }
  | _ => none }
def TransparentWrongFalsely : Prop := transparentRow.holds Try.pinned (OpenSpec.ofChange transparentWrong)

/-- 'reclaimkeep.Endless': WHATEVER THE INPUT: true; the input reads as it did. -/
def endlessSpec : ChangeSpec := { name := "endless", fn := fun _ => fun
  | [d1, d2, d3] => { results := [.lit (.bool true)], args := [d1, d2, d3] }
  | _ => none }
def endlessRow : OpenClaim := { program := "ytpmkjeihbddfpaa", sum := "64350050d01252bdf4d0657b0aaf629ef418641126a11ac65545befc56c756d6", func := "reclaim/reclaimkeep.Endless", spec := "endless", apart := false }
def EndlessSaid : Prop := endlessRow.holds Try.pinned (OpenSpec.ofChange endlessSpec)

/-- ITS FALSE NEIGHBOUR: 'it returns false'. Refute it at one input. -/
def endlessWrong : ChangeSpec := { name := "endless", fn := fun _ => fun
  | [d1, d2, d3] => { results := [.lit (.bool false)], args := [d1, d2, d3] }
  | _ => none }
def EndlessWrongFalsely : Prop := endlessRow.holds Try.pinned (OpenSpec.ofChange endlessWrong)

/-- 'reclaimkeep.Swept': WHATEVER THE INPUT: true; the input reads as it did. -/
def sweptSpec : ChangeSpec := { name := "swept", fn := fun _ => fun
  | [d1, d2] => { results := [.lit (.bool true)], args := [d1, d2] }
  | _ => none }
def sweptRow : OpenClaim := { program := "ytpmkjeihbddfpaa", sum := "64350050d01252bdf4d0657b0aaf629ef418641126a11ac65545befc56c756d6", func := "reclaim/reclaimkeep.Swept", spec := "swept", apart := false }
def SweptSaid : Prop := sweptRow.holds Try.pinned (OpenSpec.ofChange sweptSpec)

/-- ITS FALSE NEIGHBOUR: 'it returns false'. Refute it at one input. -/
def sweptWrong : ChangeSpec := { name := "swept", fn := fun _ => fun
  | [d1, d2] => { results := [.lit (.bool false)], args := [d1, d2] }
  | _ => none }
def SweptWrongFalsely : Prop := sweptRow.holds Try.pinned (OpenSpec.ofChange sweptWrong)

/- THE SECOND FORM. 'bulk': how many values and letters a reading holds, each counted each time it is reached (what is shared counts as often as it is met; a slice's spare places count too). A statement '..UptoSaid' is the law's where the arguments, and the package variables that the reading takes, are together of bulk at most 1048576: NARROWER than '..Said'. Prove '..Said' where nothing that the law and all that it calls make is longer than what came in: it says more and counts as full. Else prove '..UptoSaid'. A law counts once. -/
mutual
def uptoBulk {H : Type} : DataW H → Nat
  | .lit (.string bytes) => bytes.length + 1
  | .lit _ => 1
  | .nil => 1
  | .ptr d => uptoBulk d + 1
  | .slice elems spare => uptoBulkAll elems + uptoBulkAll spare + 1
  | .agg parts => uptoBulkAll parts + 1
  | .iface _ d => uptoBulk d + 1
  | .map entries => uptoBulkEntries entries + 1
  | .held _ => 1
def uptoBulkAll {H : Type} : List (DataW H) → Nat
  | [] => 0
  | d :: r => uptoBulk d + uptoBulkAll r
def uptoBulkEntries {H : Type} : List (Lit × DataW H) → Nat
  | [] => 0
  | x :: r => uptoBulkEntry x + uptoBulkEntries r
def uptoBulkEntry {H : Type} : Lit × DataW H → Nat
  | (.string bytes, d) => bytes.length + uptoBulk d + 1
  | (_, d) => uptoBulk d + 1
 end
def uptoSmall : (H : Type) → List (DataW H) → Bool := fun _ ds => decide (uptoBulkAll ds ≤ 1048576)
def OpenSpec.upto (s : _root_.Go.ChangeSpec) : _root_.Go.OpenSpec := { _root_.Go.OpenSpec.ofChange s with cond := some uptoSmall }

/-- 'reclaimkeep.Drained', WHERE WHAT IT READS IS OF BULK AT MOST 1048576: true; the input reads as it did. -/
def drainedUptoRow : OpenClaim := { program := "ytpmkjeihbddfpaa", sum := "64350050d01252bdf4d0657b0aaf629ef418641126a11ac65545befc56c756d6", func := "reclaim/reclaimkeep.Drained", spec := "drained", apart := false, narrowed := true }
def DrainedUptoSaid : Prop := drainedUptoRow.holds Try.pinned (OpenSpec.upto drainedSpec)

/-- 'reclaimkeep.Transparent', WHERE WHAT IT READS IS OF BULK AT MOST 1048576: true; the input reads as it did. -/
def transparentUptoRow : OpenClaim := { program := "ytpmkjeihbddfpaa", sum := "64350050d01252bdf4d0657b0aaf629ef418641126a11ac65545befc56c756d6", func := "reclaim/reclaimkeep.Transparent", spec := "transparent", apart := false, narrowed := true }
def TransparentUptoSaid : Prop := transparentUptoRow.holds Try.pinned (OpenSpec.upto transparentSpec)

/-- 'reclaimkeep.Endless', WHERE WHAT IT READS IS OF BULK AT MOST 1048576: true; the input reads as it did. -/
def endlessUptoRow : OpenClaim := { program := "ytpmkjeihbddfpaa", sum := "64350050d01252bdf4d0657b0aaf629ef418641126a11ac65545befc56c756d6", func := "reclaim/reclaimkeep.Endless", spec := "endless", apart := false, narrowed := true }
def EndlessUptoSaid : Prop := endlessUptoRow.holds Try.pinned (OpenSpec.upto endlessSpec)

/-- 'reclaimkeep.Swept', WHERE WHAT IT READS IS OF BULK AT MOST 1048576: true; the input reads as it did. -/
def sweptUptoRow : OpenClaim := { program := "ytpmkjeihbddfpaa", sum := "64350050d01252bdf4d0657b0aaf629ef418641126a11ac65545befc56c756d6", func := "reclaim/reclaimkeep.Swept", spec := "swept", apart := false, narrowed := true }
def SweptUptoSaid : Prop := sweptUptoRow.holds Try.pinned (OpenSpec.upto sweptSpec)

end Rows
end Go.Proofs.Ytpmkjeihbddfpaa
