/-
  No cell of these rows narrows 'for every input' (looked for: loops, veiled, ifaces, maps, wideKeys, modest, calm, conditions, laid).
  DERIVED. THE GIVEN ROWS OF THIS SEAT. 7 by the template 'for every input the law returns true; each argument reads behind the call as it read before'; 0 by the template 'total and deterministic' (their statements: YtblekkjamemloaaTotals.lean).
  GIVEN WITH THE SEED: the statements are not yours to turn. If you find one false, say at which input.
  Laid BY PROGRAM, IN A SANDBOX (cutbox-rows.mjs): the forced cells as the released guide's own fill.sh prints them over the translation 423ccf5a92b9d716… (all of the seat's roots in one cut). By AI agents, Wed Nov 11 2026. No macro, syntax, notation, axiom, sorry.
-/
import Derived.Test.YtblekkjamemloaaChecked
import GoSem.Claim
import GoSem.ClaimJoined
import GoSem.ClaimMapViews
import Derived.JoinedTies
import Derived.KernelRfl
namespace Go.Proofs.Ytblekkjamemloaa
/- THE CELL 'sum', in the pinned program and in every row, IS THE sha256 OF THE DUMP (.gsa) THAT YtblekkjamemloaaProg.lean LOADS. Nothing in Lean hashes anything: it is a label: what it is worth is what the hold of that sum in a sandbox is worth. -/
noncomputable def Try.pinned : Pinned := { name := "ytblekkjamemloaa", sum := "423ccf5a92b9d716d6a0f9b4b093c0df444c158c5e8a5425d97db675110e6665", checked := Try.checked }
namespace Rows
def none {H : Type} : Left H := { results := [], args := [] }

/-- 'reclaimlaw.News': WHATEVER THE INPUT: true; the input reads as it did. -/
def newsSpec : ChangeSpec := { name := "news", fn := fun _ => fun
  | [d] => { results := [.lit (.bool true)], args := [d] }
  | _ => none }
def newsRow : OpenClaim := { program := "ytblekkjamemloaa", sum := "423ccf5a92b9d716d6a0f9b4b093c0df444c158c5e8a5425d97db675110e6665", func := "reclaim/reclaimlaw.News", spec := "news", apart := false }
def NewsSaid : Prop := newsRow.holds Try.pinned (OpenSpec.ofChange newsSpec)

/-- ITS FALSE NEIGHBOUR: 'it returns false'. Refute it at one input. -/
def newsWrong : ChangeSpec := { name := "news", fn := fun _ => fun
  | [d] => { results := [.lit (.bool false)], args := [d] }
  | _ => none }
def NewsWrongFalsely : Prop := newsRow.holds Try.pinned (OpenSpec.ofChange newsWrong)

/-- 'reclaimlaw.Does': WHATEVER THE INPUT: true; the input reads as it did. -/
def doesSpec : ChangeSpec := { name := "does", fn := fun _ => fun
  | [d] => { results := [.lit (.bool true)], args := [d] }
  | _ => none }
def doesRow : OpenClaim := { program := "ytblekkjamemloaa", sum := "423ccf5a92b9d716d6a0f9b4b093c0df444c158c5e8a5425d97db675110e6665", func := "reclaim/reclaimlaw.Does", spec := "does", apart := false }
def DoesSaid : Prop := doesRow.holds Try.pinned (OpenSpec.ofChange doesSpec)

/-- ITS FALSE NEIGHBOUR: 'it returns false'. Refute it at one input. -/
def doesWrong : ChangeSpec := { name := "does", fn := fun _ => fun
  | [d] => { results := [.lit (.bool false)], args := [d] }
  | _ => none }
def DoesWrongFalsely : Prop := doesRow.holds Try.pinned (OpenSpec.ofChange doesWrong)

/-- 'reclaimlaw.Dumps': WHATEVER THE INPUT: true; the input reads as it did. -/
def dumpsSpec : ChangeSpec := { name := "dumps", fn := fun _ => fun
  | [d] => { results := [.lit (.bool true)], args := [d] }
  | _ => none }
def dumpsRow : OpenClaim := { program := "ytblekkjamemloaa", sum := "423ccf5a92b9d716d6a0f9b4b093c0df444c158c5e8a5425d97db675110e6665", func := "reclaim/reclaimlaw.Dumps", spec := "dumps", apart := false }
def DumpsSaid : Prop := dumpsRow.holds Try.pinned (OpenSpec.ofChange dumpsSpec)

/-- ITS FALSE NEIGHBOUR: 'it returns false'. Refute it at one input. -/
def dumpsWrong : ChangeSpec := { name := "dumps", fn := fun _ => fun
  | [d] => { results := [.lit (.bool false)], args := [d] }
  | _ => none }
def DumpsWrongFalsely : Prop := dumpsRow.holds Try.pinned (OpenSpec.ofChange dumpsWrong)

/-- 'reclaimlaw.Safepoints': WHATEVER THE INPUT: true; the input reads as it did. -/
def safepointsSpec : ChangeSpec := { name := "safepoints", fn := fun _ => fun
  | [d] => { results := [.lit (.bool true)], args := [d] }
  | _ => none }
def safepointsRow : OpenClaim := { program := "ytblekkjamemloaa", sum := "423ccf5a92b9d716d6a0f9b4b093c0df444c158c5e8a5425d97db675110e6665", func := "reclaim/reclaimlaw.Safepoints", spec := "safepoints", apart := false }
def SafepointsSaid : Prop := safepointsRow.holds Try.pinned (OpenSpec.ofChange safepointsSpec)

/-- ITS FALSE NEIGHBOUR: 'it returns false'. Refute it at one input. -/
def safepointsWrong : ChangeSpec := { name := "safepoints", fn := fun _ => fun
  | [d] => { results := [.lit (.bool false)], args := [d] }
  | _ => none }
def SafepointsWrongFalsely : Prop := safepointsRow.holds Try.pinned (OpenSpec.ofChange safepointsWrong)

/-- 'reclaimlaw.Collects': WHATEVER THE INPUT: true; the input reads as it did. -/
def collectsSpec : ChangeSpec := { name := "collects", fn := fun _ => fun
  | [d] => { results := [.lit (.bool true)], args := [d] }
  | _ => none }
def collectsRow : OpenClaim := { program := "ytblekkjamemloaa", sum := "423ccf5a92b9d716d6a0f9b4b093c0df444c158c5e8a5425d97db675110e6665", func := "reclaim/reclaimlaw.Collects", spec := "collects", apart := false }
def CollectsSaid : Prop := collectsRow.holds Try.pinned (OpenSpec.ofChange collectsSpec)

/-- ITS FALSE NEIGHBOUR: 'it returns false'. Refute it at one input. -/
def collectsWrong : ChangeSpec := { name := "collects", fn := fun _ => fun
  | [d] => { results := [.lit (.bool false)], args := [d] }
  | _ => none }
def CollectsWrongFalsely : Prop := collectsRow.holds Try.pinned (OpenSpec.ofChange collectsWrong)

/-- 'reclaimlaw.Fulls': WHATEVER THE INPUT: true; the input reads as it did. -/
def fullsSpec : ChangeSpec := { name := "fulls", fn := fun _ => fun
  | [d] => { results := [.lit (.bool true)], args := [d] }
  | _ => none }
def fullsRow : OpenClaim := { program := "ytblekkjamemloaa", sum := "423ccf5a92b9d716d6a0f9b4b093c0df444c158c5e8a5425d97db675110e6665", func := "reclaim/reclaimlaw.Fulls", spec := "fulls", apart := false }
def FullsSaid : Prop := fullsRow.holds Try.pinned (OpenSpec.ofChange fullsSpec)

/-- ITS FALSE NEIGHBOUR: 'it returns false'. Refute it at one input. -/
def fullsWrong : ChangeSpec := { name := "fulls", fn := fun _ => fun
  | [d] => { results := [.lit (.bool false)], args := [d] }
  | _ => none }
def FullsWrongFalsely : Prop := fullsRow.holds Try.pinned (OpenSpec.ofChange fullsWrong)

/-- 'reclaimkeep.Transparent': WHATEVER THE INPUT: true; the input reads as it did. -/
def transparentSpec : ChangeSpec := { name := "transparent", fn := fun _ => fun
  | [d1, d2, d3, d4] => { results := [.lit (.bool true)], args := [d1, d2, d3, d4] }
  | _ => none }
def transparentRow : OpenClaim := { program := "ytblekkjamemloaa", sum := "423ccf5a92b9d716d6a0f9b4b093c0df444c158c5e8a5425d97db675110e6665", func := "reclaim/reclaimkeep.Transparent", spec := "transparent", apart := false }
def TransparentSaid : Prop := transparentRow.holds Try.pinned (OpenSpec.ofChange transparentSpec)

/-- ITS FALSE NEIGHBOUR: 'it returns false'. Refute it at one input. -/
def transparentWrong : ChangeSpec := { name := "transparent", fn := fun _ => fun
  | [d1, d2, d3, d4] => { results := [.lit (.bool false)], args := [d1, d2, d3, d4] }
  | _ => none }
def TransparentWrongFalsely : Prop := transparentRow.holds Try.pinned (OpenSpec.ofChange transparentWrong)

/- THE SECOND FORM. 'bulk': how many values and letters a reading holds, each counted each time it is reached (what is shared counts as often as it is met; a slice's spare places count too). A statement '..UptoSaid' is the law's where the arguments, and the package variables that the reading takes, are together of bulk at most 1048576: NARROWER than '..Said'. Prove '..Said' where nothing that the law and all that it calls make is longer than what came in: it says more and counts as full. Else prove '..UptoSaid'. A law counts once. -/
mutual
def uptoBulk {H : Type} : DataW H → Nat
  | .lit (.string bytes) => bytes.length + 1
  | .lit _ => 1
  | .nil => 1
  | .ptr d => uptoBulk d + 1
  | .slice elems spare => uptoBulkAll elems + uptoBulkAll spare + 1
  | .agg parts => uptoBulkAll parts + 1
  | .iface _ d => uptoBulk d + 1
  | .map entries => uptoBulkEntries entries + 1
  | .held _ => 1
def uptoBulkAll {H : Type} : List (DataW H) → Nat
  | [] => 0
  | d :: r => uptoBulk d + uptoBulkAll r
def uptoBulkEntries {H : Type} : List (Lit × DataW H) → Nat
  | [] => 0
  | x :: r => uptoBulkEntry x + uptoBulkEntries r
def uptoBulkEntry {H : Type} : Lit × DataW H → Nat
  | (.string bytes, d) => bytes.length + uptoBulk d + 1
  | (_, d) => uptoBulk d + 1
 end
def uptoSmall : (H : Type) → List (DataW H) → Bool := fun _ ds => decide (uptoBulkAll ds ≤ 1048576)
def OpenSpec.upto (s : _root_.Go.ChangeSpec) : _root_.Go.OpenSpec := { _root_.Go.OpenSpec.ofChange s with cond := some uptoSmall }

/-- 'reclaimlaw.News', WHERE WHAT IT READS IS OF BULK AT MOST 1048576: true; the input reads as it did. -/
def newsUptoRow : OpenClaim := { program := "ytblekkjamemloaa", sum := "423ccf5a92b9d716d6a0f9b4b093c0df444c158c5e8a5425d97db675110e6665", func := "reclaim/reclaimlaw.News", spec := "news", apart := false, narrowed := true }
def NewsUptoSaid : Prop := newsUptoRow.holds Try.pinned (OpenSpec.upto newsSpec)

/-- 'reclaimlaw.Does', WHERE WHAT IT READS IS OF BULK AT MOST 1048576: true; the input reads as it did. -/
def doesUptoRow : OpenClaim := { program := "ytblekkjamemloaa", sum := "423ccf5a92b9d716d6a0f9b4b093c0df444c158c5e8a5425d97db675110e6665", func := "reclaim/reclaimlaw.Does", spec := "does", apart := false, narrowed := true }
def DoesUptoSaid : Prop := doesUptoRow.holds Try.pinned (OpenSpec.upto doesSpec)

/-- 'reclaimlaw.Dumps', WHERE WHAT IT READS IS OF BULK AT MOST 1048576: true; the input reads as it did. -/
def dumpsUptoRow : OpenClaim := { program := "ytblekkjamemloaa", sum := "423ccf5a92b9d716d6a0f9b4b093c0df444c158c5e8a5425d97db675110e6665", func := "reclaim/reclaimlaw.Dumps", spec := "dumps", apart := false, narrowed := true }
def DumpsUptoSaid : Prop := dumpsUptoRow.holds Try.pinned (OpenSpec.upto dumpsSpec)

/-- 'reclaimlaw.Safepoints', WHERE WHAT IT READS IS OF BULK AT MOST 1048576: true; the input reads as it did. -/
def safepointsUptoRow : OpenClaim := { program := "ytblekkjamemloaa", sum := "423ccf5a92b9d716d6a0f9b4b093c0df444c158c5e8a5425d97db675110e6665", func := "reclaim/reclaimlaw.Safepoints", spec := "safepoints", apart := false, narrowed := true }
def SafepointsUptoSaid : Prop := safepointsUptoRow.holds Try.pinned (OpenSpec.upto safepointsSpec)

/-- 'reclaimlaw.Collects', WHERE WHAT IT READS IS OF BULK AT MOST 1048576: true; the input reads as it did. -/
def collectsUptoRow : OpenClaim := { program := "ytblekkjamemloaa", sum := "423ccf5a92b9d716d6a0f9b4b093c0df444c158c5e8a5425d97db675110e6665", func := "reclaim/reclaimlaw.Collects", spec := "collects", apart := false, narrowed := true }
def CollectsUptoSaid : Prop := collectsUptoRow.holds Try.pinned (OpenSpec.upto collectsSpec)

/-- 'reclaimlaw.Fulls', WHERE WHAT IT READS IS OF BULK AT MOST 1048576: true; the input reads as it did. -/
def fullsUptoRow : OpenClaim := { program := "ytblekkjamemloaa", sum := "423ccf5a92b9d716d6a0f9b4b093c0df444c158c5e8a5425d97db675110e6665", func := "reclaim/reclaimlaw.Fulls", spec := "fulls", apart := false, narrowed := true }
def FullsUptoSaid : Prop := fullsUptoRow.holds Try.pinned (OpenSpec.upto fullsSpec)

/-- 'reclaimkeep.Transparent', WHERE WHAT IT READS IS OF BULK AT MOST 1048576: true; the input reads as it did. -/
def transparentUptoRow : OpenClaim := { program := "ytblekkjamemloaa", sum := "423ccf5a92b9d716d6a0f9b4b093c0df444c158c5e8a5425d97db675110e6665", func := "reclaim/reclaimkeep.Transparent", spec := "transparent", apart := false, narrowed := true }
def TransparentUptoSaid : Prop := transparentUptoRow.holds Try.pinned (OpenSpec.upto transparentSpec)

end Rows
end Go.Proofs.Ytblekkjamemloaa
