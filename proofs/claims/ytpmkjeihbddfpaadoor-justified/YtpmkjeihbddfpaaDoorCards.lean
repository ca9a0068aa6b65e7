/-
  DERIVED. GIVEN WITH THE SEED: THE CARDS: each row of YtpmkjeihbddfpaaDoorRows.lean that lists a variable, with what it lists TIED to the program's text (the seventh form; the later family's looks); each row that meets fmt, with fmt's text TOLD by the authors' own Lean function (tested against real Go, not proved from fmt's source: count such statements apart). THE CARD IS WHAT COUNTS. Prove the row's statement (the work); the ties are given (YtpmkjeihbddfpaaDoorTie.lean); close each card by the builder's one call (the guide's Derived/Test/ToyasCard.lean, 'card_holds'). Laid BY PROGRAM, IN A SANDBOX (cutbox-door.mjs). By AI agents, Wed Nov 11 2026. No macro, syntax, notation, axiom, sorry.
-/
import Derived.Test.YtpmkjeihbddfpaaDoorRows
import GoSem.ClaimSeven
namespace Go.Proofs.YtpmkjeihbddfpaaDoor
namespace Rows

/-- THE TIED CARD OF 'reclaimkeep.Counted'. -/
def countedCard : Claim7 := { stood := { row := countedRow, standIns := [], harness := (true, "6f9e960d047f23ef08260b69c2a328fee49ce1d630d2191e4e2e32c6b0a563cc"), looks := false }, kinds := [], alts := [], laidByText := true, laidKinds := [.data, .data, .data], laidTests := true, laidLooks := .later }
def CountedCardSaid : Prop := Claim7.holds Tryd.pinned (.plain (OpenSpec.ofChange countedSpec)) countedCard

/-- THE TIED CARD OF 'reclaimkeep.Justified'. -/
def justifiedCard : Claim7 := { stood := { row := justifiedRow, standIns := [], harness := (true, "6f9e960d047f23ef08260b69c2a328fee49ce1d630d2191e4e2e32c6b0a563cc"), looks := false }, kinds := [], alts := [], laidByText := true, laidKinds := [.data, .data, .data], laidTests := true, laidLooks := .later }
def JustifiedCardSaid : Prop := Claim7.holds Tryd.pinned (.plain (OpenSpec.ofChange justifiedSpec)) justifiedCard

/-- THE SECOND FORM's CARD OF 'reclaimkeep.Counted'. -/
def countedUptoCard : Claim7 := { stood := { row := countedUptoRow, standIns := [], harness := (true, "6f9e960d047f23ef08260b69c2a328fee49ce1d630d2191e4e2e32c6b0a563cc"), looks := false }, kinds := [], alts := [], laidByText := true, laidKinds := [.data, .data, .data], laidTests := true, laidLooks := .later }
def CountedUptoCardSaid : Prop := Claim7.holds Tryd.pinned (.plain (OpenSpec.upto countedSpec)) countedUptoCard

/-- THE SECOND FORM's CARD OF 'reclaimkeep.Justified'. -/
def justifiedUptoCard : Claim7 := { stood := { row := justifiedUptoRow, standIns := [], harness := (true, "6f9e960d047f23ef08260b69c2a328fee49ce1d630d2191e4e2e32c6b0a563cc"), looks := false }, kinds := [], alts := [], laidByText := true, laidKinds := [.data, .data, .data], laidTests := true, laidLooks := .later }
def JustifiedUptoCardSaid : Prop := Claim7.holds Tryd.pinned (.plain (OpenSpec.upto justifiedSpec)) justifiedUptoCard
end Rows
end Go.Proofs.YtpmkjeihbddfpaaDoor
