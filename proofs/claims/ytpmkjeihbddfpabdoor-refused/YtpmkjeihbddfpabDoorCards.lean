/-
  DERIVED. GIVEN WITH THE SEED: THE CARDS: each row of YtpmkjeihbddfpabDoorRows.lean that lists a variable, with what it lists TIED to the program's text (the seventh form; the later family's looks); each row that meets fmt, with fmt's text TOLD by the authors' own Lean function (tested against real Go, not proved from fmt's source: count such statements apart). THE CARD IS WHAT COUNTS. Prove the row's statement (the work); the ties are given (YtpmkjeihbddfpabDoorTie.lean); close each card by the builder's one call (the guide's Derived/Test/ToyasCard.lean, 'card_holds'). Laid BY PROGRAM, IN A SANDBOX (cutbox-door.mjs). By AI agents, Wed Nov 11 2026. No macro, syntax, notation, axiom, sorry.
-/
import Derived.Test.YtpmkjeihbddfpabDoorRows
import GoSem.ClaimSeven
namespace Go.Proofs.YtpmkjeihbddfpabDoor
namespace Rows

/-- THE TIED CARD OF 'reclaimkeep.Refused'. -/
def refusedCard : Claim7 := { stood := { row := refusedRow, standIns := [], harness := (true, "a4376379f1d16315c216036e2f76fcc2224e90ab4c24e67da04cc411d4928214"), looks := false }, kinds := [], alts := [], laidByText := true, laidKinds := [.data, .data, .data], laidTests := true, laidLooks := .later }
def RefusedCardSaid : Prop := Claim7.holds Tryd.pinned (.plain (OpenSpec.ofChange refusedSpec)) refusedCard

/-- THE TIED CARD OF 'reclaimkeep.Freed'. -/
def freedCard : Claim7 := { stood := { row := freedRow, standIns := [], harness := (true, "a4376379f1d16315c216036e2f76fcc2224e90ab4c24e67da04cc411d4928214"), looks := false }, kinds := [], alts := [], laidByText := true, laidKinds := [.data, .data, .data], laidTests := true, laidLooks := .later }
def FreedCardSaid : Prop := Claim7.holds Tryd.pinned (.plain (OpenSpec.ofChange freedSpec)) freedCard

/-- THE SECOND FORM's CARD OF 'reclaimkeep.Refused'. -/
def refusedUptoCard : Claim7 := { stood := { row := refusedUptoRow, standIns := [], harness := (true, "a4376379f1d16315c216036e2f76fcc2224e90ab4c24e67da04cc411d4928214"), looks := false }, kinds := [], alts := [], laidByText := true, laidKinds := [.data, .data, .data], laidTests := true, laidLooks := .later }
def RefusedUptoCardSaid : Prop := Claim7.holds Tryd.pinned (.plain (OpenSpec.upto refusedSpec)) refusedUptoCard

/-- THE SECOND FORM's CARD OF 'reclaimkeep.Freed'. -/
def freedUptoCard : Claim7 := { stood := { row := freedUptoRow, standIns := [], harness := (true, "a4376379f1d16315c216036e2f76fcc2224e90ab4c24e67da04cc411d4928214"), looks := false }, kinds := [], alts := [], laidByText := true, laidKinds := [.data, .data, .data], laidTests := true, laidLooks := .later }
def FreedUptoCardSaid : Prop := Claim7.holds Tryd.pinned (.plain (OpenSpec.upto freedSpec)) freedUptoCard
end Rows
end Go.Proofs.YtpmkjeihbddfpabDoor
