/-
  DERIVED. GIVEN WITH THE SEED: THE CARDS: each row of YtpmkjeihbddfpaaGreatDoorRows.lean that lists a variable, with what it lists TIED to the program's text (the seventh form; the later family's looks); each row that meets fmt, with fmt's text TOLD by the authors' own Lean function (tested against real Go, not proved from fmt's source: count such statements apart). THE CARD IS WHAT COUNTS. Prove the row's statement (the work); the ties are given (YtpmkjeihbddfpaaGreatDoorTie.lean); close each card by the builder's one call (the guide's Derived/Test/ToyasCard.lean, 'card_holds'). Laid BY PROGRAM, IN A SANDBOX (cutbox-door.mjs). By AI agents, Wed Nov 11 2026. No macro, syntax, notation, axiom, sorry.
-/
import Derived.Test.YtpmkjeihbddfpaaGreatDoorRows
import GoSem.ClaimSeven
namespace Go.Proofs.YtpmkjeihbddfpaaGreatDoor
namespace Rows

/-- THE TIED CARD OF 'reclaimlaw.News'. -/
def newsCard : Claim7 := { stood := { row := newsRow, standIns := [], harness := (true, "ac8e0aa5afd78ea9ae2bd06c30a63d0dea53331bae8aa627eb49b4edf2232386"), looks := false }, kinds := [], alts := [], laidByText := true, laidKinds := [.data, .data, .data], laidTests := true, laidLooks := .later }
def NewsCardSaid : Prop := Claim7.holds Tryz.pinned (.plain (OpenSpec.ofChange newsSpec)) newsCard

/-- THE TIED CARD OF 'reclaimlaw.Does'. -/
def doesCard : Claim7 := { stood := { row := doesRow, standIns := [], harness := (true, "ac8e0aa5afd78ea9ae2bd06c30a63d0dea53331bae8aa627eb49b4edf2232386"), looks := false }, kinds := [], alts := [], laidByText := true, laidKinds := [.data, .data, .data], laidTests := true, laidLooks := .later }
def DoesCardSaid : Prop := Claim7.holds Tryz.pinned (.plain (OpenSpec.ofChange doesSpec)) doesCard

/-- THE TIED CARD OF 'reclaimlaw.Dumps'. -/
def dumpsCard : Claim7 := { stood := { row := dumpsRow, standIns := [], harness := (true, "ac8e0aa5afd78ea9ae2bd06c30a63d0dea53331bae8aa627eb49b4edf2232386"), looks := false }, kinds := [], alts := [], laidByText := true, laidKinds := [.data, .data, .data], laidTests := true, laidLooks := .later }
def DumpsCardSaid : Prop := Claim7.holds Tryz.pinned (.plain (OpenSpec.ofChange dumpsSpec)) dumpsCard

/-- THE TIED CARD OF 'reclaimlaw.Safepoints'. -/
def safepointsCard : Claim7 := { stood := { row := safepointsRow, standIns := [], harness := (true, "ac8e0aa5afd78ea9ae2bd06c30a63d0dea53331bae8aa627eb49b4edf2232386"), looks := false }, kinds := [], alts := [], laidByText := true, laidKinds := [.data, .data, .data], laidTests := true, laidLooks := .later }
def SafepointsCardSaid : Prop := Claim7.holds Tryz.pinned (.plain (OpenSpec.ofChange safepointsSpec)) safepointsCard

/-- THE TIED CARD OF 'reclaimlaw.Collects'. -/
def collectsCard : Claim7 := { stood := { row := collectsRow, standIns := [], harness := (true, "ac8e0aa5afd78ea9ae2bd06c30a63d0dea53331bae8aa627eb49b4edf2232386"), looks := false }, kinds := [], alts := [], laidByText := true, laidKinds := [.data, .data, .data], laidTests := true, laidLooks := .later }
def CollectsCardSaid : Prop := Claim7.holds Tryz.pinned (.plain (OpenSpec.ofChange collectsSpec)) collectsCard

/-- THE TIED CARD OF 'reclaimlaw.Fulls'. -/
def fullsCard : Claim7 := { stood := { row := fullsRow, standIns := [], harness := (true, "ac8e0aa5afd78ea9ae2bd06c30a63d0dea53331bae8aa627eb49b4edf2232386"), looks := false }, kinds := [], alts := [], laidByText := true, laidKinds := [.data, .data, .data], laidTests := true, laidLooks := .later }
def FullsCardSaid : Prop := Claim7.holds Tryz.pinned (.plain (OpenSpec.ofChange fullsSpec)) fullsCard

/-- THE SECOND FORM's CARD OF 'reclaimlaw.News'. -/
def newsUptoCard : Claim7 := { stood := { row := newsUptoRow, standIns := [], harness := (true, "ac8e0aa5afd78ea9ae2bd06c30a63d0dea53331bae8aa627eb49b4edf2232386"), looks := false }, kinds := [], alts := [], laidByText := true, laidKinds := [.data, .data, .data], laidTests := true, laidLooks := .later }
def NewsUptoCardSaid : Prop := Claim7.holds Tryz.pinned (.plain (OpenSpec.upto newsSpec)) newsUptoCard

/-- THE SECOND FORM's CARD OF 'reclaimlaw.Does'. -/
def doesUptoCard : Claim7 := { stood := { row := doesUptoRow, standIns := [], harness := (true, "ac8e0aa5afd78ea9ae2bd06c30a63d0dea53331bae8aa627eb49b4edf2232386"), looks := false }, kinds := [], alts := [], laidByText := true, laidKinds := [.data, .data, .data], laidTests := true, laidLooks := .later }
def DoesUptoCardSaid : Prop := Claim7.holds Tryz.pinned (.plain (OpenSpec.upto doesSpec)) doesUptoCard

/-- THE SECOND FORM's CARD OF 'reclaimlaw.Dumps'. -/
def dumpsUptoCard : Claim7 := { stood := { row := dumpsUptoRow, standIns := [], harness := (true, "ac8e0aa5afd78ea9ae2bd06c30a63d0dea53331bae8aa627eb49b4edf2232386"), looks := false }, kinds := [], alts := [], laidByText := true, laidKinds := [.data, .data, .data], laidTests := true, laidLooks := .later }
def DumpsUptoCardSaid : Prop := Claim7.holds Tryz.pinned (.plain (OpenSpec.upto dumpsSpec)) dumpsUptoCard

/-- THE SECOND FORM's CARD OF 'reclaimlaw.Safepoints'. -/
def safepointsUptoCard : Claim7 := { stood := { row := safepointsUptoRow, standIns := [], harness := (true, "ac8e0aa5afd78ea9ae2bd06c30a63d0dea53331bae8aa627eb49b4edf2232386"), looks := false }, kinds := [], alts := [], laidByText := true, laidKinds := [.data, .data, .data], laidTests := true, laidLooks := .later }
def SafepointsUptoCardSaid : Prop := Claim7.holds Tryz.pinned (.plain (OpenSpec.upto safepointsSpec)) safepointsUptoCard

/-- THE SECOND FORM's CARD OF 'reclaimlaw.Collects'. -/
def collectsUptoCard : Claim7 := { stood := { row := collectsUptoRow, standIns := [], harness := (true, "ac8e0aa5afd78ea9ae2bd06c30a63d0dea53331bae8aa627eb49b4edf2232386"), looks := false }, kinds := [], alts := [], laidByText := true, laidKinds := [.data, .data, .data], laidTests := true, laidLooks := .later }
def CollectsUptoCardSaid : Prop := Claim7.holds Tryz.pinned (.plain (OpenSpec.upto collectsSpec)) collectsUptoCard

/-- THE SECOND FORM's CARD OF 'reclaimlaw.Fulls'. -/
def fullsUptoCard : Claim7 := { stood := { row := fullsUptoRow, standIns := [], harness := (true, "ac8e0aa5afd78ea9ae2bd06c30a63d0dea53331bae8aa627eb49b4edf2232386"), looks := false }, kinds := [], alts := [], laidByText := true, laidKinds := [.data, .data, .data], laidTests := true, laidLooks := .later }
def FullsUptoCardSaid : Prop := Claim7.holds Tryz.pinned (.plain (OpenSpec.upto fullsSpec)) fullsUptoCard
end Rows
end Go.Proofs.YtpmkjeihbddfpaaGreatDoor
