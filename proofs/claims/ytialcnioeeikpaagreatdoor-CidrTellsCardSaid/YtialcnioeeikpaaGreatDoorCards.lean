/-
  DERIVED. GIVEN WITH THE SEED: THE CARDS: each row of YtialcnioeeikpaaGreatDoorRows.lean that lists a variable, with what it lists TIED to the program's text (the seventh form; the later family's looks); each row that meets fmt, with fmt's text TOLD by the authors' own Lean function (tested against real Go, not proved from fmt's source: count such statements apart). THE CARD IS WHAT COUNTS. Prove the row's statement (the work); the ties are given (YtialcnioeeikpaaGreatDoorTie.lean); close each card by the builder's one call (the guide's Derived/Test/ToyasCard.lean, 'card_holds'). Laid BY PROGRAM, IN A SANDBOX (cutbox-door.mjs). By AI agents, Wed Nov 11 2026. No macro, syntax, notation, axiom, sorry.
-/
import Derived.Test.YtialcnioeeikpaaGreatDoorRows
import GoSem.ClaimSeven
namespace Go.Proofs.YtialcnioeeikpaaGreatDoor
namespace Rows

/-- THE TIED CARD OF 'hagioscopelaw04.CidrTells'. -/
def cidrTellsCard : Claim7 := { stood := { row := cidrTellsRow, standIns := [], harness := (true, "6d9c12903db1c7ae57aa1419025614c9c5d76db42f1dd1b40b5d327cf3ddf83d"), looks := false }, kinds := [], alts := [], laidByText := true, laidKinds := [.data, .data, .data], laidTests := true, laidLooks := .later }
def CidrTellsCardSaid : Prop := Claim7.holds Tryz.pinned (.plain (OpenSpec.ofChange cidrTellsSpec)) cidrTellsCard

/-- THE SECOND FORM's CARD OF 'hagioscopelaw04.CidrTells'. -/
def cidrTellsUptoCard : Claim7 := { stood := { row := cidrTellsUptoRow, standIns := [], harness := (true, "6d9c12903db1c7ae57aa1419025614c9c5d76db42f1dd1b40b5d327cf3ddf83d"), looks := false }, kinds := [], alts := [], laidByText := true, laidKinds := [.data, .data, .data], laidTests := true, laidLooks := .later }
def CidrTellsUptoCardSaid : Prop := Claim7.holds Tryz.pinned (.plain (OpenSpec.upto cidrTellsSpec)) cidrTellsUptoCard
end Rows
end Go.Proofs.YtialcnioeeikpaaGreatDoor
