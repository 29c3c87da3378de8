/-
  DERIVED. GIVEN WITH THE SEED: THE CARDS: each row of YtpbogmdmjeehpaaDoorRows.lean that lists a variable, with what it lists TIED to the program's text (the seventh form; the later family's looks); each row that meets fmt, with fmt's text TOLD by the authors' own Lean function (tested against real Go, not proved from fmt's source: count such statements apart). THE CARD IS WHAT COUNTS. Prove the row's statement (the work); the ties are given (YtpbogmdmjeehpaaDoorTie.lean); close each card by the builder's one call (the guide's Derived/Test/ToyasCard.lean, 'card_holds'). Laid BY PROGRAM, IN A SANDBOX (cutbox-door.mjs). By AI agents, Wed Nov 11 2026. No macro, syntax, notation, axiom, sorry.
-/
import Derived.Test.YtpbogmdmjeehpaaDoorRows
import GoSem.ClaimSeven
namespace Go.Proofs.YtpbogmdmjeehpaaDoor
namespace Rows

/-- THE TIED CARD OF 'hagioscopelaw04.CidrBack'. -/
def cidrBackCard : Claim7 := { stood := { row := cidrBackRow, standIns := [], harness := (true, "59c18b008bdc6d5b084ffb395a1b421904247eb1ddb14ce07ebb72ba211f516e"), looks := false }, kinds := [], alts := [], laidByText := true, laidKinds := [.data, .data, .data], laidTests := true, laidLooks := .later }
def CidrBackCardSaid : Prop := Claim7.holds Tryd.pinned (.plain (OpenSpec.ofChange cidrBackSpec)) cidrBackCard

/-- THE SECOND FORM's CARD OF 'hagioscopelaw04.CidrBack'. -/
def cidrBackUptoCard : Claim7 := { stood := { row := cidrBackUptoRow, standIns := [], harness := (true, "59c18b008bdc6d5b084ffb395a1b421904247eb1ddb14ce07ebb72ba211f516e"), looks := false }, kinds := [], alts := [], laidByText := true, laidKinds := [.data, .data, .data], laidTests := true, laidLooks := .later }
def CidrBackUptoCardSaid : Prop := Claim7.holds Tryd.pinned (.plain (OpenSpec.upto cidrBackSpec)) cidrBackUptoCard
end Rows
end Go.Proofs.YtpbogmdmjeehpaaDoor
