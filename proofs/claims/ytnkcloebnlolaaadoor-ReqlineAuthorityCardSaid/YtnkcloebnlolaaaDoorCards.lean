/-
  DERIVED. GIVEN WITH THE SEED: THE CARDS: each row of YtnkcloebnlolaaaDoorRows.lean that lists a variable, with what it lists TIED to the program's text (the seventh form; the later family's looks); each row that meets fmt, with fmt's text TOLD by the authors' own Lean function (tested against real Go, not proved from fmt's source: count such statements apart). THE CARD IS WHAT COUNTS. Prove the row's statement (the work); the ties are given (YtnkcloebnlolaaaDoorTie.lean); close each card by the builder's one call (the guide's Derived/Test/ToyasCard.lean, 'card_holds'). Laid BY PROGRAM, IN A SANDBOX (cutbox-door.mjs). By AI agents, Wed Nov 11 2026. No macro, syntax, notation, axiom, sorry.
-/
import Derived.Test.YtnkcloebnlolaaaDoorRows
import GoSem.ClaimSeven
namespace Go.Proofs.YtnkcloebnlolaaaDoor
namespace Rows

/-- THE TIED CARD OF 'hagioscopelaw11.ReqlineTells'. -/
def reqlineTellsCard : Claim7 := { stood := { row := reqlineTellsRow, standIns := [], harness := (true, "6cf545e2bb98b62287d2de85b61d76cc33adb4d7a6870d89833e676b30f47edb"), looks := false }, kinds := [], alts := [], laidByText := true, laidKinds := [.data, .data, .data], laidTests := true, laidLooks := .later }
def ReqlineTellsCardSaid : Prop := Claim7.holds Tryd.pinned (.plain (OpenSpec.ofChange reqlineTellsSpec)) reqlineTellsCard

/-- THE TIED CARD OF 'hagioscopelaw11.ReqlineBack'. -/
def reqlineBackCard : Claim7 := { stood := { row := reqlineBackRow, standIns := [], harness := (true, "6cf545e2bb98b62287d2de85b61d76cc33adb4d7a6870d89833e676b30f47edb"), looks := false }, kinds := [], alts := [], laidByText := true, laidKinds := [.data, .data, .data], laidTests := true, laidLooks := .later }
def ReqlineBackCardSaid : Prop := Claim7.holds Tryd.pinned (.plain (OpenSpec.ofChange reqlineBackSpec)) reqlineBackCard

/-- THE TIED CARD OF 'hagioscopelaw11.ReqlineLimits'. -/
def reqlineLimitsCard : Claim7 := { stood := { row := reqlineLimitsRow, standIns := [], harness := (true, "6cf545e2bb98b62287d2de85b61d76cc33adb4d7a6870d89833e676b30f47edb"), looks := false }, kinds := [], alts := [], laidByText := true, laidKinds := [.data, .data, .data], laidTests := true, laidLooks := .later }
def ReqlineLimitsCardSaid : Prop := Claim7.holds Tryd.pinned (.plain (OpenSpec.ofChange reqlineLimitsSpec)) reqlineLimitsCard

/-- THE TIED CARD OF 'hagioscopelaw11.ReqlineAuthority'. -/
def reqlineAuthorityCard : Claim7 := { stood := { row := reqlineAuthorityRow, standIns := [], harness := (true, "6cf545e2bb98b62287d2de85b61d76cc33adb4d7a6870d89833e676b30f47edb"), looks := false }, kinds := [], alts := [], laidByText := true, laidKinds := [.data, .data, .data], laidTests := true, laidLooks := .later }
def ReqlineAuthorityCardSaid : Prop := Claim7.holds Tryd.pinned (.plain (OpenSpec.ofChange reqlineAuthoritySpec)) reqlineAuthorityCard

/-- THE SECOND FORM's CARD OF 'hagioscopelaw11.ReqlineTells'. -/
def reqlineTellsUptoCard : Claim7 := { stood := { row := reqlineTellsUptoRow, standIns := [], harness := (true, "6cf545e2bb98b62287d2de85b61d76cc33adb4d7a6870d89833e676b30f47edb"), looks := false }, kinds := [], alts := [], laidByText := true, laidKinds := [.data, .data, .data], laidTests := true, laidLooks := .later }
def ReqlineTellsUptoCardSaid : Prop := Claim7.holds Tryd.pinned (.plain (OpenSpec.upto reqlineTellsSpec)) reqlineTellsUptoCard

/-- THE SECOND FORM's CARD OF 'hagioscopelaw11.ReqlineBack'. -/
def reqlineBackUptoCard : Claim7 := { stood := { row := reqlineBackUptoRow, standIns := [], harness := (true, "6cf545e2bb98b62287d2de85b61d76cc33adb4d7a6870d89833e676b30f47edb"), looks := false }, kinds := [], alts := [], laidByText := true, laidKinds := [.data, .data, .data], laidTests := true, laidLooks := .later }
def ReqlineBackUptoCardSaid : Prop := Claim7.holds Tryd.pinned (.plain (OpenSpec.upto reqlineBackSpec)) reqlineBackUptoCard

/-- THE SECOND FORM's CARD OF 'hagioscopelaw11.ReqlineLimits'. -/
def reqlineLimitsUptoCard : Claim7 := { stood := { row := reqlineLimitsUptoRow, standIns := [], harness := (true, "6cf545e2bb98b62287d2de85b61d76cc33adb4d7a6870d89833e676b30f47edb"), looks := false }, kinds := [], alts := [], laidByText := true, laidKinds := [.data, .data, .data], laidTests := true, laidLooks := .later }
def ReqlineLimitsUptoCardSaid : Prop := Claim7.holds Tryd.pinned (.plain (OpenSpec.upto reqlineLimitsSpec)) reqlineLimitsUptoCard

/-- THE SECOND FORM's CARD OF 'hagioscopelaw11.ReqlineAuthority'. -/
def reqlineAuthorityUptoCard : Claim7 := { stood := { row := reqlineAuthorityUptoRow, standIns := [], harness := (true, "6cf545e2bb98b62287d2de85b61d76cc33adb4d7a6870d89833e676b30f47edb"), looks := false }, kinds := [], alts := [], laidByText := true, laidKinds := [.data, .data, .data], laidTests := true, laidLooks := .later }
def ReqlineAuthorityUptoCardSaid : Prop := Claim7.holds Tryd.pinned (.plain (OpenSpec.upto reqlineAuthoritySpec)) reqlineAuthorityUptoCard
end Rows
end Go.Proofs.YtnkcloebnlolaaaDoor
