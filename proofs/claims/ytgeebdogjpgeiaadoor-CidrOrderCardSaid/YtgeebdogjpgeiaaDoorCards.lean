/-
  DERIVED. GIVEN WITH THE SEED: THE CARDS: each row of YtgeebdogjpgeiaaDoorRows.lean that lists a variable, with what it lists TIED to the program's text (the seventh form; the later family's looks); each row that meets fmt, with fmt's text TOLD by the authors' own Lean function (tested against real Go, not proved from fmt's source: count such statements apart). THE CARD IS WHAT COUNTS. Prove the row's statement (the work); the ties are given (YtgeebdogjpgeiaaDoorTie.lean); close each card by the builder's one call (the guide's Derived/Test/ToyasCard.lean, 'card_holds'). Laid BY PROGRAM, IN A SANDBOX (cutbox-door.mjs). By AI agents, Wed Nov 11 2026. No macro, syntax, notation, axiom, sorry.
-/
import Derived.Test.YtgeebdogjpgeiaaDoorRows
import GoSem.ClaimSeven
namespace Go.Proofs.YtgeebdogjpgeiaaDoor
namespace Rows

/-- THE TIED CARD OF 'hagioscopelaw04.CidrBack'. -/
def cidrBackCard : Claim7 := { stood := { row := cidrBackRow, standIns := [], harness := (true, "3eab8102d728f422d0544eb5433ddf2464eadc7bd381858fb8d7dbe3d87279a8"), looks := false }, kinds := [], alts := [], laidByText := true, laidKinds := [.data, .data, .data], laidTests := true, laidLooks := .later }
def CidrBackCardSaid : Prop := Claim7.holds Tryd.pinned (.plain (OpenSpec.ofChange cidrBackSpec)) cidrBackCard

/-- THE TIED CARD OF 'hagioscopelaw04.CidrFinds'. -/
def cidrFindsCard : Claim7 := { stood := { row := cidrFindsRow, standIns := [], harness := (true, "3eab8102d728f422d0544eb5433ddf2464eadc7bd381858fb8d7dbe3d87279a8"), looks := false }, kinds := [], alts := [], laidByText := true, laidKinds := [.data, .data, .data], laidTests := true, laidLooks := .later }
def CidrFindsCardSaid : Prop := Claim7.holds Tryd.pinned (.plain (OpenSpec.ofChange cidrFindsSpec)) cidrFindsCard

/-- THE TIED CARD OF 'hagioscopelaw04.CidrNests'. -/
def cidrNestsCard : Claim7 := { stood := { row := cidrNestsRow, standIns := [], harness := (true, "3eab8102d728f422d0544eb5433ddf2464eadc7bd381858fb8d7dbe3d87279a8"), looks := false }, kinds := [], alts := [], laidByText := true, laidKinds := [.data, .data, .data], laidTests := true, laidLooks := .later }
def CidrNestsCardSaid : Prop := Claim7.holds Tryd.pinned (.plain (OpenSpec.ofChange cidrNestsSpec)) cidrNestsCard

/-- THE TIED CARD OF 'hagioscopelaw04.CidrOrder'. -/
def cidrOrderCard : Claim7 := { stood := { row := cidrOrderRow, standIns := [], harness := (true, "3eab8102d728f422d0544eb5433ddf2464eadc7bd381858fb8d7dbe3d87279a8"), looks := false }, kinds := [], alts := [], laidByText := true, laidKinds := [.data, .data, .data], laidTests := true, laidLooks := .later }
def CidrOrderCardSaid : Prop := Claim7.holds Tryd.pinned (.plain (OpenSpec.ofChange cidrOrderSpec)) cidrOrderCard

/-- THE SECOND FORM's CARD OF 'hagioscopelaw04.CidrBack'. -/
def cidrBackUptoCard : Claim7 := { stood := { row := cidrBackUptoRow, standIns := [], harness := (true, "3eab8102d728f422d0544eb5433ddf2464eadc7bd381858fb8d7dbe3d87279a8"), looks := false }, kinds := [], alts := [], laidByText := true, laidKinds := [.data, .data, .data], laidTests := true, laidLooks := .later }
def CidrBackUptoCardSaid : Prop := Claim7.holds Tryd.pinned (.plain (OpenSpec.upto cidrBackSpec)) cidrBackUptoCard

/-- THE SECOND FORM's CARD OF 'hagioscopelaw04.CidrFinds'. -/
def cidrFindsUptoCard : Claim7 := { stood := { row := cidrFindsUptoRow, standIns := [], harness := (true, "3eab8102d728f422d0544eb5433ddf2464eadc7bd381858fb8d7dbe3d87279a8"), looks := false }, kinds := [], alts := [], laidByText := true, laidKinds := [.data, .data, .data], laidTests := true, laidLooks := .later }
def CidrFindsUptoCardSaid : Prop := Claim7.holds Tryd.pinned (.plain (OpenSpec.upto cidrFindsSpec)) cidrFindsUptoCard

/-- THE SECOND FORM's CARD OF 'hagioscopelaw04.CidrNests'. -/
def cidrNestsUptoCard : Claim7 := { stood := { row := cidrNestsUptoRow, standIns := [], harness := (true, "3eab8102d728f422d0544eb5433ddf2464eadc7bd381858fb8d7dbe3d87279a8"), looks := false }, kinds := [], alts := [], laidByText := true, laidKinds := [.data, .data, .data], laidTests := true, laidLooks := .later }
def CidrNestsUptoCardSaid : Prop := Claim7.holds Tryd.pinned (.plain (OpenSpec.upto cidrNestsSpec)) cidrNestsUptoCard

/-- THE SECOND FORM's CARD OF 'hagioscopelaw04.CidrOrder'. -/
def cidrOrderUptoCard : Claim7 := { stood := { row := cidrOrderUptoRow, standIns := [], harness := (true, "3eab8102d728f422d0544eb5433ddf2464eadc7bd381858fb8d7dbe3d87279a8"), looks := false }, kinds := [], alts := [], laidByText := true, laidKinds := [.data, .data, .data], laidTests := true, laidLooks := .later }
def CidrOrderUptoCardSaid : Prop := Claim7.holds Tryd.pinned (.plain (OpenSpec.upto cidrOrderSpec)) cidrOrderUptoCard
end Rows
end Go.Proofs.YtgeebdogjpgeiaaDoor
