/-
  DERIVED. GIVEN WITH THE SEED: THE CARDS: each row of YtgpgkfbbpiialaaDoorRows.lean that lists a variable, with what it lists TIED to the program's text (the seventh form; the later family's looks); each row that meets fmt, with fmt's text TOLD by the authors' own Lean function (tested against real Go, not proved from fmt's source: count such statements apart). THE CARD IS WHAT COUNTS. Prove the row's statement (the work); the ties are given (YtgpgkfbbpiialaaDoorTie.lean); close each card by the builder's one call (the guide's Derived/Test/ToyasCard.lean, 'card_holds'). Laid BY PROGRAM, IN A SANDBOX (cutbox-door.mjs). By AI agents, Wed Nov 11 2026. No macro, syntax, notation, axiom, sorry.
-/
import Derived.Test.YtgpgkfbbpiialaaDoorRows
import GoSem.ClaimSeven
namespace Go.Proofs.YtgpgkfbbpiialaaDoor
namespace Rows

/-- THE TIED CARD OF 'hagioscopelaw13.AuthorityParses'. -/
def authorityParsesCard : Claim7 := { stood := { row := authorityParsesRow, standIns := [], harness := (true, "2da1d9af285a88b4bc346a5297bdf1a14c96f7c78ae00913eb4d58b8133c6718"), looks := false }, kinds := [], alts := [], laidByText := true, laidKinds := [.data, .data, .data], laidTests := true, laidLooks := .later }
def AuthorityParsesCardSaid : Prop := Claim7.holds Tryd.pinned (.plain (OpenSpec.ofChange authorityParsesSpec)) authorityParsesCard

/-- THE TIED CARD OF 'hagioscopelaw13.AuthorityBack'. -/
def authorityBackCard : Claim7 := { stood := { row := authorityBackRow, standIns := [], harness := (true, "2da1d9af285a88b4bc346a5297bdf1a14c96f7c78ae00913eb4d58b8133c6718"), looks := false }, kinds := [], alts := [], laidByText := true, laidKinds := [.data, .data, .data], laidTests := true, laidLooks := .later }
def AuthorityBackCardSaid : Prop := Claim7.holds Tryd.pinned (.plain (OpenSpec.ofChange authorityBackSpec)) authorityBackCard

/-- THE TIED CARD OF 'hagioscopelaw13.AuthorityPorts'. -/
def authorityPortsCard : Claim7 := { stood := { row := authorityPortsRow, standIns := [], harness := (true, "2da1d9af285a88b4bc346a5297bdf1a14c96f7c78ae00913eb4d58b8133c6718"), looks := false }, kinds := [], alts := [], laidByText := true, laidKinds := [.data, .data, .data], laidTests := true, laidLooks := .later }
def AuthorityPortsCardSaid : Prop := Claim7.holds Tryd.pinned (.plain (OpenSpec.ofChange authorityPortsSpec)) authorityPortsCard

/-- THE TIED CARD OF 'hagioscopelaw13.AuthorityHosts'. -/
def authorityHostsCard : Claim7 := { stood := { row := authorityHostsRow, standIns := [], harness := (true, "2da1d9af285a88b4bc346a5297bdf1a14c96f7c78ae00913eb4d58b8133c6718"), looks := false }, kinds := [], alts := [], laidByText := true, laidKinds := [.data, .data, .data], laidTests := true, laidLooks := .later }
def AuthorityHostsCardSaid : Prop := Claim7.holds Tryd.pinned (.plain (OpenSpec.ofChange authorityHostsSpec)) authorityHostsCard

/-- THE SECOND FORM's CARD OF 'hagioscopelaw13.AuthorityParses'. -/
def authorityParsesUptoCard : Claim7 := { stood := { row := authorityParsesUptoRow, standIns := [], harness := (true, "2da1d9af285a88b4bc346a5297bdf1a14c96f7c78ae00913eb4d58b8133c6718"), looks := false }, kinds := [], alts := [], laidByText := true, laidKinds := [.data, .data, .data], laidTests := true, laidLooks := .later }
def AuthorityParsesUptoCardSaid : Prop := Claim7.holds Tryd.pinned (.plain (OpenSpec.upto authorityParsesSpec)) authorityParsesUptoCard

/-- THE SECOND FORM's CARD OF 'hagioscopelaw13.AuthorityBack'. -/
def authorityBackUptoCard : Claim7 := { stood := { row := authorityBackUptoRow, standIns := [], harness := (true, "2da1d9af285a88b4bc346a5297bdf1a14c96f7c78ae00913eb4d58b8133c6718"), looks := false }, kinds := [], alts := [], laidByText := true, laidKinds := [.data, .data, .data], laidTests := true, laidLooks := .later }
def AuthorityBackUptoCardSaid : Prop := Claim7.holds Tryd.pinned (.plain (OpenSpec.upto authorityBackSpec)) authorityBackUptoCard

/-- THE SECOND FORM's CARD OF 'hagioscopelaw13.AuthorityPorts'. -/
def authorityPortsUptoCard : Claim7 := { stood := { row := authorityPortsUptoRow, standIns := [], harness := (true, "2da1d9af285a88b4bc346a5297bdf1a14c96f7c78ae00913eb4d58b8133c6718"), looks := false }, kinds := [], alts := [], laidByText := true, laidKinds := [.data, .data, .data], laidTests := true, laidLooks := .later }
def AuthorityPortsUptoCardSaid : Prop := Claim7.holds Tryd.pinned (.plain (OpenSpec.upto authorityPortsSpec)) authorityPortsUptoCard

/-- THE SECOND FORM's CARD OF 'hagioscopelaw13.AuthorityHosts'. -/
def authorityHostsUptoCard : Claim7 := { stood := { row := authorityHostsUptoRow, standIns := [], harness := (true, "2da1d9af285a88b4bc346a5297bdf1a14c96f7c78ae00913eb4d58b8133c6718"), looks := false }, kinds := [], alts := [], laidByText := true, laidKinds := [.data, .data, .data], laidTests := true, laidLooks := .later }
def AuthorityHostsUptoCardSaid : Prop := Claim7.holds Tryd.pinned (.plain (OpenSpec.upto authorityHostsSpec)) authorityHostsUptoCard
end Rows
end Go.Proofs.YtgpgkfbbpiialaaDoor
