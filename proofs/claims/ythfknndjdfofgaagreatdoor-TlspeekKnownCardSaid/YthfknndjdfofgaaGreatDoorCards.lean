/-
  DERIVED. GIVEN WITH THE SEED: THE CARDS: each row of YthfknndjdfofgaaGreatDoorRows.lean that lists a variable, with what it lists TIED to the program's text (the seventh form; the later family's looks); each row that meets fmt, with fmt's text TOLD by the authors' own Lean function (tested against real Go, not proved from fmt's source: count such statements apart). THE CARD IS WHAT COUNTS. Prove the row's statement (the work); the ties are given (YthfknndjdfofgaaGreatDoorTie.lean); close each card by the builder's one call (the guide's Derived/Test/ToyasCard.lean, 'card_holds'). Laid BY PROGRAM, IN A SANDBOX (cutbox-door.mjs). By AI agents, Wed Nov 11 2026. No macro, syntax, notation, axiom, sorry.
-/
import Derived.Test.YthfknndjdfofgaaGreatDoorRows
import GoSem.ClaimSeven
namespace Go.Proofs.YthfknndjdfofgaaGreatDoor
namespace Rows

/-- THE TIED CARD OF 'hagioscopelaw15.TlspeekAll'. -/
def tlspeekAllCard : Claim7 := { stood := { row := tlspeekAllRow, standIns := [], harness := (true, "b16d6ffb205dea833cc79c44a30065e39234ce0cc51c7e58c1a5a2563e765d3d"), looks := false }, kinds := [], alts := [], laidByText := true, laidKinds := [.data, .data, .data, .data, .pinned], laidTests := true, laidLooks := .later }
def TlspeekAllCardSaid : Prop := Claim7.holds Tryz.pinned (.plain (OpenSpec.ofChange tlspeekAllSpec)) tlspeekAllCard

/-- THE TIED CARD OF 'hagioscopelaw15.TlspeekTakes'. -/
def tlspeekTakesCard : Claim7 := { stood := { row := tlspeekTakesRow, standIns := [], harness := (true, "b16d6ffb205dea833cc79c44a30065e39234ce0cc51c7e58c1a5a2563e765d3d"), looks := false }, kinds := [], alts := [], laidByText := true, laidKinds := [.data, .data, .data, .data, .pinned], laidTests := true, laidLooks := .later }
def TlspeekTakesCardSaid : Prop := Claim7.holds Tryz.pinned (.plain (OpenSpec.ofChange tlspeekTakesSpec)) tlspeekTakesCard

/-- THE TIED CARD OF 'hagioscopelaw15.TlspeekKnown'. -/
def tlspeekKnownCard : Claim7 := { stood := { row := tlspeekKnownRow, standIns := [], harness := (true, "b16d6ffb205dea833cc79c44a30065e39234ce0cc51c7e58c1a5a2563e765d3d"), looks := false }, kinds := [], alts := [], laidByText := true, laidKinds := [.data, .data, .data, .data, .pinned], laidTests := true, laidLooks := .later }
def TlspeekKnownCardSaid : Prop := Claim7.holds Tryz.pinned (.plain (OpenSpec.ofChange tlspeekKnownSpec)) tlspeekKnownCard

/-- THE TIED CARD OF 'hagioscopelaw15.TlspeekSizes'. -/
def tlspeekSizesCard : Claim7 := { stood := { row := tlspeekSizesRow, standIns := [], harness := (true, "b16d6ffb205dea833cc79c44a30065e39234ce0cc51c7e58c1a5a2563e765d3d"), looks := false }, kinds := [], alts := [], laidByText := true, laidKinds := [.data, .data, .data, .data, .pinned], laidTests := true, laidLooks := .later }
def TlspeekSizesCardSaid : Prop := Claim7.holds Tryz.pinned (.plain (OpenSpec.ofChange tlspeekSizesSpec)) tlspeekSizesCard

/-- THE TIED CARD OF 'hagioscopelaw15.TlspeekBad'. -/
def tlspeekBadCard : Claim7 := { stood := { row := tlspeekBadRow, standIns := [], harness := (true, "b16d6ffb205dea833cc79c44a30065e39234ce0cc51c7e58c1a5a2563e765d3d"), looks := false }, kinds := [], alts := [], laidByText := true, laidKinds := [.data, .data, .data, .data, .pinned], laidTests := true, laidLooks := .later }
def TlspeekBadCardSaid : Prop := Claim7.holds Tryz.pinned (.plain (OpenSpec.ofChange tlspeekBadSpec)) tlspeekBadCard

/-- THE SECOND FORM's CARD OF 'hagioscopelaw15.TlspeekAll'. -/
def tlspeekAllUptoCard : Claim7 := { stood := { row := tlspeekAllUptoRow, standIns := [], harness := (true, "b16d6ffb205dea833cc79c44a30065e39234ce0cc51c7e58c1a5a2563e765d3d"), looks := false }, kinds := [], alts := [], laidByText := true, laidKinds := [.data, .data, .data, .data, .pinned], laidTests := true, laidLooks := .later }
def TlspeekAllUptoCardSaid : Prop := Claim7.holds Tryz.pinned (.plain (OpenSpec.upto tlspeekAllSpec)) tlspeekAllUptoCard

/-- THE SECOND FORM's CARD OF 'hagioscopelaw15.TlspeekTakes'. -/
def tlspeekTakesUptoCard : Claim7 := { stood := { row := tlspeekTakesUptoRow, standIns := [], harness := (true, "b16d6ffb205dea833cc79c44a30065e39234ce0cc51c7e58c1a5a2563e765d3d"), looks := false }, kinds := [], alts := [], laidByText := true, laidKinds := [.data, .data, .data, .data, .pinned], laidTests := true, laidLooks := .later }
def TlspeekTakesUptoCardSaid : Prop := Claim7.holds Tryz.pinned (.plain (OpenSpec.upto tlspeekTakesSpec)) tlspeekTakesUptoCard

/-- THE SECOND FORM's CARD OF 'hagioscopelaw15.TlspeekKnown'. -/
def tlspeekKnownUptoCard : Claim7 := { stood := { row := tlspeekKnownUptoRow, standIns := [], harness := (true, "b16d6ffb205dea833cc79c44a30065e39234ce0cc51c7e58c1a5a2563e765d3d"), looks := false }, kinds := [], alts := [], laidByText := true, laidKinds := [.data, .data, .data, .data, .pinned], laidTests := true, laidLooks := .later }
def TlspeekKnownUptoCardSaid : Prop := Claim7.holds Tryz.pinned (.plain (OpenSpec.upto tlspeekKnownSpec)) tlspeekKnownUptoCard

/-- THE SECOND FORM's CARD OF 'hagioscopelaw15.TlspeekSizes'. -/
def tlspeekSizesUptoCard : Claim7 := { stood := { row := tlspeekSizesUptoRow, standIns := [], harness := (true, "b16d6ffb205dea833cc79c44a30065e39234ce0cc51c7e58c1a5a2563e765d3d"), looks := false }, kinds := [], alts := [], laidByText := true, laidKinds := [.data, .data, .data, .data, .pinned], laidTests := true, laidLooks := .later }
def TlspeekSizesUptoCardSaid : Prop := Claim7.holds Tryz.pinned (.plain (OpenSpec.upto tlspeekSizesSpec)) tlspeekSizesUptoCard

/-- THE SECOND FORM's CARD OF 'hagioscopelaw15.TlspeekBad'. -/
def tlspeekBadUptoCard : Claim7 := { stood := { row := tlspeekBadUptoRow, standIns := [], harness := (true, "b16d6ffb205dea833cc79c44a30065e39234ce0cc51c7e58c1a5a2563e765d3d"), looks := false }, kinds := [], alts := [], laidByText := true, laidKinds := [.data, .data, .data, .data, .pinned], laidTests := true, laidLooks := .later }
def TlspeekBadUptoCardSaid : Prop := Claim7.holds Tryz.pinned (.plain (OpenSpec.upto tlspeekBadSpec)) tlspeekBadUptoCard
end Rows
end Go.Proofs.YthfknndjdfofgaaGreatDoor
