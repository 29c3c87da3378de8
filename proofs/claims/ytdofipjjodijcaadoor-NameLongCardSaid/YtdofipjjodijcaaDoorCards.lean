/-
  DERIVED. GIVEN WITH THE SEED: THE CARDS: each row of YtdofipjjodijcaaDoorRows.lean that lists a variable, with what it lists TIED to the program's text (the seventh form; the later family's looks); each row that meets fmt, with fmt's text TOLD by the authors' own Lean function (tested against real Go, not proved from fmt's source: count such statements apart). THE CARD IS WHAT COUNTS. Prove the row's statement (the work); the ties are given (YtdofipjjodijcaaDoorTie.lean); close each card by the builder's one call (the guide's Derived/Test/ToyasCard.lean, 'card_holds'). Laid BY PROGRAM, IN A SANDBOX (cutbox-door.mjs). By AI agents, Wed Nov 11 2026. No macro, syntax, notation, axiom, sorry.
-/
import Derived.Test.YtdofipjjodijcaaDoorRows
import GoSem.ClaimSeven
namespace Go.Proofs.YtdofipjjodijcaaDoor
namespace Rows

/-- THE TIED CARD OF 'hagioscopelaw14.NameAgain'. -/
def nameAgainCard : Claim7 := { stood := { row := nameAgainRow, standIns := [], harness := (true, "449e5db609fe44d1ca4a7c747dab489d97c37c91738f9d421f8cf2ac4b3a7664"), looks := false }, kinds := [], alts := [], laidByText := true, laidKinds := [.data, .data, .data, .data, .pinned], laidTests := true, laidLooks := .later }
def NameAgainCardSaid : Prop := Claim7.holds Tryd.pinned (.plain (OpenSpec.ofChange nameAgainSpec)) nameAgainCard

/-- THE TIED CARD OF 'hagioscopelaw14.NameLabels'. -/
def nameLabelsCard : Claim7 := { stood := { row := nameLabelsRow, standIns := [], harness := (true, "449e5db609fe44d1ca4a7c747dab489d97c37c91738f9d421f8cf2ac4b3a7664"), looks := false }, kinds := [], alts := [], laidByText := true, laidKinds := [.data, .data, .data, .data, .pinned], laidTests := true, laidLooks := .later }
def NameLabelsCardSaid : Prop := Claim7.holds Tryd.pinned (.plain (OpenSpec.ofChange nameLabelsSpec)) nameLabelsCard

/-- THE TIED CARD OF 'hagioscopelaw14.NameParts'. -/
def namePartsCard : Claim7 := { stood := { row := namePartsRow, standIns := [], harness := (true, "449e5db609fe44d1ca4a7c747dab489d97c37c91738f9d421f8cf2ac4b3a7664"), looks := false }, kinds := [], alts := [], laidByText := true, laidKinds := [.data, .data, .data, .data, .pinned], laidTests := true, laidLooks := .later }
def NamePartsCardSaid : Prop := Claim7.holds Tryd.pinned (.plain (OpenSpec.ofChange namePartsSpec)) namePartsCard

/-- THE TIED CARD OF 'hagioscopelaw14.NameLong'. -/
def nameLongCard : Claim7 := { stood := { row := nameLongRow, standIns := [], harness := (true, "449e5db609fe44d1ca4a7c747dab489d97c37c91738f9d421f8cf2ac4b3a7664"), looks := false }, kinds := [], alts := [], laidByText := true, laidKinds := [.data, .data, .data, .data, .pinned], laidTests := true, laidLooks := .later }
def NameLongCardSaid : Prop := Claim7.holds Tryd.pinned (.plain (OpenSpec.ofChange nameLongSpec)) nameLongCard

/-- THE SECOND FORM's CARD OF 'hagioscopelaw14.NameAgain'. -/
def nameAgainUptoCard : Claim7 := { stood := { row := nameAgainUptoRow, standIns := [], harness := (true, "449e5db609fe44d1ca4a7c747dab489d97c37c91738f9d421f8cf2ac4b3a7664"), looks := false }, kinds := [], alts := [], laidByText := true, laidKinds := [.data, .data, .data, .data, .pinned], laidTests := true, laidLooks := .later }
def NameAgainUptoCardSaid : Prop := Claim7.holds Tryd.pinned (.plain (OpenSpec.upto nameAgainSpec)) nameAgainUptoCard

/-- THE SECOND FORM's CARD OF 'hagioscopelaw14.NameLabels'. -/
def nameLabelsUptoCard : Claim7 := { stood := { row := nameLabelsUptoRow, standIns := [], harness := (true, "449e5db609fe44d1ca4a7c747dab489d97c37c91738f9d421f8cf2ac4b3a7664"), looks := false }, kinds := [], alts := [], laidByText := true, laidKinds := [.data, .data, .data, .data, .pinned], laidTests := true, laidLooks := .later }
def NameLabelsUptoCardSaid : Prop := Claim7.holds Tryd.pinned (.plain (OpenSpec.upto nameLabelsSpec)) nameLabelsUptoCard

/-- THE SECOND FORM's CARD OF 'hagioscopelaw14.NameParts'. -/
def namePartsUptoCard : Claim7 := { stood := { row := namePartsUptoRow, standIns := [], harness := (true, "449e5db609fe44d1ca4a7c747dab489d97c37c91738f9d421f8cf2ac4b3a7664"), looks := false }, kinds := [], alts := [], laidByText := true, laidKinds := [.data, .data, .data, .data, .pinned], laidTests := true, laidLooks := .later }
def NamePartsUptoCardSaid : Prop := Claim7.holds Tryd.pinned (.plain (OpenSpec.upto namePartsSpec)) namePartsUptoCard

/-- THE SECOND FORM's CARD OF 'hagioscopelaw14.NameLong'. -/
def nameLongUptoCard : Claim7 := { stood := { row := nameLongUptoRow, standIns := [], harness := (true, "449e5db609fe44d1ca4a7c747dab489d97c37c91738f9d421f8cf2ac4b3a7664"), looks := false }, kinds := [], alts := [], laidByText := true, laidKinds := [.data, .data, .data, .data, .pinned], laidTests := true, laidLooks := .later }
def NameLongUptoCardSaid : Prop := Claim7.holds Tryd.pinned (.plain (OpenSpec.upto nameLongSpec)) nameLongUptoCard
end Rows
end Go.Proofs.YtdofipjjodijcaaDoor
