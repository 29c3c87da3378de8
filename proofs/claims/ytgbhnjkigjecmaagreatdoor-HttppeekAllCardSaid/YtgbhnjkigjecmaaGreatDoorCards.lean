/-
  DERIVED. GIVEN WITH THE SEED: THE CARDS: each row of YtgbhnjkigjecmaaGreatDoorRows.lean that lists a variable, with what it lists TIED to the program's text (the seventh form; the later family's looks); each row that meets fmt, with fmt's text TOLD by the authors' own Lean function (tested against real Go, not proved from fmt's source: count such statements apart). THE CARD IS WHAT COUNTS. Prove the row's statement (the work); the ties are given (YtgbhnjkigjecmaaGreatDoorTie.lean); close each card by the builder's one call (the guide's Derived/Test/ToyasCard.lean, 'card_holds'). Laid BY PROGRAM, IN A SANDBOX (cutbox-door.mjs). By AI agents, Wed Nov 11 2026. No macro, syntax, notation, axiom, sorry.
-/
import Derived.Test.YtgbhnjkigjecmaaGreatDoorRows
import GoSem.ClaimSeven
namespace Go.Proofs.YtgbhnjkigjecmaaGreatDoor
namespace Rows

/-- THE TIED CARD OF 'hagioscopelaw16.HttppeekAll'. -/
def httppeekAllCard : Claim7 := { stood := { row := httppeekAllRow, standIns := [], harness := (true, "dfae010f2981ed81a80978e863881a0f4d162522d3e968cd557793b55fa30f83"), looks := false }, kinds := [], alts := [], laidByText := true, laidKinds := [.data, .data, .data, .data, .pinned], laidTests := true, laidLooks := .later }
def HttppeekAllCardSaid : Prop := Claim7.holds Tryz.pinned (.plain (OpenSpec.ofChange httppeekAllSpec)) httppeekAllCard

/-- THE TIED CARD OF 'hagioscopelaw16.HttppeekTakes'. -/
def httppeekTakesCard : Claim7 := { stood := { row := httppeekTakesRow, standIns := [], harness := (true, "dfae010f2981ed81a80978e863881a0f4d162522d3e968cd557793b55fa30f83"), looks := false }, kinds := [], alts := [], laidByText := true, laidKinds := [.data, .data, .data, .data, .pinned], laidTests := true, laidLooks := .later }
def HttppeekTakesCardSaid : Prop := Claim7.holds Tryz.pinned (.plain (OpenSpec.ofChange httppeekTakesSpec)) httppeekTakesCard

/-- THE TIED CARD OF 'hagioscopelaw16.HttppeekKnown'. -/
def httppeekKnownCard : Claim7 := { stood := { row := httppeekKnownRow, standIns := [], harness := (true, "dfae010f2981ed81a80978e863881a0f4d162522d3e968cd557793b55fa30f83"), looks := false }, kinds := [], alts := [], laidByText := true, laidKinds := [.data, .data, .data, .data, .pinned], laidTests := true, laidLooks := .later }
def HttppeekKnownCardSaid : Prop := Claim7.holds Tryz.pinned (.plain (OpenSpec.ofChange httppeekKnownSpec)) httppeekKnownCard

/-- THE TIED CARD OF 'hagioscopelaw16.HttppeekLines'. -/
def httppeekLinesCard : Claim7 := { stood := { row := httppeekLinesRow, standIns := [], harness := (true, "dfae010f2981ed81a80978e863881a0f4d162522d3e968cd557793b55fa30f83"), looks := false }, kinds := [], alts := [], laidByText := true, laidKinds := [.data, .data, .data, .data, .pinned], laidTests := true, laidLooks := .later }
def HttppeekLinesCardSaid : Prop := Claim7.holds Tryz.pinned (.plain (OpenSpec.ofChange httppeekLinesSpec)) httppeekLinesCard

/-- THE TIED CARD OF 'hagioscopelaw16.HttppeekMany'. -/
def httppeekManyCard : Claim7 := { stood := { row := httppeekManyRow, standIns := [], harness := (true, "dfae010f2981ed81a80978e863881a0f4d162522d3e968cd557793b55fa30f83"), looks := false }, kinds := [], alts := [], laidByText := true, laidKinds := [.data, .data, .data, .data, .pinned], laidTests := true, laidLooks := .later }
def HttppeekManyCardSaid : Prop := Claim7.holds Tryz.pinned (.plain (OpenSpec.ofChange httppeekManySpec)) httppeekManyCard

/-- THE TIED CARD OF 'hagioscopelaw16.HttppeekFields'. -/
def httppeekFieldsCard : Claim7 := { stood := { row := httppeekFieldsRow, standIns := [], harness := (true, "dfae010f2981ed81a80978e863881a0f4d162522d3e968cd557793b55fa30f83"), looks := false }, kinds := [], alts := [], laidByText := true, laidKinds := [.data, .data, .data, .data, .pinned], laidTests := true, laidLooks := .later }
def HttppeekFieldsCardSaid : Prop := Claim7.holds Tryz.pinned (.plain (OpenSpec.ofChange httppeekFieldsSpec)) httppeekFieldsCard

/-- THE SECOND FORM's CARD OF 'hagioscopelaw16.HttppeekAll'. -/
def httppeekAllUptoCard : Claim7 := { stood := { row := httppeekAllUptoRow, standIns := [], harness := (true, "dfae010f2981ed81a80978e863881a0f4d162522d3e968cd557793b55fa30f83"), looks := false }, kinds := [], alts := [], laidByText := true, laidKinds := [.data, .data, .data, .data, .pinned], laidTests := true, laidLooks := .later }
def HttppeekAllUptoCardSaid : Prop := Claim7.holds Tryz.pinned (.plain (OpenSpec.upto httppeekAllSpec)) httppeekAllUptoCard

/-- THE SECOND FORM's CARD OF 'hagioscopelaw16.HttppeekTakes'. -/
def httppeekTakesUptoCard : Claim7 := { stood := { row := httppeekTakesUptoRow, standIns := [], harness := (true, "dfae010f2981ed81a80978e863881a0f4d162522d3e968cd557793b55fa30f83"), looks := false }, kinds := [], alts := [], laidByText := true, laidKinds := [.data, .data, .data, .data, .pinned], laidTests := true, laidLooks := .later }
def HttppeekTakesUptoCardSaid : Prop := Claim7.holds Tryz.pinned (.plain (OpenSpec.upto httppeekTakesSpec)) httppeekTakesUptoCard

/-- THE SECOND FORM's CARD OF 'hagioscopelaw16.HttppeekKnown'. -/
def httppeekKnownUptoCard : Claim7 := { stood := { row := httppeekKnownUptoRow, standIns := [], harness := (true, "dfae010f2981ed81a80978e863881a0f4d162522d3e968cd557793b55fa30f83"), looks := false }, kinds := [], alts := [], laidByText := true, laidKinds := [.data, .data, .data, .data, .pinned], laidTests := true, laidLooks := .later }
def HttppeekKnownUptoCardSaid : Prop := Claim7.holds Tryz.pinned (.plain (OpenSpec.upto httppeekKnownSpec)) httppeekKnownUptoCard

/-- THE SECOND FORM's CARD OF 'hagioscopelaw16.HttppeekLines'. -/
def httppeekLinesUptoCard : Claim7 := { stood := { row := httppeekLinesUptoRow, standIns := [], harness := (true, "dfae010f2981ed81a80978e863881a0f4d162522d3e968cd557793b55fa30f83"), looks := false }, kinds := [], alts := [], laidByText := true, laidKinds := [.data, .data, .data, .data, .pinned], laidTests := true, laidLooks := .later }
def HttppeekLinesUptoCardSaid : Prop := Claim7.holds Tryz.pinned (.plain (OpenSpec.upto httppeekLinesSpec)) httppeekLinesUptoCard

/-- THE SECOND FORM's CARD OF 'hagioscopelaw16.HttppeekMany'. -/
def httppeekManyUptoCard : Claim7 := { stood := { row := httppeekManyUptoRow, standIns := [], harness := (true, "dfae010f2981ed81a80978e863881a0f4d162522d3e968cd557793b55fa30f83"), looks := false }, kinds := [], alts := [], laidByText := true, laidKinds := [.data, .data, .data, .data, .pinned], laidTests := true, laidLooks := .later }
def HttppeekManyUptoCardSaid : Prop := Claim7.holds Tryz.pinned (.plain (OpenSpec.upto httppeekManySpec)) httppeekManyUptoCard

/-- THE SECOND FORM's CARD OF 'hagioscopelaw16.HttppeekFields'. -/
def httppeekFieldsUptoCard : Claim7 := { stood := { row := httppeekFieldsUptoRow, standIns := [], harness := (true, "dfae010f2981ed81a80978e863881a0f4d162522d3e968cd557793b55fa30f83"), looks := false }, kinds := [], alts := [], laidByText := true, laidKinds := [.data, .data, .data, .data, .pinned], laidTests := true, laidLooks := .later }
def HttppeekFieldsUptoCardSaid : Prop := Claim7.holds Tryz.pinned (.plain (OpenSpec.upto httppeekFieldsSpec)) httppeekFieldsUptoCard
end Rows
end Go.Proofs.YtgbhnjkigjecmaaGreatDoor
