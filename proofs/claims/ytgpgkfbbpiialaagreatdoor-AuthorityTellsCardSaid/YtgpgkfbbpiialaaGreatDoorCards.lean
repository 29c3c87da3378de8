/-
  DERIVED. GIVEN WITH THE SEED: THE CARDS: each row of YtgpgkfbbpiialaaGreatDoorRows.lean that lists a variable, with what it lists TIED to the program's text (the seventh form; the later family's looks); each row that meets fmt, with fmt's text TOLD by the authors' own Lean function (tested against real Go, not proved from fmt's source: count such statements apart). THE CARD IS WHAT COUNTS. Prove the row's statement (the work); the ties are given (YtgpgkfbbpiialaaGreatDoorTie.lean); close each card by the builder's one call (the guide's Derived/Test/ToyasCard.lean, 'card_holds'). Laid BY PROGRAM, IN A SANDBOX (cutbox-door.mjs). By AI agents, Wed Nov 11 2026. No macro, syntax, notation, axiom, sorry.
-/
import Derived.Test.YtgpgkfbbpiialaaGreatDoorRows
import GoSem.ClaimSeven
namespace Go.Proofs.YtgpgkfbbpiialaaGreatDoor
namespace Rows

/-- THE TIED CARD OF 'hagioscopelaw13.AuthorityTells'. -/
def authorityTellsCard : Claim7 := { stood := { row := authorityTellsRow, standIns := [], harness := (true, "933d32857893a4d9d27cbd963cd5e91c99da8d291ff576840efc41c457163cdc"), looks := false }, kinds := [], alts := [], laidByText := true, laidKinds := [.data, .data, .data], laidTests := true, laidLooks := .later }
def AuthorityTellsCardSaid : Prop := Claim7.holds Tryz.pinned (.plain (OpenSpec.ofChange authorityTellsSpec)) authorityTellsCard

/-- THE SECOND FORM's CARD OF 'hagioscopelaw13.AuthorityTells'. -/
def authorityTellsUptoCard : Claim7 := { stood := { row := authorityTellsUptoRow, standIns := [], harness := (true, "933d32857893a4d9d27cbd963cd5e91c99da8d291ff576840efc41c457163cdc"), looks := false }, kinds := [], alts := [], laidByText := true, laidKinds := [.data, .data, .data], laidTests := true, laidLooks := .later }
def AuthorityTellsUptoCardSaid : Prop := Claim7.holds Tryz.pinned (.plain (OpenSpec.upto authorityTellsSpec)) authorityTellsUptoCard
end Rows
end Go.Proofs.YtgpgkfbbpiialaaGreatDoor
