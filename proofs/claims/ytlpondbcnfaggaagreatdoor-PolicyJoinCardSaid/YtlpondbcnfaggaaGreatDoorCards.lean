/-
  DERIVED. GIVEN WITH THE SEED: THE CARDS: each row of YtlpondbcnfaggaaGreatDoorRows.lean that lists a variable, with what it lists TIED to the program's text (the seventh form; the later family's looks); each row that meets fmt, with fmt's text TOLD by the authors' own Lean function (tested against real Go, not proved from fmt's source: count such statements apart). THE CARD IS WHAT COUNTS. Prove the row's statement (the work); the ties are given (YtlpondbcnfaggaaGreatDoorTie.lean); close each card by the builder's one call (the guide's Derived/Test/ToyasCard.lean, 'card_holds'). Laid BY PROGRAM, IN A SANDBOX (cutbox-door.mjs). By AI agents, Wed Nov 11 2026. No macro, syntax, notation, axiom, sorry.
-/
import Derived.Test.YtlpondbcnfaggaaGreatDoorRows
import GoSem.ClaimSeven
namespace Go.Proofs.YtlpondbcnfaggaaGreatDoor
namespace Rows

/-- THE TIED CARD OF 'hagioscopelaw18.TrieTells'. -/
def trieTellsCard : Claim7 := { stood := { row := trieTellsRow, standIns := [], harness := (true, "c1cbc0602a579291c34d31b7dceaf42e1a65a4606df4e2d9bed64801871bc6af"), looks := false }, kinds := [], alts := [], laidByText := true, laidKinds := [.data, .data, .data, .data, .pinned], laidTests := true, laidLooks := .later }
def TrieTellsCardSaid : Prop := Claim7.holds Tryz.pinned (.plain (OpenSpec.ofChange trieTellsSpec)) trieTellsCard

/-- THE TIED CARD OF 'hagioscopelaw18.TriePlays'. -/
def triePlaysCard : Claim7 := { stood := { row := triePlaysRow, standIns := [], harness := (true, "c1cbc0602a579291c34d31b7dceaf42e1a65a4606df4e2d9bed64801871bc6af"), looks := false }, kinds := [], alts := [], laidByText := true, laidKinds := [.data, .data, .data, .data, .pinned], laidTests := true, laidLooks := .later }
def TriePlaysCardSaid : Prop := Claim7.holds Tryz.pinned (.plain (OpenSpec.ofChange triePlaysSpec)) triePlaysCard

/-- THE TIED CARD OF 'hagioscopelaw18.TrieFinds'. -/
def trieFindsCard : Claim7 := { stood := { row := trieFindsRow, standIns := [], harness := (true, "c1cbc0602a579291c34d31b7dceaf42e1a65a4606df4e2d9bed64801871bc6af"), looks := false }, kinds := [], alts := [], laidByText := true, laidKinds := [.data, .data, .data, .data, .pinned], laidTests := true, laidLooks := .later }
def TrieFindsCardSaid : Prop := Claim7.holds Tryz.pinned (.plain (OpenSpec.ofChange trieFindsSpec)) trieFindsCard

/-- THE TIED CARD OF 'hagioscopelaw18.TrieOrder'. -/
def trieOrderCard : Claim7 := { stood := { row := trieOrderRow, standIns := [], harness := (true, "c1cbc0602a579291c34d31b7dceaf42e1a65a4606df4e2d9bed64801871bc6af"), looks := false }, kinds := [], alts := [], laidByText := true, laidKinds := [.data, .data, .data, .data, .pinned], laidTests := true, laidLooks := .later }
def TrieOrderCardSaid : Prop := Claim7.holds Tryz.pinned (.plain (OpenSpec.ofChange trieOrderSpec)) trieOrderCard

/-- THE TIED CARD OF 'hagioscopelaw18.TrieAll'. -/
def trieAllCard : Claim7 := { stood := { row := trieAllRow, standIns := [], harness := (true, "c1cbc0602a579291c34d31b7dceaf42e1a65a4606df4e2d9bed64801871bc6af"), looks := false }, kinds := [], alts := [], laidByText := true, laidKinds := [.data, .data, .data, .data, .pinned], laidTests := true, laidLooks := .later }
def TrieAllCardSaid : Prop := Claim7.holds Tryz.pinned (.plain (OpenSpec.ofChange trieAllSpec)) trieAllCard

/-- THE TIED CARD OF 'hagioscopelaw18.TriePatterns'. -/
def triePatternsCard : Claim7 := { stood := { row := triePatternsRow, standIns := [], harness := (true, "c1cbc0602a579291c34d31b7dceaf42e1a65a4606df4e2d9bed64801871bc6af"), looks := false }, kinds := [], alts := [], laidByText := true, laidKinds := [.data, .data, .data, .data, .pinned], laidTests := true, laidLooks := .later }
def TriePatternsCardSaid : Prop := Claim7.holds Tryz.pinned (.plain (OpenSpec.ofChange triePatternsSpec)) triePatternsCard

/-- THE TIED CARD OF 'hagioscopelaw19.PolicyBack'. -/
def policyBackCard : Claim7 := { stood := { row := policyBackRow, standIns := [], harness := (true, "c1cbc0602a579291c34d31b7dceaf42e1a65a4606df4e2d9bed64801871bc6af"), looks := false }, kinds := [], alts := [], laidByText := true, laidKinds := [.data, .data, .data, .data, .pinned], laidTests := true, laidLooks := .later }
def PolicyBackCardSaid : Prop := Claim7.holds Tryz.pinned (.plain (OpenSpec.ofChange policyBackSpec)) policyBackCard

/-- THE TIED CARD OF 'hagioscopelaw19.PolicyLines'. -/
def policyLinesCard : Claim7 := { stood := { row := policyLinesRow, standIns := [], harness := (true, "c1cbc0602a579291c34d31b7dceaf42e1a65a4606df4e2d9bed64801871bc6af"), looks := false }, kinds := [], alts := [], laidByText := true, laidKinds := [.data, .data, .data, .data, .pinned], laidTests := true, laidLooks := .later }
def PolicyLinesCardSaid : Prop := Claim7.holds Tryz.pinned (.plain (OpenSpec.ofChange policyLinesSpec)) policyLinesCard

/-- THE TIED CARD OF 'hagioscopelaw19.PolicyDefault'. -/
def policyDefaultCard : Claim7 := { stood := { row := policyDefaultRow, standIns := [], harness := (true, "c1cbc0602a579291c34d31b7dceaf42e1a65a4606df4e2d9bed64801871bc6af"), looks := false }, kinds := [], alts := [], laidByText := true, laidKinds := [.data, .data, .data, .data, .pinned], laidTests := true, laidLooks := .later }
def PolicyDefaultCardSaid : Prop := Claim7.holds Tryz.pinned (.plain (OpenSpec.ofChange policyDefaultSpec)) policyDefaultCard

/-- THE TIED CARD OF 'hagioscopelaw19.PolicyJoin'. -/
def policyJoinCard : Claim7 := { stood := { row := policyJoinRow, standIns := [], harness := (true, "c1cbc0602a579291c34d31b7dceaf42e1a65a4606df4e2d9bed64801871bc6af"), looks := false }, kinds := [], alts := [], laidByText := true, laidKinds := [.data, .data, .data, .data, .pinned], laidTests := true, laidLooks := .later }
def PolicyJoinCardSaid : Prop := Claim7.holds Tryz.pinned (.plain (OpenSpec.ofChange policyJoinSpec)) policyJoinCard

/-- THE SECOND FORM's CARD OF 'hagioscopelaw18.TrieTells'. -/
def trieTellsUptoCard : Claim7 := { stood := { row := trieTellsUptoRow, standIns := [], harness := (true, "c1cbc0602a579291c34d31b7dceaf42e1a65a4606df4e2d9bed64801871bc6af"), looks := false }, kinds := [], alts := [], laidByText := true, laidKinds := [.data, .data, .data, .data, .pinned], laidTests := true, laidLooks := .later }
def TrieTellsUptoCardSaid : Prop := Claim7.holds Tryz.pinned (.plain (OpenSpec.upto trieTellsSpec)) trieTellsUptoCard

/-- THE SECOND FORM's CARD OF 'hagioscopelaw18.TriePlays'. -/
def triePlaysUptoCard : Claim7 := { stood := { row := triePlaysUptoRow, standIns := [], harness := (true, "c1cbc0602a579291c34d31b7dceaf42e1a65a4606df4e2d9bed64801871bc6af"), looks := false }, kinds := [], alts := [], laidByText := true, laidKinds := [.data, .data, .data, .data, .pinned], laidTests := true, laidLooks := .later }
def TriePlaysUptoCardSaid : Prop := Claim7.holds Tryz.pinned (.plain (OpenSpec.upto triePlaysSpec)) triePlaysUptoCard

/-- THE SECOND FORM's CARD OF 'hagioscopelaw18.TrieFinds'. -/
def trieFindsUptoCard : Claim7 := { stood := { row := trieFindsUptoRow, standIns := [], harness := (true, "c1cbc0602a579291c34d31b7dceaf42e1a65a4606df4e2d9bed64801871bc6af"), looks := false }, kinds := [], alts := [], laidByText := true, laidKinds := [.data, .data, .data, .data, .pinned], laidTests := true, laidLooks := .later }
def TrieFindsUptoCardSaid : Prop := Claim7.holds Tryz.pinned (.plain (OpenSpec.upto trieFindsSpec)) trieFindsUptoCard

/-- THE SECOND FORM's CARD OF 'hagioscopelaw18.TrieOrder'. -/
def trieOrderUptoCard : Claim7 := { stood := { row := trieOrderUptoRow, standIns := [], harness := (true, "c1cbc0602a579291c34d31b7dceaf42e1a65a4606df4e2d9bed64801871bc6af"), looks := false }, kinds := [], alts := [], laidByText := true, laidKinds := [.data, .data, .data, .data, .pinned], laidTests := true, laidLooks := .later }
def TrieOrderUptoCardSaid : Prop := Claim7.holds Tryz.pinned (.plain (OpenSpec.upto trieOrderSpec)) trieOrderUptoCard

/-- THE SECOND FORM's CARD OF 'hagioscopelaw18.TrieAll'. -/
def trieAllUptoCard : Claim7 := { stood := { row := trieAllUptoRow, standIns := [], harness := (true, "c1cbc0602a579291c34d31b7dceaf42e1a65a4606df4e2d9bed64801871bc6af"), looks := false }, kinds := [], alts := [], laidByText := true, laidKinds := [.data, .data, .data, .data, .pinned], laidTests := true, laidLooks := .later }
def TrieAllUptoCardSaid : Prop := Claim7.holds Tryz.pinned (.plain (OpenSpec.upto trieAllSpec)) trieAllUptoCard

/-- THE SECOND FORM's CARD OF 'hagioscopelaw18.TriePatterns'. -/
def triePatternsUptoCard : Claim7 := { stood := { row := triePatternsUptoRow, standIns := [], harness := (true, "c1cbc0602a579291c34d31b7dceaf42e1a65a4606df4e2d9bed64801871bc6af"), looks := false }, kinds := [], alts := [], laidByText := true, laidKinds := [.data, .data, .data, .data, .pinned], laidTests := true, laidLooks := .later }
def TriePatternsUptoCardSaid : Prop := Claim7.holds Tryz.pinned (.plain (OpenSpec.upto triePatternsSpec)) triePatternsUptoCard

/-- THE SECOND FORM's CARD OF 'hagioscopelaw19.PolicyBack'. -/
def policyBackUptoCard : Claim7 := { stood := { row := policyBackUptoRow, standIns := [], harness := (true, "c1cbc0602a579291c34d31b7dceaf42e1a65a4606df4e2d9bed64801871bc6af"), looks := false }, kinds := [], alts := [], laidByText := true, laidKinds := [.data, .data, .data, .data, .pinned], laidTests := true, laidLooks := .later }
def PolicyBackUptoCardSaid : Prop := Claim7.holds Tryz.pinned (.plain (OpenSpec.upto policyBackSpec)) policyBackUptoCard

/-- THE SECOND FORM's CARD OF 'hagioscopelaw19.PolicyLines'. -/
def policyLinesUptoCard : Claim7 := { stood := { row := policyLinesUptoRow, standIns := [], harness := (true, "c1cbc0602a579291c34d31b7dceaf42e1a65a4606df4e2d9bed64801871bc6af"), looks := false }, kinds := [], alts := [], laidByText := true, laidKinds := [.data, .data, .data, .data, .pinned], laidTests := true, laidLooks := .later }
def PolicyLinesUptoCardSaid : Prop := Claim7.holds Tryz.pinned (.plain (OpenSpec.upto policyLinesSpec)) policyLinesUptoCard

/-- THE SECOND FORM's CARD OF 'hagioscopelaw19.PolicyDefault'. -/
def policyDefaultUptoCard : Claim7 := { stood := { row := policyDefaultUptoRow, standIns := [], harness := (true, "c1cbc0602a579291c34d31b7dceaf42e1a65a4606df4e2d9bed64801871bc6af"), looks := false }, kinds := [], alts := [], laidByText := true, laidKinds := [.data, .data, .data, .data, .pinned], laidTests := true, laidLooks := .later }
def PolicyDefaultUptoCardSaid : Prop := Claim7.holds Tryz.pinned (.plain (OpenSpec.upto policyDefaultSpec)) policyDefaultUptoCard

/-- THE SECOND FORM's CARD OF 'hagioscopelaw19.PolicyJoin'. -/
def policyJoinUptoCard : Claim7 := { stood := { row := policyJoinUptoRow, standIns := [], harness := (true, "c1cbc0602a579291c34d31b7dceaf42e1a65a4606df4e2d9bed64801871bc6af"), looks := false }, kinds := [], alts := [], laidByText := true, laidKinds := [.data, .data, .data, .data, .pinned], laidTests := true, laidLooks := .later }
def PolicyJoinUptoCardSaid : Prop := Claim7.holds Tryz.pinned (.plain (OpenSpec.upto policyJoinSpec)) policyJoinUptoCard
end Rows
end Go.Proofs.YtlpondbcnfaggaaGreatDoor
