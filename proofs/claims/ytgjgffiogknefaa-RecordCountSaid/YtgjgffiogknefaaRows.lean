/-
  No cell of these rows narrows 'for every input' (looked for: loops, veiled, ifaces, maps, wideKeys, modest, calm, conditions, laid).
  DERIVED. THE GIVEN ROWS OF THIS SEAT. 6 by the template 'for every input the law returns true; each argument reads behind the call as it read before'; 0 by the template 'total and deterministic' (their statements: YtgjgffiogknefaaTotals.lean).
  GIVEN WITH THE SEED: the statements are not yours to turn. If you find one false, say at which input.
  Laid BY PROGRAM, IN A SANDBOX (cutbox-rows.mjs): the forced cells as the released guide's own fill.sh prints them over the translation 83ad7b42b107c509… (all of the seat's roots in one cut). By AI agents, Wed Nov 11 2026. No macro, syntax, notation, axiom, sorry.
-/
import Derived.Test.YtgjgffiogknefaaChecked
import GoSem.Claim
import GoSem.ClaimJoined
import GoSem.ClaimMapViews
import Derived.JoinedTies
import Derived.KernelRfl
namespace Go.Proofs.Ytgjgffiogknefaa
/- THE CELL 'sum', in the pinned program and in every row, IS THE sha256 OF THE DUMP (.gsa) THAT YtgjgffiogknefaaProg.lean LOADS. Nothing in Lean hashes anything: it is a label: what it is worth is what the hold of that sum in a sandbox is worth. -/
noncomputable def Try.pinned : Pinned := { name := "ytgjgffiogknefaa", sum := "83ad7b42b107c509f964f8d35ad51606ff442f9a85fa4ecd4ee5eb5a2f03a38d", checked := Try.checked }
namespace Rows
def none {H : Type} : Left H := { results := [], args := [] }

/-- 'hagioscopelaw07.RecordTakes': WHATEVER THE INPUT: true; the input reads as it did. -/
def recordTakesSpec : ChangeSpec := { name := "recordTakes", fn := fun _ => fun
  | [d] => { results := [.lit (.bool true)], args := [d] }
  | _ => none }
def recordTakesRow : OpenClaim := { program := "ytgjgffiogknefaa", sum := "83ad7b42b107c509f964f8d35ad51606ff442f9a85fa4ecd4ee5eb5a2f03a38d", func := "hagioscope/hagioscopelaw07.RecordTakes", spec := "recordTakes", apart := false }
def RecordTakesSaid : Prop := recordTakesRow.holds Try.pinned (OpenSpec.ofChange recordTakesSpec)

/-- ITS FALSE NEIGHBOUR: 'it returns false'. Refute it at one input. -/
def recordTakesWrong : ChangeSpec := { name := "recordTakes", fn := fun _ => fun
  | [d] => { results := [.lit (.bool false)], args := [d] }
  | _ => none }
def RecordTakesWrongFalsely : Prop := recordTakesRow.holds Try.pinned (OpenSpec.ofChange recordTakesWrong)

/-- 'hagioscopelaw07.RecordAll': WHATEVER THE INPUT: true; the input reads as it did. -/
def recordAllSpec : ChangeSpec := { name := "recordAll", fn := fun _ => fun
  | [d1, d2] => { results := [.lit (.bool true)], args := [d1, d2] }
  | _ => none }
def recordAllRow : OpenClaim := { program := "ytgjgffiogknefaa", sum := "83ad7b42b107c509f964f8d35ad51606ff442f9a85fa4ecd4ee5eb5a2f03a38d", func := "hagioscope/hagioscopelaw07.RecordAll", spec := "recordAll", apart := false }
def RecordAllSaid : Prop := recordAllRow.holds Try.pinned (OpenSpec.ofChange recordAllSpec)

/-- ITS FALSE NEIGHBOUR: 'it returns false'. Refute it at one input. -/
def recordAllWrong : ChangeSpec := { name := "recordAll", fn := fun _ => fun
  | [d1, d2] => { results := [.lit (.bool false)], args := [d1, d2] }
  | _ => none }
def RecordAllWrongFalsely : Prop := recordAllRow.holds Try.pinned (OpenSpec.ofChange recordAllWrong)

/-- 'hagioscopelaw07.RecordBack': WHATEVER THE INPUT: true; the input reads as it did. -/
def recordBackSpec : ChangeSpec := { name := "recordBack", fn := fun _ => fun
  | [d1, d2, d3] => { results := [.lit (.bool true)], args := [d1, d2, d3] }
  | _ => none }
def recordBackRow : OpenClaim := { program := "ytgjgffiogknefaa", sum := "83ad7b42b107c509f964f8d35ad51606ff442f9a85fa4ecd4ee5eb5a2f03a38d", func := "hagioscope/hagioscopelaw07.RecordBack", spec := "recordBack", apart := false }
def RecordBackSaid : Prop := recordBackRow.holds Try.pinned (OpenSpec.ofChange recordBackSpec)

/-- ITS FALSE NEIGHBOUR: 'it returns false'. Refute it at one input. -/
def recordBackWrong : ChangeSpec := { name := "recordBack", fn := fun _ => fun
  | [d1, d2, d3] => { results := [.lit (.bool false)], args := [d1, d2, d3] }
  | _ => none }
def RecordBackWrongFalsely : Prop := recordBackRow.holds Try.pinned (OpenSpec.ofChange recordBackWrong)

/-- 'hagioscopelaw07.RecordWrong': WHATEVER THE INPUT: true; the input reads as it did. -/
def recordWrongSpec : ChangeSpec := { name := "recordWrong", fn := fun _ => fun
  | [d1, d2] => { results := [.lit (.bool true)], args := [d1, d2] }
  | _ => none }
def recordWrongRow : OpenClaim := { program := "ytgjgffiogknefaa", sum := "83ad7b42b107c509f964f8d35ad51606ff442f9a85fa4ecd4ee5eb5a2f03a38d", func := "hagioscope/hagioscopelaw07.RecordWrong", spec := "recordWrong", apart := false }
def RecordWrongSaid : Prop := recordWrongRow.holds Try.pinned (OpenSpec.ofChange recordWrongSpec)

/-- ITS FALSE NEIGHBOUR: 'it returns false'. Refute it at one input. -/
def recordWrongWrong : ChangeSpec := { name := "recordWrong", fn := fun _ => fun
  | [d1, d2] => { results := [.lit (.bool false)], args := [d1, d2] }
  | _ => none }
def RecordWrongWrongFalsely : Prop := recordWrongRow.holds Try.pinned (OpenSpec.ofChange recordWrongWrong)

/-- 'hagioscopelaw07.RecordParts': WHATEVER THE INPUT: true; the input reads as it did. -/
def recordPartsSpec : ChangeSpec := { name := "recordParts", fn := fun _ => fun
  | [d1, d2, d3] => { results := [.lit (.bool true)], args := [d1, d2, d3] }
  | _ => none }
def recordPartsRow : OpenClaim := { program := "ytgjgffiogknefaa", sum := "83ad7b42b107c509f964f8d35ad51606ff442f9a85fa4ecd4ee5eb5a2f03a38d", func := "hagioscope/hagioscopelaw07.RecordParts", spec := "recordParts", apart := false }
def RecordPartsSaid : Prop := recordPartsRow.holds Try.pinned (OpenSpec.ofChange recordPartsSpec)

/-- ITS FALSE NEIGHBOUR: 'it returns false'. Refute it at one input. -/
def recordPartsWrong : ChangeSpec := { name := "recordParts", fn := fun _ => fun
  | [d1, d2, d3] => { results := [.lit (.bool false)], args := [d1, d2, d3] }
  | _ => none }
def RecordPartsWrongFalsely : Prop := recordPartsRow.holds Try.pinned (OpenSpec.ofChange recordPartsWrong)

/-- 'hagioscopelaw07.RecordCount': WHATEVER THE INPUT: true; the input reads as it did. -/
def recordCountSpec : ChangeSpec := { name := "recordCount", fn := fun _ => fun
  | [d1, d2] => { results := [.lit (.bool true)], args := [d1, d2] }
  | _ => none }
def recordCountRow : OpenClaim := { program := "ytgjgffiogknefaa", sum := "83ad7b42b107c509f964f8d35ad51606ff442f9a85fa4ecd4ee5eb5a2f03a38d", func := "hagioscope/hagioscopelaw07.RecordCount", spec := "recordCount", apart := false }
def RecordCountSaid : Prop := recordCountRow.holds Try.pinned (OpenSpec.ofChange recordCountSpec)

/-- ITS FALSE NEIGHBOUR: 'it returns false'. Refute it at one input. -/
def recordCountWrong : ChangeSpec := { name := "recordCount", fn := fun _ => fun
  | [d1, d2] => { results := [.lit (.bool false)], args := [d1, d2] }
  | _ => none }
def RecordCountWrongFalsely : Prop := recordCountRow.holds Try.pinned (OpenSpec.ofChange recordCountWrong)

/- THE SECOND FORM. 'bulk': how many values and letters a reading holds, each counted each time it is reached (what is shared counts as often as it is met; a slice's spare places count too). A statement '..UptoSaid' is the law's where the arguments, and the package variables that the reading takes, are together of bulk at most 1048576: NARROWER than '..Said'. Prove '..Said' where nothing that the law and all that it calls make is longer than what came in: it says more and counts as full. Else prove '..UptoSaid'. A law counts once. -/
mutual
def uptoBulk {H : Type} : DataW H → Nat
  | .lit (.string bytes) => bytes.length + 1
  | .lit _ => 1
  | .nil => 1
  | .ptr d => uptoBulk d + 1
  | .slice elems spare => uptoBulkAll elems + uptoBulkAll spare + 1
  | .agg parts => uptoBulkAll parts + 1
  | .iface _ d => uptoBulk d + 1
  | .map entries => uptoBulkEntries entries + 1
  | .held _ => 1
def uptoBulkAll {H : Type} : List (DataW H) → Nat
  | [] => 0
  | d :: r => uptoBulk d + uptoBulkAll r
def uptoBulkEntries {H : Type} : List (Lit × DataW H) → Nat
  | [] => 0
  | x :: r => uptoBulkEntry x + uptoBulkEntries r
def uptoBulkEntry {H : Type} : Lit × DataW H → Nat
  | (.string bytes, d) => bytes.length + uptoBulk d + 1
  | (_, d) => uptoBulk d + 1
 end
def uptoSmall : (H : Type) → List (DataW H) → Bool := fun _ ds => decide (uptoBulkAll ds ≤ 1048576)
def OpenSpec.upto (s : _root_.Go.ChangeSpec) : _root_.Go.OpenSpec := { _root_.Go.OpenSpec.ofChange s with cond := some uptoSmall }

/-- 'hagioscopelaw07.RecordTakes', WHERE WHAT IT READS IS OF BULK AT MOST 1048576: true; the input reads as it did. -/
def recordTakesUptoRow : OpenClaim := { program := "ytgjgffiogknefaa", sum := "83ad7b42b107c509f964f8d35ad51606ff442f9a85fa4ecd4ee5eb5a2f03a38d", func := "hagioscope/hagioscopelaw07.RecordTakes", spec := "recordTakes", apart := false, narrowed := true }
def RecordTakesUptoSaid : Prop := recordTakesUptoRow.holds Try.pinned (OpenSpec.upto recordTakesSpec)

/-- 'hagioscopelaw07.RecordAll', WHERE WHAT IT READS IS OF BULK AT MOST 1048576: true; the input reads as it did. -/
def recordAllUptoRow : OpenClaim := { program := "ytgjgffiogknefaa", sum := "83ad7b42b107c509f964f8d35ad51606ff442f9a85fa4ecd4ee5eb5a2f03a38d", func := "hagioscope/hagioscopelaw07.RecordAll", spec := "recordAll", apart := false, narrowed := true }
def RecordAllUptoSaid : Prop := recordAllUptoRow.holds Try.pinned (OpenSpec.upto recordAllSpec)

/-- 'hagioscopelaw07.RecordBack', WHERE WHAT IT READS IS OF BULK AT MOST 1048576: true; the input reads as it did. -/
def recordBackUptoRow : OpenClaim := { program := "ytgjgffiogknefaa", sum := "83ad7b42b107c509f964f8d35ad51606ff442f9a85fa4ecd4ee5eb5a2f03a38d", func := "hagioscope/hagioscopelaw07.RecordBack", spec := "recordBack", apart := false, narrowed := true }
def RecordBackUptoSaid : Prop := recordBackUptoRow.holds Try.pinned (OpenSpec.upto recordBackSpec)

/-- 'hagioscopelaw07.RecordWrong', WHERE WHAT IT READS IS OF BULK AT MOST 1048576: true; the input reads as it did. -/
def recordWrongUptoRow : OpenClaim := { program := "ytgjgffiogknefaa", sum := "83ad7b42b107c509f964f8d35ad51606ff442f9a85fa4ecd4ee5eb5a2f03a38d", func := "hagioscope/hagioscopelaw07.RecordWrong", spec := "recordWrong", apart := false, narrowed := true }
def RecordWrongUptoSaid : Prop := recordWrongUptoRow.holds Try.pinned (OpenSpec.upto recordWrongSpec)

/-- 'hagioscopelaw07.RecordParts', WHERE WHAT IT READS IS OF BULK AT MOST 1048576: true; the input reads as it did. -/
def recordPartsUptoRow : OpenClaim := { program := "ytgjgffiogknefaa", sum := "83ad7b42b107c509f964f8d35ad51606ff442f9a85fa4ecd4ee5eb5a2f03a38d", func := "hagioscope/hagioscopelaw07.RecordParts", spec := "recordParts", apart := false, narrowed := true }
def RecordPartsUptoSaid : Prop := recordPartsUptoRow.holds Try.pinned (OpenSpec.upto recordPartsSpec)

/-- 'hagioscopelaw07.RecordCount', WHERE WHAT IT READS IS OF BULK AT MOST 1048576: true; the input reads as it did. -/
def recordCountUptoRow : OpenClaim := { program := "ytgjgffiogknefaa", sum := "83ad7b42b107c509f964f8d35ad51606ff442f9a85fa4ecd4ee5eb5a2f03a38d", func := "hagioscope/hagioscopelaw07.RecordCount", spec := "recordCount", apart := false, narrowed := true }
def RecordCountUptoSaid : Prop := recordCountUptoRow.holds Try.pinned (OpenSpec.upto recordCountSpec)

end Rows
end Go.Proofs.Ytgjgffiogknefaa
