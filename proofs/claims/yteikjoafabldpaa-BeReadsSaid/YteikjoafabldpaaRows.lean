/-
  No cell of these rows narrows 'for every input' (looked for: loops, veiled, ifaces, maps, wideKeys, modest, calm, conditions, laid).
  DERIVED. THE GIVEN ROWS OF THIS SEAT. 6 by the template 'for every input the law returns true; each argument reads behind the call as it read before'; 0 by the template 'total and deterministic' (their statements: YteikjoafabldpaaTotals.lean).
  GIVEN WITH THE SEED: the statements are not yours to turn. If you find one false, say at which input.
  Laid BY PROGRAM, IN A SANDBOX (cutbox-rows.mjs): the forced cells as the released guide's own fill.sh prints them over the translation b4ca3c66ead070ff… (all of the seat's roots in one cut). By AI agents, Wed Nov 11 2026. No macro, syntax, notation, axiom, sorry.
-/
import Derived.Test.YteikjoafabldpaaChecked
import GoSem.Claim
import GoSem.ClaimJoined
import GoSem.ClaimMapViews
import Derived.JoinedTies
import Derived.KernelRfl
namespace Go.Proofs.Yteikjoafabldpaa
/- THE CELL 'sum', in the pinned program and in every row, IS THE sha256 OF THE DUMP (.gsa) THAT YteikjoafabldpaaProg.lean LOADS. Nothing in Lean hashes anything: it is a label: what it is worth is what the hold of that sum in a sandbox is worth. -/
noncomputable def Try.pinned : Pinned := { name := "yteikjoafabldpaa", sum := "b4ca3c66ead070ffaf7e5265808842068be2d532ec099a75407867f6b2d90a94", checked := Try.checked }
namespace Rows
def none {H : Type} : Left H := { results := [], args := [] }

/-- 'hagioscopelaw01.BePuts': WHATEVER THE INPUT: true; the input reads as it did. -/
def bePutsSpec : ChangeSpec := { name := "bePuts", fn := fun _ => fun
  | [d1, d2, d3, d4] => { results := [.lit (.bool true)], args := [d1, d2, d3, d4] }
  | _ => none }
def bePutsRow : OpenClaim := { program := "yteikjoafabldpaa", sum := "b4ca3c66ead070ffaf7e5265808842068be2d532ec099a75407867f6b2d90a94", func := "hagioscope/hagioscopelaw01.BePuts", spec := "bePuts", apart := false }
def BePutsSaid : Prop := bePutsRow.holds Try.pinned (OpenSpec.ofChange bePutsSpec)

/-- ITS FALSE NEIGHBOUR: 'it returns false'. Refute it at one input. -/
def bePutsWrong : ChangeSpec := { name := "bePuts", fn := fun _ => fun
  | [d1, d2, d3, d4] => { results := [.lit (.bool false)], args := [d1, d2, d3, d4] }
  | _ => none }
def BePutsWrongFalsely : Prop := bePutsRow.holds Try.pinned (OpenSpec.ofChange bePutsWrong)

/-- 'hagioscopelaw01.BeReads': WHATEVER THE INPUT: true; the input reads as it did. -/
def beReadsSpec : ChangeSpec := { name := "beReads", fn := fun _ => fun
  | [d1, d2] => { results := [.lit (.bool true)], args := [d1, d2] }
  | _ => none }
def beReadsRow : OpenClaim := { program := "yteikjoafabldpaa", sum := "b4ca3c66ead070ffaf7e5265808842068be2d532ec099a75407867f6b2d90a94", func := "hagioscope/hagioscopelaw01.BeReads", spec := "beReads", apart := false }
def BeReadsSaid : Prop := beReadsRow.holds Try.pinned (OpenSpec.ofChange beReadsSpec)

/-- ITS FALSE NEIGHBOUR: 'it returns false'. Refute it at one input. -/
def beReadsWrong : ChangeSpec := { name := "beReads", fn := fun _ => fun
  | [d1, d2] => { results := [.lit (.bool false)], args := [d1, d2] }
  | _ => none }
def BeReadsWrongFalsely : Prop := beReadsRow.holds Try.pinned (OpenSpec.ofChange beReadsWrong)

/-- 'hagioscopelaw01.BeBack': WHATEVER THE INPUT: true; the input reads as it did. -/
def beBackSpec : ChangeSpec := { name := "beBack", fn := fun _ => fun
  | [d1, d2] => { results := [.lit (.bool true)], args := [d1, d2] }
  | _ => none }
def beBackRow : OpenClaim := { program := "yteikjoafabldpaa", sum := "b4ca3c66ead070ffaf7e5265808842068be2d532ec099a75407867f6b2d90a94", func := "hagioscope/hagioscopelaw01.BeBack", spec := "beBack", apart := false }
def BeBackSaid : Prop := beBackRow.holds Try.pinned (OpenSpec.ofChange beBackSpec)

/-- ITS FALSE NEIGHBOUR: 'it returns false'. Refute it at one input. -/
def beBackWrong : ChangeSpec := { name := "beBack", fn := fun _ => fun
  | [d1, d2] => { results := [.lit (.bool false)], args := [d1, d2] }
  | _ => none }
def BeBackWrongFalsely : Prop := beBackRow.holds Try.pinned (OpenSpec.ofChange beBackWrong)

/-- 'hagioscopelaw01.BeSizes': WHATEVER THE INPUT: true; the input reads as it did. -/
def beSizesSpec : ChangeSpec := { name := "beSizes", fn := fun _ => fun
  | [d1, d2] => { results := [.lit (.bool true)], args := [d1, d2] }
  | _ => none }
def beSizesRow : OpenClaim := { program := "yteikjoafabldpaa", sum := "b4ca3c66ead070ffaf7e5265808842068be2d532ec099a75407867f6b2d90a94", func := "hagioscope/hagioscopelaw01.BeSizes", spec := "beSizes", apart := false }
def BeSizesSaid : Prop := beSizesRow.holds Try.pinned (OpenSpec.ofChange beSizesSpec)

/-- ITS FALSE NEIGHBOUR: 'it returns false'. Refute it at one input. -/
def beSizesWrong : ChangeSpec := { name := "beSizes", fn := fun _ => fun
  | [d1, d2] => { results := [.lit (.bool false)], args := [d1, d2] }
  | _ => none }
def BeSizesWrongFalsely : Prop := beSizesRow.holds Try.pinned (OpenSpec.ofChange beSizesWrong)

/-- 'hagioscopelaw01.BeCut': WHATEVER THE INPUT: true; the input reads as it did. -/
def beCutSpec : ChangeSpec := { name := "beCut", fn := fun _ => fun
  | [d1, d2] => { results := [.lit (.bool true)], args := [d1, d2] }
  | _ => none }
def beCutRow : OpenClaim := { program := "yteikjoafabldpaa", sum := "b4ca3c66ead070ffaf7e5265808842068be2d532ec099a75407867f6b2d90a94", func := "hagioscope/hagioscopelaw01.BeCut", spec := "beCut", apart := false }
def BeCutSaid : Prop := beCutRow.holds Try.pinned (OpenSpec.ofChange beCutSpec)

/-- ITS FALSE NEIGHBOUR: 'it returns false'. Refute it at one input. -/
def beCutWrong : ChangeSpec := { name := "beCut", fn := fun _ => fun
  | [d1, d2] => { results := [.lit (.bool false)], args := [d1, d2] }
  | _ => none }
def BeCutWrongFalsely : Prop := beCutRow.holds Try.pinned (OpenSpec.ofChange beCutWrong)

/-- 'hagioscopelaw01.BeSplit': WHATEVER THE INPUT: true; the input reads as it did. -/
def beSplitSpec : ChangeSpec := { name := "beSplit", fn := fun _ => fun
  | [d1, d2, d3, d4] => { results := [.lit (.bool true)], args := [d1, d2, d3, d4] }
  | _ => none }
def beSplitRow : OpenClaim := { program := "yteikjoafabldpaa", sum := "b4ca3c66ead070ffaf7e5265808842068be2d532ec099a75407867f6b2d90a94", func := "hagioscope/hagioscopelaw01.BeSplit", spec := "beSplit", apart := false }
def BeSplitSaid : Prop := beSplitRow.holds Try.pinned (OpenSpec.ofChange beSplitSpec)

/-- ITS FALSE NEIGHBOUR: 'it returns false'. Refute it at one input. -/
def beSplitWrong : ChangeSpec := { name := "beSplit", fn := fun _ => fun
  | [d1, d2, d3, d4] => { results := [.lit (.bool false)], args := [d1, d2, d3, d4] }
  | _ => none }
def BeSplitWrongFalsely : Prop := beSplitRow.holds Try.pinned (OpenSpec.ofChange beSplitWrong)

/- THE SECOND FORM. 'bulk': how many values and letters a reading holds, each counted each time it is reached (what is shared counts as often as it is met; a slice's spare places count too). A statement '..UptoSaid' is the law's where the arguments, and the package variables that the reading takes, are together of bulk at most 1048576: NARROWER than '..Said'. Prove '..Said' where nothing that the law and all that it calls make is longer than what came in: it says more and counts as full. Else prove '..UptoSaid'. A law counts once. -/
mutual
def uptoBulk {H : Type} : DataW H → Nat
  | .lit (.string bytes) => bytes.length + 1
  | .lit _ => 1
  | .nil => 1
  | .ptr d => uptoBulk d + 1
  | .slice elems spare => uptoBulkAll elems + uptoBulkAll spare + 1
  | .agg parts => uptoBulkAll parts + 1
  | .iface _ d => uptoBulk d + 1
  | .map entries => uptoBulkEntries entries + 1
  | .held _ => 1
def uptoBulkAll {H : Type} : List (DataW H) → Nat
  | [] => 0
  | d :: r => uptoBulk d + uptoBulkAll r
def uptoBulkEntries {H : Type} : List (Lit × DataW H) → Nat
  | [] => 0
  | x :: r => uptoBulkEntry x + uptoBulkEntries r
def uptoBulkEntry {H : Type} : Lit × DataW H → Nat
  | (.string bytes, d) => bytes.length + uptoBulk d + 1
  | (_, d) => uptoBulk d + 1
 end
def uptoSmall : (H : Type) → List (DataW H) → Bool := fun _ ds => decide (uptoBulkAll ds ≤ 1048576)
def OpenSpec.upto (s : _root_.Go.ChangeSpec) : _root_.Go.OpenSpec := { _root_.Go.OpenSpec.ofChange s with cond := some uptoSmall }

/-- 'hagioscopelaw01.BePuts', WHERE WHAT IT READS IS OF BULK AT MOST 1048576: true; the input reads as it did. -/
def bePutsUptoRow : OpenClaim := { program := "yteikjoafabldpaa", sum := "b4ca3c66ead070ffaf7e5265808842068be2d532ec099a75407867f6b2d90a94", func := "hagioscope/hagioscopelaw01.BePuts", spec := "bePuts", apart := false, narrowed := true }
def BePutsUptoSaid : Prop := bePutsUptoRow.holds Try.pinned (OpenSpec.upto bePutsSpec)

/-- 'hagioscopelaw01.BeReads', WHERE WHAT IT READS IS OF BULK AT MOST 1048576: true; the input reads as it did. -/
def beReadsUptoRow : OpenClaim := { program := "yteikjoafabldpaa", sum := "b4ca3c66ead070ffaf7e5265808842068be2d532ec099a75407867f6b2d90a94", func := "hagioscope/hagioscopelaw01.BeReads", spec := "beReads", apart := false, narrowed := true }
def BeReadsUptoSaid : Prop := beReadsUptoRow.holds Try.pinned (OpenSpec.upto beReadsSpec)

/-- 'hagioscopelaw01.BeBack', WHERE WHAT IT READS IS OF BULK AT MOST 1048576: true; the input reads as it did. -/
def beBackUptoRow : OpenClaim := { program := "yteikjoafabldpaa", sum := "b4ca3c66ead070ffaf7e5265808842068be2d532ec099a75407867f6b2d90a94", func := "hagioscope/hagioscopelaw01.BeBack", spec := "beBack", apart := false, narrowed := true }
def BeBackUptoSaid : Prop := beBackUptoRow.holds Try.pinned (OpenSpec.upto beBackSpec)

/-- 'hagioscopelaw01.BeSizes', WHERE WHAT IT READS IS OF BULK AT MOST 1048576: true; the input reads as it did. -/
def beSizesUptoRow : OpenClaim := { program := "yteikjoafabldpaa", sum := "b4ca3c66ead070ffaf7e5265808842068be2d532ec099a75407867f6b2d90a94", func := "hagioscope/hagioscopelaw01.BeSizes", spec := "beSizes", apart := false, narrowed := true }
def BeSizesUptoSaid : Prop := beSizesUptoRow.holds Try.pinned (OpenSpec.upto beSizesSpec)

/-- 'hagioscopelaw01.BeCut', WHERE WHAT IT READS IS OF BULK AT MOST 1048576: true; the input reads as it did. -/
def beCutUptoRow : OpenClaim := { program := "yteikjoafabldpaa", sum := "b4ca3c66ead070ffaf7e5265808842068be2d532ec099a75407867f6b2d90a94", func := "hagioscope/hagioscopelaw01.BeCut", spec := "beCut", apart := false, narrowed := true }
def BeCutUptoSaid : Prop := beCutUptoRow.holds Try.pinned (OpenSpec.upto beCutSpec)

/-- 'hagioscopelaw01.BeSplit', WHERE WHAT IT READS IS OF BULK AT MOST 1048576: true; the input reads as it did. -/
def beSplitUptoRow : OpenClaim := { program := "yteikjoafabldpaa", sum := "b4ca3c66ead070ffaf7e5265808842068be2d532ec099a75407867f6b2d90a94", func := "hagioscope/hagioscopelaw01.BeSplit", spec := "beSplit", apart := false, narrowed := true }
def BeSplitUptoSaid : Prop := beSplitUptoRow.holds Try.pinned (OpenSpec.upto beSplitSpec)

end Rows
end Go.Proofs.Yteikjoafabldpaa
