/-
  No cell of these rows narrows 'for every input' (looked for: loops, veiled, ifaces, maps, wideKeys, modest, calm, conditions, laid).
  DERIVED. THE GIVEN ROWS OF THIS SEAT. 5 by the template 'for every input the law returns true; each argument reads behind the call as it read before'; 0 by the template 'total and deterministic' (their statements: YtnmfgimcclpfbaaTotals.lean).
  GIVEN WITH THE SEED: the statements are not yours to turn. If you find one false, say at which input.
  Laid BY PROGRAM, IN A SANDBOX (cutbox-rows.mjs): the forced cells as the released guide's own fill.sh prints them over the translation 183071303852d3b9… (all of the seat's roots in one cut). By AI agents, Wed Nov 11 2026. No macro, syntax, notation, axiom, sorry.
-/
import Derived.Test.YtnmfgimcclpfbaaChecked
import GoSem.Claim
import GoSem.ClaimJoined
import GoSem.ClaimMapViews
import Derived.JoinedTies
import Derived.KernelRfl
namespace Go.Proofs.Ytnmfgimcclpfbaa
/- THE CELL 'sum', in the pinned program and in every row, IS THE sha256 OF THE DUMP (.gsa) THAT YtnmfgimcclpfbaaProg.lean LOADS. Nothing in Lean hashes anything: it is a label: what it is worth is what the hold of that sum in a sandbox is worth. -/
noncomputable def Try.pinned : Pinned := { name := "ytnmfgimcclpfbaa", sum := "183071303852d3b911feff4a4a8695e7d5e682132dc19fe80d9b93c2a80f619b", checked := Try.checked }
namespace Rows
def none {H : Type} : Left H := { results := [], args := [] }

/-- 'hagioscopelaw06.PeekPlays': WHATEVER THE INPUT: true; the input reads as it did. -/
def peekPlaysSpec : ChangeSpec := { name := "peekPlays", fn := fun _ => fun
  | [d1, d2] => { results := [.lit (.bool true)], args := [d1, d2] }
  | _ => none }
def peekPlaysRow : OpenClaim := { program := "ytnmfgimcclpfbaa", sum := "183071303852d3b911feff4a4a8695e7d5e682132dc19fe80d9b93c2a80f619b", func := "hagioscope/hagioscopelaw06.PeekPlays", spec := "peekPlays", apart := false }
def PeekPlaysSaid : Prop := peekPlaysRow.holds Try.pinned (OpenSpec.ofChange peekPlaysSpec)

/-- ITS FALSE NEIGHBOUR: 'it returns false'. Refute it at one input. -/
def peekPlaysWrong : ChangeSpec := { name := "peekPlays", fn := fun _ => fun
  | [d1, d2] => { results := [.lit (.bool false)], args := [d1, d2] }
  | _ => none }
def PeekPlaysWrongFalsely : Prop := peekPlaysRow.holds Try.pinned (OpenSpec.ofChange peekPlaysWrong)

/-- 'hagioscopelaw06.PeekBack': WHATEVER THE INPUT: true; the input reads as it did. -/
def peekBackSpec : ChangeSpec := { name := "peekBack", fn := fun _ => fun
  | [d1, d2, d3] => { results := [.lit (.bool true)], args := [d1, d2, d3] }
  | _ => none }
def peekBackRow : OpenClaim := { program := "ytnmfgimcclpfbaa", sum := "183071303852d3b911feff4a4a8695e7d5e682132dc19fe80d9b93c2a80f619b", func := "hagioscope/hagioscopelaw06.PeekBack", spec := "peekBack", apart := false }
def PeekBackSaid : Prop := peekBackRow.holds Try.pinned (OpenSpec.ofChange peekBackSpec)

/-- ITS FALSE NEIGHBOUR: 'it returns false'. Refute it at one input. -/
def peekBackWrong : ChangeSpec := { name := "peekBack", fn := fun _ => fun
  | [d1, d2, d3] => { results := [.lit (.bool false)], args := [d1, d2, d3] }
  | _ => none }
def PeekBackWrongFalsely : Prop := peekBackRow.holds Try.pinned (OpenSpec.ofChange peekBackWrong)

/-- 'hagioscopelaw06.PeekMore': WHATEVER THE INPUT: true; the input reads as it did. -/
def peekMoreSpec : ChangeSpec := { name := "peekMore", fn := fun _ => fun
  | [d1, d2, d3] => { results := [.lit (.bool true)], args := [d1, d2, d3] }
  | _ => none }
def peekMoreRow : OpenClaim := { program := "ytnmfgimcclpfbaa", sum := "183071303852d3b911feff4a4a8695e7d5e682132dc19fe80d9b93c2a80f619b", func := "hagioscope/hagioscopelaw06.PeekMore", spec := "peekMore", apart := false }
def PeekMoreSaid : Prop := peekMoreRow.holds Try.pinned (OpenSpec.ofChange peekMoreSpec)

/-- ITS FALSE NEIGHBOUR: 'it returns false'. Refute it at one input. -/
def peekMoreWrong : ChangeSpec := { name := "peekMore", fn := fun _ => fun
  | [d1, d2, d3] => { results := [.lit (.bool false)], args := [d1, d2, d3] }
  | _ => none }
def PeekMoreWrongFalsely : Prop := peekMoreRow.holds Try.pinned (OpenSpec.ofChange peekMoreWrong)

/-- 'hagioscopelaw06.PeekMost': WHATEVER THE INPUT: true; the input reads as it did. -/
def peekMostSpec : ChangeSpec := { name := "peekMost", fn := fun _ => fun
  | [d1, d2] => { results := [.lit (.bool true)], args := [d1, d2] }
  | _ => none }
def peekMostRow : OpenClaim := { program := "ytnmfgimcclpfbaa", sum := "183071303852d3b911feff4a4a8695e7d5e682132dc19fe80d9b93c2a80f619b", func := "hagioscope/hagioscopelaw06.PeekMost", spec := "peekMost", apart := false }
def PeekMostSaid : Prop := peekMostRow.holds Try.pinned (OpenSpec.ofChange peekMostSpec)

/-- ITS FALSE NEIGHBOUR: 'it returns false'. Refute it at one input. -/
def peekMostWrong : ChangeSpec := { name := "peekMost", fn := fun _ => fun
  | [d1, d2] => { results := [.lit (.bool false)], args := [d1, d2] }
  | _ => none }
def PeekMostWrongFalsely : Prop := peekMostRow.holds Try.pinned (OpenSpec.ofChange peekMostWrong)

/-- 'hagioscopelaw06.PeekNothing': WHATEVER THE INPUT: true; the input reads as it did. -/
def peekNothingSpec : ChangeSpec := { name := "peekNothing", fn := fun _ => fun
  | [d1, d2, d3] => { results := [.lit (.bool true)], args := [d1, d2, d3] }
  | _ => none }
def peekNothingRow : OpenClaim := { program := "ytnmfgimcclpfbaa", sum := "183071303852d3b911feff4a4a8695e7d5e682132dc19fe80d9b93c2a80f619b", func := "hagioscope/hagioscopelaw06.PeekNothing", spec := "peekNothing", apart := false }
def PeekNothingSaid : Prop := peekNothingRow.holds Try.pinned (OpenSpec.ofChange peekNothingSpec)

/-- ITS FALSE NEIGHBOUR: 'it returns false'. Refute it at one input. -/
def peekNothingWrong : ChangeSpec := { name := "peekNothing", fn := fun _ => fun
  | [d1, d2, d3] => { results := [.lit (.bool false)], args := [d1, d2, d3] }
  | _ => none }
def PeekNothingWrongFalsely : Prop := peekNothingRow.holds Try.pinned (OpenSpec.ofChange peekNothingWrong)

/- THE SECOND FORM. 'bulk': how many values and letters a reading holds, each counted each time it is reached (what is shared counts as often as it is met; a slice's spare places count too). A statement '..UptoSaid' is the law's where the arguments, and the package variables that the reading takes, are together of bulk at most 1048576: NARROWER than '..Said'. Prove '..Said' where nothing that the law and all that it calls make is longer than what came in: it says more and counts as full. Else prove '..UptoSaid'. A law counts once. -/
mutual
def uptoBulk {H : Type} : DataW H → Nat
  | .lit (.string bytes) => bytes.length + 1
  | .lit _ => 1
  | .nil => 1
  | .ptr d => uptoBulk d + 1
  | .slice elems spare => uptoBulkAll elems + uptoBulkAll spare + 1
  | .agg parts => uptoBulkAll parts + 1
  | .iface _ d => uptoBulk d + 1
  | .map entries => uptoBulkEntries entries + 1
  | .held _ => 1
def uptoBulkAll {H : Type} : List (DataW H) → Nat
  | [] => 0
  | d :: r => uptoBulk d + uptoBulkAll r
def uptoBulkEntries {H : Type} : List (Lit × DataW H) → Nat
  | [] => 0
  | x :: r => uptoBulkEntry x + uptoBulkEntries r
def uptoBulkEntry {H : Type} : Lit × DataW H → Nat
  | (.string bytes, d) => bytes.length + uptoBulk d + 1
  | (_, d) => uptoBulk d + 1
 end
def uptoSmall : (H : Type) → List (DataW H) → Bool := fun _ ds => decide (uptoBulkAll ds ≤ 1048576)
def OpenSpec.upto (s : _root_.Go.ChangeSpec) : _root_.Go.OpenSpec := { _root_.Go.OpenSpec.ofChange s with cond := some uptoSmall }

/-- 'hagioscopelaw06.PeekPlays', WHERE WHAT IT READS IS OF BULK AT MOST 1048576: true; the input reads as it did. -/
def peekPlaysUptoRow : OpenClaim := { program := "ytnmfgimcclpfbaa", sum := "183071303852d3b911feff4a4a8695e7d5e682132dc19fe80d9b93c2a80f619b", func := "hagioscope/hagioscopelaw06.PeekPlays", spec := "peekPlays", apart := false, narrowed := true }
def PeekPlaysUptoSaid : Prop := peekPlaysUptoRow.holds Try.pinned (OpenSpec.upto peekPlaysSpec)

/-- 'hagioscopelaw06.PeekBack', WHERE WHAT IT READS IS OF BULK AT MOST 1048576: true; the input reads as it did. -/
def peekBackUptoRow : OpenClaim := { program := "ytnmfgimcclpfbaa", sum := "183071303852d3b911feff4a4a8695e7d5e682132dc19fe80d9b93c2a80f619b", func := "hagioscope/hagioscopelaw06.PeekBack", spec := "peekBack", apart := false, narrowed := true }
def PeekBackUptoSaid : Prop := peekBackUptoRow.holds Try.pinned (OpenSpec.upto peekBackSpec)

/-- 'hagioscopelaw06.PeekMore', WHERE WHAT IT READS IS OF BULK AT MOST 1048576: true; the input reads as it did. -/
def peekMoreUptoRow : OpenClaim := { program := "ytnmfgimcclpfbaa", sum := "183071303852d3b911feff4a4a8695e7d5e682132dc19fe80d9b93c2a80f619b", func := "hagioscope/hagioscopelaw06.PeekMore", spec := "peekMore", apart := false, narrowed := true }
def PeekMoreUptoSaid : Prop := peekMoreUptoRow.holds Try.pinned (OpenSpec.upto peekMoreSpec)

/-- 'hagioscopelaw06.PeekMost', WHERE WHAT IT READS IS OF BULK AT MOST 1048576: true; the input reads as it did. -/
def peekMostUptoRow : OpenClaim := { program := "ytnmfgimcclpfbaa", sum := "183071303852d3b911feff4a4a8695e7d5e682132dc19fe80d9b93c2a80f619b", func := "hagioscope/hagioscopelaw06.PeekMost", spec := "peekMost", apart := false, narrowed := true }
def PeekMostUptoSaid : Prop := peekMostUptoRow.holds Try.pinned (OpenSpec.upto peekMostSpec)

/-- 'hagioscopelaw06.PeekNothing', WHERE WHAT IT READS IS OF BULK AT MOST 1048576: true; the input reads as it did. -/
def peekNothingUptoRow : OpenClaim := { program := "ytnmfgimcclpfbaa", sum := "183071303852d3b911feff4a4a8695e7d5e682132dc19fe80d9b93c2a80f619b", func := "hagioscope/hagioscopelaw06.PeekNothing", spec := "peekNothing", apart := false, narrowed := true }
def PeekNothingUptoSaid : Prop := peekNothingUptoRow.holds Try.pinned (OpenSpec.upto peekNothingSpec)

end Rows
end Go.Proofs.Ytnmfgimcclpfbaa
