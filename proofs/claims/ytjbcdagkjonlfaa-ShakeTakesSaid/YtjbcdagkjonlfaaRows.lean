/-
  No cell of these rows narrows 'for every input' (looked for: loops, veiled, ifaces, maps, wideKeys, modest, calm, conditions, laid).
  DERIVED. THE GIVEN ROWS OF THIS SEAT. 6 by the template 'for every input the law returns true; each argument reads behind the call as it read before'; 0 by the template 'total and deterministic' (their statements: YtjbcdagkjonlfaaTotals.lean).
  GIVEN WITH THE SEED: the statements are not yours to turn. If you find one false, say at which input.
  Laid BY PROGRAM, IN A SANDBOX (cutbox-rows.mjs): the forced cells as the released guide's own fill.sh prints them over the translation f875b9eb909991ce… (all of the seat's roots in one cut). By AI agents, Wed Nov 11 2026. No macro, syntax, notation, axiom, sorry.
-/
import Derived.Test.YtjbcdagkjonlfaaChecked
import GoSem.Claim
import GoSem.ClaimJoined
import GoSem.ClaimMapViews
import Derived.JoinedTies
import Derived.KernelRfl
namespace Go.Proofs.Ytjbcdagkjonlfaa
/- THE CELL 'sum', in the pinned program and in every row, IS THE sha256 OF THE DUMP (.gsa) THAT YtjbcdagkjonlfaaProg.lean LOADS. Nothing in Lean hashes anything: it is a label: what it is worth is what the hold of that sum in a sandbox is worth. -/
noncomputable def Try.pinned : Pinned := { name := "ytjbcdagkjonlfaa", sum := "f875b9eb909991ce39f6d73dee00c85f31353a979eeda4093e1f7698e57aec25", checked := Try.checked }
namespace Rows
def none {H : Type} : Left H := { results := [], args := [] }

/-- 'hagioscopelaw08.ShakeTakes': WHATEVER THE INPUT: true; the input reads as it did. -/
def shakeTakesSpec : ChangeSpec := { name := "shakeTakes", fn := fun _ => fun
  | [d] => { results := [.lit (.bool true)], args := [d] }
  | _ => none }
def shakeTakesRow : OpenClaim := { program := "ytjbcdagkjonlfaa", sum := "f875b9eb909991ce39f6d73dee00c85f31353a979eeda4093e1f7698e57aec25", func := "hagioscope/hagioscopelaw08.ShakeTakes", spec := "shakeTakes", apart := false }
def ShakeTakesSaid : Prop := shakeTakesRow.holds Try.pinned (OpenSpec.ofChange shakeTakesSpec)

/-- ITS FALSE NEIGHBOUR: 'it returns false'. Refute it at one input. -/
def shakeTakesWrong : ChangeSpec := { name := "shakeTakes", fn := fun _ => fun
  | [d] => { results := [.lit (.bool false)], args := [d] }
  | _ => none }
def ShakeTakesWrongFalsely : Prop := shakeTakesRow.holds Try.pinned (OpenSpec.ofChange shakeTakesWrong)

/-- 'hagioscopelaw08.ShakeWraps': WHATEVER THE INPUT: true; the input reads as it did. -/
def shakeWrapsSpec : ChangeSpec := { name := "shakeWraps", fn := fun _ => fun
  | [d] => { results := [.lit (.bool true)], args := [d] }
  | _ => none }
def shakeWrapsRow : OpenClaim := { program := "ytjbcdagkjonlfaa", sum := "f875b9eb909991ce39f6d73dee00c85f31353a979eeda4093e1f7698e57aec25", func := "hagioscope/hagioscopelaw08.ShakeWraps", spec := "shakeWraps", apart := false }
def ShakeWrapsSaid : Prop := shakeWrapsRow.holds Try.pinned (OpenSpec.ofChange shakeWrapsSpec)

/-- ITS FALSE NEIGHBOUR: 'it returns false'. Refute it at one input. -/
def shakeWrapsWrong : ChangeSpec := { name := "shakeWraps", fn := fun _ => fun
  | [d] => { results := [.lit (.bool false)], args := [d] }
  | _ => none }
def ShakeWrapsWrongFalsely : Prop := shakeWrapsRow.holds Try.pinned (OpenSpec.ofChange shakeWrapsWrong)

/-- 'hagioscopelaw08.ShakeBack': WHATEVER THE INPUT: true; the input reads as it did. -/
def shakeBackSpec : ChangeSpec := { name := "shakeBack", fn := fun _ => fun
  | [d1, d2] => { results := [.lit (.bool true)], args := [d1, d2] }
  | _ => none }
def shakeBackRow : OpenClaim := { program := "ytjbcdagkjonlfaa", sum := "f875b9eb909991ce39f6d73dee00c85f31353a979eeda4093e1f7698e57aec25", func := "hagioscope/hagioscopelaw08.ShakeBack", spec := "shakeBack", apart := false }
def ShakeBackSaid : Prop := shakeBackRow.holds Try.pinned (OpenSpec.ofChange shakeBackSpec)

/-- ITS FALSE NEIGHBOUR: 'it returns false'. Refute it at one input. -/
def shakeBackWrong : ChangeSpec := { name := "shakeBack", fn := fun _ => fun
  | [d1, d2] => { results := [.lit (.bool false)], args := [d1, d2] }
  | _ => none }
def ShakeBackWrongFalsely : Prop := shakeBackRow.holds Try.pinned (OpenSpec.ofChange shakeBackWrong)

/-- 'hagioscopelaw08.ShakeWants': WHATEVER THE INPUT: true; the input reads as it did. -/
def shakeWantsSpec : ChangeSpec := { name := "shakeWants", fn := fun _ => fun
  | [d1, d2] => { results := [.lit (.bool true)], args := [d1, d2] }
  | _ => none }
def shakeWantsRow : OpenClaim := { program := "ytjbcdagkjonlfaa", sum := "f875b9eb909991ce39f6d73dee00c85f31353a979eeda4093e1f7698e57aec25", func := "hagioscope/hagioscopelaw08.ShakeWants", spec := "shakeWants", apart := false }
def ShakeWantsSaid : Prop := shakeWantsRow.holds Try.pinned (OpenSpec.ofChange shakeWantsSpec)

/-- ITS FALSE NEIGHBOUR: 'it returns false'. Refute it at one input. -/
def shakeWantsWrong : ChangeSpec := { name := "shakeWants", fn := fun _ => fun
  | [d1, d2] => { results := [.lit (.bool false)], args := [d1, d2] }
  | _ => none }
def ShakeWantsWrongFalsely : Prop := shakeWantsRow.holds Try.pinned (OpenSpec.ofChange shakeWantsWrong)

/-- 'hagioscopelaw08.ShakeWrong': WHATEVER THE INPUT: true; the input reads as it did. -/
def shakeWrongSpec : ChangeSpec := { name := "shakeWrong", fn := fun _ => fun
  | [d1, d2, d3, d4] => { results := [.lit (.bool true)], args := [d1, d2, d3, d4] }
  | _ => none }
def shakeWrongRow : OpenClaim := { program := "ytjbcdagkjonlfaa", sum := "f875b9eb909991ce39f6d73dee00c85f31353a979eeda4093e1f7698e57aec25", func := "hagioscope/hagioscopelaw08.ShakeWrong", spec := "shakeWrong", apart := false }
def ShakeWrongSaid : Prop := shakeWrongRow.holds Try.pinned (OpenSpec.ofChange shakeWrongSpec)

/-- ITS FALSE NEIGHBOUR: 'it returns false'. Refute it at one input. -/
def shakeWrongWrong : ChangeSpec := { name := "shakeWrong", fn := fun _ => fun
  | [d1, d2, d3, d4] => { results := [.lit (.bool false)], args := [d1, d2, d3, d4] }
  | _ => none }
def ShakeWrongWrongFalsely : Prop := shakeWrongRow.holds Try.pinned (OpenSpec.ofChange shakeWrongWrong)

/-- 'hagioscopelaw08.ShakeSize': WHATEVER THE INPUT: true; the input reads as it did. -/
def shakeSizeSpec : ChangeSpec := { name := "shakeSize", fn := fun _ => fun
  | [d1, d2] => { results := [.lit (.bool true)], args := [d1, d2] }
  | _ => none }
def shakeSizeRow : OpenClaim := { program := "ytjbcdagkjonlfaa", sum := "f875b9eb909991ce39f6d73dee00c85f31353a979eeda4093e1f7698e57aec25", func := "hagioscope/hagioscopelaw08.ShakeSize", spec := "shakeSize", apart := false }
def ShakeSizeSaid : Prop := shakeSizeRow.holds Try.pinned (OpenSpec.ofChange shakeSizeSpec)

/-- ITS FALSE NEIGHBOUR: 'it returns false'. Refute it at one input. -/
def shakeSizeWrong : ChangeSpec := { name := "shakeSize", fn := fun _ => fun
  | [d1, d2] => { results := [.lit (.bool false)], args := [d1, d2] }
  | _ => none }
def ShakeSizeWrongFalsely : Prop := shakeSizeRow.holds Try.pinned (OpenSpec.ofChange shakeSizeWrong)

/- THE SECOND FORM. 'bulk': how many values and letters a reading holds, each counted each time it is reached (what is shared counts as often as it is met; a slice's spare places count too). A statement '..UptoSaid' is the law's where the arguments, and the package variables that the reading takes, are together of bulk at most 1048576: NARROWER than '..Said'. Prove '..Said' where nothing that the law and all that it calls make is longer than what came in: it says more and counts as full. Else prove '..UptoSaid'. A law counts once. -/
mutual
def uptoBulk {H : Type} : DataW H → Nat
  | .lit (.string bytes) => bytes.length + 1
  | .lit _ => 1
  | .nil => 1
  | .ptr d => uptoBulk d + 1
  | .slice elems spare => uptoBulkAll elems + uptoBulkAll spare + 1
  | .agg parts => uptoBulkAll parts + 1
  | .iface _ d => uptoBulk d + 1
  | .map entries => uptoBulkEntries entries + 1
  | .held _ => 1
def uptoBulkAll {H : Type} : List (DataW H) → Nat
  | [] => 0
  | d :: r => uptoBulk d + uptoBulkAll r
def uptoBulkEntries {H : Type} : List (Lit × DataW H) → Nat
  | [] => 0
  | x :: r => uptoBulkEntry x + uptoBulkEntries r
def uptoBulkEntry {H : Type} : Lit × DataW H → Nat
  | (.string bytes, d) => bytes.length + uptoBulk d + 1
  | (_, d) => uptoBulk d + 1
 end
def uptoSmall : (H : Type) → List (DataW H) → Bool := fun _ ds => decide (uptoBulkAll ds ≤ 1048576)
def OpenSpec.upto (s : _root_.Go.ChangeSpec) : _root_.Go.OpenSpec := { _root_.Go.OpenSpec.ofChange s with cond := some uptoSmall }

/-- 'hagioscopelaw08.ShakeTakes', WHERE WHAT IT READS IS OF BULK AT MOST 1048576: true; the input reads as it did. -/
def shakeTakesUptoRow : OpenClaim := { program := "ytjbcdagkjonlfaa", sum := "f875b9eb909991ce39f6d73dee00c85f31353a979eeda4093e1f7698e57aec25", func := "hagioscope/hagioscopelaw08.ShakeTakes", spec := "shakeTakes", apart := false, narrowed := true }
def ShakeTakesUptoSaid : Prop := shakeTakesUptoRow.holds Try.pinned (OpenSpec.upto shakeTakesSpec)

/-- 'hagioscopelaw08.ShakeWraps', WHERE WHAT IT READS IS OF BULK AT MOST 1048576: true; the input reads as it did. -/
def shakeWrapsUptoRow : OpenClaim := { program := "ytjbcdagkjonlfaa", sum := "f875b9eb909991ce39f6d73dee00c85f31353a979eeda4093e1f7698e57aec25", func := "hagioscope/hagioscopelaw08.ShakeWraps", spec := "shakeWraps", apart := false, narrowed := true }
def ShakeWrapsUptoSaid : Prop := shakeWrapsUptoRow.holds Try.pinned (OpenSpec.upto shakeWrapsSpec)

/-- 'hagioscopelaw08.ShakeBack', WHERE WHAT IT READS IS OF BULK AT MOST 1048576: true; the input reads as it did. -/
def shakeBackUptoRow : OpenClaim := { program := "ytjbcdagkjonlfaa", sum := "f875b9eb909991ce39f6d73dee00c85f31353a979eeda4093e1f7698e57aec25", func := "hagioscope/hagioscopelaw08.ShakeBack", spec := "shakeBack", apart := false, narrowed := true }
def ShakeBackUptoSaid : Prop := shakeBackUptoRow.holds Try.pinned (OpenSpec.upto shakeBackSpec)

/-- 'hagioscopelaw08.ShakeWants', WHERE WHAT IT READS IS OF BULK AT MOST 1048576: true; the input reads as it did. -/
def shakeWantsUptoRow : OpenClaim := { program := "ytjbcdagkjonlfaa", sum := "f875b9eb909991ce39f6d73dee00c85f31353a979eeda4093e1f7698e57aec25", func := "hagioscope/hagioscopelaw08.ShakeWants", spec := "shakeWants", apart := false, narrowed := true }
def ShakeWantsUptoSaid : Prop := shakeWantsUptoRow.holds Try.pinned (OpenSpec.upto shakeWantsSpec)

/-- 'hagioscopelaw08.ShakeWrong', WHERE WHAT IT READS IS OF BULK AT MOST 1048576: true; the input reads as it did. -/
def shakeWrongUptoRow : OpenClaim := { program := "ytjbcdagkjonlfaa", sum := "f875b9eb909991ce39f6d73dee00c85f31353a979eeda4093e1f7698e57aec25", func := "hagioscope/hagioscopelaw08.ShakeWrong", spec := "shakeWrong", apart := false, narrowed := true }
def ShakeWrongUptoSaid : Prop := shakeWrongUptoRow.holds Try.pinned (OpenSpec.upto shakeWrongSpec)

/-- 'hagioscopelaw08.ShakeSize', WHERE WHAT IT READS IS OF BULK AT MOST 1048576: true; the input reads as it did. -/
def shakeSizeUptoRow : OpenClaim := { program := "ytjbcdagkjonlfaa", sum := "f875b9eb909991ce39f6d73dee00c85f31353a979eeda4093e1f7698e57aec25", func := "hagioscope/hagioscopelaw08.ShakeSize", spec := "shakeSize", apart := false, narrowed := true }
def ShakeSizeUptoSaid : Prop := shakeSizeUptoRow.holds Try.pinned (OpenSpec.upto shakeSizeSpec)

end Rows
end Go.Proofs.Ytjbcdagkjonlfaa
