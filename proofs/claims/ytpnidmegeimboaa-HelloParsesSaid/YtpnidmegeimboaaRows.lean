/-
  No cell of these rows narrows 'for every input' (looked for: loops, veiled, ifaces, maps, wideKeys, modest, calm, conditions, laid).
  DERIVED. THE GIVEN ROWS OF THIS SEAT. 6 by the template 'for every input the law returns true; each argument reads behind the call as it read before'; 0 by the template 'total and deterministic' (their statements: YtpnidmegeimboaaTotals.lean).
  GIVEN WITH THE SEED: the statements are not yours to turn. If you find one false, say at which input.
  Laid BY PROGRAM, IN A SANDBOX (cutbox-rows.mjs): the forced cells as the released guide's own fill.sh prints them over the translation af28277c20a107d8… (all of the seat's roots in one cut). By AI agents, Wed Nov 11 2026. No macro, syntax, notation, axiom, sorry.
-/
import Derived.Test.YtpnidmegeimboaaChecked
import GoSem.Claim
import GoSem.ClaimJoined
import GoSem.ClaimMapViews
import Derived.JoinedTies
import Derived.KernelRfl
namespace Go.Proofs.Ytpnidmegeimboaa
/- THE CELL 'sum', in the pinned program and in every row, IS THE sha256 OF THE DUMP (.gsa) THAT YtpnidmegeimboaaProg.lean LOADS. Nothing in Lean hashes anything: it is a label: what it is worth is what the hold of that sum in a sandbox is worth. -/
noncomputable def Try.pinned : Pinned := { name := "ytpnidmegeimboaa", sum := "af28277c20a107d8c7a2c298d016cc84c08fa89f8d69bade8d92aeaa824f4991", checked := Try.checked }
namespace Rows
def none {H : Type} : Left H := { results := [], args := [] }

/-- 'hagioscopelaw09.HelloParses': WHATEVER THE INPUT: true; the input reads as it did. -/
def helloParsesSpec : ChangeSpec := { name := "helloParses", fn := fun _ => fun
  | [d] => { results := [.lit (.bool true)], args := [d] }
  | _ => none }
def helloParsesRow : OpenClaim := { program := "ytpnidmegeimboaa", sum := "af28277c20a107d8c7a2c298d016cc84c08fa89f8d69bade8d92aeaa824f4991", func := "hagioscope/hagioscopelaw09.HelloParses", spec := "helloParses", inPlace := ["internal/bytealg.IndexByte"], apart := false }
def HelloParsesSaid : Prop := helloParsesRow.holds Try.pinned (OpenSpec.ofChange helloParsesSpec)

/-- ITS FALSE NEIGHBOUR: 'it returns false'. Refute it at one input. -/
def helloParsesWrong : ChangeSpec := { name := "helloParses", fn := fun _ => fun
  | [d] => { results := [.lit (.bool false)], args := [d] }
  | _ => none }
def HelloParsesWrongFalsely : Prop := helloParsesRow.holds Try.pinned (OpenSpec.ofChange helloParsesWrong)

/-- 'hagioscopelaw09.HelloPrints': WHATEVER THE INPUT: true; the input reads as it did. -/
def helloPrintsSpec : ChangeSpec := { name := "helloPrints", fn := fun _ => fun
  | [d1, d2] => { results := [.lit (.bool true)], args := [d1, d2] }
  | _ => none }
def helloPrintsRow : OpenClaim := { program := "ytpnidmegeimboaa", sum := "af28277c20a107d8c7a2c298d016cc84c08fa89f8d69bade8d92aeaa824f4991", func := "hagioscope/hagioscopelaw09.HelloPrints", spec := "helloPrints", inPlace := ["internal/bytealg.IndexByte"], apart := false }
def HelloPrintsSaid : Prop := helloPrintsRow.holds Try.pinned (OpenSpec.ofChange helloPrintsSpec)

/-- ITS FALSE NEIGHBOUR: 'it returns false'. Refute it at one input. -/
def helloPrintsWrong : ChangeSpec := { name := "helloPrints", fn := fun _ => fun
  | [d1, d2] => { results := [.lit (.bool false)], args := [d1, d2] }
  | _ => none }
def HelloPrintsWrongFalsely : Prop := helloPrintsRow.holds Try.pinned (OpenSpec.ofChange helloPrintsWrong)

/-- 'hagioscopelaw09.HelloBack': WHATEVER THE INPUT: true; the input reads as it did. -/
def helloBackSpec : ChangeSpec := { name := "helloBack", fn := fun _ => fun
  | [d1, d2] => { results := [.lit (.bool true)], args := [d1, d2] }
  | _ => none }
def helloBackRow : OpenClaim := { program := "ytpnidmegeimboaa", sum := "af28277c20a107d8c7a2c298d016cc84c08fa89f8d69bade8d92aeaa824f4991", func := "hagioscope/hagioscopelaw09.HelloBack", spec := "helloBack", inPlace := ["internal/bytealg.IndexByte"], apart := false }
def HelloBackSaid : Prop := helloBackRow.holds Try.pinned (OpenSpec.ofChange helloBackSpec)

/-- ITS FALSE NEIGHBOUR: 'it returns false'. Refute it at one input. -/
def helloBackWrong : ChangeSpec := { name := "helloBack", fn := fun _ => fun
  | [d1, d2] => { results := [.lit (.bool false)], args := [d1, d2] }
  | _ => none }
def HelloBackWrongFalsely : Prop := helloBackRow.holds Try.pinned (OpenSpec.ofChange helloBackWrong)

/-- 'hagioscopelaw09.HelloCut': WHATEVER THE INPUT: true; the input reads as it did. -/
def helloCutSpec : ChangeSpec := { name := "helloCut", fn := fun _ => fun
  | [d1, d2, d3] => { results := [.lit (.bool true)], args := [d1, d2, d3] }
  | _ => none }
def helloCutRow : OpenClaim := { program := "ytpnidmegeimboaa", sum := "af28277c20a107d8c7a2c298d016cc84c08fa89f8d69bade8d92aeaa824f4991", func := "hagioscope/hagioscopelaw09.HelloCut", spec := "helloCut", inPlace := ["internal/bytealg.IndexByte"], apart := false }
def HelloCutSaid : Prop := helloCutRow.holds Try.pinned (OpenSpec.ofChange helloCutSpec)

/-- ITS FALSE NEIGHBOUR: 'it returns false'. Refute it at one input. -/
def helloCutWrong : ChangeSpec := { name := "helloCut", fn := fun _ => fun
  | [d1, d2, d3] => { results := [.lit (.bool false)], args := [d1, d2, d3] }
  | _ => none }
def HelloCutWrongFalsely : Prop := helloCutRow.holds Try.pinned (OpenSpec.ofChange helloCutWrong)

/-- 'hagioscopelaw09.HelloKinds': WHATEVER THE INPUT: true; the input reads as it did. -/
def helloKindsSpec : ChangeSpec := { name := "helloKinds", fn := fun _ => fun
  | [d1, d2] => { results := [.lit (.bool true)], args := [d1, d2] }
  | _ => none }
def helloKindsRow : OpenClaim := { program := "ytpnidmegeimboaa", sum := "af28277c20a107d8c7a2c298d016cc84c08fa89f8d69bade8d92aeaa824f4991", func := "hagioscope/hagioscopelaw09.HelloKinds", spec := "helloKinds", inPlace := ["internal/bytealg.IndexByte"], apart := false }
def HelloKindsSaid : Prop := helloKindsRow.holds Try.pinned (OpenSpec.ofChange helloKindsSpec)

/-- ITS FALSE NEIGHBOUR: 'it returns false'. Refute it at one input. -/
def helloKindsWrong : ChangeSpec := { name := "helloKinds", fn := fun _ => fun
  | [d1, d2] => { results := [.lit (.bool false)], args := [d1, d2] }
  | _ => none }
def HelloKindsWrongFalsely : Prop := helloKindsRow.holds Try.pinned (OpenSpec.ofChange helloKindsWrong)

/-- 'hagioscopelaw09.HelloBare': WHATEVER THE INPUT: true; the input reads as it did. -/
def helloBareSpec : ChangeSpec := { name := "helloBare", fn := fun _ => fun
  | [d] => { results := [.lit (.bool true)], args := [d] }
  | _ => none }
def helloBareRow : OpenClaim := { program := "ytpnidmegeimboaa", sum := "af28277c20a107d8c7a2c298d016cc84c08fa89f8d69bade8d92aeaa824f4991", func := "hagioscope/hagioscopelaw09.HelloBare", spec := "helloBare", inPlace := ["internal/bytealg.IndexByte"], apart := false }
def HelloBareSaid : Prop := helloBareRow.holds Try.pinned (OpenSpec.ofChange helloBareSpec)

/-- ITS FALSE NEIGHBOUR: 'it returns false'. Refute it at one input. -/
def helloBareWrong : ChangeSpec := { name := "helloBare", fn := fun _ => fun
  | [d] => { results := [.lit (.bool false)], args := [d] }
  | _ => none }
def HelloBareWrongFalsely : Prop := helloBareRow.holds Try.pinned (OpenSpec.ofChange helloBareWrong)

/- THE SECOND FORM. 'bulk': how many values and letters a reading holds, each counted each time it is reached (what is shared counts as often as it is met; a slice's spare places count too). A statement '..UptoSaid' is the law's where the arguments, and the package variables that the reading takes, are together of bulk at most 1048576: NARROWER than '..Said'. Prove '..Said' where nothing that the law and all that it calls make is longer than what came in: it says more and counts as full. Else prove '..UptoSaid'. A law counts once. -/
mutual
def uptoBulk {H : Type} : DataW H → Nat
  | .lit (.string bytes) => bytes.length + 1
  | .lit _ => 1
  | .nil => 1
  | .ptr d => uptoBulk d + 1
  | .slice elems spare => uptoBulkAll elems + uptoBulkAll spare + 1
  | .agg parts => uptoBulkAll parts + 1
  | .iface _ d => uptoBulk d + 1
  | .map entries => uptoBulkEntries entries + 1
  | .held _ => 1
def uptoBulkAll {H : Type} : List (DataW H) → Nat
  | [] => 0
  | d :: r => uptoBulk d + uptoBulkAll r
def uptoBulkEntries {H : Type} : List (Lit × DataW H) → Nat
  | [] => 0
  | x :: r => uptoBulkEntry x + uptoBulkEntries r
def uptoBulkEntry {H : Type} : Lit × DataW H → Nat
  | (.string bytes, d) => bytes.length + uptoBulk d + 1
  | (_, d) => uptoBulk d + 1
 end
def uptoSmall : (H : Type) → List (DataW H) → Bool := fun _ ds => decide (uptoBulkAll ds ≤ 1048576)
def OpenSpec.upto (s : _root_.Go.ChangeSpec) : _root_.Go.OpenSpec := { _root_.Go.OpenSpec.ofChange s with cond := some uptoSmall }

/-- 'hagioscopelaw09.HelloParses', WHERE WHAT IT READS IS OF BULK AT MOST 1048576: true; the input reads as it did. -/
def helloParsesUptoRow : OpenClaim := { program := "ytpnidmegeimboaa", sum := "af28277c20a107d8c7a2c298d016cc84c08fa89f8d69bade8d92aeaa824f4991", func := "hagioscope/hagioscopelaw09.HelloParses", spec := "helloParses", inPlace := ["internal/bytealg.IndexByte"], apart := false, narrowed := true }
def HelloParsesUptoSaid : Prop := helloParsesUptoRow.holds Try.pinned (OpenSpec.upto helloParsesSpec)

/-- 'hagioscopelaw09.HelloPrints', WHERE WHAT IT READS IS OF BULK AT MOST 1048576: true; the input reads as it did. -/
def helloPrintsUptoRow : OpenClaim := { program := "ytpnidmegeimboaa", sum := "af28277c20a107d8c7a2c298d016cc84c08fa89f8d69bade8d92aeaa824f4991", func := "hagioscope/hagioscopelaw09.HelloPrints", spec := "helloPrints", inPlace := ["internal/bytealg.IndexByte"], apart := false, narrowed := true }
def HelloPrintsUptoSaid : Prop := helloPrintsUptoRow.holds Try.pinned (OpenSpec.upto helloPrintsSpec)

/-- 'hagioscopelaw09.HelloBack', WHERE WHAT IT READS IS OF BULK AT MOST 1048576: true; the input reads as it did. -/
def helloBackUptoRow : OpenClaim := { program := "ytpnidmegeimboaa", sum := "af28277c20a107d8c7a2c298d016cc84c08fa89f8d69bade8d92aeaa824f4991", func := "hagioscope/hagioscopelaw09.HelloBack", spec := "helloBack", inPlace := ["internal/bytealg.IndexByte"], apart := false, narrowed := true }
def HelloBackUptoSaid : Prop := helloBackUptoRow.holds Try.pinned (OpenSpec.upto helloBackSpec)

/-- 'hagioscopelaw09.HelloCut', WHERE WHAT IT READS IS OF BULK AT MOST 1048576: true; the input reads as it did. -/
def helloCutUptoRow : OpenClaim := { program := "ytpnidmegeimboaa", sum := "af28277c20a107d8c7a2c298d016cc84c08fa89f8d69bade8d92aeaa824f4991", func := "hagioscope/hagioscopelaw09.HelloCut", spec := "helloCut", inPlace := ["internal/bytealg.IndexByte"], apart := false, narrowed := true }
def HelloCutUptoSaid : Prop := helloCutUptoRow.holds Try.pinned (OpenSpec.upto helloCutSpec)

/-- 'hagioscopelaw09.HelloKinds', WHERE WHAT IT READS IS OF BULK AT MOST 1048576: true; the input reads as it did. -/
def helloKindsUptoRow : OpenClaim := { program := "ytpnidmegeimboaa", sum := "af28277c20a107d8c7a2c298d016cc84c08fa89f8d69bade8d92aeaa824f4991", func := "hagioscope/hagioscopelaw09.HelloKinds", spec := "helloKinds", inPlace := ["internal/bytealg.IndexByte"], apart := false, narrowed := true }
def HelloKindsUptoSaid : Prop := helloKindsUptoRow.holds Try.pinned (OpenSpec.upto helloKindsSpec)

/-- 'hagioscopelaw09.HelloBare', WHERE WHAT IT READS IS OF BULK AT MOST 1048576: true; the input reads as it did. -/
def helloBareUptoRow : OpenClaim := { program := "ytpnidmegeimboaa", sum := "af28277c20a107d8c7a2c298d016cc84c08fa89f8d69bade8d92aeaa824f4991", func := "hagioscope/hagioscopelaw09.HelloBare", spec := "helloBare", inPlace := ["internal/bytealg.IndexByte"], apart := false, narrowed := true }
def HelloBareUptoSaid : Prop := helloBareUptoRow.holds Try.pinned (OpenSpec.upto helloBareSpec)

end Rows
end Go.Proofs.Ytpnidmegeimboaa
