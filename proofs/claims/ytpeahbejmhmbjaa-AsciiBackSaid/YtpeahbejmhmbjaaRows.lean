/-
  No cell of these rows narrows 'for every input' (looked for: loops, veiled, ifaces, maps, wideKeys, modest, calm, conditions, laid).
  DERIVED. THE GIVEN ROWS OF THIS SEAT. 6 by the template 'for every input the law returns true; each argument reads behind the call as it read before'; 0 by the template 'total and deterministic' (their statements: YtpeahbejmhmbjaaTotals.lean).
  GIVEN WITH THE SEED: the statements are not yours to turn. If you find one false, say at which input.
  Laid BY PROGRAM, IN A SANDBOX (cutbox-rows.mjs): the forced cells as the released guide's own fill.sh prints them over the translation 470aa5736f52e22d… (all of the seat's roots in one cut). By AI agents, Wed Nov 11 2026. No macro, syntax, notation, axiom, sorry.
-/
import Derived.Test.YtpeahbejmhmbjaaChecked
import GoSem.Claim
import GoSem.ClaimJoined
import GoSem.ClaimMapViews
import Derived.JoinedTies
import Derived.KernelRfl
namespace Go.Proofs.Ytpeahbejmhmbjaa
/- THE CELL 'sum', in the pinned program and in every row, IS THE sha256 OF THE DUMP (.gsa) THAT YtpeahbejmhmbjaaProg.lean LOADS. Nothing in Lean hashes anything: it is a label: what it is worth is what the hold of that sum in a sandbox is worth. -/
noncomputable def Try.pinned : Pinned := { name := "ytpeahbejmhmbjaa", sum := "470aa5736f52e22d65d145bd5d43ae0b8ff3051c9032fef7664d0233ed61c0a0", checked := Try.checked }
namespace Rows
def none {H : Type} : Left H := { results := [], args := [] }

/-- 'hagioscopelaw02.AsciiTells': WHATEVER THE INPUT: true; the input reads as it did. -/
def asciiTellsSpec : ChangeSpec := { name := "asciiTells", fn := fun _ => fun
  | [d1, d2] => { results := [.lit (.bool true)], args := [d1, d2] }
  | _ => none }
def asciiTellsRow : OpenClaim := { program := "ytpeahbejmhmbjaa", sum := "470aa5736f52e22d65d145bd5d43ae0b8ff3051c9032fef7664d0233ed61c0a0", func := "hagioscope/hagioscopelaw02.AsciiTells", spec := "asciiTells", unfollowed := true, recurses := true, apart := false }
def AsciiTellsSaid : Prop := asciiTellsRow.holds Try.pinned (OpenSpec.ofChange asciiTellsSpec)

/-- ITS FALSE NEIGHBOUR: 'it returns false'. Refute it at one input. -/
def asciiTellsWrong : ChangeSpec := { name := "asciiTells", fn := fun _ => fun
  | [d1, d2] => { results := [.lit (.bool false)], args := [d1, d2] }
  | _ => none }
def AsciiTellsWrongFalsely : Prop := asciiTellsRow.holds Try.pinned (OpenSpec.ofChange asciiTellsWrong)

/-- 'hagioscopelaw02.AsciiNumbers': WHATEVER THE INPUT: true; the input reads as it did. -/
def asciiNumbersSpec : ChangeSpec := { name := "asciiNumbers", fn := fun _ => fun
  | [d1, d2] => { results := [.lit (.bool true)], args := [d1, d2] }
  | _ => none }
def asciiNumbersRow : OpenClaim := { program := "ytpeahbejmhmbjaa", sum := "470aa5736f52e22d65d145bd5d43ae0b8ff3051c9032fef7664d0233ed61c0a0", func := "hagioscope/hagioscopelaw02.AsciiNumbers", spec := "asciiNumbers", unfollowed := true, recurses := true, apart := false }
def AsciiNumbersSaid : Prop := asciiNumbersRow.holds Try.pinned (OpenSpec.ofChange asciiNumbersSpec)

/-- ITS FALSE NEIGHBOUR: 'it returns false'. Refute it at one input. -/
def asciiNumbersWrong : ChangeSpec := { name := "asciiNumbers", fn := fun _ => fun
  | [d1, d2] => { results := [.lit (.bool false)], args := [d1, d2] }
  | _ => none }
def AsciiNumbersWrongFalsely : Prop := asciiNumbersRow.holds Try.pinned (OpenSpec.ofChange asciiNumbersWrong)

/-- 'hagioscopelaw02.AsciiBack': WHATEVER THE INPUT: true; the input reads as it did. -/
def asciiBackSpec : ChangeSpec := { name := "asciiBack", fn := fun _ => fun
  | [d1, d2] => { results := [.lit (.bool true)], args := [d1, d2] }
  | _ => none }
def asciiBackRow : OpenClaim := { program := "ytpeahbejmhmbjaa", sum := "470aa5736f52e22d65d145bd5d43ae0b8ff3051c9032fef7664d0233ed61c0a0", func := "hagioscope/hagioscopelaw02.AsciiBack", spec := "asciiBack", unfollowed := true, recurses := true, apart := false }
def AsciiBackSaid : Prop := asciiBackRow.holds Try.pinned (OpenSpec.ofChange asciiBackSpec)

/-- ITS FALSE NEIGHBOUR: 'it returns false'. Refute it at one input. -/
def asciiBackWrong : ChangeSpec := { name := "asciiBack", fn := fun _ => fun
  | [d1, d2] => { results := [.lit (.bool false)], args := [d1, d2] }
  | _ => none }
def AsciiBackWrongFalsely : Prop := asciiBackRow.holds Try.pinned (OpenSpec.ofChange asciiBackWrong)

/-- 'hagioscopelaw02.AsciiTokens': WHATEVER THE INPUT: true; the input reads as it did. -/
def asciiTokensSpec : ChangeSpec := { name := "asciiTokens", fn := fun _ => fun
  | [d1, d2] => { results := [.lit (.bool true)], args := [d1, d2] }
  | _ => none }
def asciiTokensRow : OpenClaim := { program := "ytpeahbejmhmbjaa", sum := "470aa5736f52e22d65d145bd5d43ae0b8ff3051c9032fef7664d0233ed61c0a0", func := "hagioscope/hagioscopelaw02.AsciiTokens", spec := "asciiTokens", unfollowed := true, recurses := true, apart := false }
def AsciiTokensSaid : Prop := asciiTokensRow.holds Try.pinned (OpenSpec.ofChange asciiTokensSpec)

/-- ITS FALSE NEIGHBOUR: 'it returns false'. Refute it at one input. -/
def asciiTokensWrong : ChangeSpec := { name := "asciiTokens", fn := fun _ => fun
  | [d1, d2] => { results := [.lit (.bool false)], args := [d1, d2] }
  | _ => none }
def AsciiTokensWrongFalsely : Prop := asciiTokensRow.holds Try.pinned (OpenSpec.ofChange asciiTokensWrong)

/-- 'hagioscopelaw02.AsciiTrims': WHATEVER THE INPUT: true; the input reads as it did. -/
def asciiTrimsSpec : ChangeSpec := { name := "asciiTrims", fn := fun _ => fun
  | [d1, d2, d3] => { results := [.lit (.bool true)], args := [d1, d2, d3] }
  | _ => none }
def asciiTrimsRow : OpenClaim := { program := "ytpeahbejmhmbjaa", sum := "470aa5736f52e22d65d145bd5d43ae0b8ff3051c9032fef7664d0233ed61c0a0", func := "hagioscope/hagioscopelaw02.AsciiTrims", spec := "asciiTrims", unfollowed := true, recurses := true, apart := false }
def AsciiTrimsSaid : Prop := asciiTrimsRow.holds Try.pinned (OpenSpec.ofChange asciiTrimsSpec)

/-- ITS FALSE NEIGHBOUR: 'it returns false'. Refute it at one input. -/
def asciiTrimsWrong : ChangeSpec := { name := "asciiTrims", fn := fun _ => fun
  | [d1, d2, d3] => { results := [.lit (.bool false)], args := [d1, d2, d3] }
  | _ => none }
def AsciiTrimsWrongFalsely : Prop := asciiTrimsRow.holds Try.pinned (OpenSpec.ofChange asciiTrimsWrong)

/-- 'hagioscopelaw02.AsciiHex': WHATEVER THE INPUT: true; the input reads as it did. -/
def asciiHexSpec : ChangeSpec := { name := "asciiHex", fn := fun _ => fun
  | [d1, d2] => { results := [.lit (.bool true)], args := [d1, d2] }
  | _ => none }
def asciiHexRow : OpenClaim := { program := "ytpeahbejmhmbjaa", sum := "470aa5736f52e22d65d145bd5d43ae0b8ff3051c9032fef7664d0233ed61c0a0", func := "hagioscope/hagioscopelaw02.AsciiHex", spec := "asciiHex", unfollowed := true, recurses := true, apart := false }
def AsciiHexSaid : Prop := asciiHexRow.holds Try.pinned (OpenSpec.ofChange asciiHexSpec)

/-- ITS FALSE NEIGHBOUR: 'it returns false'. Refute it at one input. -/
def asciiHexWrong : ChangeSpec := { name := "asciiHex", fn := fun _ => fun
  | [d1, d2] => { results := [.lit (.bool false)], args := [d1, d2] }
  | _ => none }
def AsciiHexWrongFalsely : Prop := asciiHexRow.holds Try.pinned (OpenSpec.ofChange asciiHexWrong)

/- THE SECOND FORM. 'bulk': how many values and letters a reading holds, each counted each time it is reached (what is shared counts as often as it is met; a slice's spare places count too). A statement '..UptoSaid' is the law's where the arguments, and the package variables that the reading takes, are together of bulk at most 1048576: NARROWER than '..Said'. Prove '..Said' where nothing that the law and all that it calls make is longer than what came in: it says more and counts as full. Else prove '..UptoSaid'. A law counts once. -/
mutual
def uptoBulk {H : Type} : DataW H → Nat
  | .lit (.string bytes) => bytes.length + 1
  | .lit _ => 1
  | .nil => 1
  | .ptr d => uptoBulk d + 1
  | .slice elems spare => uptoBulkAll elems + uptoBulkAll spare + 1
  | .agg parts => uptoBulkAll parts + 1
  | .iface _ d => uptoBulk d + 1
  | .map entries => uptoBulkEntries entries + 1
  | .held _ => 1
def uptoBulkAll {H : Type} : List (DataW H) → Nat
  | [] => 0
  | d :: r => uptoBulk d + uptoBulkAll r
def uptoBulkEntries {H : Type} : List (Lit × DataW H) → Nat
  | [] => 0
  | x :: r => uptoBulkEntry x + uptoBulkEntries r
def uptoBulkEntry {H : Type} : Lit × DataW H → Nat
  | (.string bytes, d) => bytes.length + uptoBulk d + 1
  | (_, d) => uptoBulk d + 1
 end
def uptoSmall : (H : Type) → List (DataW H) → Bool := fun _ ds => decide (uptoBulkAll ds ≤ 1048576)
def OpenSpec.upto (s : _root_.Go.ChangeSpec) : _root_.Go.OpenSpec := { _root_.Go.OpenSpec.ofChange s with cond := some uptoSmall }

/-- 'hagioscopelaw02.AsciiTells', WHERE WHAT IT READS IS OF BULK AT MOST 1048576: true; the input reads as it did. -/
def asciiTellsUptoRow : OpenClaim := { program := "ytpeahbejmhmbjaa", sum := "470aa5736f52e22d65d145bd5d43ae0b8ff3051c9032fef7664d0233ed61c0a0", func := "hagioscope/hagioscopelaw02.AsciiTells", spec := "asciiTells", unfollowed := true, recurses := true, apart := false, narrowed := true }
def AsciiTellsUptoSaid : Prop := asciiTellsUptoRow.holds Try.pinned (OpenSpec.upto asciiTellsSpec)

/-- 'hagioscopelaw02.AsciiNumbers', WHERE WHAT IT READS IS OF BULK AT MOST 1048576: true; the input reads as it did. -/
def asciiNumbersUptoRow : OpenClaim := { program := "ytpeahbejmhmbjaa", sum := "470aa5736f52e22d65d145bd5d43ae0b8ff3051c9032fef7664d0233ed61c0a0", func := "hagioscope/hagioscopelaw02.AsciiNumbers", spec := "asciiNumbers", unfollowed := true, recurses := true, apart := false, narrowed := true }
def AsciiNumbersUptoSaid : Prop := asciiNumbersUptoRow.holds Try.pinned (OpenSpec.upto asciiNumbersSpec)

/-- 'hagioscopelaw02.AsciiBack', WHERE WHAT IT READS IS OF BULK AT MOST 1048576: true; the input reads as it did. -/
def asciiBackUptoRow : OpenClaim := { program := "ytpeahbejmhmbjaa", sum := "470aa5736f52e22d65d145bd5d43ae0b8ff3051c9032fef7664d0233ed61c0a0", func := "hagioscope/hagioscopelaw02.AsciiBack", spec := "asciiBack", unfollowed := true, recurses := true, apart := false, narrowed := true }
def AsciiBackUptoSaid : Prop := asciiBackUptoRow.holds Try.pinned (OpenSpec.upto asciiBackSpec)

/-- 'hagioscopelaw02.AsciiTokens', WHERE WHAT IT READS IS OF BULK AT MOST 1048576: true; the input reads as it did. -/
def asciiTokensUptoRow : OpenClaim := { program := "ytpeahbejmhmbjaa", sum := "470aa5736f52e22d65d145bd5d43ae0b8ff3051c9032fef7664d0233ed61c0a0", func := "hagioscope/hagioscopelaw02.AsciiTokens", spec := "asciiTokens", unfollowed := true, recurses := true, apart := false, narrowed := true }
def AsciiTokensUptoSaid : Prop := asciiTokensUptoRow.holds Try.pinned (OpenSpec.upto asciiTokensSpec)

/-- 'hagioscopelaw02.AsciiTrims', WHERE WHAT IT READS IS OF BULK AT MOST 1048576: true; the input reads as it did. -/
def asciiTrimsUptoRow : OpenClaim := { program := "ytpeahbejmhmbjaa", sum := "470aa5736f52e22d65d145bd5d43ae0b8ff3051c9032fef7664d0233ed61c0a0", func := "hagioscope/hagioscopelaw02.AsciiTrims", spec := "asciiTrims", unfollowed := true, recurses := true, apart := false, narrowed := true }
def AsciiTrimsUptoSaid : Prop := asciiTrimsUptoRow.holds Try.pinned (OpenSpec.upto asciiTrimsSpec)

/-- 'hagioscopelaw02.AsciiHex', WHERE WHAT IT READS IS OF BULK AT MOST 1048576: true; the input reads as it did. -/
def asciiHexUptoRow : OpenClaim := { program := "ytpeahbejmhmbjaa", sum := "470aa5736f52e22d65d145bd5d43ae0b8ff3051c9032fef7664d0233ed61c0a0", func := "hagioscope/hagioscopelaw02.AsciiHex", spec := "asciiHex", unfollowed := true, recurses := true, apart := false, narrowed := true }
def AsciiHexUptoSaid : Prop := asciiHexUptoRow.holds Try.pinned (OpenSpec.upto asciiHexSpec)

end Rows
end Go.Proofs.Ytpeahbejmhmbjaa
