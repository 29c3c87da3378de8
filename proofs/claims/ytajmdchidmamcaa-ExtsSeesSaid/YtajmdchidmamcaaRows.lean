/-
  No cell of these rows narrows 'for every input' (looked for: loops, veiled, ifaces, maps, wideKeys, modest, calm, conditions, laid).
  DERIVED. THE GIVEN ROWS OF THIS SEAT. 6 by the template 'for every input the law returns true; each argument reads behind the call as it read before'; 0 by the template 'total and deterministic' (their statements: YtajmdchidmamcaaTotals.lean).
  GIVEN WITH THE SEED: the statements are not yours to turn. If you find one false, say at which input.
  Laid BY PROGRAM, IN A SANDBOX (cutbox-rows.mjs): the forced cells as the released guide's own fill.sh prints them over the translation 801be68687eacfa8… (all of the seat's roots in one cut). By AI agents, Wed Nov 11 2026. No macro, syntax, notation, axiom, sorry.
-/
import Derived.Test.YtajmdchidmamcaaChecked
import GoSem.Claim
import GoSem.ClaimJoined
import GoSem.ClaimMapViews
import Derived.JoinedTies
import Derived.KernelRfl
namespace Go.Proofs.Ytajmdchidmamcaa
/- THE CELL 'sum', in the pinned program and in every row, IS THE sha256 OF THE DUMP (.gsa) THAT YtajmdchidmamcaaProg.lean LOADS. Nothing in Lean hashes anything: it is a label: what it is worth is what the hold of that sum in a sandbox is worth. -/
noncomputable def Try.pinned : Pinned := { name := "ytajmdchidmamcaa", sum := "801be68687eacfa87e976ec5e2587d68b958ed1515536211822a827f3fb8c614", checked := Try.checked }
namespace Rows
def none {H : Type} : Left H := { results := [], args := [] }

/-- 'hagioscopelaw10.ExtsReads': WHATEVER THE INPUT: true; the input reads as it did. -/
def extsReadsSpec : ChangeSpec := { name := "extsReads", fn := fun _ => fun
  | [d] => { results := [.lit (.bool true)], args := [d] }
  | _ => none }
def extsReadsRow : OpenClaim := { program := "ytajmdchidmamcaa", sum := "801be68687eacfa87e976ec5e2587d68b958ed1515536211822a827f3fb8c614", func := "hagioscope/hagioscopelaw10.ExtsReads", spec := "extsReads", unfollowed := true, recurses := true, apart := false }
def ExtsReadsSaid : Prop := extsReadsRow.holds Try.pinned (OpenSpec.ofChange extsReadsSpec)

/-- ITS FALSE NEIGHBOUR: 'it returns false'. Refute it at one input. -/
def extsReadsWrong : ChangeSpec := { name := "extsReads", fn := fun _ => fun
  | [d] => { results := [.lit (.bool false)], args := [d] }
  | _ => none }
def ExtsReadsWrongFalsely : Prop := extsReadsRow.holds Try.pinned (OpenSpec.ofChange extsReadsWrong)

/-- 'hagioscopelaw10.ExtsPuts': WHATEVER THE INPUT: true; the input reads as it did. -/
def extsPutsSpec : ChangeSpec := { name := "extsPuts", fn := fun _ => fun
  | [d1, d2, d3] => { results := [.lit (.bool true)], args := [d1, d2, d3] }
  | _ => none }
def extsPutsRow : OpenClaim := { program := "ytajmdchidmamcaa", sum := "801be68687eacfa87e976ec5e2587d68b958ed1515536211822a827f3fb8c614", func := "hagioscope/hagioscopelaw10.ExtsPuts", spec := "extsPuts", unfollowed := true, recurses := true, apart := false }
def ExtsPutsSaid : Prop := extsPutsRow.holds Try.pinned (OpenSpec.ofChange extsPutsSpec)

/-- ITS FALSE NEIGHBOUR: 'it returns false'. Refute it at one input. -/
def extsPutsWrong : ChangeSpec := { name := "extsPuts", fn := fun _ => fun
  | [d1, d2, d3] => { results := [.lit (.bool false)], args := [d1, d2, d3] }
  | _ => none }
def ExtsPutsWrongFalsely : Prop := extsPutsRow.holds Try.pinned (OpenSpec.ofChange extsPutsWrong)

/-- 'hagioscopelaw10.ExtsSees': WHATEVER THE INPUT: true; the input reads as it did. -/
def extsSeesSpec : ChangeSpec := { name := "extsSees", fn := fun _ => fun
  | [d] => { results := [.lit (.bool true)], args := [d] }
  | _ => none }
def extsSeesRow : OpenClaim := { program := "ytajmdchidmamcaa", sum := "801be68687eacfa87e976ec5e2587d68b958ed1515536211822a827f3fb8c614", func := "hagioscope/hagioscopelaw10.ExtsSees", spec := "extsSees", unfollowed := true, recurses := true, apart := false }
def ExtsSeesSaid : Prop := extsSeesRow.holds Try.pinned (OpenSpec.ofChange extsSeesSpec)

/-- ITS FALSE NEIGHBOUR: 'it returns false'. Refute it at one input. -/
def extsSeesWrong : ChangeSpec := { name := "extsSees", fn := fun _ => fun
  | [d] => { results := [.lit (.bool false)], args := [d] }
  | _ => none }
def ExtsSeesWrongFalsely : Prop := extsSeesRow.holds Try.pinned (OpenSpec.ofChange extsSeesWrong)

/-- 'hagioscopelaw10.ExtsBack': WHATEVER THE INPUT: true; the input reads as it did. -/
def extsBackSpec : ChangeSpec := { name := "extsBack", fn := fun _ => fun
  | [d1, d2, d3] => { results := [.lit (.bool true)], args := [d1, d2, d3] }
  | _ => none }
def extsBackRow : OpenClaim := { program := "ytajmdchidmamcaa", sum := "801be68687eacfa87e976ec5e2587d68b958ed1515536211822a827f3fb8c614", func := "hagioscope/hagioscopelaw10.ExtsBack", spec := "extsBack", unfollowed := true, recurses := true, apart := false }
def ExtsBackSaid : Prop := extsBackRow.holds Try.pinned (OpenSpec.ofChange extsBackSpec)

/-- ITS FALSE NEIGHBOUR: 'it returns false'. Refute it at one input. -/
def extsBackWrong : ChangeSpec := { name := "extsBack", fn := fun _ => fun
  | [d1, d2, d3] => { results := [.lit (.bool false)], args := [d1, d2, d3] }
  | _ => none }
def ExtsBackWrongFalsely : Prop := extsBackRow.holds Try.pinned (OpenSpec.ofChange extsBackWrong)

/-- 'hagioscopelaw10.ExtsMore': WHATEVER THE INPUT: true; the input reads as it did. -/
def extsMoreSpec : ChangeSpec := { name := "extsMore", fn := fun _ => fun
  | [d1, d2, d3, d4] => { results := [.lit (.bool true)], args := [d1, d2, d3, d4] }
  | _ => none }
def extsMoreRow : OpenClaim := { program := "ytajmdchidmamcaa", sum := "801be68687eacfa87e976ec5e2587d68b958ed1515536211822a827f3fb8c614", func := "hagioscope/hagioscopelaw10.ExtsMore", spec := "extsMore", unfollowed := true, recurses := true, apart := false }
def ExtsMoreSaid : Prop := extsMoreRow.holds Try.pinned (OpenSpec.ofChange extsMoreSpec)

/-- ITS FALSE NEIGHBOUR: 'it returns false'. Refute it at one input. -/
def extsMoreWrong : ChangeSpec := { name := "extsMore", fn := fun _ => fun
  | [d1, d2, d3, d4] => { results := [.lit (.bool false)], args := [d1, d2, d3, d4] }
  | _ => none }
def ExtsMoreWrongFalsely : Prop := extsMoreRow.holds Try.pinned (OpenSpec.ofChange extsMoreWrong)

/-- 'hagioscopelaw10.ExtsOthers': WHATEVER THE INPUT: true; the input reads as it did. -/
def extsOthersSpec : ChangeSpec := { name := "extsOthers", fn := fun _ => fun
  | [d1, d2, d3, d4] => { results := [.lit (.bool true)], args := [d1, d2, d3, d4] }
  | _ => none }
def extsOthersRow : OpenClaim := { program := "ytajmdchidmamcaa", sum := "801be68687eacfa87e976ec5e2587d68b958ed1515536211822a827f3fb8c614", func := "hagioscope/hagioscopelaw10.ExtsOthers", spec := "extsOthers", unfollowed := true, recurses := true, apart := false }
def ExtsOthersSaid : Prop := extsOthersRow.holds Try.pinned (OpenSpec.ofChange extsOthersSpec)

/-- ITS FALSE NEIGHBOUR: 'it returns false'. Refute it at one input. -/
def extsOthersWrong : ChangeSpec := { name := "extsOthers", fn := fun _ => fun
  | [d1, d2, d3, d4] => { results := [.lit (.bool false)], args := [d1, d2, d3, d4] }
  | _ => none }
def ExtsOthersWrongFalsely : Prop := extsOthersRow.holds Try.pinned (OpenSpec.ofChange extsOthersWrong)

/- THE SECOND FORM. 'bulk': how many values and letters a reading holds, each counted each time it is reached (what is shared counts as often as it is met; a slice's spare places count too). A statement '..UptoSaid' is the law's where the arguments, and the package variables that the reading takes, are together of bulk at most 1048576: NARROWER than '..Said'. Prove '..Said' where nothing that the law and all that it calls make is longer than what came in: it says more and counts as full. Else prove '..UptoSaid'. A law counts once. -/
mutual
def uptoBulk {H : Type} : DataW H → Nat
  | .lit (.string bytes) => bytes.length + 1
  | .lit _ => 1
  | .nil => 1
  | .ptr d => uptoBulk d + 1
  | .slice elems spare => uptoBulkAll elems + uptoBulkAll spare + 1
  | .agg parts => uptoBulkAll parts + 1
  | .iface _ d => uptoBulk d + 1
  | .map entries => uptoBulkEntries entries + 1
  | .held _ => 1
def uptoBulkAll {H : Type} : List (DataW H) → Nat
  | [] => 0
  | d :: r => uptoBulk d + uptoBulkAll r
def uptoBulkEntries {H : Type} : List (Lit × DataW H) → Nat
  | [] => 0
  | x :: r => uptoBulkEntry x + uptoBulkEntries r
def uptoBulkEntry {H : Type} : Lit × DataW H → Nat
  | (.string bytes, d) => bytes.length + uptoBulk d + 1
  | (_, d) => uptoBulk d + 1
 end
def uptoSmall : (H : Type) → List (DataW H) → Bool := fun _ ds => decide (uptoBulkAll ds ≤ 1048576)
def OpenSpec.upto (s : _root_.Go.ChangeSpec) : _root_.Go.OpenSpec := { _root_.Go.OpenSpec.ofChange s with cond := some uptoSmall }

/-- 'hagioscopelaw10.ExtsReads', WHERE WHAT IT READS IS OF BULK AT MOST 1048576: true; the input reads as it did. -/
def extsReadsUptoRow : OpenClaim := { program := "ytajmdchidmamcaa", sum := "801be68687eacfa87e976ec5e2587d68b958ed1515536211822a827f3fb8c614", func := "hagioscope/hagioscopelaw10.ExtsReads", spec := "extsReads", unfollowed := true, recurses := true, apart := false, narrowed := true }
def ExtsReadsUptoSaid : Prop := extsReadsUptoRow.holds Try.pinned (OpenSpec.upto extsReadsSpec)

/-- 'hagioscopelaw10.ExtsPuts', WHERE WHAT IT READS IS OF BULK AT MOST 1048576: true; the input reads as it did. -/
def extsPutsUptoRow : OpenClaim := { program := "ytajmdchidmamcaa", sum := "801be68687eacfa87e976ec5e2587d68b958ed1515536211822a827f3fb8c614", func := "hagioscope/hagioscopelaw10.ExtsPuts", spec := "extsPuts", unfollowed := true, recurses := true, apart := false, narrowed := true }
def ExtsPutsUptoSaid : Prop := extsPutsUptoRow.holds Try.pinned (OpenSpec.upto extsPutsSpec)

/-- 'hagioscopelaw10.ExtsSees', WHERE WHAT IT READS IS OF BULK AT MOST 1048576: true; the input reads as it did. -/
def extsSeesUptoRow : OpenClaim := { program := "ytajmdchidmamcaa", sum := "801be68687eacfa87e976ec5e2587d68b958ed1515536211822a827f3fb8c614", func := "hagioscope/hagioscopelaw10.ExtsSees", spec := "extsSees", unfollowed := true, recurses := true, apart := false, narrowed := true }
def ExtsSeesUptoSaid : Prop := extsSeesUptoRow.holds Try.pinned (OpenSpec.upto extsSeesSpec)

/-- 'hagioscopelaw10.ExtsBack', WHERE WHAT IT READS IS OF BULK AT MOST 1048576: true; the input reads as it did. -/
def extsBackUptoRow : OpenClaim := { program := "ytajmdchidmamcaa", sum := "801be68687eacfa87e976ec5e2587d68b958ed1515536211822a827f3fb8c614", func := "hagioscope/hagioscopelaw10.ExtsBack", spec := "extsBack", unfollowed := true, recurses := true, apart := false, narrowed := true }
def ExtsBackUptoSaid : Prop := extsBackUptoRow.holds Try.pinned (OpenSpec.upto extsBackSpec)

/-- 'hagioscopelaw10.ExtsMore', WHERE WHAT IT READS IS OF BULK AT MOST 1048576: true; the input reads as it did. -/
def extsMoreUptoRow : OpenClaim := { program := "ytajmdchidmamcaa", sum := "801be68687eacfa87e976ec5e2587d68b958ed1515536211822a827f3fb8c614", func := "hagioscope/hagioscopelaw10.ExtsMore", spec := "extsMore", unfollowed := true, recurses := true, apart := false, narrowed := true }
def ExtsMoreUptoSaid : Prop := extsMoreUptoRow.holds Try.pinned (OpenSpec.upto extsMoreSpec)

/-- 'hagioscopelaw10.ExtsOthers', WHERE WHAT IT READS IS OF BULK AT MOST 1048576: true; the input reads as it did. -/
def extsOthersUptoRow : OpenClaim := { program := "ytajmdchidmamcaa", sum := "801be68687eacfa87e976ec5e2587d68b958ed1515536211822a827f3fb8c614", func := "hagioscope/hagioscopelaw10.ExtsOthers", spec := "extsOthers", unfollowed := true, recurses := true, apart := false, narrowed := true }
def ExtsOthersUptoSaid : Prop := extsOthersUptoRow.holds Try.pinned (OpenSpec.upto extsOthersSpec)

end Rows
end Go.Proofs.Ytajmdchidmamcaa
