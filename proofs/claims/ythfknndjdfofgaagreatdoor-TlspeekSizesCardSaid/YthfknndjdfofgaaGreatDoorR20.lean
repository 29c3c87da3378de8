/-
 law09's Few over this seat's translation: is a hello short?
-/
import Derived.Test.YthfknndjdfofgaaGreatDoorR08
import Derived.LoopTactic
namespace Go.Proofs.YthfknndjdfofgaaGreatDoor.He
open Go.RowKit Go.Proofs.YthfknndjdfofgaaGreatDoor.Wd Go.Proofs.YthfknndjdfofgaaGreatDoor.Be

def xsum (l : List Xt) : Nat := (l.map fun x => 4 + x.n).sum
theorem xsum_snoc {l : List Xt} {k : Nat} {x : Xt} (h : l[k]? = some x) : xsum (l.take (k + 1)) = xsum (l.take k) + (4 + x.n) := by
 unfold xsum
 rw [List.take_add_one, h]
 simp
theorem xsum_take (l : List Xt) (k : Nat) : xsum (l.take k) ≤ xsum l := by
 have h : xsum l = xsum (l.take k) + xsum (l.drop k) := by
   unfold xsum
   rw [← List.sum_append, ← List.map_append, List.take_append_drop]
 omega
def weigh (H : Hv) : Nat := H.ses.length + 2 * H.cph.length + H.met.length + xsum H.xs
end Go.Proofs.YthfknndjdfofgaaGreatDoor.He
