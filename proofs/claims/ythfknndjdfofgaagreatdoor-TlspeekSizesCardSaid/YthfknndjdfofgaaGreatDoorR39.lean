/-
 The document's text of an address by its groups is package addr's. No condition.
-/
import Derived.Test.YthfknndjdfofgaaGreatDoorR13
import Derived.Test.YthfknndjdfofgaaGreatDoorR38
import Derived.Test.YthfknndjdfofgaaGreatDoorR12
import Derived.LoopTactic
namespace Go.Proofs.YthfknndjdfofgaaGreatDoor.Ad
open Go Go.Proofs.YthfknndjdfofgaaGreatDoor.Asc

end Go.Proofs.YthfknndjdfofgaaGreatDoor.Ad

/-
 hagioscoperef03.Print, by groups: what its loops keep.
-/
namespace Go.Proofs.YthfknndjdfofgaaGreatDoor.Ad
open Go.RowKit Go.Proofs.YthfknndjdfofgaaGreatDoor.Wd Go.Proofs.YthfknndjdfofgaaGreatDoor.Asc

end Go.Proofs.YthfknndjdfofgaaGreatDoor.Ad

/-
 Contract of hagioscoperef03.Print, by groups, where no two groups of zeros stand side by side.
-/
namespace Go.Proofs.YthfknndjdfofgaaGreatDoor.Ad
open Go.RowKit Go.Proofs.YthfknndjdfofgaaGreatDoor.Wd Go.Proofs.YthfknndjdfofgaaGreatDoor.Asc

end Go.Proofs.YthfknndjdfofgaaGreatDoor.Ad

/-
 Contract of hagioscoperef03.Print, by groups, where two groups of zeros stand side by side.
-/
namespace Go.Proofs.YthfknndjdfofgaaGreatDoor.Ad
open Go.RowKit Go.Proofs.YthfknndjdfofgaaGreatDoor.Wd Go.Proofs.YthfknndjdfofgaaGreatDoor.Asc

end Go.Proofs.YthfknndjdfofgaaGreatDoor.Ad
