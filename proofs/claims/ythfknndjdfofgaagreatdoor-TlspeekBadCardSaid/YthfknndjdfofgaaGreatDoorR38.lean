/-
 Contract of hagioscoperef03.Mask: bit by bit, what package addr masks byte by byte.
-/
import Derived.Test.YthfknndjdfofgaaGreatDoorR11
import Derived.Test.YthfknndjdfofgaaGreatDoorR03
import Derived.Test.YthfknndjdfofgaaGreatDoorR37
import Derived.Test.YthfknndjdfofgaaGreatDoorR12
import Derived.Test.YthfknndjdfofgaaGreatDoorR13
namespace Go.Proofs.YthfknndjdfofgaaGreatDoor.Ad
open Go.RowKit Go.Proofs.YthfknndjdfofgaaGreatDoor.Wd

end Go.Proofs.YthfknndjdfofgaaGreatDoor.Ad

/-
 Contracts of hagioscoperef03.Of4 and Four; copy as a step of a walk.
-/
namespace Go.Proofs.YthfknndjdfofgaaGreatDoor.Ad
open Go.RowKit Go.Proofs.YthfknndjdfofgaaGreatDoor.Wd

end Go.Proofs.YthfknndjdfofgaaGreatDoor.Ad

/-
 Contract of hagioscoperef03.Parse.
-/
namespace Go.Proofs.YthfknndjdfofgaaGreatDoor.Ad
open Go.RowKit Go.Proofs.YthfknndjdfofgaaGreatDoor.Wd Go.Proofs.YthfknndjdfofgaaGreatDoor.Asc

end Go.Proofs.YthfknndjdfofgaaGreatDoor.Ad

/-
 Contracts of hagioscoperef04's Of, Right and Has.
-/
namespace Go.Proofs.YthfknndjdfofgaaGreatDoor.Ad
open Go.RowKit Go.Proofs.YthfknndjdfofgaaGreatDoor.Wd



end Go.Proofs.YthfknndjdfofgaaGreatDoor.Ad

/-
 Contracts of hagioscoperef03's hex and group, and of hagioscoperef04's Text.
-/
namespace Go.Proofs.YthfknndjdfofgaaGreatDoor.Ad
open Go.RowKit Go.Proofs.YthfknndjdfofgaaGreatDoor.Wd Go.Proofs.YthfknndjdfofgaaGreatDoor.Asc

end Go.Proofs.YthfknndjdfofgaaGreatDoor.Ad
