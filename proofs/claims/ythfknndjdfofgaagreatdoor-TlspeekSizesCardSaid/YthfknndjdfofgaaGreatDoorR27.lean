/-
 Contract of hagioscoperef09's Find over this seat's translation, with how much room what is found has.
-/
import Derived.Test.YthfknndjdfofgaaGreatDoorR08
import Derived.Test.YthfknndjdfofgaaGreatDoorR26
import Derived.Deep.Cut
import Derived.Deep.CutRange
namespace Go.Proofs.YthfknndjdfofgaaGreatDoor.He
open Go.RowKit Go.Proofs.YthfknndjdfofgaaGreatDoor.Wd Go.Proofs.YthfknndjdfofgaaGreatDoor.Be

end Go.Proofs.YthfknndjdfofgaaGreatDoor.He

/-
 Contract of hagioscoperef10's See over this seat's translation: it answers what seeS says.
-/
namespace Go.Proofs.YthfknndjdfofgaaGreatDoor.Ex
open Go.RowKit Go.Proofs.YthfknndjdfofgaaGreatDoor.Wd Go.Proofs.YthfknndjdfofgaaGreatDoor.Be Go.Proofs.YthfknndjdfofgaaGreatDoor.He Go.Proofs.YthfknndjdfofgaaGreatDoor.Ro

structure SeAt (H : Hv) (w : World) (x : Sn) (va vv : Value) (wx : World) : Prop where
 hb : Blk wx w.heap.size 68 H.C
 ob : Blk wx (w.heap.size + 1) 29 #[.bool false, .string ⟨#[]⟩, .slice none 0 0, .slice none 0 0, .bool false]
 vb : Blk wx (w.heap.size + 1 + 1) 29 (snC x va vv)
 al : RelP wx w.heap.size va x.alpn
 ve : RelV wx w.heap.size vv x.vers
 bel : Below w.heap.size w wx
end Go.Proofs.YthfknndjdfofgaaGreatDoor.Ex
