/-
 Contract of hagioscoperef03.Print at an address of four bytes.
-/
import Derived.Test.YthfknndjdfofgaaGreatDoorR38
import Derived.Test.YthfknndjdfofgaaGreatDoorR12
import Derived.Test.YthfknndjdfofgaaGreatDoorR39
import Derived.Test.YthfknndjdfofgaaGreatDoorR36
import Derived.Test.YthfknndjdfofgaaGreatDoorR37
import Derived.Test.YthfknndjdfofgaaGreatDoorR15
import Derived.Test.YthfknndjdfofgaaGreatDoorR16
import Derived.Test.YthfknndjdfofgaaGreatDoorR17
import Derived.Test.YthfknndjdfofgaaGreatDoorR25
import Derived.Test.YthfknndjdfofgaaGreatDoorR27
namespace Go.Proofs.YthfknndjdfofgaaGreatDoor.Ad
open Go.RowKit Go.Proofs.YthfknndjdfofgaaGreatDoor.Wd Go.Proofs.YthfknndjdfofgaaGreatDoor.Asc

end Go.Proofs.YthfknndjdfofgaaGreatDoor.Ad

/-
 Contract of hagioscoperef03.Print.
-/
namespace Go.Proofs.YthfknndjdfofgaaGreatDoor.Ad
open Go.RowKit Go.Proofs.YthfknndjdfofgaaGreatDoor.Wd Go.Proofs.YthfknndjdfofgaaGreatDoor.Asc

end Go.Proofs.YthfknndjdfofgaaGreatDoor.Ad

/-
 Contracts of hagioscoperef14's label, digits, Normal and Labels, and of hagioscoperef10.Rows, over this seat's translation: they answer what labS, digS, normalS and labelsS say.
-/
namespace Go.Proofs.YthfknndjdfofgaaGreatDoor.Nm
open Go.RowKit Go.Proofs.YthfknndjdfofgaaGreatDoor.Wd Go.Proofs.YthfknndjdfofgaaGreatDoor.Asc Go.Proofs.YthfknndjdfofgaaGreatDoor.Ad

end Go.Proofs.YthfknndjdfofgaaGreatDoor.Nm

/-
 Contracts of hagioscoperef14's Normal and Labels over this seat's translation: they answer what normalS and labelsS say.
-/
namespace Go.Proofs.YthfknndjdfofgaaGreatDoor.Nm
open Go.RowKit Go.Proofs.YthfknndjdfofgaaGreatDoor.Wd Go.Proofs.YthfknndjdfofgaaGreatDoor.Asc Go.Proofs.YthfknndjdfofgaaGreatDoor.Ad

end Go.Proofs.YthfknndjdfofgaaGreatDoor.Nm

/-
 Contracts of the document's own judge and All of layer 15 (hagioscoperef15) over this seat's translation: they answer what lookS and allT say.
-/
namespace Go.Proofs.YthfknndjdfofgaaGreatDoor.Sh
open Go.RowKit Go.Proofs.YthfknndjdfofgaaGreatDoor.Wd
section
variable {w : World} {y : Nat} {q : Option Nat} {s : List UInt8 × Nat}
set_option maxHeartbeats 1000000
end
end Go.Proofs.YthfknndjdfofgaaGreatDoor.Sh
namespace Go.Proofs.YthfknndjdfofgaaGreatDoor.Tp
open Go.RowKit Go.Proofs.YthfknndjdfofgaaGreatDoor.Wd Go.Proofs.YthfknndjdfofgaaGreatDoor.Rc Go.Proofs.YthfknndjdfofgaaGreatDoor.Sh

theorem relP_nil (w : World) (B : Nat) : Ex.RelP w B (.slice none 0 0) [] := ⟨Ro.OwnE.nil _ _ _, Nat.zero_le _⟩
theorem relV_nil (w : World) (B : Nat) : Ex.RelV w B (.slice none 0 0) [] := ⟨Ro.OwnE.nil _ _ _, Nat.zero_le _⟩
theorem look_of {b : List UInt8} {P : He.Hel × Int} (hP : He.parseS b = P) : lookS b = if P.2 ≠ 0 then ([], Ex.Sn.zero, P.2)
   else if (Ex.seeS P.1.exts).2 ≠ 0 then ([], Ex.Sn.zero, (Ex.seeS P.1.exts).2)
   else if (Ex.seeS P.1.exts).1.has = true then
     (if (Nm.normalS (Ex.seeS P.1.exts).1.name).2 ≠ 0 then ([], Ex.Sn.zero, (Nm.normalS (Ex.seeS P.1.exts).1.name).2)
      else ((Nm.normalS (Ex.seeS P.1.exts).1.name).1, (Ex.seeS P.1.exts).1, 0))
   else ([], (Ex.seeS P.1.exts).1, 0) := by
 unfold lookS
 rw [hP]
theorem seen_new (w : World) (C : Array Value) : Blk ((w.alloc (.cells #[Value.bool false, .string ⟨#[]⟩, .slice none 0 0, .slice none 0 0, .bool false] 29)).setRow w.heap.size C) w.heap.size 29 C ∧ Below w.heap.size w ((w.alloc (.cells #[Value.bool false, .string ⟨#[]⟩, .slice none 0 0, .slice none 0 0, .bool false] 29)).setRow w.heap.size C) :=
 ⟨He.setRow_blk (Blk.new _ _ _), He.setRow_below ((Below.refl _ _).alloc (Nat.le_refl _) _) (Nat.le_refl _) _⟩

end Go.Proofs.YthfknndjdfofgaaGreatDoor.Tp
