/-
 The document's own message (hagioscoperef08), plain: what came and the error; that it tells what our message tells. Plain facts, no condition.
-/
import Derived.Test.YthfknndjdfofgaaGreatDoorR01
import Derived.Test.YthfknndjdfofgaaGreatDoorR16
import Derived.LoopTactic
namespace Go.Proofs.YthfknndjdfofgaaGreatDoor.Sh
set_option maxRecDepth 20000

def szK (bs : List UInt8) : Nat → Nat
 | 0 => 0
 | 1 => 0
 | k + 2 => szK bs (k + 1) * 256 + (bs.getD (k + 1) 0).toNat
def sizeR (bs : List UInt8) : Nat := szK bs 4
structure Rel (s : List UInt8 × Nat) (m : M) : Prop where
 er : s.2 = m.e
 len : m.e = 0 → s.1.length = m.h + m.b.length
 sz : m.e = 0 → sizeR s.1 = m.s
 body : m.e = 0 → s.1.drop 4 = m.b
 one : m.e = 0 → m.h ≠ 0 → s.1.getD 0 0 = 1
end Go.Proofs.YthfknndjdfofgaaGreatDoor.Sh

/-
 Contracts of the document's own message (hagioscoperef08) over this seat's translation: size, Whole, Want, Body.
-/
namespace Go.Proofs.YthfknndjdfofgaaGreatDoor.Sh
open Go.RowKit Go.Proofs.YthfknndjdfofgaaGreatDoor.Wd

def Rb (w : World) (y : Nat) (q : Option Nat) (s : List UInt8 × Nat) : Prop :=
 ∃ c, Blk w y 57 #[.slice (ad q) s.1.length c, .int .i64 (s.2 : Int)] ∧ At w q c s.1
section
variable {w w' : World} {y : Nat} {q : Option Nat} {s : List UInt8 × Nat} {S : List Nat}
end

section
variable {w : World} {y : Nat} {q : Option Nat} {s : List UInt8 × Nat}
end
end Go.Proofs.YthfknndjdfofgaaGreatDoor.Sh

/-
 Contract of the document's own message's Take (hagioscoperef08) over this seat's translation.
-/
namespace Go.Proofs.YthfknndjdfofgaaGreatDoor.Sh
open Go.RowKit Go.Proofs.YthfknndjdfofgaaGreatDoor.Wd

section
variable {w : World} {y : Nat} {q : Option Nat}
set_option maxHeartbeats 1000000
end

section
variable {w : World} {y : Nat} {q : Option Nat}
set_option maxHeartbeats 2000000
end
end Go.Proofs.YthfknndjdfofgaaGreatDoor.Sh
