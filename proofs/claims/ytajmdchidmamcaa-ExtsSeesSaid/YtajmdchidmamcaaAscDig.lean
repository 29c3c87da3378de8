/-
  Contracts of package ascii's functions of one rune that Number and Hex reach: isDigit, digit.
-/
import Derived.Test.YtajmdchidmamcaaWords
import Derived.Test.YtajmdchidmamcaaAscPure
import Derived.Lib.Strings
namespace Go.Proofs.Ytajmdchidmamcaa.Asc
open Go.RowKit Go.Proofs.Ytajmdchidmamcaa.Wd

theorem ret_b {a b : Bool} (h : a = b) : Ending.returned (.bool a) = .returned (.bool b) := by rw [h]



theorem ret_nb {a b : Int} (h : a = b) : Ending.returned (.tuple #[.int .i64 a, .bool true]) = .returned (.tuple #[.int .i64 b, .bool true]) := by rw [h]


theorem below_iter (w : World) (s : ByteArray) (pos : Nat) : Below w.heap.size w (w.iter s pos) := (Below.refl _ _).alloc (Nat.le_refl _) _
end Go.Proofs.Ytajmdchidmamcaa.Asc
