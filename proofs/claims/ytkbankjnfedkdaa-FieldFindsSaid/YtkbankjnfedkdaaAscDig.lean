/-
  Contracts of package ascii's functions of one rune that Number and Hex reach: isDigit, digit.
-/
import Derived.Test.YtkbankjnfedkdaaWords
import Derived.Test.YtkbankjnfedkdaaAscPure
import Derived.Lib.Strings
namespace Go.Proofs.Ytkbankjnfedkdaa.Asc
open Go.RowKit Go.Proofs.Ytkbankjnfedkdaa.Wd

theorem ret_b {a b : Bool} (h : a = b) : Ending.returned (.bool a) = .returned (.bool b) := by rw [h]

theorem isDigit_any (r : Int) (w : World) : Calls Try.prog 36 #[.int .i32 r] w fun e w' => e = .returned (.bool (digI r)) ∧ w = w' := by
  by_cases a1 : 48 ≤ r <;> by_cases a2 : r ≤ 57
  all_goals first
    | (exfalso; omega)
    | (go_enter Try.func36, Try.ntmps36
       go_wp2
       go_ret
       exact ⟨ret_b (by simp [digI] <;> omega), rfl⟩)


theorem ret_nb {a b : Int} (h : a = b) : Ending.returned (.tuple #[.int .i64 a, .bool true]) = .returned (.tuple #[.int .i64 b, .bool true]) := by rw [h]


theorem below_iter (w : World) (s : ByteArray) (pos : Nat) : Below w.heap.size w (w.iter s pos) := (Below.refl _ _).alloc (Nat.le_refl _) _
end Go.Proofs.Ytkbankjnfedkdaa.Asc
