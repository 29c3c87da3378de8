/-
  Contracts of package ascii's functions of one rune: isLetter, isDigit, isSign, isToken, isVisible, isBlank, digit.
-/
import Derived.Test.YtajmdchidmamcaaAscDig
namespace Go.Proofs.Ytajmdchidmamcaa.Asc
open Go.RowKit Go.Proofs.Ytajmdchidmamcaa.Wd


theorem isVisible_any (r : Int) (w : World) : Calls Try.prog 72 #[.int .i32 r] w fun e w' => e = .returned (.bool (visI r)) ∧ w = w' := by
  by_cases a1 : 33 ≤ r <;> by_cases a2 : r ≤ 126
  all_goals first
    | (exfalso; omega)
    | (go_enter Try.func72, Try.ntmps72
       go_wp2
       go_ret
       exact ⟨ret_b (by simp [visI] <;> omega), rfl⟩)




end Go.Proofs.Ytajmdchidmamcaa.Asc
