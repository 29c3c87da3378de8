/-
  Contracts of package ascii's functions of one rune: isLetter, isDigit, isSign, isToken, isVisible, isBlank, digit.
-/
import Derived.Test.YtkbankjnfedkdaaAscDig
namespace Go.Proofs.Ytkbankjnfedkdaa.Asc
open Go.RowKit Go.Proofs.Ytkbankjnfedkdaa.Wd

set_option maxHeartbeats 400000 in
theorem isLetter_any (r : Int) (w : World) : Calls Try.prog 35 #[.int .i32 r] w fun e w' => e = .returned (.bool (ltrI r)) ∧ w = w' := by
  by_cases a1 : 97 ≤ r <;> by_cases a2 : r ≤ 122 <;> by_cases a3 : 65 ≤ r <;> by_cases a4 : r ≤ 90
  all_goals first
    | (exfalso; omega)
    | (go_enter Try.func35, Try.ntmps35
       go_wp2
       go_ret
       exact ⟨ret_b (by simp [ltrI] <;> omega), rfl⟩)


theorem isBlank_any (r : Int) (w : World) : Calls Try.prog 30 #[.int .i32 r] w fun e w' => e = .returned (.bool (blkI r)) ∧ w = w' := by
  by_cases a1 : r = 32
  · subst a1
    go_enter Try.func30, Try.ntmps30
    go_wp2
    go_ret
    exact ⟨rfl, rfl⟩
  · by_cases a2 : r = 9
    · subst a2
      go_enter Try.func30, Try.ntmps30
      go_wp2
      go_ret
      exact ⟨rfl, rfl⟩
    · have b1 : (r == 32) = false := by simpa using a1
      have b2 : (r == 9) = false := by simpa using a2
      go_enter Try.func30, Try.ntmps30
      go_wp2
      go_ret
      exact ⟨ret_b (by simp [blkI]; omega), rfl⟩

set_option maxHeartbeats 1000000 in
theorem isSign_any (r : Int) (w : World) : Calls Try.prog 37 #[.int .i32 r] w fun e w' => e = .returned (.bool (sgnI r)) ∧ w = w' := by
  by_cases a : r = 33 ∨ r = 35 ∨ r = 36 ∨ r = 37 ∨ r = 38 ∨ r = 39 ∨ r = 42 ∨ r = 43 ∨ r = 45 ∨ r = 46 ∨ r = 94 ∨ r = 95 ∨ r = 96 ∨ r = 124 ∨ r = 126
  · rcases a with rfl | rfl | rfl | rfl | rfl | rfl | rfl | rfl | rfl | rfl | rfl | rfl | rfl | rfl | rfl
    all_goals
      go_enter Try.func37, Try.ntmps37
      go_wp2
      go_ret
      exact ⟨rfl, rfl⟩
  · have e : sgnI r = false := by simpa [sgnI] using a
    have no : ∀ k : Int, (r = k → False) → (r == k) = false := fun k h => by simpa using h
    have b1 := no 33 (by omega)
    have b2 := no 35 (by omega)
    have b3 := no 36 (by omega)
    have b4 := no 37 (by omega)
    have b5 := no 38 (by omega)
    have b6 := no 39 (by omega)
    have b7 := no 42 (by omega)
    have b8 := no 43 (by omega)
    have b9 := no 45 (by omega)
    have b10 := no 46 (by omega)
    have b11 := no 94 (by omega)
    have b12 := no 95 (by omega)
    have b13 := no 96 (by omega)
    have b14 := no 124 (by omega)
    have b15 := no 126 (by omega)
    have E := Lib.hid e
    clear e no a
    go_enter Try.func37, Try.ntmps37
    go_wp2
    go_ret
    exact ⟨ret_b E.out.symm, rfl⟩

theorem isToken_any (r : Int) (w : World) : Calls Try.prog 28 #[.int .i32 r] w fun e w' => e = .returned (.bool (tokI r)) ∧ w = w' := by
  have H : Hid (tokI r = (ltrI r || digI r || sgnI r)) := Lib.hid rfl
  cases h1 : ltrI r <;> cases h2 : digI r <;> cases h3 : sgnI r
  all_goals
    have H1 := Lib.hid h1
    have H2 := Lib.hid h2
    have H3 := Lib.hid h3
    clear h1 h2 h3
    go_enter Try.func28, Try.ntmps28
    go_wp2_with (first
      | (go_at_call 35; refine (isLetter_any _ _).mono ?_; rintro e w' ⟨rfl, rfl⟩; rw [H1.out])
      | (go_at_call 36; refine (isDigit_any _ _).mono ?_; rintro e w' ⟨rfl, rfl⟩; rw [H2.out])
      | (go_at_call 37; refine (isSign_any _ _).mono ?_; rintro e w' ⟨rfl, rfl⟩; rw [H3.out]))
    go_ret
    exact ⟨ret_b (by rw [H.out, H1.out, H2.out, H3.out]; rfl), rfl⟩

end Go.Proofs.Ytkbankjnfedkdaa.Asc
