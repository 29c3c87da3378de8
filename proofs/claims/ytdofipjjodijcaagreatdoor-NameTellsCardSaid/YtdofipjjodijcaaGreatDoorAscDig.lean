/-
  Contracts of package ascii's functions of one rune that Number and Hex reach: isDigit, digit.
-/
import Derived.Test.YtdofipjjodijcaaGreatDoorWords
import Derived.Test.YtdofipjjodijcaaGreatDoorAscPure
import Derived.Lib.Strings
namespace Go.Proofs.YtdofipjjodijcaaGreatDoor.Asc
open Go.RowKit Go.Proofs.YtdofipjjodijcaaGreatDoor.Wd

theorem ret_b {a b : Bool} (h : a = b) : Ending.returned (.bool a) = .returned (.bool b) := by rw [h]

theorem isDigit_any (r : Int) (w : World) : Calls Tryz.prog 93 #[.int .i32 r] w fun e w' => e = .returned (.bool (digI r)) ∧ w = w' := by
  by_cases a1 : 48 ≤ r <;> by_cases a2 : r ≤ 57
  all_goals first
    | (exfalso; omega)
    | (go_enter Tryz.func93, Tryz.ntmps93
       go_wp2
       go_ret
       exact ⟨ret_b (by simp [digI] <;> omega), rfl⟩)

theorem digit_none (r : Int) (w : World) (h : hexI r = none) : Calls Tryz.prog 83 #[.int .i32 r] w fun e w' => e = .returned (.tuple #[.int .i64 0, .bool false]) ∧ w = w' := by
  have n1 : ¬ (48 ≤ r ∧ r ≤ 57) := fun k => by rw [hexI, if_pos k] at h; cases h
  have n2 : ¬ (97 ≤ r ∧ r ≤ 102) := fun k => by rw [hexI, if_neg n1, if_pos k] at h; cases h
  have n3 : ¬ (65 ≤ r ∧ r ≤ 70) := fun k => by rw [hexI, if_neg n1, if_neg n2, if_pos k] at h; cases h
  have D := Lib.hid (show digI r = false by simp [digI]; omega)
  clear h
  by_cases a1 : 97 ≤ r <;> by_cases a2 : r ≤ 102 <;> by_cases a3 : 65 ≤ r <;> by_cases a4 : r ≤ 70
  all_goals first
    | (exfalso; omega)
    | (clear n1 n2 n3
       go_enter Tryz.func83, Tryz.ntmps83
       go_wp2_with (go_at_call 93; refine (isDigit_any _ _).mono ?_; rintro e w' ⟨rfl, rfl⟩; rw [D.out])
       go_ret2
       exact ⟨rfl, rfl⟩)

theorem ret_nb {a b : Int} (h : a = b) : Ending.returned (.tuple #[.int .i64 a, .bool true]) = .returned (.tuple #[.int .i64 b, .bool true]) := by rw [h]

theorem digit_some (r d : Int) (w : World) (h : hexI r = some d) : Calls Tryz.prog 83 #[.int .i32 r] w fun e w' => e = .returned (.tuple #[.int .i64 d, .bool true]) ∧ w = w' := by
  by_cases n1 : 48 ≤ r ∧ r ≤ 57
  · have e : d = r - 48 := by rw [hexI, if_pos n1] at h; injection h; omega
    have D := Lib.hid (show digI r = true by simp [digI]; omega)
    obtain ⟨a1, a2⟩ := n1
    clear h
    subst e
    go_enter Tryz.func83, Tryz.ntmps83
    go_wp2_with (go_at_call 93; refine (isDigit_any _ _).mono ?_; rintro e w' ⟨rfl, rfl⟩; rw [D.out])
    go_ret2
    exact ⟨ret_nb (by omega), rfl⟩
  · have D := Lib.hid (show digI r = false by simp [digI]; omega)
    by_cases n2 : 97 ≤ r ∧ r ≤ 102
    · have e : d = r - 87 := by rw [hexI, if_neg n1, if_pos n2] at h; injection h; omega
      obtain ⟨a1, a2⟩ := n2
      clear h n1
      subst e
      go_enter Tryz.func83, Tryz.ntmps83
      go_wp2_with (go_at_call 93; refine (isDigit_any _ _).mono ?_; rintro e w' ⟨rfl, rfl⟩; rw [D.out])
      go_ret2
      exact ⟨ret_nb (by omega), rfl⟩
    · by_cases n3 : 65 ≤ r ∧ r ≤ 70
      · have e : d = r - 55 := by rw [hexI, if_neg n1, if_neg n2, if_pos n3] at h; injection h; omega
        obtain ⟨a1, a2⟩ := n3
        clear h n1 n2
        subst e
        have b : ¬ 97 ≤ r := by omega
        go_enter Tryz.func83, Tryz.ntmps83
        go_wp2_with (go_at_call 93; refine (isDigit_any _ _).mono ?_; rintro e w' ⟨rfl, rfl⟩; rw [D.out])
        go_ret2
        exact ⟨ret_nb (by omega), rfl⟩
      · rw [hexI, if_neg n1, if_neg n2, if_neg n3] at h
        cases h

theorem below_iter (w : World) (s : ByteArray) (pos : Nat) : Below w.heap.size w (w.iter s pos) := (Below.refl _ _).alloc (Nat.le_refl _) _
end Go.Proofs.YtdofipjjodijcaaGreatDoor.Asc
