/-
  Plain facts on bytes and numbers, and on what a reader of package be does.
-/
import Derived.Test.YtajmdchidmamcaaBeNum
namespace Go.Proofs.Ytajmdchidmamcaa.Be
open Go.RowKit Go.Proofs.Ytajmdchidmamcaa.Wd

theorem natOf_bytesOf (n : Int) (k : Nat) : (natOf (bytesOf n k) : Int) = n % 256 ^ k := by
  induction k generalizing n with
  | zero => simp [bytesOf, natOf, Int.emod_one]
  | succ k ih =>
    rw [bytesOf, natOf_snoc]
    have h1 : (((Go.Proofs.Ytajmdchidmamcaa.Be.byteOf n).toNat : Nat) : Int) = n % 256 := by
      unfold Go.Proofs.Ytajmdchidmamcaa.Be.byteOf
      simp only [UInt8.toNat_ofNat']
      omega
    rw [Int.natCast_add, Int.natCast_mul, ih, h1, Int.pow_succ]
    have hP : (0 : Int) < 256 ^ k := Int.pow_pos (by omega)
    generalize (256 : Int) ^ k = P at *
    have hX := Int.mul_ediv_add_emod (n / 256) P
    have hX0 := Int.emod_nonneg (n / 256) (show P ≠ 0 by omega)
    have hX1 := Int.emod_lt_of_pos (n / 256) hP
    refine ((Int.ediv_emod_unique (a := n) (b := P * 256) (r := n / 256 % P * (256 : Nat) + n % 256) (q := n / 256 / P) (by omega)).2 ⟨?_, by omega, by omega⟩).2.symm
    have e : P * 256 * (n / 256 / P) = 256 * (P * (n / 256 / P)) := by rw [Int.mul_comm P 256, Int.mul_assoc]
    rw [e]
    omega
theorem natOf_len2 (n : Nat) (h : n < 65536) : natOf (bytesOf (n : Int) 2) = n := by
  have := natOf_bytesOf (n : Int) 2
  rw [show (256 : Int) ^ 2 = 65536 from by simp] at this
  omega

theorem takeS_in (xs : List UInt8) (k : Nat) (h : k ≤ xs.length) : takeS (some xs) (k : Int) = (xs.take k, some (xs.drop k)) := by
  show (if 0 ≤ (k : Int) ∧ (k : Int) ≤ xs.length then (xs.take (k : Int).toNat, some (xs.drop (k : Int).toNat)) else ([], none)) = _
  rw [if_pos (by omega), Int.toNat_natCast]
theorem takeS_out (xs : List UInt8) (n : Int) (h : ¬ (0 ≤ n ∧ n ≤ xs.length)) : takeS (some xs) n = ([], none) := if_neg h
theorem takeS_none (n : Int) : takeS none n = ([], none) := rfl
theorem numS_in (xs ys : List UInt8) (size : Int) (k : Nat) (hl : xs.length = k) (hk : clampI size = k) : numS (some (xs ++ ys)) size = (natOf xs, some ys) := by
  unfold numS
  rw [hk, takeS_in _ _ (by rw [List.length_append]; omega), ← hl, List.take_left, List.drop_left]
theorem numS_out (xs : List UInt8) (size : Int) (k : Nat) (hl : xs.length < k) (hk : clampI size = k) : numS (some xs) size = (0, none) := by
  unfold numS
  rw [hk, takeS_out _ _ (by omega)]
  rfl
theorem numS_none (size : Int) : numS none size = (0, none) := rfl
theorem vecS_none (size : Int) : vecS none size = ([], none) := rfl
/-- a vector that was laid is read -/
theorem vecS_in (xs ys : List UInt8) (size : Int) (k : Nat) (hk : clampI size = k) (hl : (xs.length : Int) < 256 ^ k) : vecS (some (bytesOf (xs.length : Int) k ++ (xs ++ ys))) size = (xs, some ys) := by
  unfold vecS
  rw [numS_in _ _ _ k (bytesOf_length _ _) hk]
  have h := natOf_bytesOf (xs.length : Int) k
  rw [Int.emod_eq_of_lt (by omega) hl] at h
  simp only
  rw [h, takeS_in _ _ (by rw [List.length_append]; omega), List.take_left, List.drop_left]

/-- a vector of which some is missing: nothing is read, and the reader is bad -/
theorem vecS_cut (xs : List UInt8) (cut : Nat) (hx : xs.length ≤ 1000) (hc : cut < xs.length + 2) : vecS (some ((bytesOf (xs.length : Int) 2 ++ xs).take cut)) 2 = ([], none) := by
  unfold vecS
  by_cases h : cut < 2
  · rw [numS_out _ 2 2 (by rw [List.length_take]; omega) (by decide)]
    rfl
  · have e : (bytesOf (xs.length : Int) 2 ++ xs).take cut = bytesOf (xs.length : Int) 2 ++ xs.take (cut - 2) := by
      rw [List.take_append, bytesOf_length, List.take_of_length_le (by rw [bytesOf_length]; omega)]
    rw [e, numS_in _ _ 2 2 (bytesOf_length _ _) (by decide), natOf_len2 _ (by omega)]
    exact takeS_out _ _ (by rw [List.length_take]; omega)
end Go.Proofs.Ytajmdchidmamcaa.Be
