/-
  Contracts of package be over this seat's translation: tells, lay, Put, Vec.
-/
import Derived.Test.YtajmdchidmamcaaBeFns
import Derived.Laws.BitsAllLaws
import Derived.Laws.BitsLemmas
namespace Go.Proofs.Ytajmdchidmamcaa.Be
open Go.RowKit Go.Proofs.Ytajmdchidmamcaa.Wd

theorem tells_any (k n : Int) (hk : 1 ≤ k ∧ k ≤ 4) (hn : 0 ≤ n) (w : World) :
    Calls Try.prog 73 #[.int .i64 k, .int .i64 n] w fun e w' => e = .returned (.bool (decide (n < 256 ^ k.toNat))) ∧ w = w' := by
  obtain rfl | rfl | rfl | rfl : k = 1 ∨ k = 2 ∨ k = 3 ∨ k = 4 := by omega
  all_goals
    go_enter Try.func73, Try.ntmps73
    go_wp2
    go_ret
    refine ⟨?_, rfl⟩
    show Ending.returned (.bool (_ == (0 : Int))) = _
    congr 2
    rw [Bool.eq_iff_iff]
    simp
    omega

def byteOf (n : Int) : UInt8 := UInt8.ofNat (n % 256).toNat
/-- the bytes of a number, the highest first -/
def bytesOf (n : Int) : Nat → List UInt8
  | 0 => []
  | k + 1 => bytesOf (n / 256) k ++ [byteOf n]
theorem bytesOf_length (n : Int) (k : Nat) : (bytesOf n k).length = k := by
  induction k generalizing n with
  | zero => rfl
  | succ k ih => simp [bytesOf, ih]
theorem div_pow (n : Int) (j : Nat) : n / 256 / 256 ^ j = n / 256 ^ (j + 1) := by
  rw [Int.ediv_ediv_of_nonneg (by omega), Int.pow_succ, Int.mul_comm]
theorem pow_div (n : Int) (j : Nat) : n / 256 ^ j / 256 = n / 256 ^ (j + 1) := by
  have : (0 : Int) ≤ 256 ^ j := Int.pow_nonneg (by omega)
  rw [Int.ediv_ediv_of_nonneg this, Int.pow_succ]
theorem bytesOf_cons (n : Int) (j : Nat) : bytesOf n (j + 1) = byteOf (n / 256 ^ j) :: bytesOf n j := by
  induction j generalizing n with
  | zero => simp [bytesOf]
  | succ j ih =>
    rw [bytesOf, ih (n / 256), div_pow]
    rfl
theorem b8_byteOf (n : Int) : b8 (byteOf n) = .int .u8 (n % 256) := by
  unfold b8 byteOf
  congr 1
  have h1 : 0 ≤ n % 256 := Int.emod_nonneg _ (by omega)
  have h2 : n % 256 < 256 := Int.emod_lt_of_pos _ (by omega)
  simp only [UInt8.toNat_ofNat']
  omega
theorem splice_set (L X : List Value) (o : Nat) (v : Value) (h : o + 1 + X.length ≤ L.length) : (splice L (o + 1) X).toArray.setIfInBounds o v = (splice L o (v :: X)).toArray := by
  have e : o + 1 + X.length = o + (X.length + 1) := by omega
  simp only [List.setIfInBounds_toArray]
  congr 1
  unfold splice
  rw [List.take_add_one, List.getElem?_eq_getElem (by omega : o < L.length)]
  have hl : (L.take o).length = o := by rw [List.length_take]; omega
  simp only [Option.toList_some, List.append_assoc, List.singleton_append, List.length_cons, e]
  rw [List.set_append_right _ _ (by omega), hl, Nat.sub_self]
  rfl
theorem splice_all (L : List Value) (o : Nat) : splice L o [] = L := by simp [splice]
theorem step_cell (L : List Value) (off k j : Nat) (n : Int) (hfit : off + k ≤ L.length) (h : j < k) : ∃ v, (splice L (off + (k - j)) (cellsOf (bytesOf n j))).toArray[off + (k - 1 - j)]? = some v := by
  have hl : (splice L (off + (k - j)) (cellsOf (bytesOf n j))).length = L.length := length_splice _ _ _ (by rw [cellsOf_length, bytesOf_length]; omega)
  exact ⟨_, Array.getElem?_eq_getElem (by simp only [List.size_toArray, hl]; omega)⟩
theorem step_set (L : List Value) (off k j : Nat) (n : Int) (hfit : off + k ≤ L.length) (h : j < k) :
    (splice L (off + (k - j)) (cellsOf (bytesOf n j))).toArray.setIfInBounds (off + (k - 1 - j)) (.int .u8 (n / 256 ^ j % 256)) = (splice L (off + (k - (j + 1))) (cellsOf (bytesOf n (j + 1)))).toArray := by
  have e1 : off + (k - j) = off + (k - 1 - j) + 1 := by omega
  have e2 : off + (k - (j + 1)) = off + (k - 1 - j) := by omega
  rw [e1, e2, splice_set _ _ _ _ (by rw [cellsOf_length, bytesOf_length]; omega), bytesOf_cons, ← b8_byteOf]
  rfl

set_option maxHeartbeats 400000 in
theorem lay_any (g off k c : Nat) (n : Int) (L : List Value) (w : World) (hb : Blk w g 5 L.toArray) (hfit : off + k ≤ L.length) (hk : k ≤ 4) :
    Calls Try.prog 74 #[.slice (some ⟨g, off, none⟩) k c, .int .i64 n] w fun e w' => e = .returned (.tuple #[]) ∧ Blk w' g 5 (splice L off (cellsOf (bytesOf n k))).toArray ∧ w.grownBy w' (some g) := by
  go_enter Try.func74, Try.ntmps74
  go_wp2
  go_loopw [1, 4] (fun m i wr => ∃ j : Nat, j ≤ k ∧ i = .int .i64 ((k : Int) - 1 - j) ∧ m = .int .i64 (n / 256 ^ j) ∧ Blk wr g 5 (splice L (off + (k - j)) (cellsOf (bytesOf n j))).toArray ∧ w.grownBy wr (some g)) (fun _ i _ => (intOf i + 1).toNat)
  case atStart => exact ⟨0, by omega, by simp, by simp, by rw [show cellsOf (bytesOf n 0) = [] from rfl, splice_all]; exact hb, only_refl _ _⟩
  case round =>
    obtain ⟨j, hj, rfl, rfl, hblk, hgr⟩ := hrel
    by_cases hlt : j < k
    · obtain ⟨v0, hv0⟩ := step_cell L off k j n hfit hlt
      have hcell : wr.cell? ⟨g, off + (k - 1 - j), none⟩ = some v0 := by rw [hblk.cell, hv0]
      have hfr := hblk.frozen (off + (k - 1 - j))
      have H := Lib.hid hblk
      clear hblk hv0
      go_wp2
      go_roundw
      case rel =>
        refine ⟨j + 1, by omega, by go_num, by rw [pow_div], ?_, only_setCell hgr (.inl rfl) _⟩
        rw [← step_set L off k j n hfit hlt]
        exact H.out.set_ _ _
      case measure => simp [intOf]; omega
    · obtain rfl : j = k := by omega
      go_wp2
      go_end0
      refine ⟨rfl, ?_, hgr⟩
      simpa using hblk
end Go.Proofs.Ytajmdchidmamcaa.Be
