/-
  Plain facts on addresses and Cidrs, used by the contracts of packages addr and cidr. No condition.
-/
import Derived.Test.YtdofipjjodijcaaGreatDoorWords
namespace Go.Proofs.YtdofipjjodijcaaGreatDoor.Ad
open Go Go.Proofs.YtdofipjjodijcaaGreatDoor.Wd

def withinI (n lo hi : Int) : Int := if n < lo then lo else if hi < n then hi else n
/-- how many bits count -/
def bitN (n : Int) : Nat := (withinI n 0 128).toNat
theorem bitN_is (n : Int) : withinI n 0 128 = (bitN n : Int) := by
  unfold bitN
  have : 0 ≤ withinI n 0 128 := by unfold withinI; split <;> (try split) <;> omega
  omega
theorem bitN_le (n : Int) : bitN n ≤ 128 := by unfold bitN withinI; split <;> (try split) <;> omega
theorem bitN_mono {n m : Int} (h : m ≤ n) : bitN m ≤ bitN n := by
  unfold bitN withinI; repeat' split
  all_goals omega
theorem bitN_nat {k : Nat} (h : k ≤ 128) : bitN (k : Int) = k := by
  unfold bitN withinI; repeat' split
  all_goals omega
theorem bitN_self (n : Int) : bitN (bitN n : Int) = bitN n := bitN_nat (bitN_le n)

/-- the first n bits of a byte -/
def maskB (c : UInt8) (n : Nat) : UInt8 := c &&& ~~~(255 >>> UInt8.ofNat n)
/-- the first n bits of bytes, all others 0 -/
def maskS : List UInt8 → Nat → List UInt8
  | [], _ => []
  | c :: r, n => if n < 8 then maskB c n :: List.replicate r.length 0 else c :: maskS r (n - 8)

theorem maskS_length : ∀ (l : List UInt8) (n : Nat), (maskS l n).length = l.length
  | [], _ => rfl
  | c :: r, n => by
    unfold maskS
    split
    · simp
    · simp [maskS_length r]
theorem maskB_zero (c : UInt8) : maskB c 0 = 0 := by
  unfold maskB
  rw [show ~~~((255 : UInt8) >>> UInt8.ofNat 0) = 0 by decide]
  simp
theorem maskS_zero : ∀ (l : List UInt8), maskS l 0 = List.replicate l.length 0
  | [] => rfl
  | c :: r => by
    unfold maskS
    rw [if_pos (by omega), maskB_zero]
    rfl
theorem maskS_all : ∀ (l : List UInt8) (n : Nat), 8 * l.length ≤ n → maskS l n = l
  | [], _, _ => rfl
  | c :: r, n, h => by
    unfold maskS
    simp only [List.length_cons] at h
    rw [if_neg (by omega), maskS_all r (n - 8) (by omega)]
theorem maskB_tab : ∀ n : Fin 8, ∀ m : Fin 8, m ≤ n → (~~~((255 : UInt8) >>> UInt8.ofNat n.1)) &&& (~~~((255 : UInt8) >>> UInt8.ofNat m.1)) = ~~~((255 : UInt8) >>> UInt8.ofNat m.1) := by decide
theorem maskB_less (c : UInt8) {n m : Nat} (hn : n < 8) (h : m ≤ n) : maskB (maskB c n) m = maskB c m := by
  unfold maskB
  rw [UInt8.and_assoc, maskB_tab ⟨n, hn⟩ ⟨m, by omega⟩ h]
theorem maskS_rep (k n : Nat) : maskS (List.replicate k 0) n = List.replicate k 0 := by
  induction k generalizing n with
  | zero => rfl
  | succ k ih =>
    rw [List.replicate_succ]
    unfold maskS
    split
    · rw [show maskB 0 n = 0 by simp [maskB]]
      simp
    · rw [ih]
theorem maskS_less : ∀ (l : List UInt8) {n m : Nat}, m ≤ n → maskS (maskS l n) m = maskS l m
  | [], _, _, _ => rfl
  | c :: r, n, m, h => by
    by_cases hn : n < 8
    · rw [maskS, if_pos hn, maskS, if_pos (by omega), maskS, if_pos (by omega), maskB_less c hn h, List.length_replicate]
    · rw [maskS, if_neg hn, maskS]
      by_cases hm : m < 8
      · rw [if_pos hm, maskS, if_pos hm, maskS_length]
      · rw [if_neg hm, maskS, if_neg hm, maskS_less r (by omega)]

theorem maskS_at : ∀ (l : List UInt8) (k m : Nat) (c : UInt8), l[k]? = some c → m < 8 → maskS l (8 * k + m) = l.take k ++ maskB c m :: List.replicate (l.length - k - 1) 0
  | [], k, m, c, h, _ => by simp at h
  | d :: r, 0, m, c, h, hm => by
    simp at h
    subst h
    unfold maskS
    rw [if_pos (by omega)]
    simp
  | d :: r, k + 1, m, c, h, hm => by
    unfold maskS
    rw [if_neg (by omega), show 8 * (k + 1) + m - 8 = 8 * k + m by omega, maskS_at r k m c (by simpa using h) hm]
    simp

/-- the bytes of an array as its cells -/
abbrev cA (l : List UInt8) : Array Value := (cellsOf l).toArray
theorem cA_set (l : List UInt8) (k : Nat) (v : UInt8) : (cA l).setIfInBounds k (Value.int .u8 (v.toNat : Int)) = cA (l.set k v) := by
  apply Array.ext'
  simp [cellsOf, List.map_set, b8]
theorem set_mid {α : Type} (l : List α) (k n : Nat) (z v : α) (hk : l.length = k) (hn : 0 < n) : (l ++ List.replicate n z).set k v = l ++ v :: List.replicate (n - 1) z := by
  subst hk
  rw [List.set_append_right _ _ (Nat.le_refl _), Nat.sub_self]
  cases n with
  | zero => omega
  | succ n => simp [List.replicate_succ]
/-- a Cidr: its bytes, its bits -/
structure C where
  a : List UInt8
  n : Int
deriving DecidableEq
def C.cells (c : C) : Array Value := (cellsOf c.a ++ [Value.int .i64 c.n]).toArray
def ofS (a : List UInt8) (n : Int) : C := ⟨maskS a (bitN n), bitN n⟩
def rightS (c : C) : Bool := c == ofS c.a c.n
def hasS (c : C) (a : List UInt8) : Bool := rightS c && c.a == maskS a (bitN c.n)
end Go.Proofs.YtdofipjjodijcaaGreatDoor.Ad
