/-
  'Who begins alike in more bits does in fewer': plain facts.
-/
import Derived.Test.YtialcnioeeikpaaGreatDoorAdPure
namespace Go.Proofs.YtialcnioeeikpaaGreatDoor.Ad
open Go Go.Proofs.YtialcnioeeikpaaGreatDoor.Wd

theorem right_of (a : List UInt8) (n : Int) : rightS (ofS a n) = true := by
  unfold rightS ofS
  rw [beq_iff_eq]
  show (⟨maskS a (bitN n), (bitN n : Nat)⟩ : C) = ⟨maskS (maskS a (bitN n)) (bitN ((bitN n : Nat) : Int)), (bitN ((bitN n : Nat) : Int) : Nat)⟩
  rw [bitN_self, maskS_less a (Nat.le_refl _)]
theorem has_of (a b : List UInt8) (n : Int) : hasS (ofS a n) b = (maskS a (bitN n) == maskS b (bitN n)) := by
  unfold hasS
  rw [right_of]
  show (true && (maskS a (bitN n) == maskS b (bitN ((bitN n : Nat) : Int)))) = _
  rw [bitN_self]
  rfl
theorem has_self (a : List UInt8) (n : Int) : hasS (ofS a n) a = true := by rw [has_of]; simp
theorem has_less (a b : List UInt8) (n m : Int) (h : m ≤ n) (h1 : hasS (ofS a n) b = true) : hasS (ofS a m) b = true := by
  rw [has_of, beq_iff_eq] at *
  rw [← maskS_less a (bitN_mono h), ← maskS_less b (bitN_mono h), h1]
theorem has_none (a b : List UInt8) (h : a.length = b.length) : hasS (ofS a 0) b = true := by
  rw [has_of, show bitN 0 = 0 from rfl, maskS_zero, maskS_zero, h]
  simp
theorem has_all (a b : List UInt8) (ha : a.length = 16) (hb : b.length = 16) : hasS (ofS a 128) b = (a == b) := by
  rw [has_of, show bitN 128 = 128 from rfl, maskS_all a 128 (by omega), maskS_all b 128 (by omega)]
end Go.Proofs.YtialcnioeeikpaaGreatDoor.Ad
