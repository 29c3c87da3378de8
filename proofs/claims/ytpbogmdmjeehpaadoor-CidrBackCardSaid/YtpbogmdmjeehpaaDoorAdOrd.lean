/-
  In which order Cidrs stand: compare is a strict weak order, whole. No condition.
-/
import Derived.Test.YtpbogmdmjeehpaaDoorAdCmp
import Derived.Sort.Statements
import Derived.Shelf.SlSortCmp.WholeK
set_option linter.unusedSimpArgs false
namespace Go.Proofs.YtpbogmdmjeehpaaDoor.Ad
open Go Go.RowKit Go.Lib Go.Shelf Go.Proofs.YtpbogmdmjeehpaaDoor.Wd

/-- the number of bytes, the highest first -/
def numB : List UInt8 → Nat
  | [] => 0
  | c :: r => c.toNat * 256 ^ r.length + numB r
theorem numB_lt : ∀ l : List UInt8, numB l < 256 ^ l.length
  | [] => by simp [numB]
  | c :: r => by
    have h := numB_lt r
    have hc := c.toNat_lt
    have h2 : (c.toNat + 1) * 256 ^ r.length ≤ 256 * 256 ^ r.length := Nat.mul_le_mul_right _ (by omega)
    rw [Nat.add_mul, Nat.one_mul] at h2
    rw [numB, List.length_cons, Nat.pow_succ, Nat.mul_comm (256 ^ r.length) 256]
    omega
theorem cmpB_is : ∀ (a b : List UInt8), a.length = b.length → Lib.compareBytes a b = if numB a < numB b then -1 else if numB b < numB a then 1 else 0
  | [], [], _ => by simp [Lib.compareBytes, numB]
  | [], _ :: _, h => by simp at h
  | _ :: _, [], h => by simp at h
  | x :: a, y :: b, h => by
    have hl : a.length = b.length := by simpa using h
    have ih := cmpB_is a b hl
    have ha := numB_lt a
    have hb := numB_lt b
    rw [hl] at ha
    unfold Lib.compareBytes
    rw [numB, numB, hl]
    generalize 256 ^ b.length = P at *
    by_cases h1 : x < y
    · have h1' : x.toNat + 1 ≤ y.toNat := h1
      have h2 := Nat.mul_le_mul_right P h1'
      rw [Nat.add_mul, Nat.one_mul] at h2
      rw [if_pos h1, if_pos (by omega)]
    · by_cases h2 : y < x
      · have h1' : y.toNat + 1 ≤ x.toNat := h2
        have h3 := Nat.mul_le_mul_right P h1'
        rw [Nat.add_mul, Nat.one_mul] at h3
        rw [if_neg h1, if_pos h2, if_neg (by omega), if_pos (by omega)]
      · have he : x = y := by
          have e1 : ¬ x.toNat < y.toNat := h1
          have e2 : ¬ y.toNat < x.toNat := h2
          exact UInt8.toNat.inj (by omega)
        subst he
        rw [if_neg h1, if_neg h1, ih]
        by_cases g1 : numB a < numB b
        · rw [if_pos g1, if_pos (by omega)]
        · rw [if_neg g1, if_neg (by omega : ¬ x.toNat * P + numB a < x.toNat * P + numB b)]
          by_cases g2 : numB b < numB a
          · rw [if_pos g2, if_pos (by omega)]
          · rw [if_neg g2, if_neg (by omega)]
theorem numB_inj : ∀ (a b : List UInt8), a.length = b.length → numB a = numB b → a = b
  | [], [], _, _ => rfl
  | [], _ :: _, h, _ => by simp at h
  | _ :: _, [], h, _ => by simp at h
  | x :: a, y :: b, h, e => by
    have hl : a.length = b.length := by simpa using h
    have ha := numB_lt a
    have hb := numB_lt b
    rw [hl] at ha
    rw [numB, numB, hl] at e
    have hxy : x = y := by
      apply UInt8.toNat.inj
      generalize 256 ^ b.length = P at *
      rcases Nat.lt_trichotomy x.toNat y.toNat with g | g | g
      · have h2 := Nat.mul_le_mul_right P (show x.toNat + 1 ≤ y.toNat from g)
        rw [Nat.add_mul, Nat.one_mul] at h2
        omega
      · exact g
      · have h2 := Nat.mul_le_mul_right P (show y.toNat + 1 ≤ x.toNat from g)
        rw [Nat.add_mul, Nat.one_mul] at h2
        omega
    subst hxy
    rw [numB_inj a b hl (by omega)]
/-- does c stand ahead of d? -/
def Ahead (c d : C) : Prop := numB c.a < numB d.a ∨ (numB c.a = numB d.a ∧ c.n < d.n)
theorem cmpC_neg (c d : C) (h : c.a.length = d.a.length) : cmpC c d < 0 ↔ Ahead c d := by
  unfold cmpC Ahead
  rw [cmpB_is _ _ h]
  unfold Lib.compareInt
  by_cases h1 : numB c.a < numB d.a
  · simp [h1]
  · by_cases h2 : numB d.a < numB c.a
    · simp [h1, h2]; omega
    · have h3 : numB c.a = numB d.a := by omega
      simp only [h1, h2, if_false, ne_eq, not_true_eq_false, false_or, h3, true_and]
      split
      · omega
      · split <;> omega
/-- a Cidr of sixteen bytes -/
abbrev C16 := { c : C // c.a.length = 16 }
instance : Inhabited C16 := ⟨⟨⟨List.replicate 16 0, 0⟩, rfl⟩⟩
def cf16 (c d : C16) : Int := cmpC c.1 d.1
theorem lt16 (c d : C16) : Go.Proofs.ltOf cf16 c d = true ↔ Ahead c.1 d.1 := by
  unfold Go.Proofs.ltOf cf16
  rw [decide_eq_true_iff]
  exact cmpC_neg _ _ (by rw [c.2, d.2])
theorem lt16_no (c d : C16) : Go.Proofs.ltOf cf16 c d = false ↔ ¬ Ahead c.1 d.1 := by
  rw [← lt16]; simp
theorem swo16 : Sort.SWO (Go.Proofs.ltOf cf16) where
  irrefl x := by rw [lt16_no]; unfold Ahead; omega
  trans x y z h1 h2 := by rw [lt16] at *; unfold Ahead at *; omega
  ntrans x y z h1 h2 := by rw [lt16_no] at *; unfold Ahead at *; omega
theorem cmpLays16 (blk off size : Nat) (w : World) : Go.Proofs.CmpLays Tryd.prog 25 #[] (fun c : C16 => cL c.1) 17 cf16 blk off size w :=
  fun _ _ _ _ x y => compare_any x.1 y.1 x.2 y.2 _
end Go.Proofs.YtpbogmdmjeehpaaDoor.Ad
