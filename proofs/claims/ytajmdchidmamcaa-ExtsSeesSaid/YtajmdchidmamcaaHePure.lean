/-
  Plain facts: what a hello is, as bytes; what is read of bytes, what is wrong of a hello, what is printed, and that the two fit each other. No condition.
-/
import Derived.Test.YtajmdchidmamcaaBePure
namespace Go.Proofs.Ytajmdchidmamcaa.Be
open Go.RowKit Go.Proofs.Ytajmdchidmamcaa.Wd

theorem bytesOf_natOf (xs : List UInt8) : bytesOf (natOf xs : Int) xs.length = xs := by
  generalize hl : xs.length = k
  induction k generalizing xs with
  | zero => rw [List.eq_nil_of_length_eq_zero hl]; rfl
  | succ k ih =>
    have hne : xs ≠ [] := by intro h; subst h; cases hl
    obtain ⟨ys, c, rfl⟩ : ∃ ys c, xs = ys ++ [c] := ⟨xs.dropLast, xs.getLast hne, (List.dropLast_concat_getLast hne).symm⟩
    have hy : ys.length = k := by simpa using hl
    have hc := c.toNat_lt
    rw [natOf_snoc, bytesOf]
    have e1 : ((natOf ys * 256 + c.toNat : Nat) : Int) / 256 = (natOf ys : Int) := by omega
    have e2 : Go.Proofs.Ytajmdchidmamcaa.Be.byteOf ((natOf ys * 256 + c.toNat : Nat) : Int) = c := by
      unfold Go.Proofs.Ytajmdchidmamcaa.Be.byteOf
      apply UInt8.toNat.inj
      simp only [UInt8.toNat_ofNat']
      omega
    rw [e1, e2, ih ys hy]

theorem takeS_app (xs ys : List UInt8) (n : Int) (h : n = xs.length) : takeS (some (xs ++ ys)) n = (xs, some ys) := by
  subst h
  rw [takeS_in _ _ (by rw [List.length_append]; omega), List.take_left, List.drop_left]
theorem numS_app (n : Int) (ys : List UInt8) (size : Int) (k : Nat) (hk : clampI size = k) (h0 : 0 ≤ n) (h1 : n < 256 ^ k) : numS (some (bytesOf n k ++ ys)) size = (n.toNat, some ys) := by
  unfold numS
  rw [takeS_app _ _ _ (by rw [hk, bytesOf_length])]
  have h := natOf_bytesOf n k
  rw [Int.emod_eq_of_lt h0 h1] at h
  simp only
  congr 1
  omega
/-- a vector's bytes -/
def vecB (k : Nat) (x : List UInt8) : List UInt8 := bytesOf (x.length : Int) k ++ x
theorem vecB_len (k : Nat) (x : List UInt8) : (vecB k x).length = k + x.length := by rw [vecB, List.length_append, bytesOf_length]
theorem vecS_app (xs ys : List UInt8) (size : Int) (k : Nat) (hk : clampI size = k) (hl : (xs.length : Int) < 256 ^ k) : vecS (some (vecB k xs ++ ys)) size = (xs, some ys) := by
  unfold vecS vecB
  rw [List.append_assoc, numS_app _ _ _ k hk (by omega) hl]
  exact takeS_app _ _ _ (by simp)

theorem takeS_inv {st : Option (List UInt8)} {n : Int} {x t : List UInt8} (h : takeS st n = (x, some t)) : st = some (x ++ t) ∧ (x.length : Int) = n := by
  cases st with
  | none => cases h
  | some xs =>
    by_cases hn : 0 ≤ n ∧ n ≤ xs.length
    · obtain ⟨k, rfl⟩ := Int.eq_ofNat_of_zero_le hn.1
      rw [takeS_in _ _ (by omega)] at h
      injection h with h1 h2
      injection h2 with h2
      subst h1 h2
      exact ⟨by rw [List.take_append_drop], by rw [List.length_take]; omega⟩
    · rw [takeS_out _ _ hn] at h
      cases h
theorem numS_inv {st : Option (List UInt8)} {size : Int} {k : Nat} {n : Nat} {t : List UInt8} (hk : clampI size = k) (h : numS st size = (n, some t)) : st = some (bytesOf (n : Int) k ++ t) ∧ n < 256 ^ k := by
  unfold numS at h
  injection h with h1 h2
  obtain ⟨h3, h4⟩ := takeS_inv (x := (takeS st (clampI size)).1) (Prod.ext rfl h2)
  have hl : (takeS st (clampI size)).1.length = k := by omega
  have h5 := natOf_lt (takeS st (clampI size)).1
  have h6 := bytesOf_natOf (takeS st (clampI size)).1
  rw [h1, hl] at h6 h5
  exact ⟨by rw [h6]; exact h3, h5⟩
theorem vecS_inv {st : Option (List UInt8)} {size : Int} {k : Nat} {x t : List UInt8} (hk : clampI size = k) (h : vecS st size = (x, some t)) : st = some (vecB k x ++ t) ∧ (x.length : Int) < 256 ^ k := by
  unfold vecS at h
  obtain ⟨h1, h2⟩ := takeS_inv h
  obtain ⟨h3, h4⟩ := numS_inv hk (n := (numS st size).1) (Prod.ext rfl h1)
  rw [← h2] at h3
  have h6 : ((256 ^ k : Nat) : Int) = 256 ^ k := by rw [Int.natCast_pow]; rfl
  have h5 : ((numS st size).1 : Int) < 256 ^ k := by rw [← h6]; exact Int.ofNat_lt.2 h4
  exact ⟨by rw [h3, vecB, List.append_assoc], by omega⟩
end Go.Proofs.Ytajmdchidmamcaa.Be

namespace Go.Proofs.Ytajmdchidmamcaa.He
open Go.RowKit Go.Proofs.Ytajmdchidmamcaa.Wd Go.Proofs.Ytajmdchidmamcaa.Be

structure Hel where
  ver : Int
  rnd : List UInt8
  ses : List UInt8
  cph : List Int
  met : List UInt8
  has : Bool
  exts : List (Int × List UInt8)
def Hel.zero : Hel := ⟨0, List.replicate 32 0, [], [], [], false, []⟩

def two (n : Int) : List UInt8 := bytesOf n 2
def numsB (l : List Int) : List UInt8 := l.flatMap two
def extB (x : Int × List UInt8) : List UInt8 := two x.1 ++ vecB 2 x.2
def extsB (l : List (Int × List UInt8)) : List UInt8 := l.flatMap extB
def In2 (n : Int) : Prop := 0 ≤ n ∧ n < 65536

/-- numbers, one behind the other -/
def numsF : Nat → Option (List UInt8) → List Int × Bool
  | 0, st => ([], doneS st)
  | f + 1, st => if leftS st = 0 then ([], doneS st) else (((numS st 2).1 : Int) :: (numsF f (numS st 2).2).1, (numsF f (numS st 2).2).2)
def numsS (b : List UInt8) : List Int × Bool := numsF (b.length + 1) (some b)
/-- extensions, one behind the other -/
def extsF : Nat → Option (List UInt8) → List (Int × List UInt8) × Bool
  | 0, st => ([], doneS st)
  | f + 1, st => if leftS st = 0 then ([], doneS st) else ((((numS st 2).1 : Int), (vecS (numS st 2).2 2).1) :: (extsF f (vecS (numS st 2).2 2).2).1, (extsF f (vecS (numS st 2).2 2).2).2)
def extsS (b : List UInt8) : List (Int × List UInt8) × Bool := extsF (b.length + 1) (some b)

theorem two_len (n : Int) : (two n).length = 2 := bytesOf_length n 2
theorem numsF_in : ∀ (l : List Int) (f : Nat), (∀ n ∈ l, In2 n) → 2 * l.length < f → numsF f (some (numsB l)) = (l, true)
  | [], 0, _, h => by simp at h
  | [], f + 1, _, _ => rfl
  | n :: l, 0, _, h => by simp at h
  | n :: l, f + 1, hl, h => by
    have hn := hl n (by simp)
    have e : numsB (n :: l) = two n ++ numsB l := by simp [numsB]
    have h0 : ¬ leftS (some (two n ++ numsB l)) = 0 := by simp [leftS, two_len]
    rw [e, numsF, if_neg h0]
    have h1 : numS (some (two n ++ numsB l)) 2 = (n.toNat, some (numsB l)) := numS_app n _ 2 2 (by decide) hn.1 hn.2
    rw [h1]
    have h2 := numsF_in l f (fun m hm => hl m (by simp [hm])) (by simp at h; omega)
    have h3 : ((n.toNat : Nat) : Int) = n := Int.toNat_of_nonneg hn.1
    simp only [h2, h3]
theorem numsB_len (l : List Int) : (numsB l).length = 2 * l.length := by
  induction l with
  | nil => rfl
  | cons n l ih => rw [show numsB (n :: l) = two n ++ numsB l by simp [numsB], List.length_append, ih, two_len, List.length_cons]; omega
theorem numsS_in (l : List Int) (h : ∀ n ∈ l, In2 n) : numsS (numsB l) = (l, true) := numsF_in l _ h (by rw [numsB_len]; omega)
theorem numsF_inv : ∀ (f : Nat) (st : Option (List UInt8)), leftS st < f → (numsF f st).2 = true → st = some (numsB (numsF f st).1) ∧ ∀ n ∈ (numsF f st).1, In2 n
  | 0, st, h, _ => by simp at h
  | f + 1, st, h, hd => by
    by_cases h0 : leftS st = 0
    · have e : numsF (f + 1) st = ([], doneS st) := by rw [numsF, if_pos h0]
      rw [e] at hd ⊢
      cases st with
      | none => cases hd
      | some b => exact ⟨by rw [List.eq_nil_of_length_eq_zero h0]; rfl, by simp⟩
    · rw [numsF, if_neg h0] at hd ⊢
      simp only at hd ⊢
      cases hq : (numS st 2).2 with
      | none =>
        rw [hq] at hd
        cases f with
        | zero => cases hd
        | succ f => rw [numsF, if_pos (show leftS none = 0 from rfl)] at hd; cases hd
      | some t =>
        obtain ⟨h1, h2⟩ := numS_inv (k := 2) (by decide) (n := (numS st 2).1) (Prod.ext rfl hq)
        have hl : leftS st = 2 + t.length := by rw [h1]; simp [leftS, bytesOf_length]
        rw [hq] at hd
        obtain ⟨h3, h4⟩ := numsF_inv f (some t) (by show t.length < f; omega) hd
        injection h3 with h3
        refine ⟨?_, fun n hn => ?_⟩
        · conv => lhs; rw [h1]
          congr 1
          rw [show numsB (((numS st 2).1 : Int) :: (numsF f (some t)).1) = two ((numS st 2).1 : Int) ++ numsB (numsF f (some t)).1 by simp [numsB], ← h3]
          rfl
        · rcases List.mem_cons.1 hn with rfl | hn
          · exact ⟨by omega, by have : (256 : Nat) ^ 2 = 65536 := rfl; omega⟩
          · exact h4 n hn
theorem numsS_inv {b : List UInt8} (h : (numsS b).2 = true) : b = numsB (numsS b).1 ∧ ∀ n ∈ (numsS b).1, In2 n := by
  obtain ⟨h1, h2⟩ := numsF_inv (b.length + 1) (some b) (by show b.length < _; omega) h
  injection h1 with h1
  exact ⟨h1, h2⟩

def InX (x : Int × List UInt8) : Prop := In2 x.1 ∧ x.2.length < 65536
theorem extB_len (x : Int × List UInt8) : (extB x).length = 4 + x.2.length := by rw [extB, List.length_append, two_len, vecB_len]; omega
theorem extsB_cons (x : Int × List UInt8) (l : List (Int × List UInt8)) : extsB (x :: l) = two x.1 ++ (vecB 2 x.2 ++ extsB l) := by simp [extsB, extB]
theorem extsF_in : ∀ (l : List (Int × List UInt8)) (f : Nat), (∀ x ∈ l, InX x) → (extsB l).length < f → extsF f (some (extsB l)) = (l, true)
  | [], 0, _, h => by simp at h
  | [], f + 1, _, _ => rfl
  | x :: l, 0, _, h => by simp at h
  | x :: l, f + 1, hl, h => by
    have hx := hl x (by simp)
    rw [extsB_cons] at h ⊢
    have h0 : ¬ leftS (some (two x.1 ++ (vecB 2 x.2 ++ extsB l))) = 0 := by simp [leftS, two_len]
    rw [extsF, if_neg h0]
    have h1 : numS (some (two x.1 ++ (vecB 2 x.2 ++ extsB l))) 2 = (x.1.toNat, some (vecB 2 x.2 ++ extsB l)) := numS_app x.1 _ 2 2 (by decide) hx.1.1 hx.1.2
    have h2 : vecS (some (vecB 2 x.2 ++ extsB l)) 2 = (x.2, some (extsB l)) := vecS_app _ _ 2 2 (by decide) (by have := hx.2; have e : (256 : Int) ^ 2 = 65536 := rfl; omega)
    rw [h1]
    simp only
    rw [h2]
    have h3 := extsF_in l f (fun m hm => hl m (by simp [hm])) (by simp [two_len, vecB_len] at h; omega)
    have h4 : ((x.1.toNat : Nat) : Int) = x.1 := Int.toNat_of_nonneg hx.1.1
    simp only [h3, h4]
theorem extsS_in (l : List (Int × List UInt8)) (h : ∀ x ∈ l, InX x) : extsS (extsB l) = (l, true) := extsF_in l _ h (by omega)
theorem extsF_none (f : Nat) : extsF f none = ([], false) := by
  cases f with
  | zero => rfl
  | succ f => rw [extsF, if_pos (show leftS none = 0 from rfl)]; rfl
theorem extsF_inv : ∀ (f : Nat) (st : Option (List UInt8)), leftS st < f → (extsF f st).2 = true → st = some (extsB (extsF f st).1) ∧ ∀ x ∈ (extsF f st).1, InX x
  | 0, st, h, _ => by simp at h
  | f + 1, st, h, hd => by
    by_cases h0 : leftS st = 0
    · have e : extsF (f + 1) st = ([], doneS st) := by rw [extsF, if_pos h0]
      rw [e] at hd ⊢
      cases st with
      | none => cases hd
      | some b => exact ⟨by rw [List.eq_nil_of_length_eq_zero h0]; rfl, by simp⟩
    · rw [extsF, if_neg h0] at hd ⊢
      simp only at hd ⊢
      cases hq : (vecS (numS st 2).2 2).2 with
      | none => rw [hq, extsF_none] at hd; cases hd
      | some t =>
        obtain ⟨h5, h6⟩ := vecS_inv (k := 2) (by decide) (x := (vecS (numS st 2).2 2).1) (Prod.ext rfl hq)
        obtain ⟨h1, h2⟩ := numS_inv (k := 2) (by decide) (n := (numS st 2).1) (Prod.ext rfl h5)
        have hl : leftS st = 2 + ((vecS (numS st 2).2 2).1.length + (2 + t.length)) := by
          conv => lhs; rw [h1]
          simp [leftS, bytesOf_length, vecB_len]; omega
        rw [hq] at hd
        obtain ⟨h3, h4⟩ := extsF_inv f (some t) (by show t.length < f; omega) hd
        injection h3 with h3
        refine ⟨?_, fun x hx => ?_⟩
        · rw [extsB_cons]
          conv => lhs; rw [h1]
          rw [← h3]
          rfl
        · have e : (256 : Nat) ^ 2 = 65536 := rfl
          have e' : (256 : Int) ^ 2 = 65536 := rfl
          rcases List.mem_cons.1 hx with rfl | hx
          · exact ⟨⟨by show (0 : Int) ≤ ((numS st 2).1 : Nat); omega, by show (((numS st 2).1 : Nat) : Int) < 65536; omega⟩, by show (vecS (numS st 2).2 2).1.length < 65536; omega⟩
          · exact h4 x hx
theorem extsS_inv {b : List UInt8} (h : (extsS b).2 = true) : b = extsB (extsS b).1 ∧ ∀ x ∈ (extsS b).1, InX x := by
  obtain ⟨h1, h2⟩ := extsF_inv (b.length + 1) (some b) (by show b.length < _; omega) h
  injection h1 with h1
  exact ⟨h1, h2⟩
end Go.Proofs.Ytajmdchidmamcaa.He
