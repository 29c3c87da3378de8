/-
 Plain facts on bytes and numbers, and on what a reader of package be does.
-/
import Derived.Test.YthfknndjdfofgaaGreatDoorR01
namespace Go.Proofs.YthfknndjdfofgaaGreatDoor.Be
open Go.RowKit Go.Proofs.YthfknndjdfofgaaGreatDoor.Wd

theorem natOf_bytesOf (n : Int) (k : Nat) : (natOf (bytesOf n k) : Int) = n % 256 ^ k := by
 induction k generalizing n with
 | zero => simp [bytesOf, natOf, Int.emod_one]
 | succ k ih =>
   rw [bytesOf, natOf_snoc]
   have h1 : (((Go.Proofs.YthfknndjdfofgaaGreatDoor.Be.byteOf n).toNat : Nat) : Int) = n % 256 := by
     unfold Go.Proofs.YthfknndjdfofgaaGreatDoor.Be.byteOf
     simp only [UInt8.toNat_ofNat']
     omega
   rw [Int.natCast_add, Int.natCast_mul, ih, h1, Int.pow_succ]
   have hP : (0 : Int) < 256 ^ k := Int.pow_pos (by omega)
   generalize (256 : Int) ^ k = P at *
   have hX := Int.mul_ediv_add_emod (n / 256) P
   have hX0 := Int.emod_nonneg (n / 256) (show P ≠ 0 by omega)
   have hX1 := Int.emod_lt_of_pos (n / 256) hP
   refine ((Int.ediv_emod_unique (a := n) (b := P * 256) (r := n / 256 % P * (256 : Nat) + n % 256) (q := n / 256 / P) (by omega)).2 ⟨?_, by omega, by omega⟩).2.symm
   have e : P * 256 * (n / 256 / P) = 256 * (P * (n / 256 / P)) := by rw [Int.mul_comm P 256, Int.mul_assoc]
   rw [e]
   omega
theorem takeS_in (xs : List UInt8) (k : Nat) (h : k ≤ xs.length) : takeS (some xs) (k : Int) = (xs.take k, some (xs.drop k)) := by
 show (if 0 ≤ (k : Int) ∧ (k : Int) ≤ xs.length then (xs.take (k : Int).toNat, some (xs.drop (k : Int).toNat)) else ([], none)) = _
 rw [if_pos (by omega), Int.toNat_natCast]
theorem takeS_out (xs : List UInt8) (n : Int) (h : ¬ (0 ≤ n ∧ n ≤ xs.length)) : takeS (some xs) n = ([], none) := if_neg h
end Go.Proofs.YthfknndjdfofgaaGreatDoor.Be

/-
 Plain facts: what a hello is, as bytes; what is read of bytes, what is wrong of a hello, what is printed, and that the two fit each other. No condition.
-/
namespace Go.Proofs.YthfknndjdfofgaaGreatDoor.Be
open Go.RowKit Go.Proofs.YthfknndjdfofgaaGreatDoor.Wd

theorem bytesOf_natOf (xs : List UInt8) : bytesOf (natOf xs : Int) xs.length = xs := by
 generalize hl : xs.length = k
 induction k generalizing xs with
 | zero => rw [List.eq_nil_of_length_eq_zero hl]; rfl
 | succ k ih =>
   have hne : xs ≠ [] := by intro h; subst h; cases hl
   obtain ⟨ys, c, rfl⟩ : ∃ ys c, xs = ys ++ [c] := ⟨xs.dropLast, xs.getLast hne, (List.dropLast_concat_getLast hne).symm⟩
   have hy : ys.length = k := by simpa using hl
   have hc := c.toNat_lt
   rw [natOf_snoc, bytesOf]
   have e1 : ((natOf ys * 256 + c.toNat : Nat) : Int) / 256 = (natOf ys : Int) := by omega
   have e2 : Go.Proofs.YthfknndjdfofgaaGreatDoor.Be.byteOf ((natOf ys * 256 + c.toNat : Nat) : Int) = c := by
     unfold Go.Proofs.YthfknndjdfofgaaGreatDoor.Be.byteOf
     apply UInt8.toNat.inj
     simp only [UInt8.toNat_ofNat']
     omega
   rw [e1, e2, ih ys hy]

theorem takeS_app (xs ys : List UInt8) (n : Int) (h : n = xs.length) : takeS (some (xs ++ ys)) n = (xs, some ys) := by
 subst h
 rw [takeS_in _ _ (by rw [List.length_append]; omega), List.take_left, List.drop_left]
theorem numS_app (n : Int) (ys : List UInt8) (size : Int) (k : Nat) (hk : clampI size = k) (h0 : 0 ≤ n) (h1 : n < 256 ^ k) : numS (some (bytesOf n k ++ ys)) size = (n.toNat, some ys) := by
 unfold numS
 rw [takeS_app _ _ _ (by rw [hk, bytesOf_length])]
 have h := natOf_bytesOf n k
 rw [Int.emod_eq_of_lt h0 h1] at h
 simp only
 congr 1
 omega
def vecB (k : Nat) (x : List UInt8) : List UInt8 := bytesOf (x.length : Int) k ++ x
theorem vecB_len (k : Nat) (x : List UInt8) : (vecB k x).length = k + x.length := by rw [vecB, List.length_append, bytesOf_length]
theorem vecS_app (xs ys : List UInt8) (size : Int) (k : Nat) (hk : clampI size = k) (hl : (xs.length : Int) < 256 ^ k) : vecS (some (vecB k xs ++ ys)) size = (xs, some ys) := by
 unfold vecS vecB
 rw [List.append_assoc, numS_app _ _ _ k hk (by omega) hl]
 exact takeS_app _ _ _ (by simp)

theorem takeS_inv {st : Option (List UInt8)} {n : Int} {x t : List UInt8} (h : takeS st n = (x, some t)) : st = some (x ++ t) ∧ (x.length : Int) = n := by
 cases st with
 | none => cases h
 | some xs =>
   by_cases hn : 0 ≤ n ∧ n ≤ xs.length
   · obtain ⟨k, rfl⟩ := Int.eq_ofNat_of_zero_le hn.1
     rw [takeS_in _ _ (by omega)] at h
     injection h with h1 h2
     injection h2 with h2
     subst h1 h2
     exact ⟨by rw [List.take_append_drop], by rw [List.length_take]; omega⟩
   · rw [takeS_out _ _ hn] at h
     cases h
theorem numS_inv {st : Option (List UInt8)} {size : Int} {k : Nat} {n : Nat} {t : List UInt8} (hk : clampI size = k) (h : numS st size = (n, some t)) : st = some (bytesOf (n : Int) k ++ t) ∧ n < 256 ^ k := by
 unfold numS at h
 injection h with h1 h2
 obtain ⟨h3, h4⟩ := takeS_inv (x := (takeS st (clampI size)).1) (Prod.ext rfl h2)
 have hl : (takeS st (clampI size)).1.length = k := by omega
 have h5 := natOf_lt (takeS st (clampI size)).1
 have h6 := bytesOf_natOf (takeS st (clampI size)).1
 rw [h1, hl] at h6 h5
 exact ⟨by rw [h6]; exact h3, h5⟩
theorem vecS_inv {st : Option (List UInt8)} {size : Int} {k : Nat} {x t : List UInt8} (hk : clampI size = k) (h : vecS st size = (x, some t)) : st = some (vecB k x ++ t) ∧ (x.length : Int) < 256 ^ k := by
 unfold vecS at h
 obtain ⟨h1, h2⟩ := takeS_inv h
 obtain ⟨h3, h4⟩ := numS_inv hk (n := (numS st size).1) (Prod.ext rfl h1)
 rw [← h2] at h3
 have h6 : ((256 ^ k : Nat) : Int) = 256 ^ k := by rw [Int.natCast_pow]; rfl
 have h5 : ((numS st size).1 : Int) < 256 ^ k := by rw [← h6]; exact Int.ofNat_lt.2 h4
 exact ⟨by rw [h3, vecB, List.append_assoc], by omega⟩
end Go.Proofs.YthfknndjdfofgaaGreatDoor.Be

namespace Go.Proofs.YthfknndjdfofgaaGreatDoor.He
open Go.RowKit Go.Proofs.YthfknndjdfofgaaGreatDoor.Wd Go.Proofs.YthfknndjdfofgaaGreatDoor.Be

structure Hel where
 ver : Int
 rnd : List UInt8
 ses : List UInt8
 cph : List Int
 met : List UInt8
 has : Bool
 exts : List (Int × List UInt8)
def Hel.zero : Hel := ⟨0, List.replicate 32 0, [], [], [], false, []⟩

def two (n : Int) : List UInt8 := bytesOf n 2
def numsB (l : List Int) : List UInt8 := l.flatMap two
def extB (x : Int × List UInt8) : List UInt8 := two x.1 ++ vecB 2 x.2
def extsB (l : List (Int × List UInt8)) : List UInt8 := l.flatMap extB
def In2 (n : Int) : Prop := 0 ≤ n ∧ n < 65536

def numsF : Nat → Option (List UInt8) → List Int × Bool
 | 0, st => ([], doneS st)
 | f + 1, st => if leftS st = 0 then ([], doneS st) else (((numS st 2).1 : Int) :: (numsF f (numS st 2).2).1, (numsF f (numS st 2).2).2)
def numsS (b : List UInt8) : List Int × Bool := numsF (b.length + 1) (some b)
def extsF : Nat → Option (List UInt8) → List (Int × List UInt8) × Bool
 | 0, st => ([], doneS st)
 | f + 1, st => if leftS st = 0 then ([], doneS st) else ((((numS st 2).1 : Int), (vecS (numS st 2).2 2).1) :: (extsF f (vecS (numS st 2).2 2).2).1, (extsF f (vecS (numS st 2).2 2).2).2)
def extsS (b : List UInt8) : List (Int × List UInt8) × Bool := extsF (b.length + 1) (some b)

theorem two_len (n : Int) : (two n).length = 2 := bytesOf_length n 2
theorem numsF_in : ∀ (l : List Int) (f : Nat), (∀ n ∈ l, In2 n) → 2 * l.length < f → numsF f (some (numsB l)) = (l, true)
 | [], 0, _, h => by simp at h
 | [], f + 1, _, _ => rfl
 | n :: l, 0, _, h => by simp at h
 | n :: l, f + 1, hl, h => by
   have hn := hl n (by simp)
   have e : numsB (n :: l) = two n ++ numsB l := by simp [numsB]
   have h0 : ¬ leftS (some (two n ++ numsB l)) = 0 := by simp [leftS, two_len]
   rw [e, numsF, if_neg h0]
   have h1 : numS (some (two n ++ numsB l)) 2 = (n.toNat, some (numsB l)) := numS_app n _ 2 2 (by decide) hn.1 hn.2
   rw [h1]
   have h2 := numsF_in l f (fun m hm => hl m (by simp [hm])) (by simp at h; omega)
   have h3 : ((n.toNat : Nat) : Int) = n := Int.toNat_of_nonneg hn.1
   simp only [h2, h3]
theorem numsB_len (l : List Int) : (numsB l).length = 2 * l.length := by
 induction l with
 | nil => rfl
 | cons n l ih => rw [show numsB (n :: l) = two n ++ numsB l by simp [numsB], List.length_append, ih, two_len, List.length_cons]; omega
theorem numsS_in (l : List Int) (h : ∀ n ∈ l, In2 n) : numsS (numsB l) = (l, true) := numsF_in l _ h (by rw [numsB_len]; omega)
theorem numsF_inv : ∀ (f : Nat) (st : Option (List UInt8)), leftS st < f → (numsF f st).2 = true → st = some (numsB (numsF f st).1) ∧ ∀ n ∈ (numsF f st).1, In2 n
 | 0, st, h, _ => by simp at h
 | f + 1, st, h, hd => by
   by_cases h0 : leftS st = 0
   · have e : numsF (f + 1) st = ([], doneS st) := by rw [numsF, if_pos h0]
     rw [e] at hd ⊢
     cases st with
     | none => cases hd
     | some b => exact ⟨by rw [List.eq_nil_of_length_eq_zero h0]; rfl, by simp⟩
   · rw [numsF, if_neg h0] at hd ⊢
     simp only at hd ⊢
     cases hq : (numS st 2).2 with
     | none =>
       rw [hq] at hd
       cases f with
       | zero => cases hd
       | succ f => rw [numsF, if_pos (show leftS none = 0 from rfl)] at hd; cases hd
     | some t =>
       obtain ⟨h1, h2⟩ := numS_inv (k := 2) (by decide) (n := (numS st 2).1) (Prod.ext rfl hq)
       have hl : leftS st = 2 + t.length := by rw [h1]; simp [leftS, bytesOf_length]
       rw [hq] at hd
       obtain ⟨h3, h4⟩ := numsF_inv f (some t) (by show t.length < f; omega) hd
       injection h3 with h3
       refine ⟨?_, fun n hn => ?_⟩
       · conv => lhs; rw [h1]
         congr 1
         rw [show numsB (((numS st 2).1 : Int) :: (numsF f (some t)).1) = two ((numS st 2).1 : Int) ++ numsB (numsF f (some t)).1 by simp [numsB], ← h3]
         rfl
       · rcases List.mem_cons.1 hn with rfl | hn
         · exact ⟨by omega, by have : (256 : Nat) ^ 2 = 65536 := rfl; omega⟩
         · exact h4 n hn
theorem numsS_inv {b : List UInt8} (h : (numsS b).2 = true) : b = numsB (numsS b).1 ∧ ∀ n ∈ (numsS b).1, In2 n := by
 obtain ⟨h1, h2⟩ := numsF_inv (b.length + 1) (some b) (by show b.length < _; omega) h
 injection h1 with h1
 exact ⟨h1, h2⟩

def InX (x : Int × List UInt8) : Prop := In2 x.1 ∧ x.2.length < 65536
theorem extsB_cons (x : Int × List UInt8) (l : List (Int × List UInt8)) : extsB (x :: l) = two x.1 ++ (vecB 2 x.2 ++ extsB l) := by simp [extsB, extB]
theorem extsF_in : ∀ (l : List (Int × List UInt8)) (f : Nat), (∀ x ∈ l, InX x) → (extsB l).length < f → extsF f (some (extsB l)) = (l, true)
 | [], 0, _, h => by simp at h
 | [], f + 1, _, _ => rfl
 | x :: l, 0, _, h => by simp at h
 | x :: l, f + 1, hl, h => by
   have hx := hl x (by simp)
   rw [extsB_cons] at h ⊢
   have h0 : ¬ leftS (some (two x.1 ++ (vecB 2 x.2 ++ extsB l))) = 0 := by simp [leftS, two_len]
   rw [extsF, if_neg h0]
   have h1 : numS (some (two x.1 ++ (vecB 2 x.2 ++ extsB l))) 2 = (x.1.toNat, some (vecB 2 x.2 ++ extsB l)) := numS_app x.1 _ 2 2 (by decide) hx.1.1 hx.1.2
   have h2 : vecS (some (vecB 2 x.2 ++ extsB l)) 2 = (x.2, some (extsB l)) := vecS_app _ _ 2 2 (by decide) (by have := hx.2; have e : (256 : Int) ^ 2 = 65536 := rfl; omega)
   rw [h1]
   simp only
   rw [h2]
   have h3 := extsF_in l f (fun m hm => hl m (by simp [hm])) (by simp [two_len, vecB_len] at h; omega)
   have h4 : ((x.1.toNat : Nat) : Int) = x.1 := Int.toNat_of_nonneg hx.1.1
   simp only [h3, h4]
theorem extsS_in (l : List (Int × List UInt8)) (h : ∀ x ∈ l, InX x) : extsS (extsB l) = (l, true) := extsF_in l _ h (by omega)
theorem extsF_none (f : Nat) : extsF f none = ([], false) := by
 cases f with
 | zero => rfl
 | succ f => rw [extsF, if_pos (show leftS none = 0 from rfl)]; rfl
theorem extsF_inv : ∀ (f : Nat) (st : Option (List UInt8)), leftS st < f → (extsF f st).2 = true → st = some (extsB (extsF f st).1) ∧ ∀ x ∈ (extsF f st).1, InX x
 | 0, st, h, _ => by simp at h
 | f + 1, st, h, hd => by
   by_cases h0 : leftS st = 0
   · have e : extsF (f + 1) st = ([], doneS st) := by rw [extsF, if_pos h0]
     rw [e] at hd ⊢
     cases st with
     | none => cases hd
     | some b => exact ⟨by rw [List.eq_nil_of_length_eq_zero h0]; rfl, by simp⟩
   · rw [extsF, if_neg h0] at hd ⊢
     simp only at hd ⊢
     cases hq : (vecS (numS st 2).2 2).2 with
     | none => rw [hq, extsF_none] at hd; cases hd
     | some t =>
       obtain ⟨h5, h6⟩ := vecS_inv (k := 2) (by decide) (x := (vecS (numS st 2).2 2).1) (Prod.ext rfl hq)
       obtain ⟨h1, h2⟩ := numS_inv (k := 2) (by decide) (n := (numS st 2).1) (Prod.ext rfl h5)
       have hl : leftS st = 2 + ((vecS (numS st 2).2 2).1.length + (2 + t.length)) := by
         conv => lhs; rw [h1]
         simp [leftS, bytesOf_length, vecB_len]; omega
       rw [hq] at hd
       obtain ⟨h3, h4⟩ := extsF_inv f (some t) (by show t.length < f; omega) hd
       injection h3 with h3
       refine ⟨?_, fun x hx => ?_⟩
       · rw [extsB_cons]
         conv => lhs; rw [h1]
         rw [← h3]
         rfl
       · have e : (256 : Nat) ^ 2 = 65536 := rfl
         have e' : (256 : Int) ^ 2 = 65536 := rfl
         rcases List.mem_cons.1 hx with rfl | hx
         · exact ⟨⟨by show (0 : Int) ≤ ((numS st 2).1 : Nat); omega, by show (((numS st 2).1 : Nat) : Int) < 65536; omega⟩, by show (vecS (numS st 2).2 2).1.length < 65536; omega⟩
         · exact h4 x hx
theorem extsS_inv {b : List UInt8} (h : (extsS b).2 = true) : b = extsB (extsS b).1 ∧ ∀ x ∈ (extsS b).1, InX x := by
 obtain ⟨h1, h2⟩ := extsF_inv (b.length + 1) (some b) (by show b.length < _; omega) h
 injection h1 with h1
 exact ⟨h1, h2⟩
end Go.Proofs.YthfknndjdfofgaaGreatDoor.He

/-
 Plain facts: what bytes tell as a hello, what is wrong of it, and that what is laid is read as it was, and what is read is laid as it was; bytes of which some are missing. No condition.
-/
namespace Go.Proofs.YthfknndjdfofgaaGreatDoor.He
open Go.RowKit Go.Proofs.YthfknndjdfofgaaGreatDoor.Wd Go.Proofs.YthfknndjdfofgaaGreatDoor.Be

def rowR (t : List UInt8) : List UInt8 := t ++ List.replicate (32 - t.length) 0
def sV (b : List UInt8) : Nat × Option (List UInt8) := numS (some b) 2
def sR (b : List UInt8) : List UInt8 × Option (List UInt8) := takeS (sV b).2 32
def sS (b : List UInt8) : List UInt8 × Option (List UInt8) := vecS (sR b).2 1
def sC (b : List UInt8) : List UInt8 × Option (List UInt8) := vecS (sS b).2 2
def sM (b : List UInt8) : List UInt8 × Option (List UInt8) := vecS (sC b).2 1
def hasS (b : List UInt8) : Bool := decide (0 < leftS (sM b).2)
def sX (b : List UInt8) : List UInt8 × Option (List UInt8) := if hasS b = true then vecS (sM b).2 2 else ([], (sM b).2)
def eS (b : List UInt8) : List (Int × List UInt8) × Bool := if hasS b = true then extsS (sX b).1 else ([], true)
def helS (b : List UInt8) : Hel := ⟨((sV b).1 : Int), rowR (sR b).1, (sS b).1, (numsS (sC b).1).1, (sM b).1, hasS b, (eS b).1⟩
def okS (b : List UInt8) : Bool := doneS (sX b).2 && (numsS (sC b).1).2 && (eS b).2 && (decide (0 < (numsS (sC b).1).1.length) && decide (0 < (sM b).1.length))
def wrongS (h : Hel) : Int := if h.ver.tdiv 256 ≠ 3 then 5 else if 32 < h.ses.length then 6 else if (0 : UInt8) ∉ h.met then 8 else if ¬ (h.exts.map (·.1)).Nodup then 7 else 0
def parseS (b : List UInt8) : Hel × Int := if okS b = true then (if wrongS (helS b) = 0 then (helS b, 0) else (Hel.zero, wrongS (helS b))) else (Hel.zero, 3)

def headB (h : Hel) : List UInt8 := two h.ver ++ (h.rnd ++ (vecB 1 h.ses ++ (vecB 2 (numsB h.cph) ++ vecB 1 h.met)))
def tailB (h : Hel) : List UInt8 := if h.has = true then vecB 2 (extsB h.exts) else []
def layS (h : Hel) : List UInt8 := headB h ++ tailB h
structure Form (h : Hel) : Prop where
 ver : In2 h.ver
 rnd : h.rnd.length = 32
 ses : h.ses.length < 256
 cph : ∀ n ∈ h.cph, In2 n
 c0 : h.cph ≠ []
 cl : h.cph.length < 32768
 m0 : h.met ≠ []
 ml : h.met.length < 256
 bare : h.has = false → h.exts = []
 ex : ∀ x ∈ h.exts, InX x
 el : (extsB h.exts).length < 65536

theorem pow1 : (256 : Int) ^ 1 = 256 := rfl
theorem pow2 : (256 : Int) ^ 2 = 65536 := rfl
theorem head_in {h : Hel} (f : Form h) (t : List UInt8) : (sV (headB h ++ t)).1 = h.ver.toNat ∧ (sR (headB h ++ t)).1 = h.rnd ∧ (sS (headB h ++ t)).1 = h.ses ∧ (sC (headB h ++ t)).1 = numsB h.cph ∧ sM (headB h ++ t) = (h.met, some t) := by
 have e1 : sV (headB h ++ t) = (h.ver.toNat, some (h.rnd ++ (vecB 1 h.ses ++ (vecB 2 (numsB h.cph) ++ (vecB 1 h.met ++ t))))) := by
   have : headB h ++ t = bytesOf h.ver 2 ++ (h.rnd ++ (vecB 1 h.ses ++ (vecB 2 (numsB h.cph) ++ (vecB 1 h.met ++ t)))) := by simp [headB, two]
   rw [sV, this]
   exact numS_app _ _ 2 2 (by decide) f.ver.1 f.ver.2
 have e2 : sR (headB h ++ t) = (h.rnd, some (vecB 1 h.ses ++ (vecB 2 (numsB h.cph) ++ (vecB 1 h.met ++ t)))) := by
   rw [sR, e1]
   exact takeS_app _ _ _ (by rw [f.rnd]; rfl)
 have e3 : sS (headB h ++ t) = (h.ses, some (vecB 2 (numsB h.cph) ++ (vecB 1 h.met ++ t))) := by
   rw [sS, e2]
   exact vecS_app _ _ 1 1 (by decide) (by have := f.ses; rw [pow1]; omega)
 have e4 : sC (headB h ++ t) = (numsB h.cph, some (vecB 1 h.met ++ t)) := by
   rw [sC, e3]
   exact vecS_app _ _ 2 2 (by decide) (by have := f.cl; rw [numsB_len, pow2]; omega)
 have e5 : sM (headB h ++ t) = (h.met, some t) := by
   rw [sM, e4]
   exact vecS_app _ _ 1 1 (by decide) (by have := f.ml; rw [pow1]; omega)
 exact ⟨by rw [e1], by rw [e2], by rw [e3], by rw [e4], e5⟩

theorem form_in {h : Hel} (f : Form h) : okS (layS h) = true ∧ helS (layS h) = h := by
 obtain ⟨e1, e2, e3, e4, e5⟩ := head_in f (tailB h)
 change (sV (layS h)).1 = _ at e1
 change (sR (layS h)).1 = _ at e2
 change (sS (layS h)).1 = _ at e3
 change (sC (layS h)).1 = _ at e4
 change sM (layS h) = _ at e5
 have e6 := numsS_in h.cph f.cph
 rw [← e4] at e6
 have e7 : hasS (layS h) = h.has := by
   rw [hasS, e5]
   cases hh : h.has with
   | false => simp [tailB, hh, leftS]
   | true => simp [tailB, hh, leftS, vecB_len]; omega
 have e8 : doneS (sX (layS h)).2 = true ∧ eS (layS h) = (h.exts, true) := by
   unfold eS sX
   rw [e7, e5]
   cases hh : h.has with
   | false =>
     rw [f.bare hh]
     simp [tailB, hh, doneS]
   | true =>
     have e9 : vecS (some (tailB h)) 2 = (extsB h.exts, some []) := by
       have e10 := vecS_app (extsB h.exts) [] 2 2 (by decide) (by have := f.el; rw [pow2]; omega)
       rw [List.append_nil] at e10
       rw [tailB, if_pos hh]
       exact e10
     simp only [if_true]
     rw [e9]
     exact ⟨rfl, extsS_in _ f.ex⟩
 have hc := List.length_pos_iff.2 f.c0
 have hm := List.length_pos_iff.2 f.m0
 refine ⟨?_, ?_⟩
 · unfold okS
   rw [e6, e8.1, e8.2, e5]
   simp [hc, hm]
 · unfold helS
   rw [e1, e2, e3, e6, e5, e7, e8.2, Int.toNat_of_nonneg f.ver.1]
   have : rowR h.rnd = h.rnd := by simp [rowR, f.rnd]
   rw [this]

theorem form_inv {b : List UInt8} (h : okS b = true) : Form (helS b) ∧ layS (helS b) = b := by
 unfold okS at h
 simp only [Bool.and_eq_true, decide_eq_true_eq] at h
 obtain ⟨⟨⟨hd, hn⟩, he⟩, hc0, hm0⟩ := h
 obtain ⟨t6, hx⟩ : ∃ t, (sX b).2 = some t := by
   cases hq : (sX b).2 with
   | none => rw [hq] at hd; cases hd
   | some t => exact ⟨t, rfl⟩
 rw [hx] at hd
 have ht6 : t6 = [] := by simpa [doneS] using hd
 subst ht6
 obtain ⟨n1, n2⟩ := numsS_inv hn
 -- the state behind the methods
 obtain ⟨t5, h5, h6⟩ : ∃ t5, (sM b).2 = some t5 ∧ t5 = (if hasS b = true then vecB 2 (extsB (eS b).1) else []) ∧ (∀ x ∈ (eS b).1, InX x) ∧ (extsB (eS b).1).length < 65536 ∧ (hasS b = false → (eS b).1 = []) := by
   cases hh : hasS b with
   | false =>
     have e1 : eS b = ([], true) := by rw [eS, hh]; rfl
     have e2 : sX b = ([], (sM b).2) := by rw [sX, hh]; rfl
     rw [e2] at hx
     rw [e1]
     exact ⟨[], hx, rfl, by simp, by simp [extsB], fun _ => rfl⟩
   | true =>
     have e1 : eS b = extsS (sX b).1 := by rw [eS, hh]; rfl
     have e2 : sX b = vecS (sM b).2 2 := by rw [sX, hh]; rfl
     rw [e1] at he ⊢
     obtain ⟨h1, h2⟩ := extsS_inv he
     have h3 : vecS (sM b).2 2 = ((sX b).1, some []) := by rw [← e2, ← hx]
     obtain ⟨h4, h7⟩ := vecS_inv (k := 2) (by decide) h3
     rw [List.append_nil] at h4
     rw [pow2] at h7
     refine ⟨_, h4, ?_, h2, by rw [← h1]; omega, fun h => by cases h⟩
     rw [← h1]
     rfl
 obtain ⟨h6, x1, x2, x3⟩ := h6
 obtain ⟨h8, h9⟩ := vecS_inv (size := 1) (k := 1) (by decide) (show vecS (sC b).2 1 = ((sM b).1, some t5) from Prod.ext rfl h5)
 obtain ⟨h10, h11⟩ := vecS_inv (size := 2) (k := 2) (by decide) (show vecS (sS b).2 2 = ((sC b).1, some _) from Prod.ext rfl h8)
 obtain ⟨h12, h13⟩ := vecS_inv (size := 1) (k := 1) (by decide) (show vecS (sR b).2 1 = ((sS b).1, some _) from Prod.ext rfl h10)
 obtain ⟨h14, h15⟩ := takeS_inv (n := 32) (show takeS (sV b).2 32 = ((sR b).1, some _) from Prod.ext rfl h12)
 obtain ⟨h16, h17⟩ := numS_inv (size := 2) (k := 2) (by decide) (show numS (some b) 2 = ((sV b).1, some _) from Prod.ext rfl h14)
 rw [pow1] at h9 h13
 rw [pow2] at h11
 have e256 : (256 : Nat) ^ 2 = 65536 := rfl
 have hl32 : (sR b).1.length = 32 := by omega
 have hr : rowR (sR b).1 = (sR b).1 := by simp [rowR, hl32]
 have hnl : (sC b).1.length = 2 * (numsS (sC b).1).1.length := by conv => lhs; rw [n1, numsB_len]
 refine ⟨⟨⟨by show (0 : Int) ≤ ((sV b).1 : Nat); omega, by show (((sV b).1 : Nat) : Int) < 65536; omega⟩, by show (rowR (sR b).1).length = 32; rw [hr]; exact hl32, by show (sS b).1.length < 256; omega, n2, List.length_pos_iff.1 hc0, by show (numsS (sC b).1).1.length < 32768; omega,
   List.length_pos_iff.1 hm0, by show (sM b).1.length < 256; omega, x3, x1, x2⟩, ?_⟩
 injection h16 with h16
 have e1 : headB (helS b) = two ((sV b).1 : Int) ++ ((sR b).1 ++ (vecB 1 (sS b).1 ++ (vecB 2 (sC b).1 ++ vecB 1 (sM b).1))) := by
   show two ((sV b).1 : Int) ++ (rowR (sR b).1 ++ (vecB 1 (sS b).1 ++ (vecB 2 (numsB (numsS (sC b).1).1) ++ vecB 1 (sM b).1))) = _
   rw [hr, ← n1]
 have e2 : tailB (helS b) = t5 := h6.symm
 rw [layS, e1, e2]
 conv => rhs; rw [h16]
 simp [two]

theorem parse_form {b : List UInt8} (h : okS b = false) : parseS b = (Hel.zero, 3) := by rw [parseS, if_neg (by rw [h]; simp)]
theorem parse_ok {b : List UInt8} : (parseS b).2 = 0 ↔ okS b = true ∧ wrongS (helS b) = 0 := by
 unfold parseS
 constructor
 · intro h
   split at h
   · split at h
     · rename_i h1 h2; exact ⟨h1, h2⟩
     · rename_i h1 h2; exact absurd h h2
   · cases h
 · rintro ⟨h1, h2⟩
   rw [if_pos h1, if_pos h2]
theorem parse_is {b : List UInt8} (h1 : okS b = true) (h2 : wrongS (helS b) = 0) : parseS b = (helS b, 0) := by rw [parseS, if_pos h1, if_pos h2]
def Right (h : Hel) : Prop := Form h ∧ wrongS h = 0
theorem parse_lay {h : Hel} (r : Right h) : parseS (layS h) = (h, 0) := by
 obtain ⟨h1, h2⟩ := form_in r.1
 rw [parse_is h1 (by rw [h2]; exact r.2), h2]
theorem lay_parse {b : List UInt8} (h : (parseS b).2 = 0) : Right (parseS b).1 ∧ layS (parseS b).1 = b := by
 obtain ⟨h1, h2⟩ := parse_ok.1 h
 rw [parse_is h1 h2]
 obtain ⟨h3, h4⟩ := form_inv h1
 exact ⟨⟨h3, h2⟩, h4⟩
theorem ver_in {v : Int} (h : v.tdiv 256 = 3) : 768 ≤ v ∧ v < 1024 := by
 by_cases h0 : 0 ≤ v
 · rw [Int.tdiv_eq_ediv_of_nonneg h0] at h
   omega
 · obtain ⟨m, rfl⟩ : ∃ m, v = -m := ⟨-v, by omega⟩
   rw [Int.neg_tdiv, Int.tdiv_eq_ediv_of_nonneg (by omega)] at h
   omega
theorem wrong_ok {h : Hel} : wrongS h = 0 ↔ h.ver.tdiv 256 = 3 ∧ h.ses.length ≤ 32 ∧ (0 : UInt8) ∈ h.met ∧ (h.exts.map (·.1)).Nodup := by
 unfold wrongS
 constructor
 · intro hw
   split at hw
   · cases hw
   · split at hw
     · cases hw
     · split at hw
       · cases hw
       · split at hw
         · cases hw
         · rename_i h1 h2 h3 h4
           exact ⟨by simpa using h1, by omega, by simpa using h3, by simpa using h4⟩
 · rintro ⟨h1, h2, h3, h4⟩
   rw [if_neg (by simpa using h1), if_neg (by omega), if_neg (by simpa using h3), if_neg (by simpa using h4)]
theorem right_iff {h : Hel} (hr : h.rnd.length = 32) : Right h ↔ wrongS h = 0 ∧ h.cph ≠ [] ∧ (h.has = false → h.exts = []) ∧ (∀ n ∈ h.cph, In2 n) ∧ h.cph.length < 32768 ∧ h.met.length < 256 ∧ (∀ x ∈ h.exts, InX x) ∧ (extsB h.exts).length < 65536 := by
 constructor
 · rintro ⟨f, hw⟩
   exact ⟨hw, f.c0, f.bare, f.cph, f.cl, f.ml, f.ex, f.el⟩
 · rintro ⟨hw, a1, a2, a3, a4, a5, a6, a7⟩
   obtain ⟨h1, h2, h3, _⟩ := wrong_ok.1 hw
   refine ⟨⟨?_, hr, by omega, a3, a1, a4, fun e => (by rw [e] at h3; cases h3), a5, a2, a6, a7⟩, hw⟩
   have := ver_in h1
   constructor <;> omega
end Go.Proofs.YthfknndjdfofgaaGreatDoor.He
