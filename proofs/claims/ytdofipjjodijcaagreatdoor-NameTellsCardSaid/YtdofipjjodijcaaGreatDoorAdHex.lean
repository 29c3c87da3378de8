/-
  The text of an address by its groups, in plain words: digits in base 16, groups with a colon between two, the longest row of zeros. No condition.
-/
import Derived.Test.YtdofipjjodijcaaGreatDoorAscPure
namespace Go.Proofs.YtdofipjjodijcaaGreatDoor.Ad
open Go Go.Proofs.YtdofipjjodijcaaGreatDoor.Asc

/-! a number's text in base 16 -/
def hdg (d : Nat) : UInt8 := UInt8.ofNat (if d < 10 then 48 + d else 87 + d)
theorem hdg_all : ∀ d : Fin 16, hexI ((hdg d.1).toNat : Int) = some (d.1 : Int) ∧ hdg d.1 ≠ 58 ∧ hdg d.1 ≠ 46 ∧ hdg d.1 ≠ 47 := by decide
theorem hx {d : Nat} (h : d < 16) : hexI ((hdg d).toNat : Int) = some (d : Int) := (hdg_all ⟨d, h⟩).1
def hexT (n : Nat) : List UInt8 :=
  if n < 16 then [hdg n] else if n < 256 then [hdg (n / 16), hdg (n % 16)] else if n < 4096 then [hdg (n / 256), hdg (n / 16 % 16), hdg (n % 16)]
  else [hdg (n / 4096), hdg (n / 256 % 16), hdg (n / 16 % 16), hdg (n % 16)]
theorem hexT_len (n : Nat) : 1 ≤ (hexT n).length ∧ (hexT n).length ≤ 4 := by
  unfold hexT
  split <;> (try split) <;> (try split) <;> simp
/-! groups with a colon between two -/
def gB (n : Nat) : List UInt8 := [UInt8.ofNat (n / 256), UInt8.ofNat (n % 256)]
def joinS : List Nat → List UInt8
  | [] => []
  | [n] => hexT n
  | n :: m :: r => hexT n ++ 58 :: joinS (m :: r)
theorem joinS_snoc : ∀ (l : List Nat) (n : Nat), joinS (l ++ [n]) = joinS l ++ ((if l = [] then [] else [58]) ++ hexT n)
  | [], n => by simp [joinS]
  | [m], n => by simp [joinS]
  | m :: k :: r, n => by
    have ih := joinS_snoc (k :: r) n
    rw [List.cons_append, List.cons_append, joinS, ← List.cons_append, ih, joinS]
    simp
theorem joinS_take {l : List Nat} {k n : Nat} (h : l[k]? = some n) : joinS (l.take (k + 1)) = joinS (l.take k) ++ ((if k = 0 then [] else [58]) ++ hexT n) := by
  have hk := (List.getElem?_eq_some_iff.1 h).1
  rw [List.take_add_one, h, Option.toList_some, joinS_snoc]
  congr 3
  rw [eq_iff_iff, ← List.length_eq_zero_iff, List.length_take]
  omega
/-! bytes two by two -/
def pairs : List UInt8 → List Nat
  | a :: b :: l => (a.toNat * 256 + b.toNat) :: pairs l
  | _ => []
/-! the groups that :: stands for -/
def gapStep (i n : Nat) (s : Nat × Nat × Nat) : Nat × Nat × Nat :=
  let start := if n = 0 then s.2.2 else i + 1
  if 2 ≤ i + 1 - start ∧ s.2.1 - s.1 < i + 1 - start then (start, i + 1, start) else (s.1, s.2.1, start)
def gapN (row : List Nat) : Nat → Nat × Nat × Nat
  | 0 => (0, 0, 0)
  | k + 1 => gapStep k (row.getD k 0) (gapN row k)
theorem gapN_inv (row : List Nat) : ∀ k, (gapN row k).2.2 ≤ k ∧ (∀ j, (gapN row k).2.2 ≤ j → j < k → row.getD j 0 = 0) ∧
    (((gapN row k).1 = 0 ∧ (gapN row k).2.1 = 0) ∨ ((gapN row k).1 + 2 ≤ (gapN row k).2.1 ∧ (gapN row k).2.1 ≤ k ∧ ∀ j, (gapN row k).1 ≤ j → j < (gapN row k).2.1 → row.getD j 0 = 0))
  | 0 => ⟨Nat.le_refl _, fun j _ h => absurd h (by omega), .inl ⟨rfl, rfl⟩⟩
  | k + 1 => by
    obtain ⟨h1, h2, h3⟩ := gapN_inv row k
    have hs : (gapN row (k + 1)) = gapStep k (row.getD k 0) (gapN row k) := rfl
    rw [hs]
    generalize gapN row k = s at *
    obtain ⟨f, t, st⟩ := s
    dsimp only at h1 h2 h3
    have hst : (if row.getD k 0 = 0 then st else k + 1) ≤ k + 1 ∧ ∀ j, (if row.getD k 0 = 0 then st else k + 1) ≤ j → j < k + 1 → row.getD j 0 = 0 := by
      split
      · rename_i hz
        refine ⟨by omega, fun j h4 h5 => ?_⟩
        rcases Nat.lt_or_ge j k with h6 | h6
        · exact h2 j h4 h6
        · rw [show j = k by omega]; exact hz
      · exact ⟨Nat.le_refl _, fun j h4 h5 => absurd h4 (by omega)⟩
    unfold gapStep
    dsimp only
    generalize (if row.getD k 0 = 0 then st else k + 1) = start at *
    split
    · rename_i hc
      exact ⟨hst.1, hst.2, .inr ⟨by dsimp only; omega, Nat.le_refl _, hst.2⟩⟩
    · refine ⟨hst.1, hst.2, ?_⟩
      rcases h3 with h3 | ⟨h3, h4, h5⟩
      · exact .inl h3
      · exact .inr ⟨h3, Nat.le_succ_of_le h4, h5⟩
def gapS (row : List Nat) : Nat × Nat := ((gapN row 8).1, (gapN row 8).2.1)

/-- the last j digits of n -/
def lowT (n : Nat) : Nat → List UInt8
  | 0 => []
  | j + 1 => hdg (n / 16 ^ j % 16) :: lowT n j
theorem hexT_low {n j : Nat} (hn : n < 65536) (h : n / 16 ^ j < 16) (hj : j = 0 ∨ 16 ^ j ≤ n) : hexT n = hdg (n / 16 ^ j) :: lowT n j := by
  have hj3 : j ≤ 3 := by
    rcases Nat.lt_or_ge j 4 with h4 | h4
    · omega
    · have := Nat.pow_le_pow_right (n := 16) (by omega) h4
      have e : (16 : Nat) ^ 4 = 65536 := by decide
      omega
  unfold hexT
  obtain rfl | rfl | rfl | rfl : j = 0 ∨ j = 1 ∨ j = 2 ∨ j = 3 := by omega
  · simp at h
    rw [if_pos h]; simp [lowT]
  · simp at h hj
    rw [if_neg (by omega), if_pos (by omega)]; simp [lowT]
  · simp at h hj
    rw [if_neg (by omega), if_neg (by omega), if_pos (by omega)]; simp [lowT]
  · simp at h hj
    rw [if_neg (by omega), if_neg (by omega), if_neg (by omega)]; simp [lowT]
end Go.Proofs.YtdofipjjodijcaaGreatDoor.Ad
