/-
  The document's text of an address by its groups is package addr's. No condition.
-/
import Derived.Test.YtgpgkfbbpiialaaGreatDoorMAdD
namespace Go.Proofs.YtgpgkfbbpiialaaGreatDoor.Ad
open Go Go.Proofs.YtgpgkfbbpiialaaGreatDoor.Asc

def lzS : List Nat → Nat
  | [] => 0
  | x :: r => if x = 0 then lzS r + 1 else 0
theorem lz_is : ∀ (l : List Nat) (n : Nat), (∀ j, j < n → l[j]? = some 0) → (l[n]? = none ∨ ∃ x, l[n]? = some x ∧ x ≠ 0) → lzS l = n
  | [], n, h, _ => by
    cases n with
    | zero => rfl
    | succ n => have := h 0 (by omega); simp at this
  | x :: r, 0, _, h2 => by
    rcases h2 with h | ⟨y, h, hy⟩
    · simp at h
    · simp at h
      subst h
      rw [lzS, if_neg hy]
  | x :: r, n + 1, h, h2 => by
    have h0 := h 0 (by omega)
    simp at h0
    subst h0
    rw [lzS, if_pos rfl, lz_is r n (fun j hj => by simpa using h (j + 1) (by omega)) (by simpa using h2)]
/-- the longest row of zeros, the first one -/
def bR (row : List Nat) : Nat → Nat × Nat
  | 0 => (0, 0)
  | k + 1 => if (bR row k).2 < lzS (row.drop k) then (k, lzS (row.drop k)) else bR row k
def selR (row : List Nat) : Nat × Nat := if (bR row 8).2 < 2 then (8, 8) else ((bR row 8).1, (bR row 8).1 + (bR row 8).2)
def selG (g : Nat × Nat) : Nat × Nat := if g.1 = g.2 then (8, 8) else g
def z01 (n : Nat) : Nat := if n = 0 then 0 else 1
theorem z01_zero (n : Nat) : z01 n = 0 ↔ n = 0 := by
  unfold z01
  split
  · exact ⟨fun _ => by assumption, fun _ => rfl⟩
  · exact ⟨fun h => by omega, fun h => by omega⟩
theorem z01_le (n : Nat) : z01 n ≤ 1 := by unfold z01; split <;> omega
theorem lzS_map : ∀ l : List Nat, lzS (l.map z01) = lzS l
  | [] => rfl
  | x :: r => by
    rw [List.map_cons, lzS, lzS, lzS_map r]
    by_cases h : x = 0
    · rw [if_pos h, if_pos ((z01_zero x).2 h)]
    · rw [if_neg h, if_neg (fun e => h ((z01_zero x).1 e))]
theorem bR_map (row : List Nat) : ∀ k, bR (row.map z01) k = bR row k
  | 0 => rfl
  | k + 1 => by rw [bR, bR, bR_map row k, ← List.map_drop, lzS_map]
theorem getD_map (row : List Nat) (k : Nat) : (row.map z01).getD k 0 = z01 (row.getD k 0) := by
  rw [List.getD_eq_getElem?_getD, List.getD_eq_getElem?_getD, List.getElem?_map]
  cases row[k]? <;> rfl
theorem gapN_map (row : List Nat) : ∀ k, gapN (row.map z01) k = gapN row k
  | 0 => rfl
  | k + 1 => by
    rw [gapN, gapN, gapN_map row k, getD_map]
    generalize row.getD k 0 = n
    unfold gapStep
    by_cases h : n = 0
    · rw [if_pos h, if_pos ((z01_zero n).2 h)]
    · rw [if_neg h, if_neg (fun e => h ((z01_zero n).1 e))]
def pat (p : Nat) : List Nat := [p % 2, p / 2 % 2, p / 4 % 2, p / 8 % 2, p / 16 % 2, p / 32 % 2, p / 64 % 2, p / 128 % 2]
theorem all_pat : (List.range 256).all (fun p => selR (pat p) == selG (gapS (pat p))) = true := by kernel_rfl
theorem sel_bits {b0 b1 b2 b3 b4 b5 b6 b7 : Nat} (h0 : b0 ≤ 1) (h1 : b1 ≤ 1) (h2 : b2 ≤ 1) (h3 : b3 ≤ 1) (h4 : b4 ≤ 1) (h5 : b5 ≤ 1) (h6 : b6 ≤ 1) (h7 : b7 ≤ 1) : selR [b0, b1, b2, b3, b4, b5, b6, b7] = selG (gapS [b0, b1, b2, b3, b4, b5, b6, b7]) := by
  have h := List.all_eq_true.1 all_pat (b0 + 2 * b1 + 4 * b2 + 8 * b3 + 16 * b4 + 32 * b5 + 64 * b6 + 128 * b7) (List.mem_range.2 (by omega))
  have e : pat (b0 + 2 * b1 + 4 * b2 + 8 * b3 + 16 * b4 + 32 * b5 + 64 * b6 + 128 * b7) = [b0, b1, b2, b3, b4, b5, b6, b7] := by
    unfold pat
    congr 1
    · omega
    congr 1
    · omega
    congr 1
    · omega
    congr 1
    · omega
    congr 1
    · omega
    congr 1
    · omega
    congr 1
    · omega
    congr 1
    omega
  rw [e] at h
  simpa using h
theorem sel_same (r0 r1 r2 r3 r4 r5 r6 r7 : Nat) : selR [r0, r1, r2, r3, r4, r5, r6, r7] = selG (gapS [r0, r1, r2, r3, r4, r5, r6, r7]) := by
  have h := sel_bits (z01_le r0) (z01_le r1) (z01_le r2) (z01_le r3) (z01_le r4) (z01_le r5) (z01_le r6) (z01_le r7)
  have e : [z01 r0, z01 r1, z01 r2, z01 r3, z01 r4, z01 r5, z01 r6, z01 r7] = [r0, r1, r2, r3, r4, r5, r6, r7].map z01 := rfl
  rw [e, selR, bR_map, gapS, gapN_map] at h
  exact h
/-- the text, group by group -/
def tR (row : List Nat) (f t : Nat) : Nat → List UInt8
  | 0 => []
  | k + 1 => if f ≤ k ∧ k < t then (if k = f then tR row f t k ++ [58, 58] else tR row f t k)
    else (if 0 < k ∧ k ≠ t then (if k = f then tR row f t k ++ [58, 58] else tR row f t k) ++ [58] else (if k = f then tR row f t k ++ [58, 58] else tR row f t k)) ++ hexT (row.getD k 0)
theorem tR_len (row : List Nat) (f t : Nat) : ∀ k, (tR row f t k).length ≤ 8 * k
  | 0 => by simp [tR]
  | k + 1 => by
    have ih := tR_len row f t k
    have hh := (hexT_len (row.getD k 0)).2
    unfold tR
    generalize hexT (row.getD k 0) = H at *
    repeat' split
    all_goals simp
    all_goals omega
def textR (row : List Nat) : List UInt8 := tR row (selR row).1 (selR row).2 8
theorem selG_cases (row : List Nat) : (gapS row).1 = (gapS row).2 ∨ ((gapS row).1 + 2 ≤ (gapS row).2 ∧ (gapS row).2 ≤ 8) := by
  obtain ⟨_, _, h⟩ := gapN_inv row 8
  unfold gapS
  rcases h with ⟨h1, h2⟩ | ⟨h1, h2, _⟩
  · left; dsimp only; omega
  · right; exact ⟨h1, h2⟩
set_option maxRecDepth 100000 in
set_option maxHeartbeats 8000000 in
theorem tR_all (r0 r1 r2 r3 r4 r5 r6 r7 : Nat) : tR [r0, r1, r2, r3, r4, r5, r6, r7] 8 8 8 = joinS [r0, r1, r2, r3, r4, r5, r6, r7] := by
  simp [tR, joinS]
set_option maxRecDepth 100000 in
set_option maxHeartbeats 16000000 in
theorem tR_gap (r0 r1 r2 r3 r4 r5 r6 r7 f t : Nat) (h1 : f + 2 ≤ t) (h2 : t ≤ 8) :
    tR [r0, r1, r2, r3, r4, r5, r6, r7] f t 8 = joinS ([r0, r1, r2, r3, r4, r5, r6, r7].take f) ++ [58, 58] ++ joinS ([r0, r1, r2, r3, r4, r5, r6, r7].drop t) := by
  have hf : f = 0 ∨ f = 1 ∨ f = 2 ∨ f = 3 ∨ f = 4 ∨ f = 5 ∨ f = 6 := by omega
  have ht : t = 2 ∨ t = 3 ∨ t = 4 ∨ t = 5 ∨ t = 6 ∨ t = 7 ∨ t = 8 := by omega
  rcases hf with rfl | rfl | rfl | rfl | rfl | rfl | rfl <;> rcases ht with rfl | rfl | rfl | rfl | rfl | rfl | rfl <;> first | (exfalso; omega) | simp [tR, joinS]
theorem textR_eq (a : List UInt8) (ha : a.length = 16) : textR (pairs a) = textG a := by
  have hl : (pairs a).length = 8 := by
    match a, ha with
    | [a0, a1, a2, a3, a4, a5, a6, a7, a8, a9, b0, b1, b2, b3, b4, b5], _ => rfl
  unfold textG
  generalize pairs a = row at *
  match row, hl with
  | [r0, r1, r2, r3, r4, r5, r6, r7], _ =>
    unfold textR
    rw [sel_same]
    unfold selG
    rcases selG_cases [r0, r1, r2, r3, r4, r5, r6, r7] with h | ⟨h1, h2⟩
    · rw [if_pos h, if_pos h]
      exact tR_all r0 r1 r2 r3 r4 r5 r6 r7
    · rw [if_neg (by omega), if_neg (by omega)]
      exact tR_gap r0 r1 r2 r3 r4 r5 r6 r7 _ _ h1 h2
end Go.Proofs.YtgpgkfbbpiialaaGreatDoor.Ad
