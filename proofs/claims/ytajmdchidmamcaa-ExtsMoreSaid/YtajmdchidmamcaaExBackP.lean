/-
  Plain facts: what is put is read as it was; data of which some is missing, or behind which more stands, is none. No condition.
-/
import Derived.Test.YtajmdchidmamcaaExPure
namespace Go.Proofs.Ytajmdchidmamcaa.Ex
open Go.RowKit Go.Proofs.Ytajmdchidmamcaa.Wd Go.Proofs.Ytajmdchidmamcaa.Be Go.Proofs.Ytajmdchidmamcaa.He

/-- items that were laid one behind the other are read so -/
theorem items_cat {α : Type} {one : Option (List UInt8) → α × Option (List UInt8)} {put : α → Option (List UInt8)} (h : ∀ x a rest, put x = some a → one (some (a ++ rest)) = (x, some rest) ∧ 0 < a.length) :
    ∀ (l : List α) (w : List UInt8) (f : Nat), catO put l = some w → w.length < f → itemsF one f (some w) = (l, true)
  | [], w, f, hc, hf => by
    injection hc with hc
    subst hc
    rw [itemsF_end rfl]
    rfl
  | x :: l, w, 0, hc, hf => absurd hf (Nat.not_lt_zero _)
  | x :: l, w, f + 1, hc, hf => by
    rw [catO] at hc
    cases hp : put x with
    | none => rw [hp] at hc; cases hc
    | some a =>
      rw [hp] at hc
      cases hq : catO put l with
      | none => rw [hq] at hc; cases hc
      | some b =>
        rw [hq] at hc
        injection hc with hc
        subst hc
        obtain ⟨h1, h2⟩ := h x a b hp
        have h3 : 0 < leftS (some (a ++ b)) := by show 0 < (a ++ b).length; rw [List.length_append]; omega
        rw [itemsF_step h3, h1]
        have ih := items_cat h l b f hq (by rw [List.length_append] at hf; omega)
        rw [ih]
theorem items_catS {α : Type} {one : Option (List UInt8) → α × Option (List UInt8)} {put : α → Option (List UInt8)} (h : ∀ x a rest, put x = some a → one (some (a ++ rest)) = (x, some rest) ∧ 0 < a.length)
    {l : List α} {w : List UInt8} (hc : catO put l = some w) : itemsS one w = (l, true) := items_cat h l w _ hc (by omega)
/-- a vector that was laid is read -/
theorem read_vec {α : Type} {one : Option (List UInt8) → α × Option (List UInt8)} {k : Nat} {size : Int} {w : List UInt8} {l : List α} (hk : clampI size = k) (hw : w.length < 256 ^ k) (hi : itemsS one w = (l, true)) (hl : l ≠ []) : readS one size (vecB k w) = (l, true) := by
  have hlt : (w.length : Int) < 256 ^ k := by
    have : ((256 ^ k : Nat) : Int) = 256 ^ k := by rw [Int.natCast_pow]; rfl
    omega
  have hv : vecS (some (vecB k w)) size = (w, some []) := by
    have := vecS_app w [] size k hk hlt
    rwa [List.append_nil] at this
  have h3 : 0 < l.length := List.length_pos_iff.2 hl
  show ((itemsS one (vecS (some (vecB k w)) size).1).1, doneS (vecS (some (vecB k w)) size).2 && (itemsS one (vecS (some (vecB k w)) size).1).2 && decide (0 < (itemsS one (vecS (some (vecB k w)) size).1).1.length)) = _
  rw [hv, hi]
  simp [doneS, h3]
theorem layS_is {α : Type} {put : α → Option (List UInt8)} {k : Nat} {l : List α} {d : List UInt8} (h : layS put k l = some d) : ∃ w, catO put l = some w ∧ w ≠ [] ∧ w.length < 256 ^ k ∧ d = vecB k w := by
  rw [layS] at h
  cases hc : catO put l with
  | none => rw [hc] at h; cases h
  | some w =>
    rw [hc] at h
    simp only at h
    split at h
    · cases h
    · rename_i h0
      split at h
      · rename_i h1
        injection h with h
        exact ⟨w, rfl, h0, h1, h.symm⟩
      · cases h
theorem catO_ne {α : Type} {put : α → Option (List UInt8)} {l : List α} {w : List UInt8} (hc : catO put l = some w) (hw : w ≠ []) : l ≠ [] := fun h => by
  rw [h] at hc
  injection hc with hc
  exact hw hc.symm
theorem oneP (x a rest : List UInt8) (h : putP x = some a) : proO (some (a ++ rest)) = (x, some rest) ∧ 0 < a.length := by
  unfold putP at h
  split at h
  · cases h
  · split at h
    · rename_i h1
      injection h with h
      subst h
      exact ⟨vecS_app x rest 1 1 (by decide) (by have : (256 : Int) ^ 1 = 256 := rfl; omega), by rw [vecB_len]; omega⟩
    · cases h
theorem oneV (n : Int) (a rest : List UInt8) (h : putV n = some a) : verO (some (a ++ rest)) = (n, some rest) ∧ 0 < a.length := by
  unfold putV at h
  split at h
  · rename_i h1
    injection h with h
    subst h
    have h2 : numS (some (bytesOf n 2 ++ rest)) 2 = (n.toNat, some rest) := numS_app n rest 2 2 (by decide) h1.1 (by have : (256 : Int) ^ 2 = 65536 := rfl; omega)
    refine ⟨?_, by rw [bytesOf_length]; omega⟩
    unfold verO
    rw [h2]
    simp only
    rw [Int.toNat_of_nonneg h1.1]
  · cases h
theorem putP_ne {x a : List UInt8} (h : putP x = some a) : x ≠ [] := by
  unfold putP at h
  split at h
  · cases h
  · assumption
theorem catP_ne : ∀ {l : List (List UInt8)} {w : List UInt8}, catO putP l = some w → [] ∉ l
  | [], _, _ => by simp
  | x :: l, w, h => by
    rw [catO] at h
    cases hp : putP x with
    | none => rw [hp] at h; cases h
    | some a =>
      rw [hp] at h
      cases hq : catO putP l with
      | none => rw [hq] at h; cases h
      | some b =>
        intro hm
        rcases List.mem_cons.1 hm with hm | hm
        · exact putP_ne hp hm.symm
        · exact catP_ne hq hm
/-- protocols that were put are read -/
theorem proto_back {l : List (List UInt8)} {d : List UInt8} (h : layS putP 2 l = some d) : protoS d = (l, 0) := by
  obtain ⟨w, hc, hw, hl, rfl⟩ := layS_is h
  have hr := read_vec (one := proO) (size := 2) (by decide) hl (items_catS oneP hc) (catO_ne hc hw)
  have hn := catP_ne hc
  have hcn : l.contains [] = false := by rw [Bool.eq_false_iff, Ne, List.contains_iff_mem]; exact hn
  rw [protoS, hr]
  simp [hn]
/-- versions that were put are read -/
theorem ver_back {l : List Int} {d : List UInt8} (h : layS putV 1 l = some d) : verS d = (l, 0) := by
  obtain ⟨w, hc, hw, hl, rfl⟩ := layS_is h
  have hr := read_vec (one := verO) (size := 1) (by decide) hl (items_catS oneV hc) (catO_ne hc hw)
  rw [verS, hr]
  rfl
/-- a name that was put is read -/
theorem name_back {x d : List UInt8} (h : layS putN 2 [x] = some d) : nameS d = (x, 0) := by
  obtain ⟨w, hc, hw, hl, rfl⟩ := layS_is h
  have hm : mayS x = true := by
    cases hm : mayS x with
    | true => rfl
    | false =>
      have hp : putN x = none := by rw [putN, hm]; rfl
      simp only [catO, hp] at hc
      cases hc
  have hp : putN x = some ((0 : UInt8) :: vecB 2 x) := if_pos hm
  have hwe : w = (0 : UInt8) :: vecB 2 x := by
    simp only [catO, hp, List.append_nil] at hc
    injection hc with hc
    exact hc.symm
  have hx : x.length ≤ 255 := by
    unfold mayS at hm
    rw [Bool.and_eq_true] at hm
    exact of_decide_eq_true hm.1
  have hn : ∀ rest, numS (some ((0 : UInt8) :: (vecB 2 x ++ rest))) 1 = (0, some (vecB 2 x ++ rest)) := fun rest => by
    have := numS_app 0 (vecB 2 x ++ rest) 1 1 (by decide) (by omega) (by decide)
    exact this
  have hone : typO (some w) = ((0, x), some []) := by
    have h1 := hn []
    rw [List.append_nil] at h1
    have h2 := vecS_app x [] 2 2 (by decide) (by have : (256 : Int) ^ 2 = 65536 := rfl; omega)
    rw [List.append_nil] at h2
    unfold typO
    rw [hwe, h1]
    simp only
    rw [h2]
    rfl
  have hi : itemsS typO w = ([(0, x)], true) := by
    unfold itemsS
    have h0 : 0 < leftS (some w) := by rw [hwe]; show 0 < ((0 : UInt8) :: vecB 2 x).length; simp
    rw [itemsF_step h0, hone, itemsF_end rfl]
    rfl
  have hr := read_vec (one := typO) (size := 2) (by decide) hl hi (by simp)
  rw [nameS, hr]
  have hf : [((0 : Int), x)].filter hostB = [(0, x)] := rfl
  simp only [if_true, hf]
  show (if mayS x then (x, 0) else ([], 9)) = _
  rw [hm]
  rfl
theorem vec_more {k : Nat} {size : Int} {w more : List UInt8} (hk : clampI size = k) (hw : w.length < 256 ^ k) : vecS (some (vecB k w ++ more)) size = (w, some more) := by
  have hlt : (w.length : Int) < 256 ^ k := by
    have : ((256 ^ k : Nat) : Int) = 256 ^ k := by rw [Int.natCast_pow]; rfl
    omega
  exact vecS_app w more size k hk hlt
theorem vec_cut {k : Nat} {size : Int} {w : List UInt8} (hk : clampI size = k) (hw : w.length < 256 ^ k) {cut : Nat} (hc : cut < (vecB k w).length) : vecS (some ((vecB k w).take cut)) size = ([], none) := by
  rw [vecB_len] at hc
  unfold vecS
  by_cases h : cut < k
  · rw [numS_out _ size k (by rw [List.length_take, vecB_len]; omega) hk]
    rfl
  · have e : (vecB k w).take cut = bytesOf (w.length : Int) k ++ w.take (cut - k) := by
      rw [vecB, List.take_append, bytesOf_length, List.take_of_length_le (by rw [bytesOf_length]; omega)]
    have hn := natOf_bytesOf (w.length : Int) k
    have hp : ((256 ^ k : Nat) : Int) = 256 ^ k := by rw [Int.natCast_pow]; rfl
    rw [Int.emod_eq_of_lt (by omega) (by omega)] at hn
    rw [e, numS_in _ _ size k (bytesOf_length _ _) hk]
    simp only
    rw [hn, takeS_out _ _ (by rw [List.length_take]; omega)]
/-- nothing may stand behind -/
theorem read_more {α : Type} {one : Option (List UInt8) → α × Option (List UInt8)} {k : Nat} {size : Int} {w more : List UInt8} (hk : clampI size = k) (hw : w.length < 256 ^ k) (hm : more ≠ []) : (readS one size (vecB k w ++ more)).2 = false := by
  show (doneS (vecS (some (vecB k w ++ more)) size).2 && _ && _) = false
  rw [vec_more hk hw]
  cases more with
  | nil => exact absurd rfl hm
  | cons a l => rfl
/-- nothing may be missing -/
theorem read_cut {α : Type} {one : Option (List UInt8) → α × Option (List UInt8)} {k : Nat} {size : Int} {w : List UInt8} (hk : clampI size = k) (hw : w.length < 256 ^ k) {cut : Nat} (hc : cut < (vecB k w).length) : (readS one size ((vecB k w).take cut)).2 = false := by
  show (doneS (vecS (some ((vecB k w).take cut)) size).2 && _ && _) = false
  rw [vec_cut hk hw hc]
  rfl
theorem proto_more {l : List (List UInt8)} {d more : List UInt8} (h : layS putP 2 l = some d) (hm : more ≠ []) : protoS (d ++ more) = ([], 3) := by
  obtain ⟨w, _, _, hl, rfl⟩ := layS_is h
  rw [protoS, read_more (by decide) hl hm]
  rfl
theorem proto_cut {l : List (List UInt8)} {d : List UInt8} {cut : Nat} (h : layS putP 2 l = some d) (hc : cut < d.length) : protoS (d.take cut) = ([], 3) := by
  obtain ⟨w, _, _, hl, rfl⟩ := layS_is h
  rw [protoS, read_cut (by decide) hl hc]
  rfl
theorem ver_more {l : List Int} {d more : List UInt8} (h : layS putV 1 l = some d) (hm : more ≠ []) : verS (d ++ more) = ([], 3) := by
  obtain ⟨w, _, _, hl, rfl⟩ := layS_is h
  rw [verS, read_more (by decide) hl hm]
  rfl
theorem ver_cut {l : List Int} {d : List UInt8} {cut : Nat} (h : layS putV 1 l = some d) (hc : cut < d.length) : verS (d.take cut) = ([], 3) := by
  obtain ⟨w, _, _, hl, rfl⟩ := layS_is h
  rw [verS, read_cut (by decide) hl hc]
  rfl
theorem lay_len {α : Type} {put : α → Option (List UInt8)} {k : Nat} {l : List α} {d : List UInt8} (h : layS put k l = some d) : 0 < d.length ∧ d.length < k + 256 ^ k := by
  obtain ⟨w, _, hw, hl, rfl⟩ := layS_is h
  have : 0 < w.length := List.length_pos_iff.2 hw
  rw [vecB_len]
  omega
end Go.Proofs.Ytajmdchidmamcaa.Ex
