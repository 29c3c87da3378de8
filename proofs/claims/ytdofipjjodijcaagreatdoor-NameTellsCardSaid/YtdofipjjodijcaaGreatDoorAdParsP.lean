/-
  What parsing an address or a Cidr answers, in plain words. No condition.
-/
import Derived.Test.YtdofipjjodijcaaGreatDoorAdEnv
namespace Go.Proofs.YtdofipjjodijcaaGreatDoor.Ad
open Go Go.Proofs.YtdofipjjodijcaaGreatDoor.Asc

theorem foldv_nn (B : Int) (hB : 0 ≤ B) : ∀ (l : List UInt8) (a n : Int), 0 ≤ a → foldv B l a = some n → 0 ≤ n
  | [], a, n, ha, h => by unfold foldv at h; injection h with h; omega
  | c :: r, a, n, ha, h => by
    unfold foldv at h
    split at h
    · cases h
    · rename_i d hd
      have := hex_bd hd
      split at h
      · exact foldv_nn B hB r _ n (by have := Int.mul_nonneg ha hB; omega) h
      · cases h
theorem numS_bd {l : List UInt8} {most n : Int} (h : numS l most = some n) : 0 ≤ n ∧ n ≤ most := by
  unfold numS at h
  split at h
  · cases h
  · split at h
    · cases h
    · rename_i m hm
      split at h
      · cases h
      · injection h with h
        subst h
        refine ⟨?_, by omega⟩
        unfold digitsS at hm
        split at hm
        · cases hm
        · exact foldv_nn 10 (by omega) _ _ _ (by omega) hm

/-- k numbers with a dot between two -/
def dotS : Nat → List UInt8 → Option (List UInt8)
  | 0, _ => some []
  | k + 1, l => match numS (Lib.cut l [46]).1 255 with
    | none => none
    | some n => if (Lib.cut l [46]).2.2 = (k == 0) then none else (dotS k (Lib.cut l [46]).2.1).map (UInt8.ofNat n.toNat :: ·)
theorem dotS_len : ∀ (k : Nat) (l b : List UInt8), dotS k l = some b → b.length = k
  | 0, _, b, h => by simp [dotS] at h; subst h; rfl
  | k + 1, l, b, h => by
    unfold dotS at h
    split at h
    · cases h
    · split at h
      · cases h
      · simp only [Option.map_eq_some_iff] at h
        obtain ⟨r, hr, rfl⟩ := h
        simp [dotS_len k _ r hr]
/-- a group, or a dotted text that stands for two -/
def grpS (l : List UInt8) (dotted : Bool) : Option (List UInt8) := match hexS l with
  | some n => some [UInt8.ofNat (n.toNat / 256), UInt8.ofNat (n.toNat % 256)]
  | none => if dotted then dotS 4 l else none
/-- groups with a colon between two -/
def sideGo (last : Bool) : Nat → List UInt8 → List UInt8 → Option (List UInt8)
  | 0, _, _ => none
  | f + 1, acc, l => match grpS (Lib.cut l [58]).1 (last && !(Lib.cut l [58]).2.2) with
    | none => none
    | some b => if 16 < acc.length + b.length then none else if (Lib.cut l [58]).2.2 then sideGo last f (acc ++ b) (Lib.cut l [58]).2.1 else some (acc ++ b)
def sideS (l : List UInt8) (last : Bool) : Option (List UInt8) := if l = [] then some [] else sideGo last (l.length + 1) [] l
def shortS (h t : List UInt8) : Option (List UInt8) := match sideS h false, sideS t true with
  | some x, some y => if 14 < x.length + y.length then none else some (x ++ List.replicate (16 - x.length - y.length) 0 ++ y)
  | _, _ => none
def groupsS (l : List UInt8) : Option (List UInt8) :=
  if (Lib.cut l [58, 58]).2.2 then shortS (Lib.cut l [58, 58]).1 (Lib.cut l [58, 58]).2.1
  else match sideS l true with
    | some x => if x.length < 16 then none else some x
    | none => none
def parseS (l : List UInt8) : Option (List UInt8) := if 0 ≤ Lib.indexByte l 58 then groupsS l else (dotS 4 l).map of4S
def cparseS (l : List UInt8) : Option C := match parseS (Lib.cut l [47]).1 with
  | none => none
  | some a => match numS (Lib.cut l [47]).2.1 (if 0 ≤ Lib.indexByte (Lib.cut l [47]).1 58 then 128 else 32) with
    | none => none
    | some n => some (ofS a ((if 0 ≤ Lib.indexByte (Lib.cut l [47]).1 58 then 0 else 96) + n))

theorem grpS_len {l : List UInt8} {d : Bool} {b : List UInt8} (h : grpS l d = some b) : b.length = 2 ∨ b.length = 4 := by
  unfold grpS at h
  split at h
  · injection h with h; subst h; exact .inl rfl
  · split at h
    · exact .inr (dotS_len 4 _ _ h)
    · cases h
theorem sideGo_le (last : Bool) : ∀ (f : Nat) (acc l b : List UInt8), sideGo last f acc l = some b → b.length ≤ 16
  | 0, _, _, _, h => by cases h
  | f + 1, acc, l, b, h => by
    unfold sideGo at h
    split at h
    · cases h
    · split at h
      · cases h
      · split at h
        · exact sideGo_le last f _ _ b h
        · injection h with h; subst h; simp; omega
theorem sideS_le {l : List UInt8} {last : Bool} {b : List UInt8} (h : sideS l last = some b) : b.length ≤ 16 := by
  unfold sideS at h
  split at h
  · injection h with h; subst h; simp
  · exact sideGo_le _ _ _ _ _ h
theorem groupsS_len {l a : List UInt8} (h : groupsS l = some a) : a.length = 16 := by
  unfold groupsS at h
  split at h
  · unfold shortS at h
    split at h
    · split at h
      · cases h
      · injection h with h; subst h; simp; omega
    · cases h
  · split at h
    · rename_i x hx
      have := sideS_le hx
      split at h
      · cases h
      · injection h with h; subst h; omega
    · cases h
theorem parseS_len {l a : List UInt8} (h : parseS l = some a) : a.length = 16 := by
  unfold parseS at h
  split at h
  · exact groupsS_len h
  · simp only [Option.map_eq_some_iff] at h
    obtain ⟨b, hb, rfl⟩ := h
    simp [of4S, dotS_len 4 _ _ hb]
theorem cparseS_len {l : List UInt8} {c : C} (h : cparseS l = some c) : c.a.length = 16 := by
  unfold cparseS at h
  split at h
  · cases h
  · rename_i a ha
    split at h
    · cases h
    · injection h with h; subst h
      show (maskS _ _).length = 16
      rw [maskS_length, parseS_len ha]
theorem cut_le (l sep : List UInt8) : (Lib.cut l sep).1.length ≤ l.length ∧ (Lib.cut l sep).2.1.length ≤ l.length := by
  unfold Lib.cut
  split
  · simp; omega
  · simp
theorem cut_lt {l sep : List UInt8} (hs : sep ≠ []) (h : (Lib.cut l sep).2.2 = true) : (Lib.cut l sep).2.1.length < l.length := by
  unfold Lib.cut at h ⊢
  split at h
  · rename_i h0
    rw [if_pos h0]
    have h1 : 0 < sep.length := List.length_pos_iff.2 hs
    have h2 : l ≠ [] := by
      rintro rfl
      unfold Lib.index at h0
      cases sep with
      | nil => exact hs rfl
      | cons a b => simp at h0
    have h3 : 0 < l.length := List.length_pos_iff.2 h2
    simp
    omega
  · cases h
end Go.Proofs.YtdofipjjodijcaaGreatDoor.Ad
