/-
  Texts in plain words: a list of bytes as a string, what stands between signs, the first of a sign, a cut at a sign. No condition.
-/
import Derived.Test.YtdofipjjodijcaaGreatDoorAscPure
import Derived.Lib.IndexMore
namespace Go.Proofs.YtdofipjjodijcaaGreatDoor.Tx
open Go Go.Proofs.YtdofipjjodijcaaGreatDoor.Asc

/-- a list of bytes as a string -/
abbrev str (l : List UInt8) : ByteArray := ⟨l.toArray⟩
theorem str_size (l : List UInt8) : (str l).size = l.length := by show l.toArray.size = _; simp
theorem str_bs (s : ByteArray) : str (bs s) = s := by apply bs_inj; rfl
theorem bs_str (l : List UInt8) : bs (str l) = l := rfl

/-- what stands between signs -/
def splitS (c : UInt8) : List UInt8 → List (List UInt8)
  | [] => [[]]
  | x :: l => if x = c then [] :: splitS c l else (x :: (splitS c l).headD []) :: (splitS c l).tail
theorem splitS_ne (c : UInt8) : ∀ l, splitS c l ≠ []
  | [] => by simp [splitS]
  | x :: l => by unfold splitS; split <;> simp
theorem splitS_free {c : UInt8} : ∀ {l : List UInt8}, c ∉ l → splitS c l = [l]
  | [], _ => rfl
  | x :: l, h => by
    unfold splitS
    rw [if_neg (fun e => h (by simp [e])), splitS_free (l := l) (fun hm => h (by simp [hm]))]
    rfl
theorem splitS_at {c : UInt8} : ∀ {a b : List UInt8}, c ∉ a → splitS c (a ++ c :: b) = a :: splitS c b
  | [], b, _ => by simp [splitS]
  | x :: a, b, h => by
    rw [List.cons_append, splitS, if_neg (fun e => h (by simp [e])), splitS_at (a := a) (fun hm => h (by simp [hm]))]
    rfl
theorem first_of {c : UInt8} : ∀ (l : List UInt8), c ∉ l ∨ ∃ a b, l = a ++ c :: b ∧ c ∉ a
  | [] => .inl (by simp)
  | x :: l => by
    by_cases hx : x = c
    · exact .inr ⟨[], l, by simp [hx], by simp⟩
    · rcases first_of (c := c) l with h | ⟨a, b, rfl, h⟩
      · exact .inl (by simp; exact ⟨fun e => hx e.symm, h⟩)
      · exact .inr ⟨x :: a, b, rfl, by simp; exact ⟨fun e => hx e.symm, h⟩⟩
/-- one byte more -/
theorem splitS_snoc (c : UInt8) : ∀ (l : List UInt8) (x : UInt8), splitS c (l ++ [x]) = if x = c then splitS c l ++ [[]] else (splitS c l).dropLast ++ [(splitS c l).getLastD [] ++ [x]]
  | [], x => by by_cases hx : x = c <;> simp [splitS, hx]
  | y :: l, x => by
    have ih := splitS_snoc c l x
    have hne := splitS_ne c l
    rw [List.cons_append, splitS, splitS, ih]
    cases hs : splitS c l with
    | nil => exact absurd hs hne
    | cons p r =>
      by_cases hy : y = c
      · rw [if_pos hy, if_pos hy]
        split
        · rfl
        · simp
      · rw [if_neg hy, if_neg hy]
        by_cases hx : x = c
        · rw [if_pos hx, if_pos hx]
          simp
        · rw [if_neg hx, if_neg hx]
          cases r with
          | nil => simp
          | cons q r => simp

theorem ib_free : ∀ {l : List UInt8} {c : UInt8}, c ∉ l → Lib.indexByte l c = -1
  | [], _, _ => rfl
  | b :: l, c, h => by
    have h1 : (b == c) = false := by rw [beq_eq_false_iff_ne]; rintro rfl; exact h (by simp)
    have h2 : Lib.indexByte l c = -1 := ib_free (fun hm => h (by simp [hm]))
    unfold Lib.indexByte
    rw [h1, h2]
    rfl
theorem ib_at : ∀ {a b : List UInt8} {c : UInt8}, c ∉ a → Lib.indexByte (a ++ c :: b) c = (a.length : Int)
  | [], b, c, _ => by simp [Lib.indexByte]
  | x :: a, b, c, h => by
    have h1 : (x == c) = false := by rw [beq_eq_false_iff_ne]; rintro rfl; exact h (by simp)
    have h2 : Lib.indexByte (a ++ c :: b) c = (a.length : Int) := ib_at (fun hm => h (by simp [hm]))
    have h3 : ((a.length : Int) == -1) = false := by rw [beq_eq_false_iff_ne]; omega
    rw [List.cons_append]
    unfold Lib.indexByte
    rw [h1, h2, h3]
    simp
theorem cut_free {l : List UInt8} {c : UInt8} (h : c ∉ l) : Lib.cut l [c] = (l, [], false) := by
  unfold Lib.cut
  rw [Lib.index_one, ib_free h]
  rfl
theorem cut_at {a b : List UInt8} {c : UInt8} (h : c ∉ a) : Lib.cut (a ++ c :: b) [c] = (a, b, true) := by
  unfold Lib.cut
  rw [Lib.index_one, ib_at h, if_pos (by omega)]
  simp

theorem ib_mem : ∀ {l : List UInt8} {c : UInt8}, c ∈ l → 0 ≤ Lib.indexByte l c
  | [], _, h => by cases h
  | b :: l, c, h => by
    unfold Lib.indexByte
    split
    · omega
    · rename_i hb
      have hm : c ∈ l := by
        rcases List.mem_cons.1 h with rfl | h
        · simp at hb
        · exact h
      have := ib_mem hm
      split
      · rename_i h1; rw [beq_iff_eq] at h1; omega
      · omega

theorem splitS_len (c : UInt8) : ∀ l, (splitS c l).length ≤ l.length + 1
  | [] => by simp [splitS]
  | x :: l => by
    have ih := splitS_len c l
    have hne := List.length_pos_iff.2 (splitS_ne c l)
    unfold splitS
    split
    · simp; omega
    · simp; omega
theorem split_last (c : UInt8) (l : List UInt8) : splitS c l = (splitS c l).dropLast ++ [(splitS c l).getLastD []] := by
  have hne := splitS_ne c l
  generalize splitS c l = L at *
  cases h : L.getLast? with
  | none => exact absurd (List.getLast?_eq_none_iff.1 h) hne
  | some x =>
    obtain ⟨I, rfl⟩ := List.getLast?_eq_some_iff.1 h
    simp

theorem splitS_mem (c : UInt8) : ∀ (l p : List UInt8), p ∈ splitS c l → p.length ≤ l.length
  | [], p, h => by simp [splitS] at h; subst h; simp
  | x :: l, p, h => by
    have hne := splitS_ne c l
    have ih := splitS_mem c l
    unfold splitS at h
    cases hs : splitS c l with
    | nil => exact absurd hs hne
    | cons q r =>
      rw [hs] at h ih
      split at h
      · rcases List.mem_cons.1 h with rfl | h
        · simp
        · have := ih p h; simp; omega
      · rcases List.mem_cons.1 h with rfl | h
        · have := ih q (by simp); simpa using this
        · have := ih p (List.mem_cons_of_mem _ (by simpa using h)); simp; omega

theorem split_last_le (c : UInt8) (l : List UInt8) : ((splitS c l).getLastD []).length ≤ l.length := by
  refine splitS_mem c l _ ?_
  have h := split_last c l
  generalize (splitS c l).getLastD [] = x at *
  rw [h]
  simp

end Go.Proofs.YtdofipjjodijcaaGreatDoor.Tx
