/-
  Plain facts on runes, bytes and texts of ASCII, used by the contracts of package ascii. No condition.
-/
import Derived.Laws.RangeAny
import Derived.Lib.IndexMore
namespace Go.Proofs.YtlpondbcnfaggaaGreatDoor.Asc
open Go

def ltrI (r : Int) : Bool := decide ((97 ≤ r ∧ r ≤ 122) ∨ (65 ≤ r ∧ r ≤ 90))
def digI (r : Int) : Bool := decide (48 ≤ r ∧ r ≤ 57)
def sgnI (r : Int) : Bool := decide (r = 33 ∨ r = 35 ∨ r = 36 ∨ r = 37 ∨ r = 38 ∨ r = 39 ∨ r = 42 ∨ r = 43 ∨ r = 45 ∨ r = 46 ∨ r = 94 ∨ r = 95 ∨ r = 96 ∨ r = 124 ∨ r = 126)
def tokI (r : Int) : Bool := ltrI r || digI r || sgnI r
def visI (r : Int) : Bool := decide (33 ≤ r ∧ r ≤ 126)
def blkI (r : Int) : Bool := decide (r = 32 ∨ r = 9)
def hexI (r : Int) : Option Int := if 48 ≤ r ∧ r ≤ 57 then some (r - 48) else if 97 ≤ r ∧ r ≤ 102 then some (r - 87) else if 65 ≤ r ∧ r ≤ 70 then some (r - 55) else none

/-- false of all that is no ASCII -/
def Low (p : Int → Bool) : Prop := ∀ r, 128 ≤ r → p r = false
theorem tok_low : Low tokI := fun r h => by simp [tokI, ltrI, digI, sgnI]; omega
theorem vis_low : Low visI := fun r h => by simp [visI]; omega
theorem blk_low : Low blkI := fun r h => by simp [blkI]; omega
theorem hex_low (r : Int) (h : 128 ≤ r) : hexI r = none := by unfold hexI; rw [if_neg (by omega), if_neg (by omega), if_neg (by omega)]
theorem hex_bd {r d : Int} (h : hexI r = some d) : 0 ≤ d ∧ d ≤ 15 := by
  unfold hexI at h
  split at h
  · injection h; omega
  · split at h
    · injection h; omega
    · split at h
      · injection h; omega
      · cases h

/-- the rune at a place, and its byte -/
theorem at_rune {p : Int → Bool} (hp : Low p) (s : ByteArray) (pos : Nat) (h : pos < s.size) :
    p ((Utf8.decode s pos).1 : Int) = p ((s[pos]'h).toNat : Int) ∧ (p ((s[pos]'h).toNat : Int) = true → (Utf8.decode s pos).2 = 1) := by
  by_cases ha : (s[pos]'h).toNat < 128
  · rw [decode_ascii s pos h ha]
    exact ⟨rfl, fun _ => rfl⟩
  · have hd := decode_high s pos h (by omega)
    rw [hp _ (by omega), hp _ (by omega)]
    exact ⟨rfl, fun h => by cases h⟩
theorem at_hex (s : ByteArray) (pos : Nat) (h : pos < s.size) :
    hexI ((Utf8.decode s pos).1 : Int) = hexI ((s[pos]'h).toNat : Int) ∧ (∀ d, hexI ((s[pos]'h).toNat : Int) = some d → (Utf8.decode s pos).2 = 1) := by
  by_cases ha : (s[pos]'h).toNat < 128
  · rw [decode_ascii s pos h ha]
    exact ⟨rfl, fun _ _ => rfl⟩
  · have hd := decode_high s pos h (by omega)
    rw [hex_low _ (by omega), hex_low _ (by omega)]
    exact ⟨rfl, fun _ h => by cases h⟩

theorem get_eq (s : ByteArray) (i : Nat) (h : i < s.size) : s.get! i = s[i]'h := by
  simp [ByteArray.get!, getElem!_pos, h]
  rfl

/-- the bytes of a rune that is no ASCII are none -/
theorem wide_high (s : ByteArray) (pos : Nat) (h : pos < s.size) (ha : 128 ≤ (s[pos]'h).toNat) :
    pos + (Utf8.decode s pos).2 ≤ s.size ∧ ∀ k, k < (Utf8.decode s pos).2 → 128 ≤ (s.get! (pos + k)).toNat := by
  have h0 : 128 ≤ (s.get! pos).toNat := by rw [get_eq s pos h]; exact ha
  have hn : ¬ (s.get! (pos + 0)).toNat < 128 := by simp only [Nat.add_zero]; omega
  have one : pos + 1 ≤ s.size ∧ ∀ k, k < 1 → 128 ≤ (s.get! (pos + k)).toNat := ⟨by omega, fun k hk => by obtain rfl : k = 0 := (by omega); exact h0⟩
  simp only [Utf8.decode, hn, if_false]
  split
  · rename_i hc
    simp only [Bool.and_eq_true, decide_eq_true_eq, beq_iff_eq] at hc
    split
    · refine ⟨by omega, fun k hk => ?_⟩
      simp only at hk
      obtain rfl | rfl : k = 0 ∨ k = 1 := by omega
      · exact h0
      · omega
    · exact one
  · split
    · rename_i hc
      simp only [Bool.and_eq_true, decide_eq_true_eq, beq_iff_eq] at hc
      split
      · refine ⟨by simp only; omega, fun k hk => ?_⟩
        simp only at hk
        obtain rfl | rfl | rfl : k = 0 ∨ k = 1 ∨ k = 2 := by omega
        · exact h0
        · omega
        · omega
      · exact one
    · split
      · rename_i hc
        simp only [Bool.and_eq_true, decide_eq_true_eq, beq_iff_eq] at hc
        split
        · refine ⟨by simp only; omega, fun k hk => ?_⟩
          simp only at hk
          obtain rfl | rfl | rfl | rfl : k = 0 ∨ k = 1 ∨ k = 2 ∨ k = 3 := by omega
          · exact h0
          · omega
          · omega
          · omega
        · exact one
      · exact one

/-- a string's bytes -/
def bs (s : ByteArray) : List UInt8 := s.data.toList
theorem bs_length (s : ByteArray) : (bs s).length = s.size := rfl
theorem bs_get (s : ByteArray) (k : Nat) (h : k < s.size) : (bs s)[k]'(by rw [bs_length]; exact h) = s[k]'h := rfl
theorem bs_drop (s : ByteArray) (k : Nat) (h : k < s.size) : (bs s).drop k = (s[k]'h) :: (bs s).drop (k + 1) := by
  rw [List.drop_eq_getElem_cons (by rw [bs_length]; exact h)]; rfl
theorem bs_take (s : ByteArray) (k : Nat) (h : k < s.size) : (bs s).take (k + 1) = (bs s).take k ++ [s[k]'h] := by
  rw [List.take_succ_eq_append_getElem (by rw [bs_length]; exact h)]; rfl
theorem bs_end (s : ByteArray) (k : Nat) (h : ¬ k < s.size) : (bs s).drop k = [] := List.drop_of_length_le (by rw [bs_length]; omega)
theorem bs_inj {s t : ByteArray} (h : bs s = bs t) : s = t := by
  cases s; cases t; simp only [bs] at h; congr 1; exact Array.ext' h
theorem bs_mk (l : List UInt8) : bs ⟨l.toArray⟩ = l := rfl
theorem bs_nil (s : ByteArray) (h : s.size = 0) : bs s = [] := List.eq_nil_of_length_eq_zero (by rw [bs_length]; exact h)

/-- not empty, each byte such a one -/
def allS (p : Int → Bool) (l : List UInt8) : Bool := !l.isEmpty && l.all fun c => p (c.toNat : Int)

/-- the number of digits -/
def foldv (base : Int) : List UInt8 → Int → Option Int
  | [], n => some n
  | c :: l, n => match hexI (c.toNat : Int) with
    | none => none
    | some d => if d < base then foldv base l (n * base + d) else none
def digitsS (base : Int) (most : Nat) (l : List UInt8) : Option Int := if l.length = 0 ∨ most < l.length then none else foldv base l 0
/-- Number -/
def numS (l : List UInt8) (most : Int) : Option Int :=
  if 1 < l.length ∧ l[0]? = some 48 then none else match digitsS 10 18 l with | none => none | some n => if most < n then none else some n
def hexS (l : List UInt8) : Option Int := digitsS 16 4 l

/-- a small byte -/
def lowB (c : UInt8) : UInt8 := if 65 ≤ c ∧ c ≤ 90 then c + 32 else c
/-- without blanks at its ends -/
def blkB (c : UInt8) : Bool := blkI (c.toNat : Int)
def trimR (l : List UInt8) : List UInt8 := (l.reverse.dropWhile blkB).reverse
def trimL (l : List UInt8) : List UInt8 := trimR (l.dropWhile blkB)
end Go.Proofs.YtlpondbcnfaggaaGreatDoor.Asc

/-
  Texts in plain words: a list of bytes as a string, what stands between signs, the first of a sign, a cut at a sign. No condition.
-/
namespace Go.Proofs.YtlpondbcnfaggaaGreatDoor.Tx
open Go Go.Proofs.YtlpondbcnfaggaaGreatDoor.Asc

/-- a list of bytes as a string -/
abbrev str (l : List UInt8) : ByteArray := ⟨l.toArray⟩
theorem str_size (l : List UInt8) : (str l).size = l.length := by show l.toArray.size = _; simp
theorem str_bs (s : ByteArray) : str (bs s) = s := by apply bs_inj; rfl
theorem bs_str (l : List UInt8) : bs (str l) = l := rfl

/-- what stands between signs -/
def splitS (c : UInt8) : List UInt8 → List (List UInt8)
  | [] => [[]]
  | x :: l => if x = c then [] :: splitS c l else (x :: (splitS c l).headD []) :: (splitS c l).tail
theorem splitS_ne (c : UInt8) : ∀ l, splitS c l ≠ []
  | [] => by simp [splitS]
  | x :: l => by unfold splitS; split <;> simp
theorem splitS_free {c : UInt8} : ∀ {l : List UInt8}, c ∉ l → splitS c l = [l]
  | [], _ => rfl
  | x :: l, h => by
    unfold splitS
    rw [if_neg (fun e => h (by simp [e])), splitS_free (l := l) (fun hm => h (by simp [hm]))]
    rfl
theorem splitS_at {c : UInt8} : ∀ {a b : List UInt8}, c ∉ a → splitS c (a ++ c :: b) = a :: splitS c b
  | [], b, _ => by simp [splitS]
  | x :: a, b, h => by
    rw [List.cons_append, splitS, if_neg (fun e => h (by simp [e])), splitS_at (a := a) (fun hm => h (by simp [hm]))]
    rfl
theorem first_of {c : UInt8} : ∀ (l : List UInt8), c ∉ l ∨ ∃ a b, l = a ++ c :: b ∧ c ∉ a
  | [] => .inl (by simp)
  | x :: l => by
    by_cases hx : x = c
    · exact .inr ⟨[], l, by simp [hx], by simp⟩
    · rcases first_of (c := c) l with h | ⟨a, b, rfl, h⟩
      · exact .inl (by simp; exact ⟨fun e => hx e.symm, h⟩)
      · exact .inr ⟨x :: a, b, rfl, by simp; exact ⟨fun e => hx e.symm, h⟩⟩
/-- one byte more -/
theorem splitS_snoc (c : UInt8) : ∀ (l : List UInt8) (x : UInt8), splitS c (l ++ [x]) = if x = c then splitS c l ++ [[]] else (splitS c l).dropLast ++ [(splitS c l).getLastD [] ++ [x]]
  | [], x => by by_cases hx : x = c <;> simp [splitS, hx]
  | y :: l, x => by
    have ih := splitS_snoc c l x
    have hne := splitS_ne c l
    rw [List.cons_append, splitS, splitS, ih]
    cases hs : splitS c l with
    | nil => exact absurd hs hne
    | cons p r =>
      by_cases hy : y = c
      · rw [if_pos hy, if_pos hy]
        split
        · rfl
        · simp
      · rw [if_neg hy, if_neg hy]
        by_cases hx : x = c
        · rw [if_pos hx, if_pos hx]
          simp
        · rw [if_neg hx, if_neg hx]
          cases r with
          | nil => simp
          | cons q r => simp

theorem ib_free : ∀ {l : List UInt8} {c : UInt8}, c ∉ l → Lib.indexByte l c = -1
  | [], _, _ => rfl
  | b :: l, c, h => by
    have h1 : (b == c) = false := by rw [beq_eq_false_iff_ne]; rintro rfl; exact h (by simp)
    have h2 : Lib.indexByte l c = -1 := ib_free (fun hm => h (by simp [hm]))
    unfold Lib.indexByte
    rw [h1, h2]
    rfl
theorem ib_at : ∀ {a b : List UInt8} {c : UInt8}, c ∉ a → Lib.indexByte (a ++ c :: b) c = (a.length : Int)
  | [], b, c, _ => by simp [Lib.indexByte]
  | x :: a, b, c, h => by
    have h1 : (x == c) = false := by rw [beq_eq_false_iff_ne]; rintro rfl; exact h (by simp)
    have h2 : Lib.indexByte (a ++ c :: b) c = (a.length : Int) := ib_at (fun hm => h (by simp [hm]))
    have h3 : ((a.length : Int) == -1) = false := by rw [beq_eq_false_iff_ne]; omega
    rw [List.cons_append]
    unfold Lib.indexByte
    rw [h1, h2, h3]
    simp
theorem cut_free {l : List UInt8} {c : UInt8} (h : c ∉ l) : Lib.cut l [c] = (l, [], false) := by
  unfold Lib.cut
  rw [Lib.index_one, ib_free h]
  rfl
theorem cut_at {a b : List UInt8} {c : UInt8} (h : c ∉ a) : Lib.cut (a ++ c :: b) [c] = (a, b, true) := by
  unfold Lib.cut
  rw [Lib.index_one, ib_at h, if_pos (by omega)]
  simp

theorem ib_mem : ∀ {l : List UInt8} {c : UInt8}, c ∈ l → 0 ≤ Lib.indexByte l c
  | [], _, h => by cases h
  | b :: l, c, h => by
    unfold Lib.indexByte
    split
    · omega
    · rename_i hb
      have hm : c ∈ l := by
        rcases List.mem_cons.1 h with rfl | h
        · simp at hb
        · exact h
      have := ib_mem hm
      split
      · rename_i h1; rw [beq_iff_eq] at h1; omega
      · omega

theorem splitS_len (c : UInt8) : ∀ l, (splitS c l).length ≤ l.length + 1
  | [] => by simp [splitS]
  | x :: l => by
    have ih := splitS_len c l
    have hne := List.length_pos_iff.2 (splitS_ne c l)
    unfold splitS
    split
    · simp; omega
    · simp; omega
theorem split_last (c : UInt8) (l : List UInt8) : splitS c l = (splitS c l).dropLast ++ [(splitS c l).getLastD []] := by
  have hne := splitS_ne c l
  generalize splitS c l = L at *
  cases h : L.getLast? with
  | none => exact absurd (List.getLast?_eq_none_iff.1 h) hne
  | some x =>
    obtain ⟨I, rfl⟩ := List.getLast?_eq_some_iff.1 h
    simp

theorem splitS_mem (c : UInt8) : ∀ (l p : List UInt8), p ∈ splitS c l → p.length ≤ l.length
  | [], p, h => by simp [splitS] at h; subst h; simp
  | x :: l, p, h => by
    have hne := splitS_ne c l
    have ih := splitS_mem c l
    unfold splitS at h
    cases hs : splitS c l with
    | nil => exact absurd hs hne
    | cons q r =>
      rw [hs] at h ih
      split at h
      · rcases List.mem_cons.1 h with rfl | h
        · simp
        · have := ih p h; simp; omega
      · rcases List.mem_cons.1 h with rfl | h
        · have := ih q (by simp); simpa using this
        · have := ih p (List.mem_cons_of_mem _ (by simpa using h)); simp; omega

theorem split_last_le (c : UInt8) (l : List UInt8) : ((splitS c l).getLastD []).length ≤ l.length := by
  refine splitS_mem c l _ ?_
  have h := split_last c l
  generalize (splitS c l).getLastD [] = x at *
  rw [h]
  simp

end Go.Proofs.YtlpondbcnfaggaaGreatDoor.Tx
