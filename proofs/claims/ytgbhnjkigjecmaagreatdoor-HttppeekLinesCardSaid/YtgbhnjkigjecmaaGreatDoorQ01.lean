/-
  Plain facts on runes, bytes and texts of ASCII, used by the contracts of package ascii. No condition.
-/
import Derived.Laws.RangeAny
import Derived.Lib.IndexMore
import Derived.Lib.IndexAny
import Derived.Lib.ItoaNum
namespace Go.Proofs.YtgbhnjkigjecmaaGreatDoor.Asc
open Go

def ltrI (r : Int) : Bool := decide ((97 ≤ r ∧ r ≤ 122) ∨ (65 ≤ r ∧ r ≤ 90))
def digI (r : Int) : Bool := decide (48 ≤ r ∧ r ≤ 57)
def sgnI (r : Int) : Bool := decide (r = 33 ∨ r = 35 ∨ r = 36 ∨ r = 37 ∨ r = 38 ∨ r = 39 ∨ r = 42 ∨ r = 43 ∨ r = 45 ∨ r = 46 ∨ r = 94 ∨ r = 95 ∨ r = 96 ∨ r = 124 ∨ r = 126)
def tokI (r : Int) : Bool := ltrI r || digI r || sgnI r
def visI (r : Int) : Bool := decide (33 ≤ r ∧ r ≤ 126)
def blkI (r : Int) : Bool := decide (r = 32 ∨ r = 9)
def hexI (r : Int) : Option Int := if 48 ≤ r ∧ r ≤ 57 then some (r - 48) else if 97 ≤ r ∧ r ≤ 102 then some (r - 87) else if 65 ≤ r ∧ r ≤ 70 then some (r - 55) else none

/-- false of all that is no ASCII -/
def Low (p : Int → Bool) : Prop := ∀ r, 128 ≤ r → p r = false
theorem tok_low : Low tokI := fun r h => by simp [tokI, ltrI, digI, sgnI]; omega
theorem vis_low : Low visI := fun r h => by simp [visI]; omega
theorem blk_low : Low blkI := fun r h => by simp [blkI]; omega
theorem hex_low (r : Int) (h : 128 ≤ r) : hexI r = none := by unfold hexI; rw [if_neg (by omega), if_neg (by omega), if_neg (by omega)]
theorem hex_bd {r d : Int} (h : hexI r = some d) : 0 ≤ d ∧ d ≤ 15 := by
  unfold hexI at h
  split at h
  · injection h; omega
  · split at h
    · injection h; omega
    · split at h
      · injection h; omega
      · cases h

/-- the rune at a place, and its byte -/
theorem at_rune {p : Int → Bool} (hp : Low p) (s : ByteArray) (pos : Nat) (h : pos < s.size) :
    p ((Utf8.decode s pos).1 : Int) = p ((s[pos]'h).toNat : Int) ∧ (p ((s[pos]'h).toNat : Int) = true → (Utf8.decode s pos).2 = 1) := by
  by_cases ha : (s[pos]'h).toNat < 128
  · rw [decode_ascii s pos h ha]
    exact ⟨rfl, fun _ => rfl⟩
  · have hd := decode_high s pos h (by omega)
    rw [hp _ (by omega), hp _ (by omega)]
    exact ⟨rfl, fun h => by cases h⟩
theorem at_hex (s : ByteArray) (pos : Nat) (h : pos < s.size) :
    hexI ((Utf8.decode s pos).1 : Int) = hexI ((s[pos]'h).toNat : Int) ∧ (∀ d, hexI ((s[pos]'h).toNat : Int) = some d → (Utf8.decode s pos).2 = 1) := by
  by_cases ha : (s[pos]'h).toNat < 128
  · rw [decode_ascii s pos h ha]
    exact ⟨rfl, fun _ _ => rfl⟩
  · have hd := decode_high s pos h (by omega)
    rw [hex_low _ (by omega), hex_low _ (by omega)]
    exact ⟨rfl, fun _ h => by cases h⟩

theorem get_eq (s : ByteArray) (i : Nat) (h : i < s.size) : s.get! i = s[i]'h := by
  simp [ByteArray.get!, getElem!_pos, h]
  rfl

/-- the bytes of a rune that is no ASCII are none -/
theorem wide_high (s : ByteArray) (pos : Nat) (h : pos < s.size) (ha : 128 ≤ (s[pos]'h).toNat) :
    pos + (Utf8.decode s pos).2 ≤ s.size ∧ ∀ k, k < (Utf8.decode s pos).2 → 128 ≤ (s.get! (pos + k)).toNat := by
  have h0 : 128 ≤ (s.get! pos).toNat := by rw [get_eq s pos h]; exact ha
  have hn : ¬ (s.get! (pos + 0)).toNat < 128 := by simp only [Nat.add_zero]; omega
  have one : pos + 1 ≤ s.size ∧ ∀ k, k < 1 → 128 ≤ (s.get! (pos + k)).toNat := ⟨by omega, fun k hk => by obtain rfl : k = 0 := (by omega); exact h0⟩
  simp only [Utf8.decode, hn, if_false]
  split
  · rename_i hc
    simp only [Bool.and_eq_true, decide_eq_true_eq, beq_iff_eq] at hc
    split
    · refine ⟨by omega, fun k hk => ?_⟩
      simp only at hk
      obtain rfl | rfl : k = 0 ∨ k = 1 := by omega
      · exact h0
      · omega
    · exact one
  · split
    · rename_i hc
      simp only [Bool.and_eq_true, decide_eq_true_eq, beq_iff_eq] at hc
      split
      · refine ⟨by simp only; omega, fun k hk => ?_⟩
        simp only at hk
        obtain rfl | rfl | rfl : k = 0 ∨ k = 1 ∨ k = 2 := by omega
        · exact h0
        · omega
        · omega
      · exact one
    · split
      · rename_i hc
        simp only [Bool.and_eq_true, decide_eq_true_eq, beq_iff_eq] at hc
        split
        · refine ⟨by simp only; omega, fun k hk => ?_⟩
          simp only at hk
          obtain rfl | rfl | rfl | rfl : k = 0 ∨ k = 1 ∨ k = 2 ∨ k = 3 := by omega
          · exact h0
          · omega
          · omega
          · omega
        · exact one
      · exact one

/-- a string's bytes -/
def bs (s : ByteArray) : List UInt8 := s.data.toList
theorem bs_length (s : ByteArray) : (bs s).length = s.size := rfl
theorem bs_get (s : ByteArray) (k : Nat) (h : k < s.size) : (bs s)[k]'(by rw [bs_length]; exact h) = s[k]'h := rfl
theorem bs_drop (s : ByteArray) (k : Nat) (h : k < s.size) : (bs s).drop k = (s[k]'h) :: (bs s).drop (k + 1) := by
  rw [List.drop_eq_getElem_cons (by rw [bs_length]; exact h)]; rfl
theorem bs_take (s : ByteArray) (k : Nat) (h : k < s.size) : (bs s).take (k + 1) = (bs s).take k ++ [s[k]'h] := by
  rw [List.take_succ_eq_append_getElem (by rw [bs_length]; exact h)]; rfl
theorem bs_end (s : ByteArray) (k : Nat) (h : ¬ k < s.size) : (bs s).drop k = [] := List.drop_of_length_le (by rw [bs_length]; omega)
theorem bs_inj {s t : ByteArray} (h : bs s = bs t) : s = t := by
  cases s; cases t; simp only [bs] at h; congr 1; exact Array.ext' h
theorem bs_mk (l : List UInt8) : bs ⟨l.toArray⟩ = l := rfl
theorem bs_nil (s : ByteArray) (h : s.size = 0) : bs s = [] := List.eq_nil_of_length_eq_zero (by rw [bs_length]; exact h)

/-- not empty, each byte such a one -/
def allS (p : Int → Bool) (l : List UInt8) : Bool := !l.isEmpty && l.all fun c => p (c.toNat : Int)

/-- the number of digits -/
def foldv (base : Int) : List UInt8 → Int → Option Int
  | [], n => some n
  | c :: l, n => match hexI (c.toNat : Int) with
    | none => none
    | some d => if d < base then foldv base l (n * base + d) else none
def digitsS (base : Int) (most : Nat) (l : List UInt8) : Option Int := if l.length = 0 ∨ most < l.length then none else foldv base l 0
/-- Number -/
def numS (l : List UInt8) (most : Int) : Option Int :=
  if 1 < l.length ∧ l[0]? = some 48 then none else match digitsS 10 18 l with | none => none | some n => if most < n then none else some n
def hexS (l : List UInt8) : Option Int := digitsS 16 4 l

/-- a small byte -/
def lowB (c : UInt8) : UInt8 := if 65 ≤ c ∧ c ≤ 90 then c + 32 else c
/-- without blanks at its ends -/
def blkB (c : UInt8) : Bool := blkI (c.toNat : Int)
def trimR (l : List UInt8) : List UInt8 := (l.reverse.dropWhile blkB).reverse
def trimL (l : List UInt8) : List UInt8 := trimR (l.dropWhile blkB)
end Go.Proofs.YtgbhnjkigjecmaaGreatDoor.Asc

/-
  Texts in plain words: a list of bytes as a string, what stands between signs, the first of a sign, a cut at a sign. No condition.
-/
namespace Go.Proofs.YtgbhnjkigjecmaaGreatDoor.Tx
open Go Go.Proofs.YtgbhnjkigjecmaaGreatDoor.Asc

/-- a list of bytes as a string -/
abbrev str (l : List UInt8) : ByteArray := ⟨l.toArray⟩
theorem str_size (l : List UInt8) : (str l).size = l.length := by show l.toArray.size = _; simp
theorem str_bs (s : ByteArray) : str (bs s) = s := by apply bs_inj; rfl
theorem bs_str (l : List UInt8) : bs (str l) = l := rfl

/-- what stands between signs -/
def splitS (c : UInt8) : List UInt8 → List (List UInt8)
  | [] => [[]]
  | x :: l => if x = c then [] :: splitS c l else (x :: (splitS c l).headD []) :: (splitS c l).tail
theorem splitS_ne (c : UInt8) : ∀ l, splitS c l ≠ []
  | [] => by simp [splitS]
  | x :: l => by unfold splitS; split <;> simp
theorem splitS_free {c : UInt8} : ∀ {l : List UInt8}, c ∉ l → splitS c l = [l]
  | [], _ => rfl
  | x :: l, h => by
    unfold splitS
    rw [if_neg (fun e => h (by simp [e])), splitS_free (l := l) (fun hm => h (by simp [hm]))]
    rfl
theorem splitS_at {c : UInt8} : ∀ {a b : List UInt8}, c ∉ a → splitS c (a ++ c :: b) = a :: splitS c b
  | [], b, _ => by simp [splitS]
  | x :: a, b, h => by
    rw [List.cons_append, splitS, if_neg (fun e => h (by simp [e])), splitS_at (a := a) (fun hm => h (by simp [hm]))]
    rfl
theorem first_of {c : UInt8} : ∀ (l : List UInt8), c ∉ l ∨ ∃ a b, l = a ++ c :: b ∧ c ∉ a
  | [] => .inl (by simp)
  | x :: l => by
    by_cases hx : x = c
    · exact .inr ⟨[], l, by simp [hx], by simp⟩
    · rcases first_of (c := c) l with h | ⟨a, b, rfl, h⟩
      · exact .inl (by simp; exact ⟨fun e => hx e.symm, h⟩)
      · exact .inr ⟨x :: a, b, rfl, by simp; exact ⟨fun e => hx e.symm, h⟩⟩
/-- one byte more -/
theorem splitS_snoc (c : UInt8) : ∀ (l : List UInt8) (x : UInt8), splitS c (l ++ [x]) = if x = c then splitS c l ++ [[]] else (splitS c l).dropLast ++ [(splitS c l).getLastD [] ++ [x]]
  | [], x => by by_cases hx : x = c <;> simp [splitS, hx]
  | y :: l, x => by
    have ih := splitS_snoc c l x
    have hne := splitS_ne c l
    rw [List.cons_append, splitS, splitS, ih]
    cases hs : splitS c l with
    | nil => exact absurd hs hne
    | cons p r =>
      by_cases hy : y = c
      · rw [if_pos hy, if_pos hy]
        split
        · rfl
        · simp
      · rw [if_neg hy, if_neg hy]
        by_cases hx : x = c
        · rw [if_pos hx, if_pos hx]
          simp
        · rw [if_neg hx, if_neg hx]
          cases r with
          | nil => simp
          | cons q r => simp

theorem ib_free : ∀ {l : List UInt8} {c : UInt8}, c ∉ l → Lib.indexByte l c = -1
  | [], _, _ => rfl
  | b :: l, c, h => by
    have h1 : (b == c) = false := by rw [beq_eq_false_iff_ne]; rintro rfl; exact h (by simp)
    have h2 : Lib.indexByte l c = -1 := ib_free (fun hm => h (by simp [hm]))
    unfold Lib.indexByte
    rw [h1, h2]
    rfl
theorem ib_at : ∀ {a b : List UInt8} {c : UInt8}, c ∉ a → Lib.indexByte (a ++ c :: b) c = (a.length : Int)
  | [], b, c, _ => by simp [Lib.indexByte]
  | x :: a, b, c, h => by
    have h1 : (x == c) = false := by rw [beq_eq_false_iff_ne]; rintro rfl; exact h (by simp)
    have h2 : Lib.indexByte (a ++ c :: b) c = (a.length : Int) := ib_at (fun hm => h (by simp [hm]))
    have h3 : ((a.length : Int) == -1) = false := by rw [beq_eq_false_iff_ne]; omega
    rw [List.cons_append]
    unfold Lib.indexByte
    rw [h1, h2, h3]
    simp
theorem cut_free {l : List UInt8} {c : UInt8} (h : c ∉ l) : Lib.cut l [c] = (l, [], false) := by
  unfold Lib.cut
  rw [Lib.index_one, ib_free h]
  rfl
theorem cut_at {a b : List UInt8} {c : UInt8} (h : c ∉ a) : Lib.cut (a ++ c :: b) [c] = (a, b, true) := by
  unfold Lib.cut
  rw [Lib.index_one, ib_at h, if_pos (by omega)]
  simp

theorem ib_mem : ∀ {l : List UInt8} {c : UInt8}, c ∈ l → 0 ≤ Lib.indexByte l c
  | [], _, h => by cases h
  | b :: l, c, h => by
    unfold Lib.indexByte
    split
    · omega
    · rename_i hb
      have hm : c ∈ l := by
        rcases List.mem_cons.1 h with rfl | h
        · simp at hb
        · exact h
      have := ib_mem hm
      split
      · rename_i h1; rw [beq_iff_eq] at h1; omega
      · omega

theorem splitS_len (c : UInt8) : ∀ l, (splitS c l).length ≤ l.length + 1
  | [] => by simp [splitS]
  | x :: l => by
    have ih := splitS_len c l
    have hne := List.length_pos_iff.2 (splitS_ne c l)
    unfold splitS
    split
    · simp; omega
    · simp; omega
theorem split_last (c : UInt8) (l : List UInt8) : splitS c l = (splitS c l).dropLast ++ [(splitS c l).getLastD []] := by
  have hne := splitS_ne c l
  generalize splitS c l = L at *
  cases h : L.getLast? with
  | none => exact absurd (List.getLast?_eq_none_iff.1 h) hne
  | some x =>
    obtain ⟨I, rfl⟩ := List.getLast?_eq_some_iff.1 h
    simp

theorem splitS_mem (c : UInt8) : ∀ (l p : List UInt8), p ∈ splitS c l → p.length ≤ l.length
  | [], p, h => by simp [splitS] at h; subst h; simp
  | x :: l, p, h => by
    have hne := splitS_ne c l
    have ih := splitS_mem c l
    unfold splitS at h
    cases hs : splitS c l with
    | nil => exact absurd hs hne
    | cons q r =>
      rw [hs] at h ih
      split at h
      · rcases List.mem_cons.1 h with rfl | h
        · simp
        · have := ih p h; simp; omega
      · rcases List.mem_cons.1 h with rfl | h
        · have := ih q (by simp); simpa using this
        · have := ih p (List.mem_cons_of_mem _ (by simpa using h)); simp; omega

theorem split_last_le (c : UInt8) (l : List UInt8) : ((splitS c l).getLastD []).length ≤ l.length := by
  refine splitS_mem c l _ ?_
  have h := split_last c l
  generalize (splitS c l).getLastD [] = x at *
  rw [h]
  simp

end Go.Proofs.YtgbhnjkigjecmaaGreatDoor.Tx

/-
  The first line of a request in plain words: what is parsed, printed, of which form a target is, and what stands ahead of its path. No condition.
-/
namespace Go.Proofs.YtgbhnjkigjecmaaGreatDoor.Rl
open Go Go.Proofs.YtgbhnjkigjecmaaGreatDoor.Asc Go.Proofs.YtgbhnjkigjecmaaGreatDoor.Tx

structure Rq where
  meth : List UInt8
  targ : List UInt8
  minor : Int
deriving DecidableEq
def Rq.zero : Rq := ⟨[], [], 0⟩
def v1 : List UInt8 := [72, 84, 84, 80, 47, 49, 46]
def http : List UInt8 := [104, 116, 116, 112, 58, 47, 47]
def ends : List UInt8 := [47, 63, 35]
def cnct : List UInt8 := [67, 79, 78, 78, 69, 67, 84]
/-- a line's last part -/
def minorS (l : List UInt8) : Option Int := if l = v1 ++ [48] then some 0 else if l = v1 ++ [49] then some 1 else none
/-- what the three parts tell -/
def partsS (m t v : List UInt8) : Rq × Int :=
  if allS tokI m = false ∨ 32 < m.length then (Rq.zero, 11) else if allS visI t = false then (Rq.zero, 3) else if 8000 < t.length then (Rq.zero, 6) else
    match minorS v with
    | none => (Rq.zero, 5)
    | some k => (⟨m, t, k⟩, 0)
def parseS (l : List UInt8) : Rq × Int :=
  match splitS 32 l with
  | [m, t, v] => partsS m t v
  | _ => (Rq.zero, 3)
def okR (r : Rq) : Prop := allS tokI r.meth = true ∧ r.meth.length ≤ 32 ∧ allS visI r.targ = true ∧ r.targ.length ≤ 8000 ∧ (r.minor = 0 ∨ r.minor = 1)
instance (r : Rq) : Decidable (okR r) := by unfold okR; infer_instance
/-- a line of three parts -/
def lineT (m t v : List UInt8) : List UInt8 := m ++ 32 :: (t ++ 32 :: v)
def lineR (r : Rq) : List UInt8 := lineT r.meth r.targ (v1 ++ Lib.itoa r.minor)
def printS (r : Rq) : Option (List UInt8) := if okR r then some (lineR r) else none
def endB (c : UInt8) : Bool := ends.contains c
def authS (l : List UInt8) : Option (List UInt8) := if l.length < 7 ∨ (l.take 7).map lowB ≠ http then none else some ((l.drop 7).takeWhile fun c => !endB c)
def formS (r : Rq) : Int := if r.meth = cnct then 4 else if r.targ = [42] then 3 else if r.targ.head? = some 47 then 1 else if (authS r.targ).isSome then 2 else 0

theorem tok_free {m : List UInt8} (h : allS tokI m = true) : (32 : UInt8) ∉ m := by
  intro hm
  rw [allS, Bool.and_eq_true] at h
  have := List.all_eq_true.1 h.2 32 hm
  revert this
  decide
theorem vis_free {m : List UInt8} (h : allS visI m = true) : (32 : UInt8) ∉ m := by
  intro hm
  rw [allS, Bool.and_eq_true] at h
  have := List.all_eq_true.1 h.2 32 hm
  revert this
  decide
theorem split_count (c : UInt8) : ∀ l, (splitS c l).length = l.count c + 1
  | [] => rfl
  | x :: l => by
    have ih := split_count c l
    have hne := List.length_pos_iff.2 (splitS_ne c l)
    unfold splitS
    by_cases hx : x = c
    · rw [if_pos hx, hx, List.count_cons_self, List.length_cons, ih]
    · rw [if_neg hx, List.count_cons_of_ne (fun e => hx (by simpa using e)), List.length_cons, List.length_tail, ih]; omega
theorem count_free {c : UInt8} {l : List UInt8} (h : l.count c = 0) : c ∉ l := List.count_eq_zero.1 h
/-- two spaces: three parts -/
theorem three {c : UInt8} {l : List UInt8} (h : l.count c = 2) : ∃ m t v, l = m ++ c :: (t ++ c :: v) ∧ c ∉ m ∧ c ∉ t ∧ c ∉ v := by
  rcases first_of (c := c) l with h0 | ⟨m, r, rfl, hm⟩
  · rw [List.count_eq_zero.2 h0] at h; omega
  · rw [List.count_append, List.count_eq_zero.2 hm, List.count_cons_self] at h
    rcases first_of (c := c) r with h0 | ⟨t, v, rfl, ht⟩
    · rw [List.count_eq_zero.2 h0] at h; omega
    · rw [List.count_append, List.count_eq_zero.2 ht, List.count_cons_self] at h
      exact ⟨m, t, v, rfl, hm, ht, count_free (by omega)⟩
theorem split_three {c : UInt8} {m t v : List UInt8} (hm : c ∉ m) (ht : c ∉ t) (hv : c ∉ v) : splitS c (m ++ c :: (t ++ c :: v)) = [m, t, v] := by
  rw [splitS_at hm, splitS_at ht, splitS_free hv]
theorem parse_three {m t v : List UInt8} (hm : (32 : UInt8) ∉ m) (ht : (32 : UInt8) ∉ t) (hv : (32 : UInt8) ∉ v) : parseS (lineT m t v) = partsS m t v := by
  rw [parseS, lineT, split_three hm ht hv]
theorem parse_few {l : List UInt8} (h : l.count 32 ≠ 2) : parseS l = (Rq.zero, 3) := by
  have hl := split_count 32 l
  unfold parseS
  split
  · rename_i e; rw [e] at hl; simp at hl; omega
  · rfl
theorem parse_split {l m t v : List UInt8} (h : splitS 32 l = [m, t, v]) : parseS l = partsS m t v := by rw [parseS, h]
theorem parse_not {l : List UInt8} (h : (splitS 32 l).length ≠ 3) : parseS l = (Rq.zero, 3) := by
  apply parse_few
  rw [split_count] at h
  omega

theorem itoa0 : Lib.itoa 0 = [48] := by
  rw [Lib.itoa, if_neg (by decide)]; exact Lib.decDigits_one (i := 0) (by decide)
theorem itoa1 : Lib.itoa 1 = [49] := by
  rw [Lib.itoa, if_neg (by decide)]; exact Lib.decDigits_one (i := 1) (by decide)
theorem minor_it {k : Int} (h : k = 0 ∨ k = 1) : minorS (v1 ++ Lib.itoa k) = some k := by
  rcases h with rfl | rfl
  · rw [itoa0]; rfl
  · rw [itoa1]; rfl
theorem v_free {k : Int} (h : k = 0 ∨ k = 1) : (32 : UInt8) ∉ v1 ++ Lib.itoa k := by
  rcases h with rfl | rfl
  · rw [itoa0]; decide
  · rw [itoa1]; decide
theorem parts_ok {m t v : List UInt8} {k : Int} (h1 : allS tokI m = true) (h2 : m.length ≤ 32) (h3 : allS visI t = true) (h4 : t.length ≤ 8000) (h5 : minorS v = some k) : partsS m t v = (⟨m, t, k⟩, 0) := by
  unfold partsS
  rw [if_neg (by rw [h1]; rintro (h | h); · cases h
                 · omega), if_neg (by rw [h3]; simp), if_neg (by omega), h5]
theorem parts_is {m t v : List UInt8} {r : Rq} (h : partsS m t v = (r, 0)) : r.meth = m ∧ r.targ = t ∧ okR r ∧ v = v1 ++ Lib.itoa r.minor := by
  unfold partsS at h
  split at h
  · cases h
  · rename_i a1
    split at h
    · cases h
    · rename_i a2
      split at h
      · cases h
      · rename_i a3
        simp only [not_or, Bool.not_eq_false, Nat.not_lt] at a1 a2 a3
        unfold minorS at h
        by_cases e1 : v = v1 ++ [48]
        · rw [if_pos e1] at h
          injection h with h _
          subst h
          exact ⟨rfl, rfl, ⟨a1.1, a1.2, a2, a3, .inl rfl⟩, by rw [itoa0]; exact e1⟩
        · rw [if_neg e1] at h
          by_cases e2 : v = v1 ++ [49]
          · rw [if_pos e2] at h
            injection h with h _
            subst h
            exact ⟨rfl, rfl, ⟨a1.1, a1.2, a2, a3, .inr rfl⟩, by rw [itoa1]; exact e2⟩
          · rw [if_neg e2] at h; cases h
/-- what is printed is parsed as it was -/
theorem parse_line {r : Rq} (h : okR r) : parseS (lineR r) = (r, 0) := by
  obtain ⟨h1, h2, h3, h4, h5⟩ := h
  rw [lineR, parse_three (tok_free h1) (vis_free h3) (v_free h5), parts_ok h1 h2 h3 h4 (minor_it h5)]
/-- what is parsed is printed as it was -/
theorem parse_ok {l : List UInt8} {r : Rq} (h : parseS l = (r, 0)) : okR r ∧ l = lineR r := by
  by_cases hc : l.count 32 = 2
  · obtain ⟨m, t, v, rfl, hm, ht, hv⟩ := three hc
    rw [show m ++ 32 :: (t ++ 32 :: v) = lineT m t v from rfl, parse_three hm ht hv] at h
    obtain ⟨rfl, rfl, ho, rfl⟩ := parts_is h
    exact ⟨ho, rfl⟩
  · rw [parse_few hc] at h
    injection h with _ h
    cases h
theorem parse_no {l : List UInt8} (h : (parseS l).2 ≠ 0) : (parseS l).1 = Rq.zero := by
  by_cases hc : l.count 32 = 2
  · obtain ⟨m, t, v, rfl, hm, ht, hv⟩ := three hc
    rw [show m ++ 32 :: (t ++ 32 :: v) = lineT m t v from rfl, parse_three hm ht hv] at h ⊢
    unfold partsS at h ⊢
    split
    · rfl
    · split
      · rfl
      · split
        · rfl
        · rename_i a1 a2 a3
          rw [if_neg a1, if_neg a2, if_neg a3] at h
          cases hv : minorS v with
          | none => rfl
          | some k => rw [hv] at h; exact absurd rfl h
  · rw [parse_few hc]
/-- a line that is no r's line tells another request, or none -/
theorem print_no {r : Rq} {l : List UInt8} (hl : (r.minor = 0 ∨ r.minor = 1) → l = lineR r) (h : (parseS l).2 ≠ 0 ∨ (parseS l).1 ≠ r) : printS r = none := by
  unfold printS
  rw [if_neg]
  intro ho
  rw [hl ho.2.2.2.2, parse_line ho] at h
  rcases h with h | h <;> exact h rfl
theorem print_yes {r : Rq} {l : List UInt8} (h1 : (parseS l).2 = 0) (h2 : (parseS l).1 = r) : printS r = some l := by
  obtain ⟨ho, rfl⟩ := parse_ok (l := l) (r := r) (by rw [← h1, ← h2])
  rw [printS, if_pos ho]
theorem print_okR {r : Rq} (h : okR r) : printS r = some (lineR r) := if_pos h
theorem print_is {r : Rq} {l : List UInt8} (h : printS r = some l) : parseS l = (r, 0) := by
  unfold printS at h
  split at h
  · rename_i ho
    injection h with h
    rw [← h]; exact parse_line ho
  · cases h

/-! authorities -/
theorem any_while (l chars : List UInt8) : (Lib.indexAny l chars = -1 ∧ l.takeWhile (fun c => !chars.contains c) = l) ∨
    ∃ k : Nat, Lib.indexAny l chars = (k : Int) ∧ k ≤ l.length ∧ l.takeWhile (fun c => !chars.contains c) = l.take k := by
  induction l with
  | nil => exact .inl ⟨rfl, rfl⟩
  | cons c l ih =>
    unfold Lib.indexAny
    by_cases hc : chars.contains c = true
    · rw [if_pos hc]
      exact .inr ⟨0, rfl, Nat.zero_le _, by rw [List.takeWhile_cons, hc]; rfl⟩
    · rw [if_neg hc]
      have hc' : (!chars.contains c) = true := by simpa using hc
      rcases ih with ⟨h1, h2⟩ | ⟨k, h1, h2, h3⟩
      · rw [h1]
        exact .inl ⟨rfl, by rw [List.takeWhile_cons, if_pos hc', h2]⟩
      · rw [h1]
        have hk : ((k : Int) == -1) = false := by rw [beq_eq_false_iff_ne]; omega
        rw [hk]
        exact .inr ⟨k + 1, by simp, by simp; omega, by rw [List.takeWhile_cons, if_pos hc', h3]; rfl⟩
theorem auth_short {l : List UInt8} (h : l.length < 7) : authS l = none := if_pos (.inl h)
theorem auth_not {l : List UInt8} (h : (l.take 7).map lowB ≠ http) : authS l = none := if_pos (.inr h)
theorem auth_is {l : List UInt8} (h1 : 7 ≤ l.length) (h2 : (l.take 7).map lowB = http) : authS l = some ((l.drop 7).takeWhile fun c => !endB c) := if_neg (by rintro (h | h) <;> first | omega | exact h h2)
end Go.Proofs.YtgbhnjkigjecmaaGreatDoor.Rl

/-
  A header's line in plain words: what is parsed, printed, found. No condition.
-/
namespace Go.Proofs.YtgbhnjkigjecmaaGreatDoor.Fd
open Go Go.Proofs.YtgbhnjkigjecmaaGreatDoor.Asc Go.Proofs.YtgbhnjkigjecmaaGreatDoor.Tx

structure Fld where
  name : List UInt8
  text : List UInt8
deriving DecidableEq
def Fld.zero : Fld := ⟨[], []⟩
/-- may not stand in a text -/
def ctlI (r : Int) : Bool := decide ((r < 32 ∧ r ≠ 9) ∨ r = 127)
def ctlB (c : UInt8) : Bool := ctlI (c.toNat : Int)
theorem ctl_low : Low ctlI := fun r h => by simp [ctlI]; omega
/-- what stands ahead of the first colon, and behind it -/
def partsS (a b : List UInt8) : Fld × Int := if allS tokI a = false then (Fld.zero, 9) else if b.any ctlB = true then (Fld.zero, 3) else (⟨a.map lowB, trimL b⟩, 0)
def parseS (l : List UInt8) : Fld × Int := if (58 : UInt8) ∈ l then partsS (l.takeWhile (· != 58)) ((l.dropWhile (· != 58)).drop 1) else (Fld.zero, 9)
def lineF (f : Fld) : List UInt8 := f.name ++ 58 :: (32 :: f.text)
def printS (f : Fld) : Option (List UInt8) := if parseS (lineF f) = (f, 0) then some (lineF f) else none
def textOf : List Fld → List UInt8
  | [] => []
  | f :: _ => f.text
def ofName (nm : List UInt8) (l : List Fld) : List Fld := l.filter fun f => decide (f.name = nm)
/-- the first one's text, and how many -/
def findS (nm : List UInt8) (l : List Fld) : List UInt8 × Nat := (textOf (ofName nm l), (ofName nm l).length)

theorem parse_free {l : List UInt8} (h : (58 : UInt8) ∉ l) : parseS l = (Fld.zero, 9) := if_neg h
theorem while_at : ∀ {a b : List UInt8}, (58 : UInt8) ∉ a → (a ++ 58 :: b).takeWhile (· != 58) = a ∧ (a ++ 58 :: b).dropWhile (· != 58) = 58 :: b
  | [], b, _ => by simp
  | x :: a, b, h => by
    have hx : (x != 58) = true := by rw [bne_iff_ne]; rintro rfl; exact h (by simp)
    obtain ⟨h1, h2⟩ := while_at (a := a) (b := b) (fun hm => h (by simp [hm]))
    rw [List.cons_append, List.takeWhile_cons, List.dropWhile_cons, if_pos hx, if_pos hx, h1, h2]
    exact ⟨rfl, rfl⟩
theorem parse_at {a b : List UInt8} (h : (58 : UInt8) ∉ a) : parseS (a ++ 58 :: b) = partsS a b := by
  obtain ⟨h1, h2⟩ := while_at (b := b) h
  rw [parseS, if_pos (by simp), h1, h2]
  rfl
theorem parts_no {a b : List UInt8} (h : allS tokI a = false) : partsS a b = (Fld.zero, 9) := if_pos h
theorem parts_bad {a b : List UInt8} (h : allS tokI a = true) (h2 : b.any ctlB = true) : partsS a b = (Fld.zero, 3) := by
  rw [partsS, if_neg (by rw [h]; simp), if_pos h2]
theorem parts_ok {a b : List UInt8} (h : allS tokI a = true) (h2 : b.any ctlB = false) : partsS a b = (⟨a.map lowB, trimL b⟩, 0) := by
  rw [partsS, if_neg (by rw [h]; simp), if_neg (by rw [h2]; simp)]
theorem parts_is {a b : List UInt8} {f : Fld} (h : partsS a b = (f, 0)) : allS tokI a = true ∧ b.any ctlB = false ∧ f = ⟨a.map lowB, trimL b⟩ := by
  unfold partsS at h
  split at h
  · cases h
  · rename_i h1
    split at h
    · cases h
    · rename_i h2
      injection h with h _
      exact ⟨by simpa using h1, by simpa using h2, h.symm⟩
theorem parts_none {a b : List UInt8} (h : (partsS a b).2 ≠ 0) : (partsS a b).1 = Fld.zero := by
  unfold partsS at h ⊢
  split
  · rfl
  · split
    · rfl
    · rename_i h1 h2
      rw [if_neg h1, if_neg h2] at h
      exact absurd rfl h
theorem parse_none {l : List UInt8} (h : (parseS l).2 ≠ 0) : (parseS l).1 = Fld.zero := by
  rcases first_of (c := 58) l with h0 | ⟨a, b, rfl, h0⟩
  · rw [parse_free h0]
  · rw [parse_at h0] at h ⊢
    exact parts_none h

set_option maxRecDepth 100000 in
theorem low_tok_all : ∀ c : Fin 256, tokI (((lowB (UInt8.ofNat c.1)).toNat : Nat) : Int) = tokI (c.1 : Int) := by decide +kernel
theorem low_tok (c : UInt8) : tokI ((lowB c).toNat : Int) = tokI (c.toNat : Int) := by
  have h := low_tok_all ⟨c.toNat, c.toNat_lt⟩
  simpa using h
set_option maxRecDepth 100000 in
theorem low_low_all : ∀ c : Fin 256, lowB (lowB (UInt8.ofNat c.1)) = lowB (UInt8.ofNat c.1) := by decide +kernel
theorem low_low (c : UInt8) : lowB (lowB c) = lowB c := by
  have h := low_low_all ⟨c.toNat, c.toNat_lt⟩
  simpa using h
set_option maxRecDepth 100000 in
theorem low_col_all : ∀ c : Fin 256, (lowB (UInt8.ofNat c.1) = 58) = (UInt8.ofNat c.1 = 58) := by
  have h : ∀ c : Fin 256, decide (lowB (UInt8.ofNat c.1) = 58) = decide (UInt8.ofNat c.1 = 58) := by decide +kernel
  intro c
  have := h c
  simpa using this
theorem low_col (c : UInt8) : lowB c = 58 ↔ c = 58 := by
  have h := low_col_all ⟨c.toNat, c.toNat_lt⟩
  simpa using h
theorem low_map (l : List UInt8) : (l.map lowB).map lowB = l.map lowB := by
  rw [List.map_map]
  exact List.map_congr_left fun c _ => low_low c
theorem allS_low (l : List UInt8) : allS tokI (l.map lowB) = allS tokI l := by
  unfold allS
  congr 1
  · cases l <;> rfl
  · rw [List.all_map]
    congr 1
    funext c
    exact low_tok c
theorem col_low {l : List UInt8} (h : (58 : UInt8) ∉ l) : (58 : UInt8) ∉ l.map lowB := fun hm => by
  obtain ⟨c, hc, e⟩ := List.mem_map.1 hm
  rw [(low_col c).1 e] at hc
  exact h hc
theorem tok_free {m : List UInt8} (h : allS tokI m = true) : (58 : UInt8) ∉ m := by
  intro hm
  rw [allS, Bool.and_eq_true] at h
  have := List.all_eq_true.1 h.2 58 hm
  revert this
  decide

theorem trim_pre {x l : List UInt8} (h : x.all blkB = true) : trimL (x ++ l) = trimL l := by
  rw [trimL, List.dropWhile_append_of_pos (fun z hz => List.all_eq_true.1 h z hz)]
  rfl
theorem while_all {x : List UInt8} (h : x.all blkB = true) : x.dropWhile blkB = [] := by
  have := List.dropWhile_append_of_pos (l₂ := []) (fun z hz => List.all_eq_true.1 h z hz)
  simpa using this
theorem trimR_post {x l : List UInt8} (h : x.all blkB = true) : trimR (l ++ x) = trimR l := by
  rw [trimR, List.reverse_append, List.dropWhile_append_of_pos (fun z hz => List.all_eq_true.1 h z (by simpa using hz))]
  rfl
theorem trim_post {x l : List UInt8} (h : x.all blkB = true) : trimL (l ++ x) = trimL l := by
  rw [trimL, trimL, List.dropWhile_append]
  split
  · rename_i he
    rw [while_all h, List.isEmpty_iff.1 he]
  · exact trimR_post h
theorem trimR_split (l : List UInt8) : ∃ y, y.all blkB = true ∧ l = trimR l ++ y := by
  refine ⟨(l.reverse.takeWhile blkB).reverse, ?_, ?_⟩
  · rw [List.all_reverse]; exact List.all_takeWhile
  · rw [trimR, ← List.reverse_append, List.takeWhile_append_dropWhile, List.reverse_reverse]
theorem trim_split (l : List UInt8) : ∃ x y, x.all blkB = true ∧ y.all blkB = true ∧ l = x ++ (trimL l ++ y) := by
  obtain ⟨y, hy, he⟩ := trimR_split (l.dropWhile blkB)
  refine ⟨l.takeWhile blkB, y, List.all_takeWhile, hy, ?_⟩
  rw [trimL, ← he, List.takeWhile_append_dropWhile]
theorem trim_trim (l : List UInt8) : trimL (trimL l) = trimL l := by
  obtain ⟨x, y, hx, hy, he⟩ := trim_split l
  generalize hT : trimL l = t at *
  rw [he, trim_pre hx, trim_post hy] at hT
  exact hT
theorem trim_ctl {l : List UInt8} (h : l.any ctlB = false) : (trimL l).any ctlB = false := by
  obtain ⟨x, y, hx, hy, he⟩ := trim_split l
  generalize trimL l = t at *
  rw [he, List.any_append, List.any_append] at h
  simp only [Bool.or_eq_false_iff] at h
  exact h.2.1
theorem trim_len (l : List UInt8) : (trimL l).length ≤ l.length := by
  obtain ⟨x, y, hx, hy, he⟩ := trim_split l
  have := congrArg List.length he
  simp only [List.length_append] at this
  omega
theorem blk32 : ([32] : List UInt8).all blkB = true := by decide
theorem trim32 (l : List UInt8) : trimL (32 :: trimL l) = trimL l := (trim_pre (x := [32]) blk32).trans (trim_trim l)
theorem ctl32 {l : List UInt8} (h : l.any ctlB = false) : ((32 : UInt8) :: trimL l).any ctlB = false := by
  rw [List.any_cons, trim_ctl h]; decide

/-- what is parsed can be printed, and is parsed the same -/
theorem parse_ok {l : List UInt8} {f : Fld} (h : parseS l = (f, 0)) : parseS (lineF f) = (f, 0) := by
  rcases first_of (c := 58) l with h0 | ⟨a, b, rfl, h0⟩
  · rw [parse_free h0] at h
    injection h with _ h
    cases h
  · rw [parse_at h0] at h
    obtain ⟨h1, h2, rfl⟩ := parts_is h
    show parseS (a.map lowB ++ 58 :: (32 :: trimL b)) = _
    rw [parse_at (col_low h0), parts_ok (by rw [allS_low]; exact h1) (ctl32 h2), low_map, trim32]
/-- what is parsed is no longer than the line -/
theorem parse_len {l : List UInt8} {f : Fld} {e : Int} (h : parseS l = (f, e)) : f.name.length ≤ l.length ∧ f.text.length ≤ l.length := by
  by_cases he : (parseS l).2 = 0
  · rcases first_of (c := 58) l with h0 | ⟨a, b, rfl, h0⟩
    · rw [parse_free h0] at he; cases he
    · rw [h] at he
      obtain rfl : e = 0 := he
      rw [parse_at h0] at h
      obtain ⟨_, _, rfl⟩ := parts_is h
      have := trim_len b
      simp
      omega
  · have := parse_none he
    rw [h] at this
    obtain rfl : f = Fld.zero := this
    exact ⟨Nat.zero_le _, Nat.zero_le _⟩
theorem print_yes {f : Fld} (h1 : parseS (lineF f) = (f, 0)) : printS f = some (lineF f) := if_pos h1
theorem print_no {f q : Fld} {E : Int} (h : parseS (lineF f) = (q, E)) (h2 : E ≠ 0 ∨ q ≠ f) : printS f = none := if_neg fun e => by
  rw [h] at e
  injection e with e1 e2
  rcases h2 with h2 | h2
  · exact h2 e2
  · exact h2 e1
theorem print_is {f : Fld} {l : List UInt8} (h : printS f = some l) : l = lineF f ∧ parseS l = (f, 0) := by
  unfold printS at h
  split at h
  · rename_i h1
    injection h with h
    subst h
    exact ⟨rfl, h1⟩
  · cases h

/-- so many blanks -/
def blanks : Nat → List UInt8
  | 0 => []
  | n + 1 => blanks n ++ [32, 9]
theorem blanks_all : ∀ n, (blanks n).all blkB = true
  | 0 => rfl
  | n + 1 => by rw [blanks, List.all_append, blanks_all n]; decide
theorem blanks_ctl : ∀ n, (blanks n).any ctlB = false
  | 0 => rfl
  | n + 1 => by rw [blanks, List.any_append, blanks_ctl n]; decide
theorem blanks_len : ∀ n, (blanks n).length = 2 * n
  | 0 => rfl
  | n + 1 => by rw [blanks, List.length_append, blanks_len n]; simp; omega
/-- blanks around a text do not matter, nor letters of names -/
theorem parse_blanks {a t : List UInt8} (n : Nat) (h : (58 : UInt8) ∉ a) : parseS (a.map lowB ++ 58 :: (blanks n ++ (t ++ blanks n))) = parseS (a ++ 58 :: t) := by
  rw [parse_at h, parse_at (col_low h)]
  unfold partsS
  rw [allS_low, low_map, trim_pre (blanks_all n), trim_post (blanks_all n), List.any_append, List.any_append, blanks_ctl, Bool.false_or, Bool.or_false]

theorem find_nil (nm : List UInt8) : findS nm [] = ([], 0) := rfl
theorem find_miss {nm : List UInt8} {l : List Fld} {f : Fld} (h : f.name ≠ nm) : findS nm (l ++ [f]) = findS nm l := by
  have e : ofName nm (l ++ [f]) = ofName nm l := by simp [ofName, h]
  rw [findS, e]; rfl
theorem find_hit {nm : List UInt8} {l : List Fld} {f : Fld} (h : f.name = nm) : ofName nm (l ++ [f]) = ofName nm l ++ [f] := by simp [ofName, h]
theorem find_first {nm : List UInt8} {l : List Fld} {f : Fld} (h : f.name = nm) (h0 : (findS nm l).2 = 0) : findS nm (l ++ [f]) = (f.text, 1) := by
  have e : ofName nm l = [] := List.eq_nil_of_length_eq_zero h0
  rw [findS, find_hit h, e]; rfl
theorem find_more {nm : List UInt8} {l : List Fld} {f : Fld} (h : f.name = nm) (h0 : (findS nm l).2 ≠ 0) : findS nm (l ++ [f]) = ((findS nm l).1, (findS nm l).2 + 1) := by
  rw [findS, find_hit h, List.length_append]
  cases e : ofName nm l with
  | nil => exact absurd (show (findS nm l).2 = 0 by rw [findS, e]; rfl) h0
  | cons x r => rw [findS, e]; rfl
theorem find_none {nm : List UInt8} {l : List Fld} (h0 : (findS nm l).2 = 0) : (findS nm l).1 = [] := by
  have e : ofName nm l = [] := List.eq_nil_of_length_eq_zero h0
  rw [findS, e]; rfl
theorem find_le (nm : List UInt8) (l : List Fld) : (findS nm l).2 ≤ l.length := List.length_filter_le _ _
theorem find_mem {nm : List UInt8} {l : List Fld} : (findS nm l).1 = [] ∨ ∃ f ∈ l, f.text = (findS nm l).1 := by
  unfold findS
  cases e : ofName nm l with
  | nil => exact .inl rfl
  | cons x r => exact .inr ⟨x, (List.mem_filter.1 (show x ∈ ofName nm l by rw [e]; simp)).1, rfl⟩
theorem take_snoc {α : Type} {l : List α} {k : Nat} {x : α} (h : l[k]? = some x) : l.take (k + 1) = l.take k ++ [x] := by
  obtain ⟨hk, rfl⟩ := List.getElem?_eq_some_iff.1 h
  exact List.take_succ_eq_append_getElem hk
end Go.Proofs.YtgbhnjkigjecmaaGreatDoor.Fd
