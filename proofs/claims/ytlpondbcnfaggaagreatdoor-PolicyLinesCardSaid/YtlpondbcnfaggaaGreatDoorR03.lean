/-
  Plain facts on runes, bytes and texts of ASCII, used by the contracts of package ascii. No condition.
-/
import Derived.Laws.RangeAny
import Derived.Test.YtlpondbcnfaggaaGreatDoorR01
import Derived.Lib.Strings
import Derived.Test.YtlpondbcnfaggaaGreatDoorR02
import Derived.Test.YtlpondbcnfaggaaGreatDoorShelf
import Derived.Lib.AppendIntMem
namespace Go.Proofs.YtlpondbcnfaggaaGreatDoor.Asc
open Go

def ltrI (r : Int) : Bool := decide ((97 ≤ r ∧ r ≤ 122) ∨ (65 ≤ r ∧ r ≤ 90))
def digI (r : Int) : Bool := decide (48 ≤ r ∧ r ≤ 57)
def sgnI (r : Int) : Bool := decide (r = 33 ∨ r = 35 ∨ r = 36 ∨ r = 37 ∨ r = 38 ∨ r = 39 ∨ r = 42 ∨ r = 43 ∨ r = 45 ∨ r = 46 ∨ r = 94 ∨ r = 95 ∨ r = 96 ∨ r = 124 ∨ r = 126)
def tokI (r : Int) : Bool := ltrI r || digI r || sgnI r
def visI (r : Int) : Bool := decide (33 ≤ r ∧ r ≤ 126)
def blkI (r : Int) : Bool := decide (r = 32 ∨ r = 9)
def hexI (r : Int) : Option Int := if 48 ≤ r ∧ r ≤ 57 then some (r - 48) else if 97 ≤ r ∧ r ≤ 102 then some (r - 87) else if 65 ≤ r ∧ r ≤ 70 then some (r - 55) else none

/-- false of all that is no ASCII -/
def Low (p : Int → Bool) : Prop := ∀ r, 128 ≤ r → p r = false
theorem tok_low : Low tokI := fun r h => by simp [tokI, ltrI, digI, sgnI]; omega
theorem vis_low : Low visI := fun r h => by simp [visI]; omega
theorem blk_low : Low blkI := fun r h => by simp [blkI]; omega
theorem hex_low (r : Int) (h : 128 ≤ r) : hexI r = none := by unfold hexI; rw [if_neg (by omega), if_neg (by omega), if_neg (by omega)]
theorem hex_bd {r d : Int} (h : hexI r = some d) : 0 ≤ d ∧ d ≤ 15 := by
  unfold hexI at h
  split at h
  · injection h; omega
  · split at h
    · injection h; omega
    · split at h
      · injection h; omega
      · cases h

/-- the rune at a place, and its byte -/
theorem at_rune {p : Int → Bool} (hp : Low p) (s : ByteArray) (pos : Nat) (h : pos < s.size) :
    p ((Utf8.decode s pos).1 : Int) = p ((s[pos]'h).toNat : Int) ∧ (p ((s[pos]'h).toNat : Int) = true → (Utf8.decode s pos).2 = 1) := by
  by_cases ha : (s[pos]'h).toNat < 128
  · rw [decode_ascii s pos h ha]
    exact ⟨rfl, fun _ => rfl⟩
  · have hd := decode_high s pos h (by omega)
    rw [hp _ (by omega), hp _ (by omega)]
    exact ⟨rfl, fun h => by cases h⟩
theorem at_hex (s : ByteArray) (pos : Nat) (h : pos < s.size) :
    hexI ((Utf8.decode s pos).1 : Int) = hexI ((s[pos]'h).toNat : Int) ∧ (∀ d, hexI ((s[pos]'h).toNat : Int) = some d → (Utf8.decode s pos).2 = 1) := by
  by_cases ha : (s[pos]'h).toNat < 128
  · rw [decode_ascii s pos h ha]
    exact ⟨rfl, fun _ _ => rfl⟩
  · have hd := decode_high s pos h (by omega)
    rw [hex_low _ (by omega), hex_low _ (by omega)]
    exact ⟨rfl, fun _ h => by cases h⟩

theorem get_eq (s : ByteArray) (i : Nat) (h : i < s.size) : s.get! i = s[i]'h := by
  simp [ByteArray.get!, getElem!_pos, h]
  rfl

/-- the bytes of a rune that is no ASCII are none -/
theorem wide_high (s : ByteArray) (pos : Nat) (h : pos < s.size) (ha : 128 ≤ (s[pos]'h).toNat) :
    pos + (Utf8.decode s pos).2 ≤ s.size ∧ ∀ k, k < (Utf8.decode s pos).2 → 128 ≤ (s.get! (pos + k)).toNat := by
  have h0 : 128 ≤ (s.get! pos).toNat := by rw [get_eq s pos h]; exact ha
  have hn : ¬ (s.get! (pos + 0)).toNat < 128 := by simp only [Nat.add_zero]; omega
  have one : pos + 1 ≤ s.size ∧ ∀ k, k < 1 → 128 ≤ (s.get! (pos + k)).toNat := ⟨by omega, fun k hk => by obtain rfl : k = 0 := (by omega); exact h0⟩
  simp only [Utf8.decode, hn, if_false]
  split
  · rename_i hc
    simp only [Bool.and_eq_true, decide_eq_true_eq, beq_iff_eq] at hc
    split
    · refine ⟨by omega, fun k hk => ?_⟩
      simp only at hk
      obtain rfl | rfl : k = 0 ∨ k = 1 := by omega
      · exact h0
      · omega
    · exact one
  · split
    · rename_i hc
      simp only [Bool.and_eq_true, decide_eq_true_eq, beq_iff_eq] at hc
      split
      · refine ⟨by simp only; omega, fun k hk => ?_⟩
        simp only at hk
        obtain rfl | rfl | rfl : k = 0 ∨ k = 1 ∨ k = 2 := by omega
        · exact h0
        · omega
        · omega
      · exact one
    · split
      · rename_i hc
        simp only [Bool.and_eq_true, decide_eq_true_eq, beq_iff_eq] at hc
        split
        · refine ⟨by simp only; omega, fun k hk => ?_⟩
          simp only at hk
          obtain rfl | rfl | rfl | rfl : k = 0 ∨ k = 1 ∨ k = 2 ∨ k = 3 := by omega
          · exact h0
          · omega
          · omega
          · omega
        · exact one
      · exact one

/-- a string's bytes -/
def bs (s : ByteArray) : List UInt8 := s.data.toList
theorem bs_length (s : ByteArray) : (bs s).length = s.size := rfl
theorem bs_get (s : ByteArray) (k : Nat) (h : k < s.size) : (bs s)[k]'(by rw [bs_length]; exact h) = s[k]'h := rfl
theorem bs_drop (s : ByteArray) (k : Nat) (h : k < s.size) : (bs s).drop k = (s[k]'h) :: (bs s).drop (k + 1) := by
  rw [List.drop_eq_getElem_cons (by rw [bs_length]; exact h)]; rfl
theorem bs_take (s : ByteArray) (k : Nat) (h : k < s.size) : (bs s).take (k + 1) = (bs s).take k ++ [s[k]'h] := by
  rw [List.take_succ_eq_append_getElem (by rw [bs_length]; exact h)]; rfl
theorem bs_end (s : ByteArray) (k : Nat) (h : ¬ k < s.size) : (bs s).drop k = [] := List.drop_of_length_le (by rw [bs_length]; omega)
theorem bs_inj {s t : ByteArray} (h : bs s = bs t) : s = t := by
  cases s; cases t; simp only [bs] at h; congr 1; exact Array.ext' h
theorem bs_mk (l : List UInt8) : bs ⟨l.toArray⟩ = l := rfl
theorem bs_nil (s : ByteArray) (h : s.size = 0) : bs s = [] := List.eq_nil_of_length_eq_zero (by rw [bs_length]; exact h)

/-- not empty, each byte such a one -/
def allS (p : Int → Bool) (l : List UInt8) : Bool := !l.isEmpty && l.all fun c => p (c.toNat : Int)

/-- the number of digits -/
def foldv (base : Int) : List UInt8 → Int → Option Int
  | [], n => some n
  | c :: l, n => match hexI (c.toNat : Int) with
    | none => none
    | some d => if d < base then foldv base l (n * base + d) else none
def digitsS (base : Int) (most : Nat) (l : List UInt8) : Option Int := if l.length = 0 ∨ most < l.length then none else foldv base l 0
/-- Number -/
def numS (l : List UInt8) (most : Int) : Option Int :=
  if 1 < l.length ∧ l[0]? = some 48 then none else match digitsS 10 18 l with | none => none | some n => if most < n then none else some n
def hexS (l : List UInt8) : Option Int := digitsS 16 4 l

/-- a small byte -/
def lowB (c : UInt8) : UInt8 := if 65 ≤ c ∧ c ≤ 90 then c + 32 else c
/-- without blanks at its ends -/
def blkB (c : UInt8) : Bool := blkI (c.toNat : Int)
def trimR (l : List UInt8) : List UInt8 := (l.reverse.dropWhile blkB).reverse
def trimL (l : List UInt8) : List UInt8 := trimR (l.dropWhile blkB)
end Go.Proofs.YtlpondbcnfaggaaGreatDoor.Asc

/-
  Contracts of package ascii's functions of one rune that Number and Hex reach: isDigit, digit.
-/
namespace Go.Proofs.YtlpondbcnfaggaaGreatDoor.Asc
open Go.RowKit Go.Proofs.YtlpondbcnfaggaaGreatDoor.Wd

theorem ret_b {a b : Bool} (h : a = b) : Ending.returned (.bool a) = .returned (.bool b) := by rw [h]

theorem isDigit_any (r : Int) (w : World) : Calls Tryz.prog 190 #[.int .i32 r] w fun e w' => e = .returned (.bool (digI r)) ∧ w = w' := by
  by_cases a1 : 48 ≤ r <;> by_cases a2 : r ≤ 57
  all_goals first
    | (exfalso; omega)
    | (go_enter Tryz.func190, Tryz.ntmps190
       go_wp2
       go_ret
       exact ⟨ret_b (by simp [digI] <;> omega), rfl⟩)

theorem digit_none (r : Int) (w : World) (h : hexI r = none) : Calls Tryz.prog 167 #[.int .i32 r] w fun e w' => e = .returned (.tuple #[.int .i64 0, .bool false]) ∧ w = w' := by
  have n1 : ¬ (48 ≤ r ∧ r ≤ 57) := fun k => by rw [hexI, if_pos k] at h; cases h
  have n2 : ¬ (97 ≤ r ∧ r ≤ 102) := fun k => by rw [hexI, if_neg n1, if_pos k] at h; cases h
  have n3 : ¬ (65 ≤ r ∧ r ≤ 70) := fun k => by rw [hexI, if_neg n1, if_neg n2, if_pos k] at h; cases h
  have D := Lib.hid (show digI r = false by simp [digI]; omega)
  clear h
  by_cases a1 : 97 ≤ r <;> by_cases a2 : r ≤ 102 <;> by_cases a3 : 65 ≤ r <;> by_cases a4 : r ≤ 70
  all_goals first
    | (exfalso; omega)
    | (clear n1 n2 n3
       go_enter Tryz.func167, Tryz.ntmps167
       go_wp2_with (go_at_call 190; refine (isDigit_any _ _).mono ?_; rintro e w' ⟨rfl, rfl⟩; rw [D.out])
       go_ret2
       exact ⟨rfl, rfl⟩)

theorem ret_nb {a b : Int} (h : a = b) : Ending.returned (.tuple #[.int .i64 a, .bool true]) = .returned (.tuple #[.int .i64 b, .bool true]) := by rw [h]

theorem digit_some (r d : Int) (w : World) (h : hexI r = some d) : Calls Tryz.prog 167 #[.int .i32 r] w fun e w' => e = .returned (.tuple #[.int .i64 d, .bool true]) ∧ w = w' := by
  by_cases n1 : 48 ≤ r ∧ r ≤ 57
  · have e : d = r - 48 := by rw [hexI, if_pos n1] at h; injection h; omega
    have D := Lib.hid (show digI r = true by simp [digI]; omega)
    obtain ⟨a1, a2⟩ := n1
    clear h
    subst e
    go_enter Tryz.func167, Tryz.ntmps167
    go_wp2_with (go_at_call 190; refine (isDigit_any _ _).mono ?_; rintro e w' ⟨rfl, rfl⟩; rw [D.out])
    go_ret2
    exact ⟨ret_nb (by omega), rfl⟩
  · have D := Lib.hid (show digI r = false by simp [digI]; omega)
    by_cases n2 : 97 ≤ r ∧ r ≤ 102
    · have e : d = r - 87 := by rw [hexI, if_neg n1, if_pos n2] at h; injection h; omega
      obtain ⟨a1, a2⟩ := n2
      clear h n1
      subst e
      go_enter Tryz.func167, Tryz.ntmps167
      go_wp2_with (go_at_call 190; refine (isDigit_any _ _).mono ?_; rintro e w' ⟨rfl, rfl⟩; rw [D.out])
      go_ret2
      exact ⟨ret_nb (by omega), rfl⟩
    · by_cases n3 : 65 ≤ r ∧ r ≤ 70
      · have e : d = r - 55 := by rw [hexI, if_neg n1, if_neg n2, if_pos n3] at h; injection h; omega
        obtain ⟨a1, a2⟩ := n3
        clear h n1 n2
        subst e
        have b : ¬ 97 ≤ r := by omega
        go_enter Tryz.func167, Tryz.ntmps167
        go_wp2_with (go_at_call 190; refine (isDigit_any _ _).mono ?_; rintro e w' ⟨rfl, rfl⟩; rw [D.out])
        go_ret2
        exact ⟨ret_nb (by omega), rfl⟩
      · rw [hexI, if_neg n1, if_neg n2, if_neg n3] at h
        cases h

theorem below_iter (w : World) (s : ByteArray) (pos : Nat) : Below w.heap.size w (w.iter s pos) := (Below.refl _ _).alloc (Nat.le_refl _) _
end Go.Proofs.YtlpondbcnfaggaaGreatDoor.Asc

/-
  Contracts of package ascii's digits, Number and Hex.
-/
namespace Go.Proofs.YtlpondbcnfaggaaGreatDoor.Asc
open Go.RowKit Go.Proofs.YtlpondbcnfaggaaGreatDoor.Wd

/-- a number, or none, as both results -/
def dTup : Option Int → Value
  | none => .tuple #[.int .i64 0, .bool false]
  | some n => .tuple #[.int .i64 n, .bool true]
theorem ret_no {o : Option Int} (h : o = none) : Ending.returned (.tuple #[.int .i64 0, .bool false]) = .returned (dTup o) := by rw [h]; rfl
theorem ret_yes {o : Option Int} {n : Int} (h : o = some n) : Ending.returned (.tuple #[.int .i64 n, .bool true]) = .returned (dTup o) := by rw [h]; rfl

theorem fold_none (B : Int) (s : ByteArray) (pos : Nat) (n : Int) (h : pos < s.size) (hc : hexI ((s[pos]'h).toNat : Int) = none) : foldv B ((bs s).drop pos) n = none := by
  rw [bs_drop s pos h, foldv, hc]
theorem fold_big (B : Int) (s : ByteArray) (pos : Nat) (n d : Int) (h : pos < s.size) (hc : hexI ((s[pos]'h).toNat : Int) = some d) (hd : ¬ d < B) : foldv B ((bs s).drop pos) n = none := by
  rw [bs_drop s pos h, foldv, hc]; simp only [if_neg hd]
theorem fold_on (B : Int) (s : ByteArray) (pos : Nat) (n d : Int) (h : pos < s.size) (hc : hexI ((s[pos]'h).toNat : Int) = some d) (hd : d < B) : foldv B ((bs s).drop pos) n = foldv B ((bs s).drop (pos + 1)) (n * B + d) := by
  rw [bs_drop s pos h, foldv, hc]; simp only [if_pos hd]
theorem digits_in (B : Int) (M : Nat) (s : ByteArray) (h0 : 0 < s.size) (hM : s.size ≤ M) : digitsS B M (bs s) = foldv B (bs s) 0 := by
  rw [digitsS, bs_length, if_neg (by omega)]

def DigIn (B : Nat) (Bi : Int) (s : ByteArray) (w : World) (x : Value) (w' : World) : Prop :=
  ∃ (pos : Nat) (n : Int), w' = w.iter s pos ∧ x = .int .i64 n ∧ pos ≤ s.size ∧ 0 ≤ n ∧ n < ((B ^ pos : Nat) : Int) ∧ foldv Bi ((bs s).drop pos) n = foldv Bi (bs s) 0

theorem pow_bd10 (pos : Nat) (h : pos < 18) : (((10 : Nat) ^ pos : Nat) : Int) ≤ 100000000000000000 := by
  have h1 : (10 : Nat) ^ pos ≤ 10 ^ 17 := Nat.pow_le_pow_right (by omega) (by omega)
  have h2 : (10 : Nat) ^ 17 = 100000000000000000 := by decide
  omega
set_option maxHeartbeats 1000000 in
theorem digits10_in (s : ByteArray) (w : World) (h0 : 0 < s.size) (hM : s.size ≤ 18) :
    Calls Tryz.prog 135 #[.string s, .int .i64 10, .int .i64 18] w fun e w' => e = .returned (dTup (digitsS 10 18 (bs s))) ∧ Below w.heap.size w w' := by
  have E := Lib.hid (digits_in 10 18 s h0 hM)
  have hne : s.toList.isEmpty = false := by
    rw [Lib.toList_data]
    have := bs_length s
    cases h : s.data.toList with
    | nil => rw [bs, h] at this; simp at this; omega
    | cons a l => rfl
  have hne2 : ¬ s.toList = [] := by
    intro h; rw [h] at hne; cases hne
  go_enter Tryz.func135, Tryz.ntmps135
  go_wp2
  clear hne hne2
  go_loopw [8] (fun x w' => DigIn 10 10 s w x w') (fun _ w' => s.size - w'.iterPos w.heap.size)
  case atStart => exact ⟨0, 0, rfl, rfl, Nat.zero_le _, Int.le_refl _, by simp, rfl⟩
  case round =>
    obtain ⟨pos, n, rfl, rfl, hle, hn0, hn1, hf⟩ := hrel
    have HF := Lib.hid hf
    clear hf
    by_cases hp : pos < s.size
    · obtain ⟨hr, h1⟩ := at_hex s pos hp
      have hpw := pow_bd10 pos (by omega)
      have hnx : ∀ ty, (Instr.next (.pointer (some ⟨w.heap.size, 0, none⟩)) true ty).run Tryz.prog (w.iter s pos) = _ := fun ty => run_next_any w s pos ty hp
      cases hc : hexI ((s[pos]'hp).toNat : Int) with
      | none =>
        have HC := Lib.hid hc
        rw [hc] at hr
        have HR := Lib.hid hr
        clear hr hc h1
        go_wp2_with (go_at_call 167; refine (digit_none _ _ HR.out).mono ?_; rintro e w' ⟨rfl, rfl⟩)
        go_ret2
        exact ⟨ret_no (by rw [E.out, ← HF.out]; exact fold_none _ s pos n hp HC.out), below_iter _ _ _⟩
      | some d =>
        have h1' := h1 d hc
        rw [h1'] at hnx
        have hb := hex_bd hc
        obtain ⟨hb0, hb1⟩ := hb
        have HC := Lib.hid hc
        rw [hc] at hr
        have HR := Lib.hid hr
        clear hr hc h1 h1'
        have hn2 : n ≤ 100000000000000000 - 1 := by omega
        by_cases hd : d < 10
        · have HN := Lib.hid (show n * 10 + d < (((10 : Nat) ^ (pos + 1) : Nat) : Int) by rw [Nat.pow_succ]; omega)
          clear hn1 hpw
          go_wp2_with (go_at_call 167; refine (digit_some _ _ _ HR.out).mono ?_; rintro e w' ⟨rfl, rfl⟩)
          go_roundw
          case rel => exact ⟨pos + 1, n * 10 + d, rfl, by go_num, hp, by omega, HN.out, by rw [← HF.out]; exact (fold_on _ s pos n d hp HC.out hd).symm⟩
          case measure => simp; omega
        · have hd' : 10 ≤ d := by omega
          clear hn1 hpw
          go_wp2_with (go_at_call 167; refine (digit_some _ _ _ HR.out).mono ?_; rintro e w' ⟨rfl, rfl⟩)
          go_ret2
          exact ⟨ret_no (by rw [E.out, ← HF.out]; exact fold_big _ s pos n d hp HC.out (by omega)), below_iter _ _ _⟩
    · have hnx := fun ty => run_next_end (P := Tryz.prog) w s pos ty hp
      clear hn1
      go_wp2
      go_ret2
      exact ⟨ret_yes (by rw [E.out, ← HF.out, bs_end s pos hp]; rfl), below_iter _ _ _⟩

theorem digits10_any (s : ByteArray) (w : World) (hs : s.size ≤ maxLen) :
    Calls Tryz.prog 135 #[.string s, .int .i64 10, .int .i64 18] w fun e w' => e = .returned (dTup (digitsS 10 18 (bs s))) ∧ Below w.heap.size w w' := by
  unfold maxLen at hs
  by_cases h0 : s.size = 0
  · have e : s = ⟨#[]⟩ := bs_inj (bs_nil s h0)
    subst e
    go_enter Tryz.func135, Tryz.ntmps135
    go_wp2
    go_ret2
    exact ⟨ret_no rfl, Below.refl _ _⟩
  · by_cases hM : s.size ≤ 18
    · exact digits10_in s w (by omega) hM
    · have hE := Lib.hid (show digitsS 10 18 (bs s) = none by rw [digitsS, bs_length, if_pos (by omega)])
      have hne2 : ¬ s.toList = [] := by
        rw [Lib.toList_data]
        intro h
        exact h0 (by rw [← bs_length, bs, h]; rfl)
      have hne : s.toList.isEmpty = false := by simpa using hne2
      have hgt : (18 : Int) < (s.size : Int) := by omega
      go_enter Tryz.func135, Tryz.ntmps135
      go_wp2
      go_ret2
      exact ⟨ret_no hE.out, Below.refl _ _⟩

theorem pow_bd16 (pos : Nat) (h : pos < 4) : (((16 : Nat) ^ pos : Nat) : Int) ≤ 4096 := by
  have h1 : (16 : Nat) ^ pos ≤ 16 ^ 3 := Nat.pow_le_pow_right (by omega) (by omega)
  have h2 : (16 : Nat) ^ 3 = 4096 := by decide
  omega
set_option maxHeartbeats 1000000 in
theorem digits16_in (s : ByteArray) (w : World) (h0 : 0 < s.size) (hM : s.size ≤ 4) :
    Calls Tryz.prog 135 #[.string s, .int .i64 16, .int .i64 4] w fun e w' => e = .returned (dTup (digitsS 16 4 (bs s))) ∧ Below w.heap.size w w' := by
  have E := Lib.hid (digits_in 16 4 s h0 hM)
  have hne : s.toList.isEmpty = false := by
    rw [Lib.toList_data]
    have := bs_length s
    cases h : s.data.toList with
    | nil => rw [bs, h] at this; simp at this; omega
    | cons a l => rfl
  have hne2 : ¬ s.toList = [] := by
    intro h; rw [h] at hne; cases hne
  go_enter Tryz.func135, Tryz.ntmps135
  go_wp2
  clear hne hne2
  go_loopw [8] (fun x w' => DigIn 16 16 s w x w') (fun _ w' => s.size - w'.iterPos w.heap.size)
  case atStart => exact ⟨0, 0, rfl, rfl, Nat.zero_le _, Int.le_refl _, by simp, rfl⟩
  case round =>
    obtain ⟨pos, n, rfl, rfl, hle, hn0, hn1, hf⟩ := hrel
    have HF := Lib.hid hf
    clear hf
    by_cases hp : pos < s.size
    · obtain ⟨hr, h1⟩ := at_hex s pos hp
      have hpw := pow_bd16 pos (by omega)
      have hnx : ∀ ty, (Instr.next (.pointer (some ⟨w.heap.size, 0, none⟩)) true ty).run Tryz.prog (w.iter s pos) = _ := fun ty => run_next_any w s pos ty hp
      cases hc : hexI ((s[pos]'hp).toNat : Int) with
      | none =>
        have HC := Lib.hid hc
        rw [hc] at hr
        have HR := Lib.hid hr
        clear hr hc h1
        go_wp2_with (go_at_call 167; refine (digit_none _ _ HR.out).mono ?_; rintro e w' ⟨rfl, rfl⟩)
        go_ret2
        exact ⟨ret_no (by rw [E.out, ← HF.out]; exact fold_none _ s pos n hp HC.out), below_iter _ _ _⟩
      | some d =>
        have h1' := h1 d hc
        rw [h1'] at hnx
        have hb := hex_bd hc
        obtain ⟨hb0, hb1⟩ := hb
        have HC := Lib.hid hc
        rw [hc] at hr
        have HR := Lib.hid hr
        clear hr hc h1 h1'
        have hn2 : n ≤ 4096 - 1 := by omega
        by_cases hd : d < 16
        · have HN := Lib.hid (show n * 16 + d < (((16 : Nat) ^ (pos + 1) : Nat) : Int) by rw [Nat.pow_succ]; omega)
          clear hn1 hpw
          go_wp2_with (go_at_call 167; refine (digit_some _ _ _ HR.out).mono ?_; rintro e w' ⟨rfl, rfl⟩)
          go_roundw
          case rel => exact ⟨pos + 1, n * 16 + d, rfl, by go_num, hp, by omega, HN.out, by rw [← HF.out]; exact (fold_on _ s pos n d hp HC.out hd).symm⟩
          case measure => simp; omega
        · have hd' : 16 ≤ d := by omega
          clear hn1 hpw
          go_wp2_with (go_at_call 167; refine (digit_some _ _ _ HR.out).mono ?_; rintro e w' ⟨rfl, rfl⟩)
          go_ret2
          exact ⟨ret_no (by rw [E.out, ← HF.out]; exact fold_big _ s pos n d hp HC.out (by omega)), below_iter _ _ _⟩
    · have hnx := fun ty => run_next_end (P := Tryz.prog) w s pos ty hp
      clear hn1
      go_wp2
      go_ret2
      exact ⟨ret_yes (by rw [E.out, ← HF.out, bs_end s pos hp]; rfl), below_iter _ _ _⟩

theorem digits16_any (s : ByteArray) (w : World) (hs : s.size ≤ maxLen) :
    Calls Tryz.prog 135 #[.string s, .int .i64 16, .int .i64 4] w fun e w' => e = .returned (dTup (digitsS 16 4 (bs s))) ∧ Below w.heap.size w w' := by
  unfold maxLen at hs
  by_cases h0 : s.size = 0
  · have e : s = ⟨#[]⟩ := bs_inj (bs_nil s h0)
    subst e
    go_enter Tryz.func135, Tryz.ntmps135
    go_wp2
    go_ret2
    exact ⟨ret_no rfl, Below.refl _ _⟩
  · by_cases hM : s.size ≤ 4
    · exact digits16_in s w (by omega) hM
    · have hE := Lib.hid (show digitsS 16 4 (bs s) = none by rw [digitsS, bs_length, if_pos (by omega)])
      have hne2 : ¬ s.toList = [] := by
        rw [Lib.toList_data]
        intro h
        exact h0 (by rw [← bs_length, bs, h]; rfl)
      have hne : s.toList.isEmpty = false := by simpa using hne2
      have hgt : (4 : Int) < (s.size : Int) := by omega
      go_enter Tryz.func135, Tryz.ntmps135
      go_wp2
      go_ret2
      exact ⟨ret_no hE.out, Below.refl _ _⟩

theorem hex_any (s : ByteArray) (w : World) (hs : s.size ≤ maxLen) :
    Calls Tryz.prog 166 #[.string s] w fun e w' => e = .returned (dTup (hexS (bs s))) ∧ Below w.heap.size w w' := by
  cases h : hexS (bs s) with
  | none =>
    have H := Lib.hid (show digitsS 16 4 (bs s) = none from h)
    clear h
    go_enter Tryz.func166, Tryz.ntmps166
    go_wp2_with (go_at_call 135; refine (digits16_any _ _ hs).mono ?_; rintro e w' ⟨rfl, hb⟩; rw [H.out, dTup])
    go_ret2
    exact ⟨rfl, hb⟩
  | some n =>
    have H := Lib.hid (show digitsS 16 4 (bs s) = some n from h)
    clear h
    go_enter Tryz.func166, Tryz.ntmps166
    go_wp2_with (go_at_call 135; refine (digits16_any _ _ hs).mono ?_; rintro e w' ⟨rfl, hb⟩; rw [H.out, dTup])
    go_ret2
    exact ⟨rfl, hb⟩

theorem num_zero (l : List UInt8) (most : Int) (h1 : 1 < l.length) (h2 : l[0]? = some 48) : numS l most = none := by rw [numS, if_pos ⟨h1, h2⟩]
theorem num_none (l : List UInt8) (most : Int) (h : digitsS 10 18 l = none) : numS l most = none := by
  rw [numS]; split
  · rfl
  · rw [h]
theorem num_big (l : List UInt8) (most n : Int) (h : digitsS 10 18 l = some n) (hm : most < n) : numS l most = none := by
  rw [numS]; split
  · rfl
  · rw [h]; simp only [if_pos hm]
theorem num_yes (l : List UInt8) (most n : Int) (h0 : ¬ (1 < l.length ∧ l[0]? = some 48)) (h : digitsS 10 18 l = some n) (hm : ¬ most < n) : numS l most = some n := by
  rw [numS, if_neg h0, h]; simp only [if_neg hm]

theorem first_is (s : ByteArray) (h : 0 < s.size) : (bs s)[0]? = some (s[0]'h) := by
  rw [List.getElem?_eq_getElem (by rw [bs_length]; exact h)]; rfl
theorem byte_ne {c : UInt8} {k : Nat} (hk : k < 256) (h : ¬ c = UInt8.ofNat k) : ((c.toNat : Int) == (k : Int)) = false := by
  have : ¬ c.toNat = k := fun e => h (by apply UInt8.toNat.inj; rw [e]; simp; omega)
  simp; omega

set_option maxHeartbeats 1000000 in
theorem number_any (s : ByteArray) (most : Int) (w : World) (hs : s.size ≤ maxLen) :
    Calls Tryz.prog 96 #[.string s, .int .i64 most] w fun e w' => e = .returned (dTup (numS (bs s) most)) ∧ Below w.heap.size w w' := by
  have hs' := hs
  unfold maxLen at hs
  by_cases hz : 1 < s.size ∧ (bs s)[0]? = some 48
  · obtain ⟨h1, h2⟩ := hz
    have h0 : 0 < s.size := by omega
    rw [first_is s h0] at h2
    injection h2 with h2
    have HN := Lib.hid (num_zero (bs s) most (by rw [bs_length]; exact h1) (by rw [first_is s h0, h2]))
    have hb : (((s[0]'h0).toNat : Int) == 48) = true := by rw [h2]; rfl
    clear h2
    go_enter Tryz.func96, Tryz.ntmps96
    go_wp2
    go_ret2
    exact ⟨ret_no HN.out, Below.refl _ _⟩
  · have HZ := Lib.hid hz
    clear hz
    by_cases h1 : 1 < s.size
    · have h0 : 0 < s.size := by omega
      have hb : (((s[0]'h0).toNat : Int) == 48) = false := byte_ne (k := 48) (by omega) (fun e => HZ.out ⟨h1, by rw [first_is s h0, e]; rfl⟩)
      cases h : digitsS 10 18 (bs s) with
      | none =>
        have H := Lib.hid h
        clear h
        go_enter Tryz.func96, Tryz.ntmps96
        go_wp2_with (go_at_call 135; refine (digits10_any _ _ hs').mono ?_; rintro e w' ⟨rfl, hbe⟩; rw [H.out, dTup])
        go_ret2
        exact ⟨ret_no (num_none _ _ H.out), hbe⟩
      | some n =>
        have H := Lib.hid h
        clear h
        by_cases hm : most < n
        · go_enter Tryz.func96, Tryz.ntmps96
          go_wp2_with (go_at_call 135; refine (digits10_any _ _ hs').mono ?_; rintro e w' ⟨rfl, hbe⟩; rw [H.out, dTup])
          go_ret2
          exact ⟨ret_no (num_big _ _ _ H.out hm), hbe⟩
        · go_enter Tryz.func96, Tryz.ntmps96
          go_wp2_with (go_at_call 135; refine (digits10_any _ _ hs').mono ?_; rintro e w' ⟨rfl, hbe⟩; rw [H.out, dTup])
          go_ret2
          exact ⟨ret_yes (num_yes _ _ _ HZ.out H.out (by omega)), hbe⟩
    · have h1' : ¬ (1 : Int) < (s.size : Int) := by omega
      cases h : digitsS 10 18 (bs s) with
      | none =>
        have H := Lib.hid h
        clear h
        go_enter Tryz.func96, Tryz.ntmps96
        go_wp2_with (go_at_call 135; refine (digits10_any _ _ hs').mono ?_; rintro e w' ⟨rfl, hbe⟩; rw [H.out, dTup])
        go_ret2
        exact ⟨ret_no (num_none _ _ H.out), hbe⟩
      | some n =>
        have H := Lib.hid h
        clear h
        by_cases hm : most < n
        · go_enter Tryz.func96, Tryz.ntmps96
          go_wp2_with (go_at_call 135; refine (digits10_any _ _ hs').mono ?_; rintro e w' ⟨rfl, hbe⟩; rw [H.out, dTup])
          go_ret2
          exact ⟨ret_no (num_big _ _ _ H.out hm), hbe⟩
        · go_enter Tryz.func96, Tryz.ntmps96
          go_wp2_with (go_at_call 135; refine (digits10_any _ _ hs').mono ?_; rintro e w' ⟨rfl, hbe⟩; rw [H.out, dTup])
          go_ret2
          exact ⟨ret_yes (num_yes _ _ _ HZ.out H.out (by omega)), hbe⟩
end Go.Proofs.YtlpondbcnfaggaaGreatDoor.Asc

/-
  What the library's variables hold where a call begins, and what stands of it behind; strings.Cut, strings.Contains, strconv.Itoa so.
-/
namespace Go.Proofs.YtlpondbcnfaggaaGreatDoor.Ad
open Go.RowKit Go.Proofs.YtlpondbcnfaggaaGreatDoor.Wd Go.Proofs.YtlpondbcnfaggaaGreatDoor.Asc

structure Env (B : Nat) (w : World) : Prop where
  max : ∃ m, w.cell? ⟨0, 0, none⟩ = some (.int .i64 m)
  tab : Lib.TabBelow Tryz.prog B w "internal/strconv.uint64pow10" .u64 Lib.pow10Tab
  low : 0 < B
  le : B ≤ w.heap.size
  tz : w.cell? ⟨5, 15, none⟩ = some (.int .u8 4)
  lowz : 5 < B
theorem Env.below {B : Nat} {w w' : World} (h : Env B w) (hb : Below B w w') : Env B w' where
  max := by
    obtain ⟨m, hm⟩ := h.max
    exact ⟨m, (hb.cell (p := ⟨0, 0, none⟩) h.low).trans hm⟩
  tab := h.tab.on hb
  low := h.low
  le := Nat.le_trans h.le hb.size
  tz := (hb.cell (p := ⟨5, 15, none⟩) h.lowz).trans h.tz
  lowz := h.lowz
theorem Env.on {B : Nat} {w w' : World} (h : Env B w) (hb : Below w.heap.size w w') : Env B w' := h.below (hb.mono h.le)

/-- a list of bytes as a string -/
abbrev str (l : List UInt8) : ByteArray := ⟨l.toArray⟩
theorem str_size (l : List UInt8) : (str l).size = l.length := by show l.toArray.size = _; simp
theorem str_bs (s : ByteArray) : str (bs s) = s := by apply bs_inj; rfl

theorem below_grow (B : Nat) (w : World) (q : Nat) (os : Array Obj) (hB : B ≤ w.heap.size) : Below B w (Sort.grow (w.drewN q) os) :=
  ⟨rfl, rfl, rfl, by first | (simp [Sort.grow]; done) | (simp [Sort.grow]; omega), fun i hi => by
    show ((w.drewN q).heap ++ os)[i]? = _
    rw [Array.getElem?_append_left (by show i < w.heap.size; omega)]
    rfl⟩
theorem below_drewN' (w : World) (n : Nat) : Below w.heap.size w (w.drewN n) := ⟨rfl, rfl, rfl, Nat.le_refl _, fun _ _ => rfl⟩
theorem cut_any {B : Nat} (l sep : List UInt8) (w : World) (hE : Env B w) (hl : l.length < 4294967281) :
    Calls Tryz.prog 60 #[.string (str l), .string (str sep)] w fun e w' =>
      e = .returned (.tuple #[.string (str (Lib.cut l sep).1), .string (str (Lib.cut l sep).2.1), .bool (Lib.cut l sep).2.2]) ∧ Below w.heap.size w w' := by
  obtain ⟨m, hm⟩ := hE.max
  refine (Tryz.strings_Cut (str l) (str sep) m w (by rw [str_size]; exact hl) hm).mono ?_
  rintro e w' ⟨he, n, rfl⟩
  exact ⟨he, below_drewN' w n⟩
theorem contains_any (l : List UInt8) (c : UInt8) (w : World) :
    Calls Tryz.prog 52 #[.string (str l), .string (str [c])] w fun e w' => e = .returned (.bool (decide (0 ≤ Lib.indexByte l c))) ∧ w' = w :=
  Tryz.strings_Contains_one (str l) c w
theorem itoa_any {B : Nat} (n : Int) (h0 : -9223372036854775808 ≤ n) (h1 : n ≤ 9223372036854775807) (w : World) (hE : Env B w) :
    Calls Tryz.prog 110 #[.int .i64 n] w fun e w' => e = .returned (.string (str (Lib.itoa n))) ∧ Below w.heap.size w w' := by
  refine (Tryz.strconv_Itoa n h0 h1 w hE.tab.here).mono ?_
  rintro e w' ⟨he, k, os, rfl⟩
  exact ⟨he, below_grow _ w k os (Nat.le_refl _)⟩
end Go.Proofs.YtlpondbcnfaggaaGreatDoor.Ad
