/-
 Plain facts on runes, bytes and texts of ASCII, used by the contracts of package ascii. No condition.
-/
import Derived.Laws.RangeAny
import Derived.Test.YthfknndjdfofgaaGreatDoorR03
namespace Go.Proofs.YthfknndjdfofgaaGreatDoor.Asc
open Go

def digI (r : Int) : Bool := decide (48 ≤ r ∧ r ≤ 57)
def visI (r : Int) : Bool := decide (33 ≤ r ∧ r ≤ 126)
def hexI (r : Int) : Option Int := if 48 ≤ r ∧ r ≤ 57 then some (r - 48) else if 97 ≤ r ∧ r ≤ 102 then some (r - 87) else if 65 ≤ r ∧ r ≤ 70 then some (r - 55) else none

def Low (p : Int → Bool) : Prop := ∀ r, 128 ≤ r → p r = false
theorem vis_low : Low visI := fun r h => by simp [visI]; omega
theorem hex_low (r : Int) (h : 128 ≤ r) : hexI r = none := by unfold hexI; rw [if_neg (by omega), if_neg (by omega), if_neg (by omega)]
theorem hex_bd {r d : Int} (h : hexI r = some d) : 0 ≤ d ∧ d ≤ 15 := by
 unfold hexI at h
 split at h
 · injection h; omega
 · split at h
   · injection h; omega
   · split at h
     · injection h; omega
     · cases h

theorem at_rune {p : Int → Bool} (hp : Low p) (s : ByteArray) (pos : Nat) (h : pos < s.size) :
   p ((Utf8.decode s pos).1 : Int) = p ((s[pos]'h).toNat : Int) ∧ (p ((s[pos]'h).toNat : Int) = true → (Utf8.decode s pos).2 = 1) := by
 by_cases ha : (s[pos]'h).toNat < 128
 · rw [decode_ascii s pos h ha]
   exact ⟨rfl, fun _ => rfl⟩
 · have hd := decode_high s pos h (by omega)
   rw [hp _ (by omega), hp _ (by omega)]
   exact ⟨rfl, fun h => by cases h⟩
theorem at_hex (s : ByteArray) (pos : Nat) (h : pos < s.size) :
   hexI ((Utf8.decode s pos).1 : Int) = hexI ((s[pos]'h).toNat : Int) ∧ (∀ d, hexI ((s[pos]'h).toNat : Int) = some d → (Utf8.decode s pos).2 = 1) := by
 by_cases ha : (s[pos]'h).toNat < 128
 · rw [decode_ascii s pos h ha]
   exact ⟨rfl, fun _ _ => rfl⟩
 · have hd := decode_high s pos h (by omega)
   rw [hex_low _ (by omega), hex_low _ (by omega)]
   exact ⟨rfl, fun _ h => by cases h⟩

theorem get_eq (s : ByteArray) (i : Nat) (h : i < s.size) : s.get! i = s[i]'h := by
 simp [ByteArray.get!, getElem!_pos, h]
 rfl

theorem wide_high (s : ByteArray) (pos : Nat) (h : pos < s.size) (ha : 128 ≤ (s[pos]'h).toNat) :
   pos + (Utf8.decode s pos).2 ≤ s.size ∧ ∀ k, k < (Utf8.decode s pos).2 → 128 ≤ (s.get! (pos + k)).toNat := by
 have h0 : 128 ≤ (s.get! pos).toNat := by rw [get_eq s pos h]; exact ha
 have hn : ¬ (s.get! (pos + 0)).toNat < 128 := by simp only [Nat.add_zero]; omega
 have one : pos + 1 ≤ s.size ∧ ∀ k, k < 1 → 128 ≤ (s.get! (pos + k)).toNat := ⟨by omega, fun k hk => by obtain rfl : k = 0 := (by omega); exact h0⟩
 simp only [Utf8.decode, hn, if_false]
 split
 · rename_i hc
   simp only [Bool.and_eq_true, decide_eq_true_eq, beq_iff_eq] at hc
   split
   · refine ⟨by omega, fun k hk => ?_⟩
     simp only at hk
     obtain rfl | rfl : k = 0 ∨ k = 1 := by omega
     · exact h0
     · omega
   · exact one
 · split
   · rename_i hc
     simp only [Bool.and_eq_true, decide_eq_true_eq, beq_iff_eq] at hc
     split
     · refine ⟨by simp only; omega, fun k hk => ?_⟩
       simp only at hk
       obtain rfl | rfl | rfl : k = 0 ∨ k = 1 ∨ k = 2 := by omega
       · exact h0
       · omega
       · omega
     · exact one
   · split
     · rename_i hc
       simp only [Bool.and_eq_true, decide_eq_true_eq, beq_iff_eq] at hc
       split
       · refine ⟨by simp only; omega, fun k hk => ?_⟩
         simp only at hk
         obtain rfl | rfl | rfl | rfl : k = 0 ∨ k = 1 ∨ k = 2 ∨ k = 3 := by omega
         · exact h0
         · omega
         · omega
         · omega
       · exact one
     · exact one

def bs (s : ByteArray) : List UInt8 := s.data.toList
theorem bs_length (s : ByteArray) : (bs s).length = s.size := rfl
theorem bs_get (s : ByteArray) (k : Nat) (h : k < s.size) : (bs s)[k]'(by rw [bs_length]; exact h) = s[k]'h := rfl
theorem bs_drop (s : ByteArray) (k : Nat) (h : k < s.size) : (bs s).drop k = (s[k]'h) :: (bs s).drop (k + 1) := by
 rw [List.drop_eq_getElem_cons (by rw [bs_length]; exact h)]; rfl
theorem bs_take (s : ByteArray) (k : Nat) (h : k < s.size) : (bs s).take (k + 1) = (bs s).take k ++ [s[k]'h] := by
 rw [List.take_succ_eq_append_getElem (by rw [bs_length]; exact h)]; rfl
theorem bs_end (s : ByteArray) (k : Nat) (h : ¬ k < s.size) : (bs s).drop k = [] := List.drop_of_length_le (by rw [bs_length]; omega)
theorem bs_inj {s t : ByteArray} (h : bs s = bs t) : s = t := by
 cases s; cases t; simp only [bs] at h; congr 1; exact Array.ext' h
theorem bs_nil (s : ByteArray) (h : s.size = 0) : bs s = [] := List.eq_nil_of_length_eq_zero (by rw [bs_length]; exact h)

def allS (p : Int → Bool) (l : List UInt8) : Bool := !l.isEmpty && l.all fun c => p (c.toNat : Int)

def foldv (base : Int) : List UInt8 → Int → Option Int
 | [], n => some n
 | c :: l, n => match hexI (c.toNat : Int) with
   | none => none
   | some d => if d < base then foldv base l (n * base + d) else none
def digitsS (base : Int) (most : Nat) (l : List UInt8) : Option Int := if l.length = 0 ∨ most < l.length then none else foldv base l 0
def numS (l : List UInt8) (most : Int) : Option Int :=
 if 1 < l.length ∧ l[0]? = some 48 then none else match digitsS 10 18 l with | none => none | some n => if most < n then none else some n
def hexS (l : List UInt8) : Option Int := digitsS 16 4 l

def lowB (c : UInt8) : UInt8 := if 65 ≤ c ∧ c ≤ 90 then c + 32 else c
end Go.Proofs.YthfknndjdfofgaaGreatDoor.Asc

/-
 Plain facts: what stands in the data of extensions: names, protocols, versions; what is put. No condition.
-/
namespace Go.Proofs.YthfknndjdfofgaaGreatDoor.Ex
open Go.RowKit Go.Proofs.YthfknndjdfofgaaGreatDoor.Wd Go.Proofs.YthfknndjdfofgaaGreatDoor.Be Go.Proofs.YthfknndjdfofgaaGreatDoor.He

section
variable {α : Type} (one : Option (List UInt8) → α × Option (List UInt8))
def itemsF : Nat → Option (List UInt8) → List α × Bool
 | 0, st => ([], doneS st)
 | f + 1, st => if leftS st = 0 then ([], doneS st) else ((one st).1 :: (itemsF f (one st).2).1, (itemsF f (one st).2).2)
def itemsS (b : List UInt8) : List α × Bool := itemsF one (b.length + 1) (some b)
variable {one}
theorem itemsF_step {f : Nat} {st : Option (List UInt8)} (h : 0 < leftS st) : itemsF one (f + 1) st = ((one st).1 :: (itemsF one f (one st).2).1, (itemsF one f (one st).2).2) := by rw [itemsF, if_neg (by omega)]
theorem itemsF_end {f : Nat} {st : Option (List UInt8)} (h : leftS st = 0) : itemsF one f st = ([], doneS st) := by
 cases f with
 | zero => rfl
 | succ f => rw [itemsF, if_pos h]
end

theorem num_lessG (st : Option (List UInt8)) (size : Int) (h : 0 < leftS st) : leftS (numS st size).2 < leftS st := by
 cases st with
 | none => exact absurd h (by simp [leftS])
 | some xs =>
   have hc := clampI_bd size
   obtain ⟨k, hk⟩ : ∃ k : Nat, clampI size = k := ⟨(clampI size).toNat, by omega⟩
   show leftS (takeS (some xs) (clampI size)).2 < _
   rw [hk]
   by_cases hn : k ≤ xs.length
   · rw [takeS_in _ _ hn]
     have : 0 < xs.length := h
     simp [leftS]; omega
   · rw [takeS_out _ _ (by omega)]; exact h
theorem vec_lessG (st : Option (List UInt8)) (size : Int) (h : 0 < leftS st) : leftS (vecS st size).2 < leftS st := Nat.lt_of_le_of_lt (take_less _ _) (num_lessG st size h)
theorem num_small1 (st : Option (List UInt8)) : (numS st 1).1 < 256 := by
 have h := natOf_lt (takeS st (clampI 1)).1
 have h2 := takeS_len st (clampI 1) (by decide)
 have e : (clampI 1).toNat = 1 := by decide
 rw [e] at h2
 exact Nat.lt_of_lt_of_le h (Nat.pow_le_pow_right (n := 256) (by omega) h2)
theorem vec_small1 (st : Option (List UInt8)) : (vecS st 1).1.length < 256 := by
 have h1 := num_small1 st
 have h2 := takeS_len (numS st 1).2 ((numS st 1).1 : Int) (by omega)
 show (takeS (numS st 1).2 ((numS st 1).1 : Int)).1.length < _
 omega

def typO (st : Option (List UInt8)) : (Int × List UInt8) × Option (List UInt8) := ((((numS st 1).1 : Int), (vecS (numS st 1).2 2).1), (vecS (numS st 1).2 2).2)
def proO (st : Option (List UInt8)) : List UInt8 × Option (List UInt8) := vecS st 1
def verO (st : Option (List UInt8)) : Int × Option (List UInt8) := (((numS st 2).1 : Int), (numS st 2).2)
theorem typO_less (st : Option (List UInt8)) (h : 0 < leftS st) : leftS (typO st).2 < leftS st := Nat.lt_of_le_of_lt (vec_less _ _) (num_lessG st 1 h)
theorem proO_less (st : Option (List UInt8)) (h : 0 < leftS st) : leftS (proO st).2 < leftS st := vec_lessG st 1 h
theorem verO_less (st : Option (List UInt8)) (h : 0 < leftS st) : leftS (verO st).2 < leftS st := num_lessG st 2 h

def readS {α : Type} (one : Option (List UInt8) → α × Option (List UInt8)) (size : Int) (b : List UInt8) : List α × Bool :=
 ((itemsS one (vecS (some b) size).1).1, doneS (vecS (some b) size).2 && (itemsS one (vecS (some b) size).1).2 && decide (0 < (itemsS one (vecS (some b) size).1).1.length))
def hostB (x : Int × List UInt8) : Bool := x.1 == 0
def mayS (s : List UInt8) : Bool := decide (s.length ≤ 255) && Asc.allS Asc.visI s
def nameL : List (Int × List UInt8) → List UInt8 × Int
 | [] => ([], 8)
 | [x] => if mayS x.2 then (x.2, 0) else ([], 9)
 | _ => ([], 7)
def nameS (b : List UInt8) : List UInt8 × Int := if (readS typO 2 b).2 then nameL ((readS typO 2 b).1.filter hostB) else ([], 3)
def protoS (b : List UInt8) : List (List UInt8) × Int := if (readS proO 2 b).2 && !(readS proO 2 b).1.contains [] then ((readS proO 2 b).1, 0) else ([], 3)
def verS (b : List UInt8) : List Int × Int := if (readS verO 1 b).2 then ((readS verO 1 b).1, 0) else ([], 3)

def catO {α : Type} (put : α → Option (List UInt8)) : List α → Option (List UInt8)
 | [] => some []
 | x :: l => match put x, catO put l with
   | some a, some b => some (a ++ b)
   | _, _ => none
def layS {α : Type} (put : α → Option (List UInt8)) (k : Nat) (l : List α) : Option (List UInt8) := match catO put l with
 | none => none
 | some w => if w = [] then none else if w.length < 256 ^ k then some (vecB k w) else none
def putN (s : List UInt8) : Option (List UInt8) := if mayS s then some ((0 : UInt8) :: vecB 2 s) else none
def putP (s : List UInt8) : Option (List UInt8) := if s = [] then none else if s.length < 256 then some (vecB 1 s) else none
def putV (n : Int) : Option (List UInt8) := if 0 ≤ n ∧ n ≤ 65535 then some (bytesOf n 2) else none
section
variable {α : Type} {put : α → Option (List UInt8)}
theorem catO_snoc (x : α) : ∀ (l : List α), catO put (l ++ [x]) = match catO put l, put x with
   | some a, some b => some (a ++ b)
   | _, _ => none
 | [] => by
   simp only [List.nil_append, catO]
   cases put x <;> simp
 | y :: l => by
   simp only [List.cons_append, catO, catO_snoc x l]
   cases put y with
   | none => simp
   | some a => cases catO put l with
     | none => simp
     | some b => cases put x <;> simp
theorem catO_take {l : List α} {k : Nat} {x : α} {w a : List UInt8} (hx : l[k]? = some x) (hw : catO put (l.take k) = some w) (ha : put x = some a) : catO put (l.take (k + 1)) = some (w ++ a) := by
 rw [List.take_add_one, hx]
 simp only [Option.toList_some]
 rw [catO_snoc, hw, ha]
theorem catO_app : ∀ (l m : List α), catO put (l ++ m) = match catO put l, catO put m with
   | some a, some b => some (a ++ b)
   | _, _ => none
 | [], m => by
   simp only [List.nil_append, catO]
   cases catO put m <;> simp
 | y :: l, m => by
   simp only [List.cons_append, catO, catO_app l m]
   cases put y with
   | none => simp
   | some a => cases catO put l with
     | none => simp
     | some b => cases catO put m <;> simp
theorem catO_no {l : List α} {k : Nat} {x : α} (hx : l[k]? = some x) (hn : put x = none) : catO put l = none := by
 obtain ⟨hk, rfl⟩ := List.getElem?_eq_some_iff.1 hx
 have e : l = l.take k ++ l[k] :: l.drop (k + 1) := by rw [← List.drop_eq_getElem_cons hk, List.take_append_drop]
 rw [e, catO_app, catO, hn]
 cases catO put (l.take k) <;> simp
theorem layS_no {l : List α} {k j : Nat} {x : α} (hx : l[k]? = some x) (hn : put x = none) : layS put j l = none := by
 rw [layS, catO_no hx hn]
theorem layS_long {l : List α} {k j : Nat} {w : List UInt8} (hw : catO put (l.take k) = some w) (hl : 65535 < w.length) (hj : j ≤ 2) : layS put j l = none := by
 have e : catO put l = match catO put (l.take k), catO put (l.drop k) with
   | some a, some b => some (a ++ b)
   | _, _ => none := by rw [← catO_app, List.take_append_drop]
 rw [layS, e, hw]
 cases catO put (l.drop k) with
 | none => rfl
 | some b =>
   have hp : 256 ^ j ≤ 65536 := Nat.pow_le_pow_right (n := 256) (by omega) hj
   have h1 : (w ++ b).length = w.length + b.length := List.length_append
   simp only
   rw [if_neg (fun h => by have := congrArg List.length h; rw [h1, List.length_nil] at this; omega), if_neg (by omega)]
theorem layS_end {l : List α} {j : Nat} {w : List UInt8} (hw : catO put l = some w) : layS put j l = if w = [] then none else if w.length < 256 ^ j then some (vecB j w) else none := by
 rw [layS, hw]
end
end Go.Proofs.YthfknndjdfofgaaGreatDoor.Ex
