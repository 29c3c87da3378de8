/-
  Plain facts: what stands in the data of extensions: names, protocols, versions; what is put. No condition.
-/
import Derived.Test.YtajmdchidmamcaaHeRows
import Derived.Test.YtajmdchidmamcaaAscPure
namespace Go.Proofs.Ytajmdchidmamcaa.Ex
open Go.RowKit Go.Proofs.Ytajmdchidmamcaa.Wd Go.Proofs.Ytajmdchidmamcaa.Be Go.Proofs.Ytajmdchidmamcaa.He

section
variable {α : Type} (one : Option (List UInt8) → α × Option (List UInt8))
/-- items, one behind the other -/
def itemsF : Nat → Option (List UInt8) → List α × Bool
  | 0, st => ([], doneS st)
  | f + 1, st => if leftS st = 0 then ([], doneS st) else ((one st).1 :: (itemsF f (one st).2).1, (itemsF f (one st).2).2)
def itemsS (b : List UInt8) : List α × Bool := itemsF one (b.length + 1) (some b)
variable {one}
theorem itemsF_step {f : Nat} {st : Option (List UInt8)} (h : 0 < leftS st) : itemsF one (f + 1) st = ((one st).1 :: (itemsF one f (one st).2).1, (itemsF one f (one st).2).2) := by rw [itemsF, if_neg (by omega)]
theorem itemsF_end {f : Nat} {st : Option (List UInt8)} (h : leftS st = 0) : itemsF one f st = ([], doneS st) := by
  cases f with
  | zero => rfl
  | succ f => rw [itemsF, if_pos h]
theorem itemsF_none (f : Nat) : itemsF one f none = ([], false) := itemsF_end rfl
/-- how many do not hang on the number that bounds them -/
theorem itemsF_more (hl : ∀ st, 0 < leftS st → leftS (one st).2 < leftS st) : ∀ (f g : Nat) (st : Option (List UInt8)), leftS st < f → leftS st < g → itemsF one f st = itemsF one g st
  | 0, _, _, h, _ => absurd h (Nat.not_lt_zero _)
  | _, 0, _, _, h => absurd h (Nat.not_lt_zero _)
  | f + 1, g + 1, st, hf, hg => by
    by_cases h0 : 0 < leftS st
    · have h := hl st h0
      rw [itemsF_step h0, itemsF_step h0, itemsF_more hl f g _ (by omega) (by omega)]
    · rw [itemsF_end (by omega), itemsF_end (by omega)]
theorem itemsF_len (hl : ∀ st, 0 < leftS st → leftS (one st).2 < leftS st) : ∀ (f : Nat) (st : Option (List UInt8)), leftS st < f → (itemsF one f st).1.length ≤ leftS st
  | 0, _, h => absurd h (Nat.not_lt_zero _)
  | f + 1, st, hf => by
    by_cases h0 : 0 < leftS st
    · have h := hl st h0
      rw [itemsF_step h0]
      have := itemsF_len hl f (one st).2 (by omega)
      simp only [List.length_cons]
      omega
    · rw [itemsF_end (by omega)]; exact Nat.zero_le _
end

theorem num_lessG (st : Option (List UInt8)) (size : Int) (h : 0 < leftS st) : leftS (numS st size).2 < leftS st := by
  cases st with
  | none => exact absurd h (by simp [leftS])
  | some xs =>
    have hc := clampI_bd size
    obtain ⟨k, hk⟩ : ∃ k : Nat, clampI size = k := ⟨(clampI size).toNat, by omega⟩
    show leftS (takeS (some xs) (clampI size)).2 < _
    rw [hk]
    by_cases hn : k ≤ xs.length
    · rw [takeS_in _ _ hn]
      have : 0 < xs.length := h
      simp [leftS]; omega
    · rw [takeS_out _ _ (by omega)]; exact h
theorem vec_lessG (st : Option (List UInt8)) (size : Int) (h : 0 < leftS st) : leftS (vecS st size).2 < leftS st := Nat.lt_of_le_of_lt (take_less _ _) (num_lessG st size h)
theorem num_small1 (st : Option (List UInt8)) : (numS st 1).1 < 256 := by
  have h := natOf_lt (takeS st (clampI 1)).1
  have h2 := takeS_len st (clampI 1) (by decide)
  have e : (clampI 1).toNat = 1 := by decide
  rw [e] at h2
  exact Nat.lt_of_lt_of_le h (Nat.pow_le_pow_right (n := 256) (by omega) h2)
theorem vec_small1 (st : Option (List UInt8)) : (vecS st 1).1.length < 256 := by
  have h1 := num_small1 st
  have h2 := takeS_len (numS st 1).2 ((numS st 1).1 : Int) (by omega)
  show (takeS (numS st 1).2 ((numS st 1).1 : Int)).1.length < _
  omega

/-- one name and its type; one protocol; one version -/
def typO (st : Option (List UInt8)) : (Int × List UInt8) × Option (List UInt8) := ((((numS st 1).1 : Int), (vecS (numS st 1).2 2).1), (vecS (numS st 1).2 2).2)
def proO (st : Option (List UInt8)) : List UInt8 × Option (List UInt8) := vecS st 1
def verO (st : Option (List UInt8)) : Int × Option (List UInt8) := (((numS st 2).1 : Int), (numS st 2).2)
theorem typO_less (st : Option (List UInt8)) (h : 0 < leftS st) : leftS (typO st).2 < leftS st := Nat.lt_of_le_of_lt (vec_less _ _) (num_lessG st 1 h)
theorem proO_less (st : Option (List UInt8)) (h : 0 < leftS st) : leftS (proO st).2 < leftS st := vec_lessG st 1 h
theorem verO_less (st : Option (List UInt8)) (h : 0 < leftS st) : leftS (verO st).2 < leftS st := num_lessG st 2 h

/-- the items that stand in a vector, with nothing behind it -/
def readS {α : Type} (one : Option (List UInt8) → α × Option (List UInt8)) (size : Int) (b : List UInt8) : List α × Bool :=
  ((itemsS one (vecS (some b) size).1).1, doneS (vecS (some b) size).2 && (itemsS one (vecS (some b) size).1).2 && decide (0 < (itemsS one (vecS (some b) size).1).1.length))
def hostB (x : Int × List UInt8) : Bool := x.1 == 0
def mayS (s : List UInt8) : Bool := decide (s.length ≤ 255) && Asc.allS Asc.visI s
def nameL : List (Int × List UInt8) → List UInt8 × Int
  | [] => ([], 8)
  | [x] => if mayS x.2 then (x.2, 0) else ([], 9)
  | _ => ([], 7)
def nameS (b : List UInt8) : List UInt8 × Int := if (readS typO 2 b).2 then nameL ((readS typO 2 b).1.filter hostB) else ([], 3)
def protoS (b : List UInt8) : List (List UInt8) × Int := if (readS proO 2 b).2 && !(readS proO 2 b).1.contains [] then ((readS proO 2 b).1, 0) else ([], 3)
def verS (b : List UInt8) : List Int × Int := if (readS verO 1 b).2 then ((readS verO 1 b).1, 0) else ([], 3)

/-- what is laid -/
def catO {α : Type} (put : α → Option (List UInt8)) : List α → Option (List UInt8)
  | [] => some []
  | x :: l => match put x, catO put l with
    | some a, some b => some (a ++ b)
    | _, _ => none
def layS {α : Type} (put : α → Option (List UInt8)) (k : Nat) (l : List α) : Option (List UInt8) := match catO put l with
  | none => none
  | some w => if w = [] then none else if w.length < 256 ^ k then some (vecB k w) else none
def putN (s : List UInt8) : Option (List UInt8) := if mayS s then some ((0 : UInt8) :: vecB 2 s) else none
def putP (s : List UInt8) : Option (List UInt8) := if s = [] then none else if s.length < 256 then some (vecB 1 s) else none
def putV (n : Int) : Option (List UInt8) := if 0 ≤ n ∧ n ≤ 65535 then some (bytesOf n 2) else none
/-- bytes, or none -/
def optB : Option (List UInt8) → List UInt8 × Bool
  | none => ([], false)
  | some w => (w, true)

section
variable {α : Type} {put : α → Option (List UInt8)}
theorem catO_snoc (x : α) : ∀ (l : List α), catO put (l ++ [x]) = match catO put l, put x with
    | some a, some b => some (a ++ b)
    | _, _ => none
  | [] => by
    simp only [List.nil_append, catO]
    cases put x <;> simp
  | y :: l => by
    simp only [List.cons_append, catO, catO_snoc x l]
    cases put y with
    | none => simp
    | some a => cases catO put l with
      | none => simp
      | some b => cases put x <;> simp
theorem catO_take {l : List α} {k : Nat} {x : α} {w a : List UInt8} (hx : l[k]? = some x) (hw : catO put (l.take k) = some w) (ha : put x = some a) : catO put (l.take (k + 1)) = some (w ++ a) := by
  rw [List.take_add_one, hx]
  simp only [Option.toList_some]
  rw [catO_snoc, hw, ha]
theorem catO_app : ∀ (l m : List α), catO put (l ++ m) = match catO put l, catO put m with
    | some a, some b => some (a ++ b)
    | _, _ => none
  | [], m => by
    simp only [List.nil_append, catO]
    cases catO put m <;> simp
  | y :: l, m => by
    simp only [List.cons_append, catO, catO_app l m]
    cases put y with
    | none => simp
    | some a => cases catO put l with
      | none => simp
      | some b => cases catO put m <;> simp
theorem catO_no {l : List α} {k : Nat} {x : α} (hx : l[k]? = some x) (hn : put x = none) : catO put l = none := by
  obtain ⟨hk, rfl⟩ := List.getElem?_eq_some_iff.1 hx
  have e : l = l.take k ++ l[k] :: l.drop (k + 1) := by rw [← List.drop_eq_getElem_cons hk, List.take_append_drop]
  rw [e, catO_app, catO, hn]
  cases catO put (l.take k) <;> simp
theorem layS_no {l : List α} {k j : Nat} {x : α} (hx : l[k]? = some x) (hn : put x = none) : layS put j l = none := by
  rw [layS, catO_no hx hn]
theorem layS_long {l : List α} {k j : Nat} {w : List UInt8} (hw : catO put (l.take k) = some w) (hl : 65535 < w.length) (hj : j ≤ 2) : layS put j l = none := by
  have e : catO put l = match catO put (l.take k), catO put (l.drop k) with
    | some a, some b => some (a ++ b)
    | _, _ => none := by rw [← catO_app, List.take_append_drop]
  rw [layS, e, hw]
  cases catO put (l.drop k) with
  | none => rfl
  | some b =>
    have hp : 256 ^ j ≤ 65536 := Nat.pow_le_pow_right (n := 256) (by omega) hj
    have h1 : (w ++ b).length = w.length + b.length := List.length_append
    simp only
    rw [if_neg (fun h => by have := congrArg List.length h; rw [h1, List.length_nil] at this; omega), if_neg (by omega)]
theorem layS_end {l : List α} {j : Nat} {w : List UInt8} (hw : catO put l = some w) : layS put j l = if w = [] then none else if w.length < 256 ^ j then some (vecB j w) else none := by
  rw [layS, hw]
end
end Go.Proofs.Ytajmdchidmamcaa.Ex
