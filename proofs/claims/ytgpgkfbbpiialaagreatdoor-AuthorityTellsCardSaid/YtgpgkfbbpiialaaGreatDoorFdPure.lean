/-
  A header's line in plain words: what is parsed, printed, found. No condition.
-/
import Derived.Test.YtgpgkfbbpiialaaGreatDoorTx
namespace Go.Proofs.YtgpgkfbbpiialaaGreatDoor.Fd
open Go Go.Proofs.YtgpgkfbbpiialaaGreatDoor.Asc Go.Proofs.YtgpgkfbbpiialaaGreatDoor.Tx

structure Fld where
  name : List UInt8
  text : List UInt8
deriving DecidableEq
def Fld.zero : Fld := ⟨[], []⟩
/-- may not stand in a text -/
def ctlI (r : Int) : Bool := decide ((r < 32 ∧ r ≠ 9) ∨ r = 127)
def ctlB (c : UInt8) : Bool := ctlI (c.toNat : Int)
theorem ctl_low : Low ctlI := fun r h => by simp [ctlI]; omega
/-- what stands ahead of the first colon, and behind it -/
def partsS (a b : List UInt8) : Fld × Int := if allS tokI a = false then (Fld.zero, 9) else if b.any ctlB = true then (Fld.zero, 3) else (⟨a.map lowB, trimL b⟩, 0)
def parseS (l : List UInt8) : Fld × Int := if (58 : UInt8) ∈ l then partsS (l.takeWhile (· != 58)) ((l.dropWhile (· != 58)).drop 1) else (Fld.zero, 9)
def lineF (f : Fld) : List UInt8 := f.name ++ 58 :: (32 :: f.text)
def printS (f : Fld) : Option (List UInt8) := if parseS (lineF f) = (f, 0) then some (lineF f) else none
def textOf : List Fld → List UInt8
  | [] => []
  | f :: _ => f.text
def ofName (nm : List UInt8) (l : List Fld) : List Fld := l.filter fun f => decide (f.name = nm)
/-- the first one's text, and how many -/
def findS (nm : List UInt8) (l : List Fld) : List UInt8 × Nat := (textOf (ofName nm l), (ofName nm l).length)

theorem parse_free {l : List UInt8} (h : (58 : UInt8) ∉ l) : parseS l = (Fld.zero, 9) := if_neg h
theorem while_at : ∀ {a b : List UInt8}, (58 : UInt8) ∉ a → (a ++ 58 :: b).takeWhile (· != 58) = a ∧ (a ++ 58 :: b).dropWhile (· != 58) = 58 :: b
  | [], b, _ => by simp
  | x :: a, b, h => by
    have hx : (x != 58) = true := by rw [bne_iff_ne]; rintro rfl; exact h (by simp)
    obtain ⟨h1, h2⟩ := while_at (a := a) (b := b) (fun hm => h (by simp [hm]))
    rw [List.cons_append, List.takeWhile_cons, List.dropWhile_cons, if_pos hx, if_pos hx, h1, h2]
    exact ⟨rfl, rfl⟩
theorem parse_at {a b : List UInt8} (h : (58 : UInt8) ∉ a) : parseS (a ++ 58 :: b) = partsS a b := by
  obtain ⟨h1, h2⟩ := while_at (b := b) h
  rw [parseS, if_pos (by simp), h1, h2]
  rfl
theorem parts_no {a b : List UInt8} (h : allS tokI a = false) : partsS a b = (Fld.zero, 9) := if_pos h
theorem parts_bad {a b : List UInt8} (h : allS tokI a = true) (h2 : b.any ctlB = true) : partsS a b = (Fld.zero, 3) := by
  rw [partsS, if_neg (by rw [h]; simp), if_pos h2]
theorem parts_ok {a b : List UInt8} (h : allS tokI a = true) (h2 : b.any ctlB = false) : partsS a b = (⟨a.map lowB, trimL b⟩, 0) := by
  rw [partsS, if_neg (by rw [h]; simp), if_neg (by rw [h2]; simp)]
theorem parts_is {a b : List UInt8} {f : Fld} (h : partsS a b = (f, 0)) : allS tokI a = true ∧ b.any ctlB = false ∧ f = ⟨a.map lowB, trimL b⟩ := by
  unfold partsS at h
  split at h
  · cases h
  · rename_i h1
    split at h
    · cases h
    · rename_i h2
      injection h with h _
      exact ⟨by simpa using h1, by simpa using h2, h.symm⟩
theorem parts_none {a b : List UInt8} (h : (partsS a b).2 ≠ 0) : (partsS a b).1 = Fld.zero := by
  unfold partsS at h ⊢
  split
  · rfl
  · split
    · rfl
    · rename_i h1 h2
      rw [if_neg h1, if_neg h2] at h
      exact absurd rfl h
theorem parse_none {l : List UInt8} (h : (parseS l).2 ≠ 0) : (parseS l).1 = Fld.zero := by
  rcases first_of (c := 58) l with h0 | ⟨a, b, rfl, h0⟩
  · rw [parse_free h0]
  · rw [parse_at h0] at h ⊢
    exact parts_none h

set_option maxRecDepth 100000 in
theorem low_tok_all : ∀ c : Fin 256, tokI (((lowB (UInt8.ofNat c.1)).toNat : Nat) : Int) = tokI (c.1 : Int) := by decide +kernel
theorem low_tok (c : UInt8) : tokI ((lowB c).toNat : Int) = tokI (c.toNat : Int) := by
  have h := low_tok_all ⟨c.toNat, c.toNat_lt⟩
  simpa using h
set_option maxRecDepth 100000 in
theorem low_low_all : ∀ c : Fin 256, lowB (lowB (UInt8.ofNat c.1)) = lowB (UInt8.ofNat c.1) := by decide +kernel
theorem low_low (c : UInt8) : lowB (lowB c) = lowB c := by
  have h := low_low_all ⟨c.toNat, c.toNat_lt⟩
  simpa using h
set_option maxRecDepth 100000 in
theorem low_col_all : ∀ c : Fin 256, (lowB (UInt8.ofNat c.1) = 58) = (UInt8.ofNat c.1 = 58) := by
  have h : ∀ c : Fin 256, decide (lowB (UInt8.ofNat c.1) = 58) = decide (UInt8.ofNat c.1 = 58) := by decide +kernel
  intro c
  have := h c
  simpa using this
theorem low_col (c : UInt8) : lowB c = 58 ↔ c = 58 := by
  have h := low_col_all ⟨c.toNat, c.toNat_lt⟩
  simpa using h
theorem low_map (l : List UInt8) : (l.map lowB).map lowB = l.map lowB := by
  rw [List.map_map]
  exact List.map_congr_left fun c _ => low_low c
theorem allS_low (l : List UInt8) : allS tokI (l.map lowB) = allS tokI l := by
  unfold allS
  congr 1
  · cases l <;> rfl
  · rw [List.all_map]
    congr 1
    funext c
    exact low_tok c
theorem col_low {l : List UInt8} (h : (58 : UInt8) ∉ l) : (58 : UInt8) ∉ l.map lowB := fun hm => by
  obtain ⟨c, hc, e⟩ := List.mem_map.1 hm
  rw [(low_col c).1 e] at hc
  exact h hc
theorem tok_free {m : List UInt8} (h : allS tokI m = true) : (58 : UInt8) ∉ m := by
  intro hm
  rw [allS, Bool.and_eq_true] at h
  have := List.all_eq_true.1 h.2 58 hm
  revert this
  decide

theorem trim_pre {x l : List UInt8} (h : x.all blkB = true) : trimL (x ++ l) = trimL l := by
  rw [trimL, List.dropWhile_append_of_pos (fun z hz => List.all_eq_true.1 h z hz)]
  rfl
theorem while_all {x : List UInt8} (h : x.all blkB = true) : x.dropWhile blkB = [] := by
  have := List.dropWhile_append_of_pos (l₂ := []) (fun z hz => List.all_eq_true.1 h z hz)
  simpa using this
theorem trimR_post {x l : List UInt8} (h : x.all blkB = true) : trimR (l ++ x) = trimR l := by
  rw [trimR, List.reverse_append, List.dropWhile_append_of_pos (fun z hz => List.all_eq_true.1 h z (by simpa using hz))]
  rfl
theorem trim_post {x l : List UInt8} (h : x.all blkB = true) : trimL (l ++ x) = trimL l := by
  rw [trimL, trimL, List.dropWhile_append]
  split
  · rename_i he
    rw [while_all h, List.isEmpty_iff.1 he]
  · exact trimR_post h
theorem trimR_split (l : List UInt8) : ∃ y, y.all blkB = true ∧ l = trimR l ++ y := by
  refine ⟨(l.reverse.takeWhile blkB).reverse, ?_, ?_⟩
  · rw [List.all_reverse]; exact List.all_takeWhile
  · rw [trimR, ← List.reverse_append, List.takeWhile_append_dropWhile, List.reverse_reverse]
theorem trim_split (l : List UInt8) : ∃ x y, x.all blkB = true ∧ y.all blkB = true ∧ l = x ++ (trimL l ++ y) := by
  obtain ⟨y, hy, he⟩ := trimR_split (l.dropWhile blkB)
  refine ⟨l.takeWhile blkB, y, List.all_takeWhile, hy, ?_⟩
  rw [trimL, ← he, List.takeWhile_append_dropWhile]
theorem trim_trim (l : List UInt8) : trimL (trimL l) = trimL l := by
  obtain ⟨x, y, hx, hy, he⟩ := trim_split l
  generalize hT : trimL l = t at *
  rw [he, trim_pre hx, trim_post hy] at hT
  exact hT
theorem trim_ctl {l : List UInt8} (h : l.any ctlB = false) : (trimL l).any ctlB = false := by
  obtain ⟨x, y, hx, hy, he⟩ := trim_split l
  generalize trimL l = t at *
  rw [he, List.any_append, List.any_append] at h
  simp only [Bool.or_eq_false_iff] at h
  exact h.2.1
theorem trim_len (l : List UInt8) : (trimL l).length ≤ l.length := by
  obtain ⟨x, y, hx, hy, he⟩ := trim_split l
  have := congrArg List.length he
  simp only [List.length_append] at this
  omega
theorem blk32 : ([32] : List UInt8).all blkB = true := by decide
theorem trim32 (l : List UInt8) : trimL (32 :: trimL l) = trimL l := (trim_pre (x := [32]) blk32).trans (trim_trim l)
theorem ctl32 {l : List UInt8} (h : l.any ctlB = false) : ((32 : UInt8) :: trimL l).any ctlB = false := by
  rw [List.any_cons, trim_ctl h]; decide

/-- what is parsed can be printed, and is parsed the same -/
theorem parse_ok {l : List UInt8} {f : Fld} (h : parseS l = (f, 0)) : parseS (lineF f) = (f, 0) := by
  rcases first_of (c := 58) l with h0 | ⟨a, b, rfl, h0⟩
  · rw [parse_free h0] at h
    injection h with _ h
    cases h
  · rw [parse_at h0] at h
    obtain ⟨h1, h2, rfl⟩ := parts_is h
    show parseS (a.map lowB ++ 58 :: (32 :: trimL b)) = _
    rw [parse_at (col_low h0), parts_ok (by rw [allS_low]; exact h1) (ctl32 h2), low_map, trim32]
/-- what is parsed is no longer than the line -/
theorem parse_len {l : List UInt8} {f : Fld} {e : Int} (h : parseS l = (f, e)) : f.name.length ≤ l.length ∧ f.text.length ≤ l.length := by
  by_cases he : (parseS l).2 = 0
  · rcases first_of (c := 58) l with h0 | ⟨a, b, rfl, h0⟩
    · rw [parse_free h0] at he; cases he
    · rw [h] at he
      obtain rfl : e = 0 := he
      rw [parse_at h0] at h
      obtain ⟨_, _, rfl⟩ := parts_is h
      have := trim_len b
      simp
      omega
  · have := parse_none he
    rw [h] at this
    obtain rfl : f = Fld.zero := this
    exact ⟨Nat.zero_le _, Nat.zero_le _⟩
theorem print_yes {f : Fld} (h1 : parseS (lineF f) = (f, 0)) : printS f = some (lineF f) := if_pos h1
theorem print_no {f q : Fld} {E : Int} (h : parseS (lineF f) = (q, E)) (h2 : E ≠ 0 ∨ q ≠ f) : printS f = none := if_neg fun e => by
  rw [h] at e
  injection e with e1 e2
  rcases h2 with h2 | h2
  · exact h2 e2
  · exact h2 e1
theorem print_is {f : Fld} {l : List UInt8} (h : printS f = some l) : l = lineF f ∧ parseS l = (f, 0) := by
  unfold printS at h
  split at h
  · rename_i h1
    injection h with h
    subst h
    exact ⟨rfl, h1⟩
  · cases h

/-- so many blanks -/
def blanks : Nat → List UInt8
  | 0 => []
  | n + 1 => blanks n ++ [32, 9]
theorem blanks_all : ∀ n, (blanks n).all blkB = true
  | 0 => rfl
  | n + 1 => by rw [blanks, List.all_append, blanks_all n]; decide
theorem blanks_ctl : ∀ n, (blanks n).any ctlB = false
  | 0 => rfl
  | n + 1 => by rw [blanks, List.any_append, blanks_ctl n]; decide
theorem blanks_len : ∀ n, (blanks n).length = 2 * n
  | 0 => rfl
  | n + 1 => by rw [blanks, List.length_append, blanks_len n]; simp; omega
/-- blanks around a text do not matter, nor letters of names -/
theorem parse_blanks {a t : List UInt8} (n : Nat) (h : (58 : UInt8) ∉ a) : parseS (a.map lowB ++ 58 :: (blanks n ++ (t ++ blanks n))) = parseS (a ++ 58 :: t) := by
  rw [parse_at h, parse_at (col_low h)]
  unfold partsS
  rw [allS_low, low_map, trim_pre (blanks_all n), trim_post (blanks_all n), List.any_append, List.any_append, blanks_ctl, Bool.false_or, Bool.or_false]

theorem find_nil (nm : List UInt8) : findS nm [] = ([], 0) := rfl
theorem find_miss {nm : List UInt8} {l : List Fld} {f : Fld} (h : f.name ≠ nm) : findS nm (l ++ [f]) = findS nm l := by
  have e : ofName nm (l ++ [f]) = ofName nm l := by simp [ofName, h]
  rw [findS, e]; rfl
theorem find_hit {nm : List UInt8} {l : List Fld} {f : Fld} (h : f.name = nm) : ofName nm (l ++ [f]) = ofName nm l ++ [f] := by simp [ofName, h]
theorem find_first {nm : List UInt8} {l : List Fld} {f : Fld} (h : f.name = nm) (h0 : (findS nm l).2 = 0) : findS nm (l ++ [f]) = (f.text, 1) := by
  have e : ofName nm l = [] := List.eq_nil_of_length_eq_zero h0
  rw [findS, find_hit h, e]; rfl
theorem find_more {nm : List UInt8} {l : List Fld} {f : Fld} (h : f.name = nm) (h0 : (findS nm l).2 ≠ 0) : findS nm (l ++ [f]) = ((findS nm l).1, (findS nm l).2 + 1) := by
  rw [findS, find_hit h, List.length_append]
  cases e : ofName nm l with
  | nil => exact absurd (show (findS nm l).2 = 0 by rw [findS, e]; rfl) h0
  | cons x r => rw [findS, e]; rfl
theorem find_none {nm : List UInt8} {l : List Fld} (h0 : (findS nm l).2 = 0) : (findS nm l).1 = [] := by
  have e : ofName nm l = [] := List.eq_nil_of_length_eq_zero h0
  rw [findS, e]; rfl
theorem find_le (nm : List UInt8) (l : List Fld) : (findS nm l).2 ≤ l.length := List.length_filter_le _ _
theorem find_mem {nm : List UInt8} {l : List Fld} : (findS nm l).1 = [] ∨ ∃ f ∈ l, f.text = (findS nm l).1 := by
  unfold findS
  cases e : ofName nm l with
  | nil => exact .inl rfl
  | cons x r => exact .inr ⟨x, (List.mem_filter.1 (show x ∈ ofName nm l by rw [e]; simp)).1, rfl⟩
theorem take_snoc {α : Type} {l : List α} {k : Nat} {x : α} (h : l[k]? = some x) : l.take (k + 1) = l.take k ++ [x] := by
  obtain ⟨hk, rfl⟩ := List.getElem?_eq_some_iff.1 h
  exact List.take_succ_eq_append_getElem hk
end Go.Proofs.YtgpgkfbbpiialaaGreatDoor.Fd
