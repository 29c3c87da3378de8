/-
  The first line of a request in plain words: what is parsed, printed, of which form a target is, and what stands ahead of its path. No condition.
-/
import Derived.Test.YtgpgkfbbpiialaaGreatDoorTx
import Derived.Lib.IndexAny
import Derived.Lib.ItoaNum
namespace Go.Proofs.YtgpgkfbbpiialaaGreatDoor.Rl
open Go Go.Proofs.YtgpgkfbbpiialaaGreatDoor.Asc Go.Proofs.YtgpgkfbbpiialaaGreatDoor.Tx

structure Rq where
  meth : List UInt8
  targ : List UInt8
  minor : Int
deriving DecidableEq
def Rq.zero : Rq := ⟨[], [], 0⟩
def v1 : List UInt8 := [72, 84, 84, 80, 47, 49, 46]
def http : List UInt8 := [104, 116, 116, 112, 58, 47, 47]
def ends : List UInt8 := [47, 63, 35]
def cnct : List UInt8 := [67, 79, 78, 78, 69, 67, 84]
/-- a line's last part -/
def minorS (l : List UInt8) : Option Int := if l = v1 ++ [48] then some 0 else if l = v1 ++ [49] then some 1 else none
/-- what the three parts tell -/
def partsS (m t v : List UInt8) : Rq × Int :=
  if allS tokI m = false ∨ 32 < m.length then (Rq.zero, 11) else if allS visI t = false then (Rq.zero, 3) else if 8000 < t.length then (Rq.zero, 6) else
    match minorS v with
    | none => (Rq.zero, 5)
    | some k => (⟨m, t, k⟩, 0)
def parseS (l : List UInt8) : Rq × Int :=
  match splitS 32 l with
  | [m, t, v] => partsS m t v
  | _ => (Rq.zero, 3)
def okR (r : Rq) : Prop := allS tokI r.meth = true ∧ r.meth.length ≤ 32 ∧ allS visI r.targ = true ∧ r.targ.length ≤ 8000 ∧ (r.minor = 0 ∨ r.minor = 1)
instance (r : Rq) : Decidable (okR r) := by unfold okR; infer_instance
/-- a line of three parts -/
def lineT (m t v : List UInt8) : List UInt8 := m ++ 32 :: (t ++ 32 :: v)
def lineR (r : Rq) : List UInt8 := lineT r.meth r.targ (v1 ++ Lib.itoa r.minor)
def printS (r : Rq) : Option (List UInt8) := if okR r then some (lineR r) else none
def endB (c : UInt8) : Bool := ends.contains c
def authS (l : List UInt8) : Option (List UInt8) := if l.length < 7 ∨ (l.take 7).map lowB ≠ http then none else some ((l.drop 7).takeWhile fun c => !endB c)
def formS (r : Rq) : Int := if r.meth = cnct then 4 else if r.targ = [42] then 3 else if r.targ.head? = some 47 then 1 else if (authS r.targ).isSome then 2 else 0

theorem tok_free {m : List UInt8} (h : allS tokI m = true) : (32 : UInt8) ∉ m := by
  intro hm
  rw [allS, Bool.and_eq_true] at h
  have := List.all_eq_true.1 h.2 32 hm
  revert this
  decide
theorem vis_free {m : List UInt8} (h : allS visI m = true) : (32 : UInt8) ∉ m := by
  intro hm
  rw [allS, Bool.and_eq_true] at h
  have := List.all_eq_true.1 h.2 32 hm
  revert this
  decide
theorem split_count (c : UInt8) : ∀ l, (splitS c l).length = l.count c + 1
  | [] => rfl
  | x :: l => by
    have ih := split_count c l
    have hne := List.length_pos_iff.2 (splitS_ne c l)
    unfold splitS
    by_cases hx : x = c
    · rw [if_pos hx, hx, List.count_cons_self, List.length_cons, ih]
    · rw [if_neg hx, List.count_cons_of_ne (fun e => hx (by simpa using e)), List.length_cons, List.length_tail, ih]; omega
theorem count_free {c : UInt8} {l : List UInt8} (h : l.count c = 0) : c ∉ l := List.count_eq_zero.1 h
/-- two spaces: three parts -/
theorem three {c : UInt8} {l : List UInt8} (h : l.count c = 2) : ∃ m t v, l = m ++ c :: (t ++ c :: v) ∧ c ∉ m ∧ c ∉ t ∧ c ∉ v := by
  rcases first_of (c := c) l with h0 | ⟨m, r, rfl, hm⟩
  · rw [List.count_eq_zero.2 h0] at h; omega
  · rw [List.count_append, List.count_eq_zero.2 hm, List.count_cons_self] at h
    rcases first_of (c := c) r with h0 | ⟨t, v, rfl, ht⟩
    · rw [List.count_eq_zero.2 h0] at h; omega
    · rw [List.count_append, List.count_eq_zero.2 ht, List.count_cons_self] at h
      exact ⟨m, t, v, rfl, hm, ht, count_free (by omega)⟩
theorem split_three {c : UInt8} {m t v : List UInt8} (hm : c ∉ m) (ht : c ∉ t) (hv : c ∉ v) : splitS c (m ++ c :: (t ++ c :: v)) = [m, t, v] := by
  rw [splitS_at hm, splitS_at ht, splitS_free hv]
theorem parse_three {m t v : List UInt8} (hm : (32 : UInt8) ∉ m) (ht : (32 : UInt8) ∉ t) (hv : (32 : UInt8) ∉ v) : parseS (lineT m t v) = partsS m t v := by
  rw [parseS, lineT, split_three hm ht hv]
theorem parse_few {l : List UInt8} (h : l.count 32 ≠ 2) : parseS l = (Rq.zero, 3) := by
  have hl := split_count 32 l
  unfold parseS
  split
  · rename_i e; rw [e] at hl; simp at hl; omega
  · rfl
theorem parse_split {l m t v : List UInt8} (h : splitS 32 l = [m, t, v]) : parseS l = partsS m t v := by rw [parseS, h]
theorem parse_not {l : List UInt8} (h : (splitS 32 l).length ≠ 3) : parseS l = (Rq.zero, 3) := by
  apply parse_few
  rw [split_count] at h
  omega

theorem itoa0 : Lib.itoa 0 = [48] := by
  rw [Lib.itoa, if_neg (by decide)]; exact Lib.decDigits_one (i := 0) (by decide)
theorem itoa1 : Lib.itoa 1 = [49] := by
  rw [Lib.itoa, if_neg (by decide)]; exact Lib.decDigits_one (i := 1) (by decide)
theorem minor_it {k : Int} (h : k = 0 ∨ k = 1) : minorS (v1 ++ Lib.itoa k) = some k := by
  rcases h with rfl | rfl
  · rw [itoa0]; rfl
  · rw [itoa1]; rfl
theorem v_free {k : Int} (h : k = 0 ∨ k = 1) : (32 : UInt8) ∉ v1 ++ Lib.itoa k := by
  rcases h with rfl | rfl
  · rw [itoa0]; decide
  · rw [itoa1]; decide
theorem parts_ok {m t v : List UInt8} {k : Int} (h1 : allS tokI m = true) (h2 : m.length ≤ 32) (h3 : allS visI t = true) (h4 : t.length ≤ 8000) (h5 : minorS v = some k) : partsS m t v = (⟨m, t, k⟩, 0) := by
  unfold partsS
  rw [if_neg (by rw [h1]; rintro (h | h); · cases h
                 · omega), if_neg (by rw [h3]; simp), if_neg (by omega), h5]
theorem parts_is {m t v : List UInt8} {r : Rq} (h : partsS m t v = (r, 0)) : r.meth = m ∧ r.targ = t ∧ okR r ∧ v = v1 ++ Lib.itoa r.minor := by
  unfold partsS at h
  split at h
  · cases h
  · rename_i a1
    split at h
    · cases h
    · rename_i a2
      split at h
      · cases h
      · rename_i a3
        simp only [not_or, Bool.not_eq_false, Nat.not_lt] at a1 a2 a3
        unfold minorS at h
        by_cases e1 : v = v1 ++ [48]
        · rw [if_pos e1] at h
          injection h with h _
          subst h
          exact ⟨rfl, rfl, ⟨a1.1, a1.2, a2, a3, .inl rfl⟩, by rw [itoa0]; exact e1⟩
        · rw [if_neg e1] at h
          by_cases e2 : v = v1 ++ [49]
          · rw [if_pos e2] at h
            injection h with h _
            subst h
            exact ⟨rfl, rfl, ⟨a1.1, a1.2, a2, a3, .inr rfl⟩, by rw [itoa1]; exact e2⟩
          · rw [if_neg e2] at h; cases h
/-- what is printed is parsed as it was -/
theorem parse_line {r : Rq} (h : okR r) : parseS (lineR r) = (r, 0) := by
  obtain ⟨h1, h2, h3, h4, h5⟩ := h
  rw [lineR, parse_three (tok_free h1) (vis_free h3) (v_free h5), parts_ok h1 h2 h3 h4 (minor_it h5)]
/-- what is parsed is printed as it was -/
theorem parse_ok {l : List UInt8} {r : Rq} (h : parseS l = (r, 0)) : okR r ∧ l = lineR r := by
  by_cases hc : l.count 32 = 2
  · obtain ⟨m, t, v, rfl, hm, ht, hv⟩ := three hc
    rw [show m ++ 32 :: (t ++ 32 :: v) = lineT m t v from rfl, parse_three hm ht hv] at h
    obtain ⟨rfl, rfl, ho, rfl⟩ := parts_is h
    exact ⟨ho, rfl⟩
  · rw [parse_few hc] at h
    injection h with _ h
    cases h
theorem parse_no {l : List UInt8} (h : (parseS l).2 ≠ 0) : (parseS l).1 = Rq.zero := by
  by_cases hc : l.count 32 = 2
  · obtain ⟨m, t, v, rfl, hm, ht, hv⟩ := three hc
    rw [show m ++ 32 :: (t ++ 32 :: v) = lineT m t v from rfl, parse_three hm ht hv] at h ⊢
    unfold partsS at h ⊢
    split
    · rfl
    · split
      · rfl
      · split
        · rfl
        · rename_i a1 a2 a3
          rw [if_neg a1, if_neg a2, if_neg a3] at h
          cases hv : minorS v with
          | none => rfl
          | some k => rw [hv] at h; exact absurd rfl h
  · rw [parse_few hc]
/-- a line that is no r's line tells another request, or none -/
theorem print_no {r : Rq} {l : List UInt8} (hl : (r.minor = 0 ∨ r.minor = 1) → l = lineR r) (h : (parseS l).2 ≠ 0 ∨ (parseS l).1 ≠ r) : printS r = none := by
  unfold printS
  rw [if_neg]
  intro ho
  rw [hl ho.2.2.2.2, parse_line ho] at h
  rcases h with h | h <;> exact h rfl
theorem print_yes {r : Rq} {l : List UInt8} (h1 : (parseS l).2 = 0) (h2 : (parseS l).1 = r) : printS r = some l := by
  obtain ⟨ho, rfl⟩ := parse_ok (l := l) (r := r) (by rw [← h1, ← h2])
  rw [printS, if_pos ho]
theorem print_okR {r : Rq} (h : okR r) : printS r = some (lineR r) := if_pos h
theorem print_is {r : Rq} {l : List UInt8} (h : printS r = some l) : parseS l = (r, 0) := by
  unfold printS at h
  split at h
  · rename_i ho
    injection h with h
    rw [← h]; exact parse_line ho
  · cases h

/-! authorities -/
theorem any_while (l chars : List UInt8) : (Lib.indexAny l chars = -1 ∧ l.takeWhile (fun c => !chars.contains c) = l) ∨
    ∃ k : Nat, Lib.indexAny l chars = (k : Int) ∧ k ≤ l.length ∧ l.takeWhile (fun c => !chars.contains c) = l.take k := by
  induction l with
  | nil => exact .inl ⟨rfl, rfl⟩
  | cons c l ih =>
    unfold Lib.indexAny
    by_cases hc : chars.contains c = true
    · rw [if_pos hc]
      exact .inr ⟨0, rfl, Nat.zero_le _, by rw [List.takeWhile_cons, hc]; rfl⟩
    · rw [if_neg hc]
      have hc' : (!chars.contains c) = true := by simpa using hc
      rcases ih with ⟨h1, h2⟩ | ⟨k, h1, h2, h3⟩
      · rw [h1]
        exact .inl ⟨rfl, by rw [List.takeWhile_cons, if_pos hc', h2]⟩
      · rw [h1]
        have hk : ((k : Int) == -1) = false := by rw [beq_eq_false_iff_ne]; omega
        rw [hk]
        exact .inr ⟨k + 1, by simp, by simp; omega, by rw [List.takeWhile_cons, if_pos hc', h3]; rfl⟩
theorem auth_short {l : List UInt8} (h : l.length < 7) : authS l = none := if_pos (.inl h)
theorem auth_not {l : List UInt8} (h : (l.take 7).map lowB ≠ http) : authS l = none := if_pos (.inr h)
theorem auth_is {l : List UInt8} (h1 : 7 ≤ l.length) (h2 : (l.take 7).map lowB = http) : authS l = some ((l.drop 7).takeWhile fun c => !endB c) := if_neg (by rintro (h | h) <;> first | omega | exact h h2)
end Go.Proofs.YtgpgkfbbpiialaaGreatDoor.Rl
