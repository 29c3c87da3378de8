/-
  A handshake's first message, plain: a step for each byte, when it is whole, its body, how many bytes are missing. Plain facts, no condition.
-/
import Derived.Test.YtjbcdagkjonlfaaWords
namespace Go.Proofs.Ytjbcdagkjonlfaa.Sh

/-- where a message is: how many bytes ahead of the body came, the body's size as far as it is told, the body, the error -/
structure M where
  h : Nat
  s : Nat
  b : List UInt8
  e : Nat
def M.st : M := ⟨0, 0, [], 0⟩

def stepM (m : M) (c : UInt8) : M :=
  if m.e ≠ 0 then m
  else if m.h = 0 then (if c.toNat = 1 then ⟨1, m.s, m.b, 0⟩ else ⟨0, m.s, m.b, 4⟩)
  else if m.h = 1 then (if c.toNat * 65536 ≤ 16384 then ⟨2, c.toNat * 65536, m.b, 0⟩ else ⟨1, c.toNat * 65536, m.b, 6⟩)
  else if m.h = 2 then (if c.toNat * 256 ≤ 16384 then ⟨3, c.toNat * 256, m.b, 0⟩ else ⟨2, c.toNat * 256, m.b, 6⟩)
  else if m.h = 3 then (if m.s + c.toNat ≤ 16384 then ⟨4, m.s + c.toNat, m.b, 0⟩ else ⟨3, m.s + c.toNat, m.b, 6⟩)
  else if m.b.length < m.s then ⟨4, m.s, m.b ++ [c], 0⟩ else m
def wantM (m : M) : Nat := if m.e ≠ 0 then 0 else if m.h < 4 then 4 - m.h else m.s - m.b.length
def wholeM (m : M) : Bool := decide (m.e = 0 ∧ wantM m = 0)
def bodyM (m : M) : List UInt8 := if wholeM m then m.b else []
/-- what holds of a message -/
structure OkM (m : M) : Prop where
  h4 : m.h ≤ 4
  sz : m.s ≤ 16711680
  bl : m.b.length ≤ 16384
  er : m.e = 0 ∨ m.e = 4 ∨ m.e = 6
  lo : m.e = 0 → m.h ≤ 2 → m.s = 0
  mid : m.e = 0 → m.h = 3 → m.s % 256 = 0
  few : m.e = 0 → m.s ≤ 16384
  bd : m.e = 0 → m.b.length ≤ m.s
  no : m.h < 4 → m.b = []
theorem OkM.st : OkM M.st := by
  refine ⟨?_, ?_, ?_, ?_, ?_, ?_, ?_, ?_, ?_⟩ <;> simp [M.st]
theorem stepM_ok {m : M} (k : OkM m) (c : UInt8) : OkM (stepM m c) := by
  obtain ⟨h, s, b, e⟩ := m
  have k' := k
  obtain ⟨h4, sz, bl, er, lo, mid, few, bd, no⟩ := k
  have hc := c.toNat_lt
  simp only at h4 sz bl er lo mid few bd no
  by_cases he : e = 0
  · subst he
    have lo := lo rfl
    have mid := mid rfl
    have few := few rfl
    have bd := bd rfl
    unfold stepM
    simp only
    rw [if_neg (by simp)]
    by_cases h3 : h < 4
    · have hb := no h3
      subst hb
      repeat' split
      all_goals first
        | exact k'
        | omega
        | (refine ⟨?_, ?_, ?_, ?_, ?_, ?_, ?_, ?_, ?_⟩ <;> simp only [List.length_nil] <;> intros <;> first | omega | rfl | (simp at *; done) | (simp at *; omega))
    · obtain rfl : h = 4 := by omega
      rw [if_neg (by simp), if_neg (by simp), if_neg (by simp), if_neg (by simp)]
      split
      · refine ⟨?_, ?_, ?_, ?_, ?_, ?_, ?_, ?_, ?_⟩ <;> simp only [List.length_append, List.length_cons, List.length_nil] <;> intros <;> first | omega | (simp at *; done)
      · exact k'
  · have : stepM ⟨h, s, b, e⟩ c = ⟨h, s, b, e⟩ := by unfold stepM; rw [if_pos he]
    rw [this]
    exact k'
theorem stepM_bad {m : M} (h : m.e ≠ 0) (c : UInt8) : stepM m c = m := by unfold stepM; rw [if_pos h]
theorem stepM_done {m : M} (h4 : m.h = 4) (h : m.s ≤ m.b.length) (c : UInt8) : stepM m c = m := by
  unfold stepM
  split
  · rfl
  · rw [if_neg (by omega), if_neg (by omega), if_neg (by omega), if_neg (by omega), if_neg (by omega)]
theorem stepM_body {m : M} (he : m.e = 0) (h4 : m.h = 4) (h : m.b.length < m.s) (c : UInt8) : stepM m c = ⟨4, m.s, m.b ++ [c], 0⟩ := by
  unfold stepM
  rw [if_neg (by omega), if_neg (by omega), if_neg (by omega), if_neg (by omega), if_neg (by omega), if_pos h]
theorem whole_bad {m : M} (h : m.e ≠ 0) : wholeM m = false := decide_eq_false (fun k => h k.1)
theorem want_bad {m : M} (h : m.e ≠ 0) : wantM m = 0 := by unfold wantM; rw [if_pos h]
theorem whole_iff {m : M} (k : OkM m) : wholeM m = true ↔ m.e = 0 ∧ m.h = 4 ∧ m.b.length = m.s := by
  unfold wholeM
  rw [decide_eq_true_iff]
  have := k.bd
  have := k.h4
  constructor
  · rintro ⟨h1, h2⟩
    unfold wantM at h2
    rw [if_neg (by omega)] at h2
    split at h2
    · omega
    · exact ⟨h1, by omega, by have := k.bd h1; omega⟩
  · rintro ⟨h1, h2, h3⟩
    refine ⟨h1, ?_⟩
    unfold wantM
    rw [if_neg (by omega), if_neg (by omega)]
    omega
theorem whole_stay {m : M} (k : OkM m) (h : wholeM m = true) (c : UInt8) : stepM m c = m := by
  obtain ⟨_, h2, h3⟩ := (whole_iff k).1 h
  exact stepM_done h2 (by omega) c

def runM (m : M) (xs : List UInt8) : M := xs.foldl stepM m
theorem runM_nil (m : M) : runM m [] = m := rfl
theorem runM_cons (m : M) (c : UInt8) (cs : List UInt8) : runM m (c :: cs) = runM (stepM m c) cs := rfl
theorem runM_app (m : M) (xs ys : List UInt8) : runM m (xs ++ ys) = runM (runM m xs) ys := by unfold runM; rw [List.foldl_append]
theorem runM_ok {m : M} (h : OkM m) (xs : List UInt8) : OkM (runM m xs) := by
  induction xs generalizing m with
  | nil => exact h
  | cons c cs ih => exact ih (stepM_ok h c)
theorem run_one {m : M} {xs : List UInt8} {k : Nat} {c : UInt8} (h : xs[k]? = some c) : runM m (xs.take (k + 1)) = stepM (runM m (xs.take k)) c := by
  rw [List.take_add_one, h, runM_app]
  rfl
theorem runM_whole {m : M} (k : OkM m) (h : wholeM m = true) (xs : List UInt8) : runM m xs = m := by
  induction xs with
  | nil => rfl
  | cons c cs ih => rw [runM_cons, whole_stay k h, ih]
end Go.Proofs.Ytjbcdagkjonlfaa.Sh
