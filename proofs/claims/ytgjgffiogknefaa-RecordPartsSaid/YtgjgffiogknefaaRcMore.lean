/-
  More on rows of records, plain: how many came whole does not matter to what is taken apart. Plain facts, no condition.
-/
import Derived.Test.YtgjgffiogknefaaRcPure
namespace Go.Proofs.Ytgjgffiogknefaa.Rc

def D.up (k : Nat) (d : D) : D := ⟨d.a, d.l, d.n + k, d.e⟩
theorem stepD_up (k : Nat) (d : D) (c : UInt8) : stepD (d.up k) c = (stepD d c).up k := by
  obtain ⟨a, l, n, e⟩ := d
  unfold stepD D.up
  simp only
  repeat' split
  all_goals first | rfl | (exfalso; omega) | (simp; omega) | (simp only []; congr 1; omega)
theorem payD_up (k : Nat) (d : D) : payD (d.up k) = payD d := rfl
theorem runD_up (k : Nat) (d : D) (xs : List UInt8) : runD (d.up k) xs = (runD d xs).up k := by
  induction xs generalizing d with
  | nil => rfl
  | cons c cs ih => rw [runD_cons, runD_cons, stepD_up, ih]
theorem outD_up (k : Nat) (d : D) (xs : List UInt8) : outD (d.up k) xs = outD d xs := by
  induction xs generalizing d with
  | nil => rfl
  | cons c cs ih => rw [outD, outD, stepD_up, payD_up, ih]
theorem atD_up (k : Nat) (d : D) (xs : List UInt8) : atD (d.up k) xs = atD d xs := by
  induction xs generalizing d with
  | nil => rfl
  | cons c cs ih =>
    rw [atD, atD, stepD_up, ih]
    rfl
theorem st_up (n : Nat) : D.st (0 + n) = (D.st 0).up n := rfl
/-- records, and bytes behind them -/
theorem parts (m : Nat) (hm : m + 1 ≤ 16384) (x b : List UInt8) :
    outD (D.st 0) (frameS m x ++ b) = x ++ outD (D.st 0) b ∧ atD (D.st 0) (frameS m x ++ b) = (atD (D.st 0) b).map (· + (frameS m x).length) ∧ (runD (D.st 0) (frameS m x ++ b)).e = (runD (D.st 0) b).e := by
  obtain ⟨r1, r2, _⟩ := run_frame m hm x.length x 0 (Nat.le_refl _)
  refine ⟨?_, ?_, ?_⟩
  · rw [outD_app, r1, r2, st_up, outD_up]
  · rw [atD_app _ _ (by rw [r1]; rfl), r1, st_up, atD_up]
  · rw [runD_app, r1, st_up, runD_up]
    rfl
/-- all of what is framed, and a beginning of it -/
theorem back (m : Nat) (hm : m + 1 ≤ 16384) (x : List UInt8) :
    outD (D.st 0) (frameS m x) = x ∧ atD (D.st 0) (frameS m x) = none ∧ (runD (D.st 0) (frameS m x)).e = 0 := by
  obtain ⟨r1, r2, _⟩ := run_frame m hm x.length x 0 (Nat.le_refl _)
  have he : (runD (D.st 0) (frameS m x)).e = 0 := by rw [r1]; rfl
  exact ⟨r2, (atD_none _ rfl).2 he, he⟩
theorem ahead {b : List UInt8} (h : (runD (D.st 0) b).e = 0) (k : Nat) :
    (runD (D.st 0) (b.take k)).e = 0 ∧ atD (D.st 0) (b.take k) = none ∧ outD (D.st 0) b = outD (D.st 0) (b.take k) ++ outD (runD (D.st 0) (b.take k)) (b.drop k) := by
  have h1 : (runD (D.st 0) (b.take k)).e = 0 := by
    rw [← List.take_append_drop k b, runD_app] at h
    exact e_of h
  exact ⟨h1, (atD_none _ rfl).2 h1, by rw [← outD_app, List.take_append_drop]⟩
/-- a known error stays -/
theorem wrong {b more : List UInt8} {i : Nat} (h : atD (D.st 0) b = some i) :
    i < b.length ∧ (runD (D.st 0) b).e ≠ 0 ∧ atD (D.st 0) (b ++ more) = some i ∧ (runD (D.st 0) (b ++ more)).e = (runD (D.st 0) b).e ∧ outD (D.st 0) (b ++ more) = outD (D.st 0) b ∧
      atD (D.st 0) (b.take i) = none ∧ (runD (D.st 0) (b.take i)).e = 0 ∧ outD (D.st 0) (b.take i) = outD (D.st 0) b := by
  obtain ⟨c, hc, h1, h2⟩ := atD_some (d := D.st 0) rfl h
  have hl := (List.getElem?_eq_some_iff.1 hc).1
  obtain ⟨p1, p2, p3⟩ := at_here (ys := b.drop (i + 1)) h1 h2
  rw [← split_at hc] at p1 p2 p3
  obtain ⟨q1, q2, q3⟩ := at_here (ys := b.drop (i + 1) ++ more) h1 h2
  rw [show b.take i ++ c :: (b.drop (i + 1) ++ more) = b ++ more from by rw [← List.cons_append, ← List.append_assoc, ← split_at hc]] at q1 q2 q3
  exact ⟨hl, by rw [p3]; exact h2, by rw [q1, List.length_take, Nat.min_eq_left (Nat.le_of_lt hl)], by rw [q3, p3], by rw [q2, p2], (atD_none _ rfl).2 h1, h1, by rw [p2]⟩
theorem right {b more : List UInt8} (h : (runD (D.st 0) b).e = 0) :
    atD (D.st 0) b = none ∧ (outD (D.st 0) b).length ≤ (outD (D.st 0) (b ++ more)).length ∧ ((runD (D.st 0) (b ++ more)).e = 0 ∨ (b.length : Int) ≤ atI (atD (D.st 0) (b ++ more))) := by
  refine ⟨(atD_none _ rfl).2 h, by rw [outD_app, List.length_append]; omega, ?_⟩
  by_cases h2 : (runD (D.st 0) (b ++ more)).e = 0
  · exact .inl h2
  · right
    rw [atD_app _ _ h]
    cases h3 : atD (runD (D.st 0) b) more with
    | none =>
      exfalso
      apply h2
      rw [runD_app]
      exact (atD_none more h).1 h3
    | some i =>
      show (b.length : Int) ≤ ((i + b.length : Nat) : Int)
      omega
end Go.Proofs.Ytgjgffiogknefaa.Rc
