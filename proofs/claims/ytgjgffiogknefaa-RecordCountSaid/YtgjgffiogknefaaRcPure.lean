/-
  Rows of records, plain: a step for each byte, what is taken apart, what is framed. Plain facts, no condition.
-/
import Derived.Test.YtgjgffiogknefaaWords
namespace Go.Proofs.Ytgjgffiogknefaa.Rc

/-- where a deframer is: the next byte's place, how many bytes are missing, how many records came whole, the error -/
structure D where
  a : Nat
  l : Nat
  n : Nat
  e : Nat
def D.st (n : Nat) : D := ⟨0, 0, n, 0⟩

def stepD (d : D) (c : UInt8) : D :=
  if d.e ≠ 0 then d
  else if d.a = 0 then (if c.toNat = 22 then ⟨1, d.l, d.n, 0⟩ else ⟨0, d.l, d.n, 4⟩)
  else if d.a = 1 then (if c.toNat = 3 then ⟨2, d.l, d.n, 0⟩ else ⟨1, d.l, d.n, 5⟩)
  else if d.a = 2 then (if c.toNat ≤ 4 then ⟨3, d.l, d.n, 0⟩ else ⟨2, d.l, d.n, 5⟩)
  else if d.a = 3 then (if c.toNat * 256 ≤ 16384 then ⟨4, c.toNat * 256, d.n, 0⟩ else ⟨3, c.toNat * 256, d.n, 6⟩)
  else if d.a = 4 then (if 1 ≤ d.l + c.toNat ∧ d.l + c.toNat ≤ 16384 then ⟨5, d.l + c.toNat, d.n, 0⟩ else ⟨4, d.l + c.toNat, d.n, 6⟩)
  else if d.l = 1 then ⟨0, 0, d.n + 1, 0⟩ else ⟨5, d.l - 1, d.n, 0⟩
/-- is the next byte one of a payload? -/
def payD (d : D) : Bool := decide (d.e = 0 ∧ 5 ≤ d.a)
/-- what holds of a deframer -/
def OkD (d : D) : Prop := d.a ≤ 5 ∧ d.l ≤ 65535 ∧ (d.e = 0 → (d.a = 5 → 1 ≤ d.l) ∧ (d.a = 4 → d.l % 256 = 0 ∧ d.l ≤ 16384)) ∧ d.e ≤ 6
theorem OkD.st (n : Nat) : OkD (D.st n) := by refine ⟨?_, ?_, ?_, ?_⟩ <;> simp [D.st]
theorem stepD_ok {d : D} (h : OkD d) (c : UInt8) : OkD (stepD d c) := by
  obtain ⟨a, l, n, e⟩ := d
  obtain ⟨h1, h2, h3, h4⟩ := h
  have hc := c.toNat_lt
  simp only at h1 h2 h3 h4
  unfold stepD OkD
  simp only
  by_cases he : e = 0
  · subst he
    have h3 := h3 rfl
    rw [if_neg (by simp)]
    repeat' split
    all_goals
      refine ⟨?_, ?_, ?_, ?_⟩ <;> simp only <;> try omega
      try (intro _; constructor <;> omega)
  · rw [if_pos he]
    exact ⟨h1, h2, fun h => absurd h he, h4⟩
theorem stepD_n (d : D) (c : UInt8) : (stepD d c).n ≤ d.n + 1 := by
  unfold stepD
  repeat' split
  all_goals simp
theorem stepD_stay {d : D} (h : d.e ≠ 0) (c : UInt8) : stepD d c = d := by unfold stepD; rw [if_pos h]
theorem payD_no {d : D} (h : d.e ≠ 0) : payD d = false := decide_eq_false (fun h2 => h h2.1)
theorem payD_fault {d : D} (c : UInt8) (h : (stepD d c).e ≠ 0) : payD d = false := by
  by_cases he : d.e = 0
  · refine decide_eq_false (fun h2 => h ?_)
    have h5 := h2.2
    unfold stepD
    rw [if_neg (by omega), if_neg (by omega), if_neg (by omega), if_neg (by omega), if_neg (by omega), if_neg (by omega)]
    split <;> rfl
  · exact payD_no he

def runD (d : D) (xs : List UInt8) : D := xs.foldl stepD d
def outD (d : D) : List UInt8 → List UInt8
  | [] => []
  | c :: cs => (if payD d then [c] else []) ++ outD (stepD d c) cs
/-- at which place an error is known -/
def atD (d : D) : List UInt8 → Option Nat
  | [] => none
  | c :: cs => if (stepD d c).e ≠ 0 then some 0 else (atD (stepD d c) cs).map (· + 1)
def atI (o : Option Nat) : Int := match o with | none => -1 | some i => (i : Int)
theorem runD_nil (d : D) : runD d [] = d := rfl
theorem runD_cons (d : D) (c : UInt8) (cs : List UInt8) : runD d (c :: cs) = runD (stepD d c) cs := rfl
theorem runD_app (d : D) (xs ys : List UInt8) : runD d (xs ++ ys) = runD (runD d xs) ys := by unfold runD; rw [List.foldl_append]
theorem runD_ok {d : D} (h : OkD d) (xs : List UInt8) : OkD (runD d xs) := by
  induction xs generalizing d with
  | nil => exact h
  | cons c cs ih => exact ih (stepD_ok h c)
theorem runD_n (d : D) (xs : List UInt8) : (runD d xs).n ≤ d.n + xs.length := by
  induction xs generalizing d with
  | nil => exact Nat.le_refl _
  | cons c cs ih =>
    have h1 := ih (stepD d c)
    have h2 := stepD_n d c
    rw [runD_cons, List.length_cons]
    omega
theorem runD_stay {d : D} (h : d.e ≠ 0) (xs : List UInt8) : runD d xs = d := by
  induction xs with
  | nil => rfl
  | cons c cs ih => rw [runD_cons, stepD_stay h, ih]
theorem outD_stay {d : D} (h : d.e ≠ 0) (xs : List UInt8) : outD d xs = [] := by
  induction xs with
  | nil => rfl
  | cons c cs ih => rw [outD, payD_no h, stepD_stay h, ih]; rfl
theorem outD_app (d : D) (xs ys : List UInt8) : outD d (xs ++ ys) = outD d xs ++ outD (runD d xs) ys := by
  induction xs generalizing d with
  | nil => rfl
  | cons c cs ih => rw [List.cons_append, outD, outD, ih, runD_cons, List.append_assoc]
theorem outD_len (d : D) (xs : List UInt8) : (outD d xs).length ≤ xs.length := by
  induction xs generalizing d with
  | nil => exact Nat.le_refl _
  | cons c cs ih =>
    have := ih (stepD d c)
    rw [outD, List.length_append, List.length_cons]
    split <;> simp <;> omega
theorem e_of {d : D} {xs : List UInt8} (h : (runD d xs).e = 0) : d.e = 0 := by
  rcases Nat.eq_zero_or_pos d.e with h0 | h0
  · exact h0
  · rw [runD_stay (by omega)] at h; exact h
theorem atD_none {d : D} (xs : List UInt8) (h0 : d.e = 0) : atD d xs = none ↔ (runD d xs).e = 0 := by
  induction xs generalizing d with
  | nil => exact ⟨fun _ => h0, fun _ => rfl⟩
  | cons c cs ih =>
    rw [atD, runD_cons]
    by_cases h : (stepD d c).e = 0
    · rw [if_neg (by simpa using h), Option.map_eq_none_iff]
      exact ih h
    · rw [if_pos h, runD_stay h]
      exact ⟨fun h => by simp at h, fun h2 => absurd h2 h⟩
theorem atD_app {d : D} (xs ys : List UInt8) (h : (runD d xs).e = 0) : atD d (xs ++ ys) = (atD (runD d xs) ys).map (· + xs.length) := by
  induction xs generalizing d with
  | nil => simp [runD_nil]
  | cons c cs ih =>
    rw [runD_cons] at h
    rw [List.cons_append, atD, if_neg (by simpa using e_of h), ih h, runD_cons, Option.map_map]
    rfl
theorem atD_some {d : D} {xs : List UInt8} {i : Nat} (h0 : d.e = 0) (h : atD d xs = some i) : ∃ c, xs[i]? = some c ∧ (runD d (xs.take i)).e = 0 ∧ (stepD (runD d (xs.take i)) c).e ≠ 0 := by
  induction xs generalizing d i with
  | nil => cases h
  | cons c cs ih =>
    rw [atD] at h
    by_cases hs : (stepD d c).e = 0
    · rw [if_neg (by simpa using hs)] at h
      rw [Option.map_eq_some_iff] at h
      obtain ⟨j, hj, rfl⟩ := h
      exact ih hs hj
    · rw [if_pos hs] at h
      injection h with h
      subst h
      exact ⟨c, rfl, h0, hs⟩
/-- where the error is known: what came ahead of it had none, and what comes behind it changes nothing -/
theorem at_here {d : D} {xs ys : List UInt8} {c : UInt8} (h1 : (runD d xs).e = 0) (h2 : (stepD (runD d xs) c).e ≠ 0) :
    atD d (xs ++ c :: ys) = some xs.length ∧ outD d (xs ++ c :: ys) = outD d xs ∧ (runD d (xs ++ c :: ys)).e = (stepD (runD d xs) c).e := by
  refine ⟨?_, ?_, ?_⟩
  · rw [atD_app _ _ h1, atD, if_pos h2]
    simp
  · rw [outD_app, outD, payD_fault c h2, outD_stay h2]
    simp
  · rw [runD_app, runD_cons, runD_stay h2]
theorem split_at {xs : List UInt8} {i : Nat} {c : UInt8} (h : xs[i]? = some c) : xs = xs.take i ++ c :: xs.drop (i + 1) := by
  obtain ⟨hl, rfl⟩ := List.getElem?_eq_some_iff.1 h
  rw [← List.drop_eq_getElem_cons hl, List.take_append_drop]

/-- the first bytes of a record -/
def hdrS (k : Nat) : List UInt8 := [22, 3, 1, UInt8.ofNat (k / 256), UInt8.ofNat (k % 256)]
theorem hdrS_length (k : Nat) : (hdrS k).length = 5 := rfl
/-- records of x, each of m + 1 bytes of it -/
def frameS (m : Nat) (x : List UInt8) : List UInt8 :=
  if _h : x = [] then [] else hdrS (min x.length (m + 1)) ++ x.take (m + 1) ++ frameS m (x.drop (m + 1))
termination_by x.length
decreasing_by
  have : 0 < x.length := List.length_pos_iff.2 (by assumption)
  rw [List.length_drop]; omega
theorem frameS_nil (m : Nat) : frameS m [] = [] := by rw [frameS]; simp
theorem frameS_cons (m : Nat) (x : List UInt8) (h : x ≠ []) : frameS m x = hdrS (min x.length (m + 1)) ++ x.take (m + 1) ++ frameS m (x.drop (m + 1)) := by
  rw [frameS, dif_neg h]

theorem run_hdr (k n : Nat) (h1 : 1 ≤ k) (h2 : k ≤ 16384) : runD (D.st n) (hdrS k) = ⟨5, k, n, 0⟩ ∧ outD (D.st n) (hdrS k) = [] := by
  have e1 : (UInt8.ofNat (k / 256)).toNat = k / 256 := by rw [UInt8.toNat_ofNat']; omega
  have e2 : (UInt8.ofNat (k % 256)).toNat = k % 256 := by rw [UInt8.toNat_ofNat']; omega
  have s1 : stepD ⟨0, 0, n, 0⟩ 22 = ⟨1, 0, n, 0⟩ := rfl
  have s2 : stepD ⟨1, 0, n, 0⟩ 3 = ⟨2, 0, n, 0⟩ := rfl
  have s3 : stepD ⟨2, 0, n, 0⟩ 1 = ⟨3, 0, n, 0⟩ := rfl
  have s4 : stepD ⟨3, 0, n, 0⟩ (UInt8.ofNat (k / 256)) = ⟨4, k / 256 * 256, n, 0⟩ := by
    unfold stepD
    simp only [e1]
    rw [if_neg (by simp), if_neg (by simp), if_neg (by simp), if_neg (by simp), if_pos trivial, if_pos (by omega)]
  have s5 : stepD ⟨4, k / 256 * 256, n, 0⟩ (UInt8.ofNat (k % 256)) = ⟨5, k, n, 0⟩ := by
    unfold stepD
    simp only [e2]
    rw [show k / 256 * 256 + k % 256 = k from by omega]
    rw [if_neg (by simp), if_neg (by simp), if_neg (by simp), if_neg (by simp), if_neg (by simp), if_pos trivial, if_pos (by omega)]
  unfold D.st hdrS
  refine ⟨by rw [runD_cons, s1, runD_cons, s2, runD_cons, s3, runD_cons, s4, runD_cons, s5, runD_nil], ?_⟩
  rw [outD, s1, outD, s2, outD, s3, outD, s4, outD, s5, outD]
  simp [payD]
theorem run_pay (k n : Nat) (xs : List UInt8) (h : xs.length < k) : runD ⟨5, k, n, 0⟩ xs = ⟨5, k - xs.length, n, 0⟩ ∧ outD ⟨5, k, n, 0⟩ xs = xs := by
  induction xs generalizing k with
  | nil => exact ⟨rfl, rfl⟩
  | cons c cs ih =>
    rw [List.length_cons] at h
    have s : stepD ⟨5, k, n, 0⟩ c = ⟨5, k - 1, n, 0⟩ := by
      unfold stepD
      rw [if_neg (by simp), if_neg (by simp), if_neg (by simp), if_neg (by simp), if_neg (by simp), if_neg (by simp), if_neg (by show ¬ k = 1; omega)]
    obtain ⟨i1, i2⟩ := ih (k - 1) (by omega)
    refine ⟨by rw [runD_cons, s, i1, List.length_cons]; congr 1; omega, ?_⟩
    rw [outD, s, i2]
    rfl
theorem run_payload (n : Nat) (xs : List UInt8) (h : xs ≠ []) : runD ⟨5, xs.length, n, 0⟩ xs = D.st (n + 1) ∧ outD ⟨5, xs.length, n, 0⟩ xs = xs := by
  obtain ⟨ys, c, rfl⟩ : ∃ ys c, xs = ys ++ [c] := by
    rcases List.eq_nil_or_concat xs with h0 | ⟨ys, c, h1⟩
    · exact absurd h0 h
    · exact ⟨ys, c, by rw [h1]; simp⟩
  have hl : (ys ++ [c]).length = ys.length + 1 := by simp
  obtain ⟨i1, i2⟩ := run_pay (ys.length + 1) n ys (by omega)
  have s : stepD ⟨5, 1, n, 0⟩ c = D.st (n + 1) := rfl
  rw [hl, runD_app, outD_app, i1, i2, show ys.length + 1 - ys.length = 1 from by omega]
  exact ⟨s, rfl⟩
/-- how many records -/
def recsN (m : Nat) (x : List UInt8) : Nat := (x.length + m) / (m + 1)
theorem recsN_cons (m : Nat) (x : List UInt8) (h : x ≠ []) : recsN m x = recsN m (x.drop (m + 1)) + 1 := by
  have hp : 0 < x.length := List.length_pos_iff.2 h
  unfold recsN
  rw [List.length_drop]
  rcases Nat.le_total x.length (m + 1) with hle | hle
  · rw [Nat.sub_eq_zero_of_le hle, Nat.zero_add, Nat.div_eq_of_lt (by omega : m < m + 1)]
    have : x.length + m = (x.length - 1) + (m + 1) := by omega
    rw [this, Nat.add_div_right _ (by omega), Nat.div_eq_of_lt (by omega)]
  · have : x.length + m = (x.length - (m + 1) + m) + (m + 1) := by omega
    rw [this, Nat.add_div_right _ (by omega)]
theorem run_frame (m : Nat) (hm : m + 1 ≤ 16384) (k : Nat) : ∀ (x : List UInt8) (n : Nat), x.length ≤ k → runD (D.st n) (frameS m x) = D.st (n + recsN m x) ∧ outD (D.st n) (frameS m x) = x ∧ (frameS m x).length = x.length + 5 * recsN m x := by
  induction k with
  | zero =>
    intro x n hx
    have : x = [] := List.eq_nil_of_length_eq_zero (by omega)
    subst this
    have h0 : recsN m [] = 0 := by unfold recsN; rw [List.length_nil, Nat.zero_add]; exact Nat.div_eq_of_lt (by omega)
    rw [frameS_nil, h0]
    exact ⟨rfl, rfl, rfl⟩
  | succ k ih =>
    intro x n hx
    by_cases h : x = []
    · subst h
      exact ih [] n (by simp)
    · have hp : 0 < x.length := List.length_pos_iff.2 h
      have ht : (x.take (m + 1)).length = min x.length (m + 1) := by rw [List.length_take, Nat.min_comm]
      have htn : x.take (m + 1) ≠ [] := by
        intro e
        rw [e, List.length_nil] at ht
        omega
      obtain ⟨r1, r2⟩ := run_hdr (min x.length (m + 1)) n (by omega) (by omega)
      obtain ⟨p1, p2⟩ := run_payload n (x.take (m + 1)) htn
      rw [ht] at p1 p2
      obtain ⟨i1, i2, i3⟩ := ih (x.drop (m + 1)) (n + 1) (by rw [List.length_drop]; omega)
      rw [frameS_cons m x h, runD_app, runD_app, r1, p1, i1, outD_app, outD_app, runD_app, r1, p1, r2, p2, i2, List.length_append, List.length_append, i3, ht, hdrS_length, recsN_cons m x h, List.length_drop, List.nil_append, List.take_append_drop]
      refine ⟨?_, rfl, ?_⟩
      · congr 1; omega
      · omega
end Go.Proofs.Ytgjgffiogknefaa.Rc
