/-
  The head of a request, byte by byte, in plain words: what is known of a beginning, that it does not change, and that nothing is known ahead of the last byte that it needs. No condition.
-/
import Derived.Test.YtgbhnjkigjecmaaGreatDoorQ01
import Derived.Test.YtgbhnjkigjecmaaGreatDoorQ09
import Derived.Test.YtgbhnjkigjecmaaGreatDoorQ10
namespace Go.Proofs.YtgbhnjkigjecmaaGreatDoor.Hp

/-- where a look is: the bytes of the line at hand, how many lines ended, the request, the fields, the state, how many bytes count, the reason, the host, the port -/
structure H where
  cur : List UInt8
  n : Nat
  q : Rl.Rq
  fs : List Fd.Fld
  z : Nat
  u : Nat
  r : Int
  h : List UInt8
  p : Int
def H.st : H := ⟨[], 0, Rl.Rq.zero, [], 0, 0, 0, [], 0⟩
def H.bad (t : H) (e : Int) : H := ⟨t.cur, t.n, t.q, t.fs, 2, t.u + 1, e, [], 0⟩
def H.next (t : H) (cur : List UInt8) (n : Nat) (q : Rl.Rq) (fs : List Fd.Fld) : H := ⟨cur, n, q, fs, 0, t.u + 1, 0, [], 0⟩
/-- what a request and its fields tell: a host, a port, or why not -/
def judgeS (q : Rl.Rq) (fs : List Fd.Fld) : List UInt8 × Int × Int :=
  if (Au.ofS q fs).2.2 ≠ 0 then ([], 0, (Au.ofS q fs).2.2)
  else if (Nm.normalS (Au.ofS q fs).1).2 ≠ 0 then ([], 0, (Nm.normalS (Au.ofS q fs).1).2)
  else ((Nm.normalS (Au.ofS q fs).1).1, (Au.ofS q fs).2.1, 0)
/-- a line ended -/
def endS (t : H) (s : List UInt8) : H :=
  if t.n = 0 then (if (Rl.parseS s).2 ≠ 0 then t.bad (Rl.parseS s).2 else t.next [] 1 (Rl.parseS s).1 t.fs)
  else if s = [] then (if (judgeS t.q t.fs).2.2 ≠ 0 then t.bad (judgeS t.q t.fs).2.2 else ⟨[], t.n + 1, t.q, t.fs, 1, t.u + 1, 0, (judgeS t.q t.fs).1, (judgeS t.q t.fs).2.1⟩)
  else if (Fd.parseS s).2 ≠ 0 then t.bad (Fd.parseS s).2
  else if 100 < t.fs.length + 1 then t.bad 2
  else t.next [] (t.n + 1) t.q (t.fs ++ [(Fd.parseS s).1])
def backB (t : H) : Bool := decide (t.cur.getLast? = some 13)
def stepH (t : H) (c : UInt8) : H :=
  if t.z ≠ 0 then t
  else if backB t ≠ decide (c = 10) then t.bad 3
  else if c = 10 then endS t t.cur.dropLast
  else t.next (t.cur ++ [c]) t.n t.q t.fs
/-- what holds of a look -/
structure OkH (t : H) : Prop where
  z2 : t.z ≤ 2
  op : t.z = 0 → t.r = 0
  bare : t.z ≠ 1 → t.h = [] ∧ t.p = 0
  why : t.z = 2 ↔ t.r ≠ 0
  fs : t.fs.length ≤ 100
  cu : t.cur.length ≤ t.u
  few : ∀ f ∈ t.fs, f.name.length ≤ t.u ∧ f.text.length ≤ t.u
  qt : t.q.targ.length ≤ 8000
  hl : t.h.length ≤ 255
  nu : t.n ≤ t.u
theorem OkH.st : OkH H.st where
  z2 := Nat.zero_le _
  op := fun _ => rfl
  bare := fun _ => ⟨rfl, rfl⟩
  why := ⟨fun h => absurd h (by decide), fun h => absurd rfl h⟩
  fs := Nat.zero_le _
  cu := Nat.le_refl _
  few := fun f h => by cases h
  qt := Nat.zero_le _
  hl := Nat.zero_le _
  nu := Nat.le_refl _
theorem bad_ok {t : H} (k : OkH t) {e : Int} (he : e ≠ 0) : OkH (t.bad e) where
  z2 := Nat.le_refl 2
  op := fun h => absurd h (by show ¬ 2 = 0; decide)
  bare := fun _ => ⟨rfl, rfl⟩
  why := ⟨fun _ => he, fun _ => rfl⟩
  fs := k.fs
  cu := Nat.le_succ_of_le k.cu
  few := fun f h => ⟨Nat.le_succ_of_le (k.few f h).1, Nat.le_succ_of_le (k.few f h).2⟩
  qt := k.qt
  hl := Nat.zero_le _
  nu := Nat.le_succ_of_le k.nu
theorem next_ok {t : H} {cur : List UInt8} {n : Nat} {q : Rl.Rq} {fs : List Fd.Fld} (hc : cur.length ≤ t.u + 1) (hf : fs.length ≤ 100) (hq : q.targ.length ≤ 8000) (hfs : ∀ f ∈ fs, f.name.length ≤ t.u + 1 ∧ f.text.length ≤ t.u + 1) (hn : n ≤ t.u + 1) : OkH (t.next cur n q fs) where
  z2 := Nat.zero_le _
  op := fun _ => rfl
  bare := fun _ => ⟨rfl, rfl⟩
  why := ⟨fun h => absurd h (by show ¬ 0 = 2; decide), fun h => absurd rfl h⟩
  fs := hf
  cu := hc
  few := hfs
  qt := hq
  hl := Nat.zero_le _
  nu := hn
theorem normal_few (l : List UInt8) : (Nm.normalS l).1.length ≤ 255 := by
  by_cases h : (Nm.normalS l).2 = 0
  · have := (Nm.normal_len (l := l) (n := (Nm.normalS l).1) (by rw [← h])).2
    omega
  · rw [Nm.normal_no h]; exact Nat.zero_le _
theorem req_few {s : List UInt8} (h : (Rl.parseS s).2 = 0) : (Rl.parseS s).1.targ.length ≤ 8000 :=
  (Rl.parse_ok (l := s) (r := (Rl.parseS s).1) (by rw [← h])).1.2.2.2.1
theorem judge_few (q : Rl.Rq) (fs : List Fd.Fld) : (judgeS q fs).1.length ≤ 255 := by
  unfold judgeS
  repeat' split
  all_goals first
    | exact Nat.zero_le _
    | exact normal_few _
theorem endS_ok {t : H} (k : OkH t) {s : List UInt8} (hs : s.length ≤ t.u) : OkH (endS t s) := by
  have kf : ∀ f ∈ t.fs, f.name.length ≤ t.u + 1 ∧ f.text.length ≤ t.u + 1 := fun f h => ⟨Nat.le_succ_of_le (k.few f h).1, Nat.le_succ_of_le (k.few f h).2⟩
  unfold endS
  split
  · split
    · rename_i h; exact bad_ok k h
    · rename_i h
      exact next_ok (Nat.zero_le _) k.fs (req_few (by omega)) kf (by omega)
  split
  · split
    · rename_i h; exact bad_ok k h
    · exact ⟨by show 1 ≤ 2; decide, fun h => absurd h (by show ¬ 1 = 0; decide), fun h => absurd rfl h, ⟨fun h => absurd h (by show ¬ 1 = 2; decide), fun h => absurd rfl h⟩, k.fs, Nat.zero_le _, kf, k.qt, judge_few _ _, Nat.succ_le_succ k.nu⟩
  split
  · rename_i h; exact bad_ok k h
  split
  · exact bad_ok k (by decide)
  · rename_i h0
    refine next_ok (Nat.zero_le _) (by rw [List.length_append]; simp; omega) k.qt (fun f hf => ?_) (Nat.succ_le_succ k.nu)
    rcases List.mem_append.1 hf with hf | hf
    · exact kf f hf
    · have e : f = (Fd.parseS s).1 := List.mem_singleton.1 hf
      have h1 := Fd.parse_len (l := s) (f := f) (e := (Fd.parseS s).2) (by rw [e])
      omega
theorem stepH_ok {t : H} (k : OkH t) (c : UInt8) : OkH (stepH t c) := by
  have hc := k.cu
  unfold stepH
  split
  · exact k
  split
  · exact bad_ok k (by decide)
  split
  · exact endS_ok k (by rw [List.length_dropLast]; omega)
  · exact next_ok (by rw [List.length_append]; simp; omega) k.fs k.qt (fun f h => ⟨Nat.le_succ_of_le (k.few f h).1, Nat.le_succ_of_le (k.few f h).2⟩) (Nat.le_succ_of_le k.nu)
theorem stepH_stay {t : H} (h : t.z ≠ 0) (c : UInt8) : stepH t c = t := by unfold stepH; rw [if_pos h]
theorem endS_used (t : H) (s : List UInt8) : (endS t s).u = t.u + 1 := by
  unfold endS
  repeat' split
  all_goals rfl
theorem stepH_used {t : H} (h : t.z = 0) (c : UInt8) : (stepH t c).u = t.u + 1 := by
  unfold stepH
  rw [if_neg (by omega)]
  split
  · rfl
  split
  · exact endS_used _ _
  · rfl

def runH (t : H) (xs : List UInt8) : H := xs.foldl stepH t
def allH (xs : List UInt8) : H := runH H.st xs
theorem runH_cons (t : H) (c : UInt8) (cs : List UInt8) : runH t (c :: cs) = runH (stepH t c) cs := rfl
theorem runH_app (t : H) (xs ys : List UInt8) : runH t (xs ++ ys) = runH (runH t xs) ys := by unfold runH; rw [List.foldl_append]
theorem runH_ok {t : H} (h : OkH t) (xs : List UInt8) : OkH (runH t xs) := by
  induction xs generalizing t with
  | nil => exact h
  | cons c cs ih => exact ih (stepH_ok h c)
theorem runH_stay {t : H} (h : t.z ≠ 0) (xs : List UInt8) : runH t xs = t := by
  induction xs with
  | nil => rfl
  | cons c cs ih => rw [runH_cons, stepH_stay h, ih]
theorem allH_ok (xs : List UInt8) : OkH (allH xs) := runH_ok OkH.st xs
theorem allH_next {xs : List UInt8} {k : Nat} {c : UInt8} (h : xs[k]? = some c) : allH (xs.take (k + 1)) = stepH (allH (xs.take k)) c := by
  unfold allH
  rw [List.take_add_one, h, runH_app]
  rfl
theorem open_back {t : H} {xs : List UInt8} (h : (runH t xs).z = 0) : t.z = 0 := by
  rcases Nat.eq_zero_or_pos t.z with h0 | h0
  · exact h0
  · rw [runH_stay (by omega)] at h; exact h
theorem runH_used {t : H} (xs : List UInt8) (h : (runH t xs).z = 0) : (runH t xs).u = t.u + xs.length := by
  induction xs generalizing t with
  | nil => rfl
  | cons c cs ih =>
    rw [runH_cons] at h ⊢
    rw [ih h, stepH_used (by
      rcases Nat.eq_zero_or_pos t.z with h0 | h0
      · exact h0
      · rw [stepH_stay (by omega)] at h
        exact open_back h), List.length_cons]
    omega
theorem allH_used {xs : List UInt8} (h : (allH xs).z = 0) : (allH xs).u = xs.length := by
  have := runH_used xs h
  rw [show H.st.u = 0 from rfl, Nat.zero_add] at this
  exact this
/-- what is known, is so by its last byte, and by no byte ahead of it -/
theorem known_at : ∀ (xs : List UInt8) (t : H), t.z = 0 → (runH t xs).z ≠ 0 → ∃ k, k < xs.length ∧ (runH t xs).u = t.u + k + 1 ∧ (runH t (xs.take k)).z = 0 ∧ runH t (xs.take (k + 1)) = runH t xs
  | [], t, h0, h => absurd h0 h
  | c :: cs, t, h0, h => by
    rw [runH_cons] at h
    by_cases hs : (stepH t c).z = 0
    · obtain ⟨k, hk, hu, ho, hr⟩ := known_at cs (stepH t c) hs h
      refine ⟨k + 1, by simpa using hk, by rw [runH_cons, hu, stepH_used h0]; omega, ?_, ?_⟩
      · rw [List.take_succ_cons, runH_cons]; exact ho
      · rw [List.take_succ_cons, runH_cons, runH_cons]; exact hr
    · refine ⟨0, by simp, ?_, h0, ?_⟩
      · rw [runH_cons, runH_stay hs, stepH_used h0]
      · rw [List.take_succ_cons, List.take_zero, runH_cons, runH_cons, runH_stay hs, runH_stay hs]
theorem known {xs : List UInt8} (h : (allH xs).z ≠ 0) : 1 ≤ (allH xs).u ∧ (allH xs).u ≤ xs.length ∧ (allH (xs.take ((allH xs).u - 1))).z = 0 ∧ (∀ ys, allH (xs ++ ys) = allH xs) := by
  obtain ⟨k, hk, hu, ho, _⟩ := known_at xs H.st rfl h
  rw [show H.st.u = 0 from rfl, Nat.zero_add] at hu
  have e : (allH xs).u = k + 1 := hu
  refine ⟨by omega, by omega, ?_, fun ys => ?_⟩
  · rw [e, Nat.add_sub_cancel]; exact ho
  · show runH H.st (xs ++ ys) = _
    rw [runH_app]
    exact runH_stay h ys
theorem more_open {xs ys : List UInt8} (h : (allH xs).z = 0) (h2 : (allH (xs ++ ys)).z ≠ 0) : xs.length < (allH (xs ++ ys)).u := by
  have e : allH (xs ++ ys) = runH (allH xs) ys := by unfold allH; rw [runH_app]
  rw [e] at h2 ⊢
  obtain ⟨k, _, hu, _⟩ := known_at ys (allH xs) h h2
  rw [hu, allH_used h]
  omega
/-- what is known of a beginning is known of all -/
theorem all_end {xs : List UInt8} {k : Nat} {c : UInt8} (hx : xs[k]? = some c) (h : (stepH (allH (xs.take k)) c).z ≠ 0) : allH xs = stepH (allH (xs.take k)) c := by
  have h1 := allH_next hx
  rw [← h1] at h ⊢
  have h2 := (known h).2.2.2 (xs.drop (k + 1))
  rw [List.take_append_drop] at h2
  exact h2
theorem stepH_u (t : H) (c : UInt8) : (stepH t c).u ≤ t.u + 1 := by
  by_cases h : t.z = 0
  · rw [stepH_used h]; exact Nat.le_refl _
  · rw [stepH_stay h]; exact Nat.le_succ _
theorem runH_u (t : H) (xs : List UInt8) : (runH t xs).u ≤ t.u + xs.length := by
  induction xs generalizing t with
  | nil => exact Nat.le_refl _
  | cons c cs ih =>
    have h1 := ih (stepH t c)
    have h2 := stepH_u t c
    rw [runH_cons, List.length_cons]
    omega
theorem allH_u (xs : List UInt8) : (allH xs).u ≤ xs.length := by
  have := runH_u H.st xs
  rw [show H.st.u = 0 from rfl, Nat.zero_add] at this
  exact this

/-! lines -/
/-- bytes of a line: no line feed, no carriage return -/
def Plain (s : List UInt8) : Prop := ∀ c ∈ s, c ≠ 10 ∧ c ≠ 13
theorem run_text : ∀ (s : List UInt8) (t : H), t.z = 0 → backB t = false → Plain s → s ≠ [] → runH t s = ⟨t.cur ++ s, t.n, t.q, t.fs, 0, t.u + s.length, 0, [], 0⟩
  | [], _, _, _, _, h => absurd rfl h
  | c :: cs, t, hz, hb, hp, _ => by
    have hc := hp c (by simp)
    have e : stepH t c = t.next (t.cur ++ [c]) t.n t.q t.fs := by
      unfold stepH
      rw [if_neg (by omega), hb, if_neg (by rw [decide_eq_false hc.1]; simp), if_neg hc.1]
    rw [runH_cons, e]
    by_cases h0 : cs = []
    · subst h0
      rfl
    · have hb2 : backB (t.next (t.cur ++ [c]) t.n t.q t.fs) = false := by
        unfold backB H.next
        rw [decide_eq_false]
        rw [List.getLast?_append]
        simp
        exact hc.2
      rw [run_text cs _ rfl hb2 (fun x hx => hp x (List.mem_cons_of_mem _ hx)) h0]
      unfold H.next
      simp only [List.append_assoc, List.singleton_append, List.length_cons]
      congr 1
      omega
/-- a line, and its end -/
theorem run_line (s : List UInt8) (n u : Nat) (q : Rl.Rq) (fs : List Fd.Fld) (hp : Plain s) : runH ⟨[], n, q, fs, 0, u, 0, [], 0⟩ (s ++ [13, 10]) = endS ⟨s ++ [13], n, q, fs, 0, u + s.length + 1, 0, [], 0⟩ s := by
  have h1 : runH ⟨[], n, q, fs, 0, u, 0, [], 0⟩ s = ⟨s, n, q, fs, 0, u + s.length, 0, [], 0⟩ := by
    by_cases h0 : s = []
    · subst h0; rfl
    · exact run_text s _ rfl rfl hp h0
  rw [runH_app, h1, runH_cons, runH_cons]
  have hb : backB ⟨s, n, q, fs, 0, u + s.length, 0, [], 0⟩ = false := by
    unfold backB
    rw [decide_eq_false]
    intro h
    exact (hp 13 (List.mem_of_getLast? h)).2 rfl
  have e1 : stepH ⟨s, n, q, fs, 0, u + s.length, 0, [], 0⟩ 13 = ⟨s ++ [13], n, q, fs, 0, u + s.length + 1, 0, [], 0⟩ := by
    unfold stepH
    rw [if_neg (by simp), hb, if_neg (by decide), if_neg (by decide)]
    rfl
  rw [e1]
  have hb2 : backB ⟨s ++ [13], n, q, fs, 0, u + s.length + 1, 0, [], 0⟩ = true := by
    unfold backB
    rw [decide_eq_true]
    simp
  have e2 : stepH ⟨s ++ [13], n, q, fs, 0, u + s.length + 1, 0, [], 0⟩ 10 = endS ⟨s ++ [13], n, q, fs, 0, u + s.length + 1, 0, [], 0⟩ s := by
    unfold stepH
    rw [if_neg (by simp), hb2, if_neg (by decide), if_pos rfl, List.dropLast_concat]
  rw [e2]
  rfl
/-- lines, each with its end -/
def linesS : List (List UInt8) → List UInt8
  | [] => []
  | l :: ls => l ++ ([13, 10] ++ linesS ls)
theorem lines_app : ∀ (a b : List (List UInt8)), linesS (a ++ b) = linesS a ++ linesS b
  | [], b => rfl
  | l :: a, b => by
    rw [List.cons_append, linesS, linesS, lines_app a b]
    simp
theorem lines_snoc (l : List UInt8) (ls : List (List UInt8)) : linesS (ls ++ [l]) = linesS ls ++ (l ++ [13, 10]) := by
  rw [lines_app]
  simp [linesS]
/-- a line of a field that may be -/
structure OkL (l : List UInt8) : Prop where
  pl : Plain l
  ne : l ≠ []
  ok : (Fd.parseS l).2 = 0
def fldOf (l : List UInt8) : Fd.Fld := (Fd.parseS l).1
/-- fields' lines, while there are not too many of them -/
theorem run_lines : ∀ (ls : List (List UInt8)) (n u : Nat) (q : Rl.Rq) (fs : List Fd.Fld), n ≠ 0 → (∀ l ∈ ls, OkL l) → fs.length + ls.length ≤ 100 →
    runH ⟨[], n, q, fs, 0, u, 0, [], 0⟩ (linesS ls) = ⟨[], n + ls.length, q, fs ++ ls.map fldOf, 0, u + (linesS ls).length, 0, [], 0⟩
  | [], n, u, q, fs, _, _, _ => by simp [linesS, runH]
  | l :: ls, n, u, q, fs, hn, hk, hl => by
    have k := hk l (by simp)
    have hl2 : fs.length + (ls.length + 1) ≤ 100 := hl
    have e : linesS (l :: ls) = (l ++ [13, 10]) ++ linesS ls := by simp [linesS]
    rw [e, runH_app, run_line l n u q fs k.pl]
    have e2 : endS ⟨l ++ [13], n, q, fs, 0, u + l.length + 1, 0, [], 0⟩ l = ⟨[], n + 1, q, fs ++ [fldOf l], 0, u + l.length + 1 + 1, 0, [], 0⟩ := by
      unfold endS
      rw [if_neg hn, if_neg k.ne, if_neg (by rw [k.ok]; simp), if_neg (by show ¬ 100 < fs.length + 1; omega)]
      rfl
    rw [e2, run_lines ls (n + 1) (u + l.length + 1 + 1) q (fs ++ [fldOf l]) (Nat.succ_ne_zero n) (fun x hx => hk x (List.mem_cons_of_mem _ hx)) (by rw [List.length_append]; simp; omega)]
    simp only [List.length_cons, List.map_cons, List.append_assoc, List.singleton_append, List.length_append, List.length_nil]
    congr 1 <;> omega
/-- the head of a request: its line, its fields' lines, and an empty one -/
def headS (s : List UInt8) (ls : List (List UInt8)) : List UInt8 := s ++ ([13, 10] ++ (linesS ls ++ [13, 10]))
theorem head_len (s : List UInt8) (ls : List (List UInt8)) : (headS s ls).length = s.length + (linesS ls).length + 4 := by
  simp [headS]; omega
/-- what is known of it -/
def doneS (q : Rl.Rq) (fs : List Fd.Fld) (t : H) : Prop :=
  t.z = (if (judgeS q fs).2.2 ≠ 0 then 2 else 1) ∧ t.r = (judgeS q fs).2.2 ∧ t.h = (judgeS q fs).1 ∧ t.p = (judgeS q fs).2.1
theorem judge_bare (q : Rl.Rq) (fs : List Fd.Fld) : (judgeS q fs).2.2 ≠ 0 → (judgeS q fs).1 = [] ∧ (judgeS q fs).2.1 = 0 := by
  unfold judgeS
  repeat' split
  all_goals first
    | exact fun _ => ⟨rfl, rfl⟩
    | exact fun h => absurd rfl h
theorem run_first {s : List UInt8} {q : Rl.Rq} (hp : Plain s) (hs : Rl.parseS s = (q, 0)) : runH H.st (s ++ [13, 10]) = ⟨[], 1, q, [], 0, s.length + 2, 0, [], 0⟩ := by
  have h := run_line s 0 0 Rl.Rq.zero [] hp
  rw [show H.st = ⟨[], 0, Rl.Rq.zero, [], 0, 0, 0, [], 0⟩ from rfl, h]
  unfold endS
  rw [if_pos rfl, hs, if_neg (by simp)]
  show H.mk [] 1 q [] 0 (0 + s.length + 1 + 1) 0 [] 0 = _
  congr 1
  omega
theorem head_known {s : List UInt8} {q : Rl.Rq} {ls : List (List UInt8)} (hp : Plain s) (hs : Rl.parseS s = (q, 0)) (hk : ∀ l ∈ ls, OkL l) (hl : ls.length ≤ 100) :
    (allH (headS s ls)).u = (headS s ls).length ∧ doneS q (ls.map fldOf) (allH (headS s ls)) := by
  have e : headS s ls = (s ++ [13, 10]) ++ (linesS ls ++ ([] ++ [13, 10])) := by simp [headS]
  have h1 : allH (headS s ls) = endS ⟨[] ++ [13], 1 + ls.length, q, [] ++ ls.map fldOf, 0, s.length + 2 + (linesS ls).length + ([] : List UInt8).length + 1, 0, [], 0⟩ [] := by
    unfold allH
    rw [e, runH_app, run_first hp hs, runH_app, run_lines ls 1 (s.length + 2) q [] (by decide) hk (by simp; omega), run_line [] _ _ _ _ (fun c hc => by cases hc)]
  have hb := judge_bare q (ls.map fldOf)
  rw [h1]
  unfold endS
  rw [if_neg (by show ¬ 1 + ls.length = 0; omega), if_pos rfl]
  simp only [List.nil_append]
  by_cases hj : (judgeS q (ls.map fldOf)).2.2 = 0
  · rw [if_neg (by simpa using hj)]
    refine ⟨?_, ?_⟩
    · rw [head_len]; simp; omega
    · unfold doneS
      rw [if_neg (by simpa using hj)]
      exact ⟨rfl, hj.symm, rfl, rfl⟩
  · rw [if_pos hj]
    refine ⟨?_, ?_⟩
    · rw [head_len]; show s.length + 2 + (linesS ls).length + ([] : List UInt8).length + 1 + 1 = _; simp; omega
    · unfold doneS
      rw [if_pos hj]
      exact ⟨rfl, rfl, (hb hj).1.symm, (hb hj).2.symm⟩
/-- one field too many -/
theorem many_known {s : List UInt8} {q : Rl.Rq} {ls : List (List UInt8)} {l rest : List UInt8} (hp : Plain s) (hs : Rl.parseS s = (q, 0)) (hk : ∀ l ∈ ls, OkL l) (hl : ls.length = 100) (k : OkL l) :
    (allH (s ++ ([13, 10] ++ (linesS ls ++ (l ++ ([13, 10] ++ rest)))))).z = 2 ∧ (allH (s ++ ([13, 10] ++ (linesS ls ++ (l ++ ([13, 10] ++ rest)))))).r = 2 ∧ (allH (s ++ ([13, 10] ++ (linesS ls ++ (l ++ ([13, 10] ++ rest)))))).u = s.length + 2 + (linesS ls).length + l.length + 2 := by
  have e : s ++ ([13, 10] ++ (linesS ls ++ (l ++ ([13, 10] ++ rest)))) = (s ++ [13, 10]) ++ (linesS ls ++ ((l ++ [13, 10]) ++ rest)) := by simp
  have h1 : allH (s ++ ([13, 10] ++ (linesS ls ++ (l ++ ([13, 10] ++ rest))))) = H.bad ⟨l ++ [13], 1 + ls.length, q, [] ++ ls.map fldOf, 0, s.length + 2 + (linesS ls).length + l.length + 1, 0, [], 0⟩ 2 := by
    unfold allH
    rw [e, runH_app, run_first hp hs, runH_app, run_lines ls 1 (s.length + 2) q [] (by decide) hk (by simp; omega), runH_app, run_line l _ _ _ _ k.pl]
    have e2 : endS ⟨l ++ [13], 1 + ls.length, q, [] ++ ls.map fldOf, 0, s.length + 2 + (linesS ls).length + l.length + 1, 0, [], 0⟩ l = H.bad ⟨l ++ [13], 1 + ls.length, q, [] ++ ls.map fldOf, 0, s.length + 2 + (linesS ls).length + l.length + 1, 0, [], 0⟩ 2 := by
      unfold endS
      rw [if_neg (by show ¬ 1 + ls.length = 0; omega), if_neg k.ne, if_neg (by rw [k.ok]; simp), if_pos (by show 100 < ([] ++ ls.map fldOf).length + 1; simp; omega)]
    rw [e2]
    exact runH_stay (by show 2 ≠ 0; decide) rest
  rw [h1]
  exact ⟨rfl, rfl, by show s.length + 2 + (linesS ls).length + l.length + 1 + 1 = _; omega⟩
/-- a field of another name, ahead of them, does not matter -/
theorem of_other (q : Rl.Rq) (fs : List Fd.Fld) (f : Fd.Fld) (h : f.name ≠ Au.hostN) : Au.ofS q (f :: fs) = Au.ofS q fs := by
  have e : Fd.findS Au.hostN (f :: fs) = Fd.findS Au.hostN fs := by
    unfold Fd.findS Fd.ofName
    rw [List.filter_cons, if_neg (by simpa using h)]
  unfold Au.ofS
  rw [e]
theorem judge_other (q : Rl.Rq) (fs : List Fd.Fld) (f : Fd.Fld) (h : f.name ≠ Au.hostN) : judgeS q (f :: fs) = judgeS q fs := by
  unfold judgeS
  rw [of_other q fs f h]

/-! what is printed has no line's end in it -/
theorem tok_plain {m : List UInt8} (h : Asc.allS Asc.tokI m = true) : Plain m := fun c hc => by
  rw [Asc.allS, Bool.and_eq_true] at h
  have h1 := List.all_eq_true.1 h.2 c hc
  refine ⟨?_, ?_⟩
  · rintro rfl; revert h1; decide
  · rintro rfl; revert h1; decide
theorem vis_plain {m : List UInt8} (h : Asc.allS Asc.visI m = true) : Plain m := fun c hc => by
  rw [Asc.allS, Bool.and_eq_true] at h
  have h1 := List.all_eq_true.1 h.2 c hc
  refine ⟨?_, ?_⟩
  · rintro rfl; revert h1; decide
  · rintro rfl; revert h1; decide
theorem ctl_plain {m : List UInt8} (h : m.any Fd.ctlB = false) : Plain m := fun c hc => by
  have h1 : ¬ Fd.ctlB c = true := fun e => by
    have := List.any_eq_true.2 ⟨c, hc, e⟩
    rw [this] at h; cases h
  refine ⟨?_, ?_⟩
  · rintro rfl; exact h1 (by decide)
  · rintro rfl; exact h1 (by decide)
theorem Plain.app {a b : List UInt8} (h : Plain a) (k : Plain b) : Plain (a ++ b) := fun c hc => (List.mem_append.1 hc).elim (h c) (k c)
theorem line_plain {r : Rl.Rq} (h : Rl.okR r) : Plain (Rl.lineR r) := by
  obtain ⟨h1, _, h2, _, h3⟩ := h
  have hv : Plain (Rl.v1 ++ Lib.itoa r.minor) := by
    rcases h3 with h3 | h3
    · rw [h3, Rl.itoa0]; intro c hc; revert c; decide
    · rw [h3, Rl.itoa1]; intro c hc; revert c; decide
  have e : Rl.lineR r = r.meth ++ ([32] ++ (r.targ ++ ([32] ++ (Rl.v1 ++ Lib.itoa r.minor)))) := by simp [Rl.lineR, Rl.lineT]
  have h32 : Plain [32] := by intro c hc; revert c; decide
  rw [e]
  exact (tok_plain h1).app (h32.app ((vis_plain h2).app (h32.app hv)))
theorem field_line {f : Fd.Fld} {l : List UInt8} (h : Fd.printS f = some l) : OkL l ∧ fldOf l = f ∧ l = Fd.lineF f := by
  obtain ⟨e, hp⟩ := Fd.print_is h
  refine ⟨⟨?_, ?_, by rw [hp]⟩, by unfold fldOf; rw [hp], e⟩
  · by_cases hm : (58 : UInt8) ∈ f.name
    · exfalso
      rw [e] at hp
      have hl : Fd.lineF f = f.name ++ 58 :: (32 :: f.text) := rfl
      obtain ⟨a, b, hab, ha⟩ : ∃ a b, f.name = a ++ 58 :: b ∧ (58 : UInt8) ∉ a := by
        rcases Tx.first_of (c := 58) f.name with h0 | ⟨a, b, h1, h2⟩
        · exact absurd hm h0
        · exact ⟨a, b, h1, h2⟩
      rw [hl, hab, List.append_assoc, List.cons_append, Fd.parse_at ha] at hp
      obtain ⟨_, _, h3⟩ := Fd.parts_is hp
      have h4 : f.name = a.map Asc.lowB := by rw [h3]
      have h5 := congrArg List.length h4
      rw [hab] at h5
      simp at h5
    · rw [e] at hp ⊢
      have hl : Fd.lineF f = f.name ++ 58 :: (32 :: f.text) := rfl
      rw [hl, Fd.parse_at hm] at hp
      obtain ⟨h1, h2, _⟩ := Fd.parts_is hp
      have e2 : Fd.lineF f = f.name ++ ([58] ++ (32 :: f.text)) := by simp [Fd.lineF]
      rw [e2]
      refine (tok_plain h1).app (Plain.app ?_ (ctl_plain h2))
      intro c hc; revert c; decide
  · rw [e]; unfold Fd.lineF; simp
end Go.Proofs.YtgbhnjkigjecmaaGreatDoor.Hp

/-
  The head of a request in plain words, as package httppeek keeps it: the line at hand without the carriage return behind it, and what one byte leaves. No condition.
-/
namespace Go.Proofs.YtgbhnjkigjecmaaGreatDoor.Hp

/-- the line at hand, without the carriage return behind it -/
def lineH (t : H) : List UInt8 := if backB t then t.cur.dropLast else t.cur
theorem lineH_len (t : H) : (lineH t).length ≤ t.cur.length := by
  unfold lineH
  split
  · rw [List.length_dropLast]; omega
  · exact Nat.le_refl _
/-- the head is whole -/
def wholeS (t : H) : H := if (judgeS t.q t.fs).2.2 ≠ 0 then t.bad (judgeS t.q t.fs).2.2 else ⟨[], t.n + 1, t.q, t.fs, 1, t.u + 1, 0, (judgeS t.q t.fs).1, (judgeS t.q t.fs).2.1⟩
/-- no line has ended just while there is no request -/
def Nq (t : H) : Prop := t.n = 0 ↔ t.q = Rl.Rq.zero
theorem Nq.st : Nq H.st := ⟨fun _ => rfl, fun _ => rfl⟩
theorem req_some {s : List UInt8} (h : (Rl.parseS s).2 = 0) : (Rl.parseS s).1 ≠ Rl.Rq.zero := by
  have h1 := (Rl.parse_ok (l := s) (r := (Rl.parseS s).1) (by rw [← h])).1
  intro e
  rw [e] at h1
  exact absurd h1.1 (by decide)
theorem endS_nq {t : H} (k : Nq t) (s : List UInt8) : Nq (endS t s) := by
  unfold endS
  split
  · split
    · exact k
    · rename_i h
      exact ⟨fun h => absurd h (by show ¬ 1 = 0; decide), fun e => absurd e (req_some (by omega))⟩
  rename_i hn
  split
  · split
    · exact k
    · exact ⟨fun h => absurd h (Nat.succ_ne_zero _), fun e => absurd (k.2 e) hn⟩
  split
  · exact k
  split
  · exact k
  · exact ⟨fun h => absurd h (Nat.succ_ne_zero _), fun e => absurd (k.2 e) hn⟩
theorem stepH_nq {t : H} (k : Nq t) (c : UInt8) : Nq (stepH t c) := by
  unfold stepH
  split
  · exact k
  split
  · exact k
  split
  · exact endS_nq k _
  · exact k
theorem runH_nq {t : H} (k : Nq t) (xs : List UInt8) : Nq (runH t xs) := by
  induction xs generalizing t with
  | nil => exact k
  | cons c cs ih => exact ih (stepH_nq k c)
theorem allH_nq (xs : List UInt8) : Nq (allH xs) := runH_nq Nq.st xs

/-- what one byte leaves of the look t, which comes to t': whether the head is whole, why it is wrong, the request, the fields, the line at hand, whether a carriage return came last -/
def Aft (t t' : H) (wh : Bool) (fe : Int) (q : Rl.Rq) (fs : List Fd.Fld) (l : List UInt8) (b : Bool) : Prop :=
  (wh = false ∧ fe ≠ 0 ∧ t' = t.bad fe) ∨ (wh = true ∧ fe = 0 ∧ q = t.q ∧ fs = t.fs ∧ t' = wholeS t) ∨
  (wh = false ∧ fe = 0 ∧ t'.z = 0 ∧ t'.u = t.u + 1 ∧ q = t'.q ∧ fs = t'.fs ∧ l = lineH t' ∧ b = backB t')
theorem aft_req {t : H} {s : List UInt8} (hn : t.n = 0) : Aft t (endS t s) false (Rl.parseS s).2 (Rl.parseS s).1 t.fs [] false := by
  unfold Aft endS
  rw [if_pos hn]
  by_cases h : (Rl.parseS s).2 = 0
  · rw [if_neg (by omega)]
    exact .inr (.inr ⟨rfl, h, rfl, rfl, rfl, rfl, rfl, rfl⟩)
  · rw [if_pos h]
    exact .inl ⟨rfl, h, rfl⟩
theorem aft_whole {t : H} (hn : t.n ≠ 0) : Aft t (endS t []) true 0 t.q t.fs [] false := by
  unfold Aft endS
  rw [if_neg hn, if_pos rfl]
  exact .inr (.inl ⟨rfl, rfl, rfl, rfl, rfl⟩)
theorem aft_wrong {t : H} {s : List UInt8} (hn : t.n ≠ 0) (hs : s ≠ []) (h : (Fd.parseS s).2 ≠ 0) (q : Rl.Rq) (fs : List Fd.Fld) (l : List UInt8) (b : Bool) : Aft t (endS t s) false (Fd.parseS s).2 q fs l b := by
  unfold Aft endS
  rw [if_neg hn, if_neg hs, if_pos h]
  exact .inl ⟨rfl, h, rfl⟩
theorem aft_full {t : H} {s : List UInt8} (hn : t.n ≠ 0) (hs : s ≠ []) (h : (Fd.parseS s).2 = 0) (hf : t.fs.length = 100) (q : Rl.Rq) (fs : List Fd.Fld) (l : List UInt8) (b : Bool) : Aft t (endS t s) false 2 q fs l b := by
  unfold Aft endS
  rw [if_neg hn, if_neg hs, if_neg (by omega), if_pos (by omega)]
  exact .inl ⟨rfl, by decide, rfl⟩
theorem aft_field {t : H} {s : List UInt8} (hn : t.n ≠ 0) (hs : s ≠ []) (h : (Fd.parseS s).2 = 0) (hf : t.fs.length < 100) : Aft t (endS t s) false 0 t.q (t.fs ++ [(Fd.parseS s).1]) [] false := by
  unfold Aft endS
  rw [if_neg hn, if_neg hs, if_neg (by omega), if_neg (by omega)]
  exact .inr (.inr ⟨rfl, rfl, rfl, rfl, rfl, rfl, rfl, rfl⟩)
theorem step_end {t : H} (hz : t.z = 0) (hb : backB t = true) : stepH t 10 = endS t (lineH t) := by
  unfold stepH lineH
  rw [if_neg (by omega), hb, if_neg (by decide), if_pos rfl, if_pos rfl]
theorem step_form {t : H} (hz : t.z = 0) {c : UInt8} (hb : backB t ≠ decide (c = 10)) : stepH t c = t.bad 3 := by
  unfold stepH
  rw [if_neg (by omega), if_pos hb]
theorem aft_form {t : H} (hz : t.z = 0) {c : UInt8} (hb : backB t ≠ decide (c = 10)) (q : Rl.Rq) (fs : List Fd.Fld) (l : List UInt8) (b : Bool) : Aft t (stepH t c) false 3 q fs l b := by
  rw [step_form hz hb]
  exact .inl ⟨rfl, by decide, rfl⟩
theorem step_plain {t : H} (hz : t.z = 0) (hb : backB t = false) {c : UInt8} (h : c ≠ 10) : stepH t c = t.next (t.cur ++ [c]) t.n t.q t.fs := by
  unfold stepH
  rw [if_neg (by omega), hb, if_neg (by rw [decide_eq_false h]; simp), if_neg h]
theorem back_snoc (t : H) (c : UInt8) : backB (t.next (t.cur ++ [c]) t.n t.q t.fs) = decide (c = 13) := by
  unfold backB H.next
  simp
theorem aft_return {t : H} (hz : t.z = 0) (hb : backB t = false) : Aft t (stepH t 13) false 0 t.q t.fs (lineH t) true := by
  rw [step_plain hz hb (by decide)]
  refine .inr (.inr ⟨rfl, rfl, rfl, rfl, rfl, rfl, ?_, (back_snoc t 13).symm⟩)
  unfold lineH
  rw [back_snoc, hb]
  simp [H.next]
theorem aft_byte {t : H} (hz : t.z = 0) (hb : backB t = false) {c : UInt8} (h : c ≠ 10) (h2 : c ≠ 13) : Aft t (stepH t c) false 0 t.q t.fs (lineH t ++ [c]) false := by
  rw [step_plain hz hb h]
  refine .inr (.inr ⟨rfl, rfl, rfl, rfl, rfl, rfl, ?_, by rw [back_snoc, decide_eq_false h2]⟩)
  unfold lineH
  rw [back_snoc, hb, decide_eq_false h2]
  simp [H.next]
theorem auth_len (l : List UInt8) : ((Rl.authS l).getD []).length ≤ l.length := by
  unfold Rl.authS
  split
  · exact Nat.zero_le _
  · have h := (List.takeWhile_prefix (l := l.drop 7) (fun c => !Rl.endB c)).length_le
    rw [List.length_drop] at h
    show (List.takeWhile _ _).length ≤ _
    omega
theorem of_len (q : Rl.Rq) (fs : List Fd.Fld) : (Au.ofS q fs).1.length ≤ q.targ.length + (Fd.findS Au.hostN fs).1.length + 64 := by
  have h1 := Au.parse_len (l := (Rl.authS q.targ).getD []) (h := (Au.parseS ((Rl.authS q.targ).getD [])).1) (p := (Au.parseS ((Rl.authS q.targ).getD [])).2.1) (e := (Au.parseS ((Rl.authS q.targ).getD [])).2.2) rfl
  have h2 := auth_len q.targ
  have h3 := Au.parse_len (l := (Fd.findS Au.hostN fs).1) (h := (Au.parseS (Fd.findS Au.hostN fs).1).1) (p := (Au.parseS (Fd.findS Au.hostN fs).1).2.1) (e := (Au.parseS (Fd.findS Au.hostN fs).1).2.2) rfl
  unfold Au.ofS
  repeat' split
  all_goals first
    | exact Nat.zero_le _
    | omega
theorem judge_of {q : Rl.Rq} {fs : List Fd.Fld} {h : List UInt8} {p e : Int} (ho : Au.ofS q fs = (h, p, e)) : judgeS q fs = if e ≠ 0 then ([], 0, e) else if (Nm.normalS h).2 ≠ 0 then ([], 0, (Nm.normalS h).2) else ((Nm.normalS h).1, p, 0) := by
  unfold judgeS
  rw [ho]

theorem find_le {N : Nat} (l : List Fd.Fld) (h : ∀ f ∈ l, f.text.length ≤ N) : (Fd.findS Au.hostN l).1.length ≤ N := by
  rcases Fd.find_mem (nm := Au.hostN) (l := l) with h1 | ⟨f, hf, h1⟩
  · rw [h1]; exact Nat.zero_le _
  · rw [← h1]; exact h f hf
end Go.Proofs.YtgbhnjkigjecmaaGreatDoor.Hp
