/-
  A line, word by word, in plain words: the next word and what is behind it; what is read of a line so is what effS says. No condition.
-/
import Derived.Test.YtlpondbcnfaggaaGreatDoorR11
namespace Go.Proofs.YtlpondbcnfaggaaGreatDoor.Po
open Go Go.Proofs.YtlpondbcnfaggaaGreatDoor.Asc Go.Proofs.YtlpondbcnfaggaaGreatDoor.Ad Go.Proofs.YtlpondbcnfaggaaGreatDoor.Nm Go.Proofs.YtlpondbcnfaggaaGreatDoor.Tr

def nextT (l : List UInt8) : List UInt8 := (l.dropWhile blank).takeWhile fun c => !blank c
def nextR (l : List UInt8) : List UInt8 := (l.dropWhile blank).dropWhile fun c => !blank c
theorem words_blank {x : UInt8} (h : blank x = true) (l : List UInt8) : wordsS (x :: l) = wordsS l := by
  unfold wordsS
  rw [splitW, if_pos h, List.filter_cons_of_neg (by simp)]
theorem words_trim : ∀ l : List UInt8, wordsS (l.dropWhile blank) = wordsS l
  | [] => rfl
  | x :: l => by
    cases h : blank x with
    | true => rw [List.dropWhile_cons_of_pos h, words_trim l, words_blank h]
    | false => rw [List.dropWhile_cons_of_neg (by simp [h])]
theorem splitW_cut : ∀ {a : List UInt8} {c : UInt8} (b : List UInt8), (∀ x ∈ a, blank x = false) → blank c = true → splitW (a ++ c :: b) = a :: splitW b
  | [], c, b, _, hc => by show splitW (c :: b) = _; rw [splitW, if_pos hc]
  | x :: a, c, b, h, hc => by
    have ih := splitW_cut (a := a) b (fun y hy => h y (List.mem_cons_of_mem _ hy)) hc
    rw [List.cons_append, splitW, if_neg (by rw [h x (by simp)]; decide), ih]
    rfl
theorem drop_head (p : UInt8 → Bool) : ∀ l : List UInt8, l.dropWhile p = [] ∨ ∃ c b, l.dropWhile p = c :: b ∧ p c = false
  | [] => .inl rfl
  | x :: l => by
    cases h : p x with
    | true => rw [List.dropWhile_cons_of_pos h]; exact drop_head p l
    | false => rw [List.dropWhile_cons_of_neg (by simp [h])]; exact .inr ⟨x, l, rfl, h⟩
theorem words_ne (l : List UInt8) : ∀ w ∈ wordsS l, w ≠ [] := fun w hw => by
  unfold wordsS at hw
  simpa using (List.mem_filter.1 hw).2
theorem words_next (l : List UInt8) : (nextT l = [] ∧ wordsS l = [] ∧ nextR l = []) ∨ (nextT l ≠ [] ∧ wordsS l = nextT l :: wordsS (nextR l)) := by
  rw [← words_trim l]
  unfold nextT nextR
  obtain ⟨t, ht⟩ : ∃ t, l.dropWhile blank = t := ⟨_, rfl⟩
  have hh := drop_head blank l
  rw [ht] at hh ⊢
  rcases hh with rfl | ⟨c, b, rfl, hc⟩
  · exact .inl ⟨rfl, rfl, rfl⟩
  · right
    have hne : ((c :: b).takeWhile fun c => !blank c) ≠ [] := by rw [List.takeWhile_cons_of_pos (by simp [hc])]; simp
    have e := List.takeWhile_append_dropWhile (p := fun c => !blank c) (l := c :: b)
    have hd := drop_head (fun c => !blank c) (c :: b)
    have hall : ∀ x ∈ (c :: b).takeWhile (fun c => !blank c), blank x = false := fun x hx => by
      have := List.all_eq_true.1 (List.all_takeWhile (p := fun c => !blank c) (l := c :: b)) x hx
      simpa using this
    generalize (c :: b).takeWhile (fun c => !blank c) = A at *
    generalize (c :: b).dropWhile (fun c => !blank c) = R at *
    refine ⟨hne, ?_⟩
    rw [← e]
    rcases hd with rfl | ⟨d, r, rfl, hd⟩
    · unfold wordsS
      rw [List.append_nil, splitW_free hall, List.filter_cons_of_pos (by simpa using hne)]
      rfl
    · have hd' : blank d = true := by simpa using hd
      unfold wordsS
      rw [splitW_cut r hall hd', splitW, if_pos hd', List.filter_cons_of_pos (by simpa using hne), List.filter_cons_of_neg (by simp)]
theorem next_head (l : List UInt8) : nextT l = (wordsS l).headD [] := by
  rcases words_next l with ⟨h1, h2, _⟩ | ⟨_, h2⟩
  · rw [h1, h2]; rfl
  · rw [h2]; rfl
theorem next_tail (l : List UInt8) : wordsS (nextR l) = (wordsS l).tail := by
  rcases words_next l with ⟨_, h2, h3⟩ | ⟨_, h2⟩
  · rw [h3, h2]; rfl
  · rw [h2]; rfl
theorem next_len (l : List UInt8) : (nextT l).length ≤ l.length ∧ (nextR l).length ≤ l.length := by
  have h1 := (List.dropWhile_sublist blank (l := l)).length_le
  have h2 := (List.takeWhile_sublist (fun c => !blank c) (l := l.dropWhile blank)).length_le
  have h3 := (List.dropWhile_sublist (fun c => !blank c) (l := l.dropWhile blank)).length_le
  exact ⟨Nat.le_trans h2 h1, Nat.le_trans h3 h1⟩

/-! words, one behind the other: what is read, and whether one was bad -/
def headW (ws : List (List UInt8)) : List UInt8 := ws.headD []
def numV (w : List UInt8) (most : Int) : Int := (numS w most).getD 0
def sgnT (w : List UInt8) : List UInt8 := if w.head? = some 45 then w.drop 1 else w
def sgnV (w : List UInt8) : Int := if w.head? = some 45 then -numV (sgnT w) 1000 else numV (sgnT w) 1000
def sgnOk (w : List UInt8) : Bool := (numS (sgnT w) 1000).isSome
/-- perhaps a word and what stands behind it -/
def takeW (key : List UInt8) (ws : List (List UInt8)) : List (List UInt8) := if headW ws = key then ws.tail.tail else ws
theorem head_ne {ws : List (List UInt8)} (h : ∀ w ∈ ws, w ≠ []) : headW ws = [] ↔ ws = [] := by
  cases ws with
  | nil => exact ⟨fun _ => rfl, fun _ => rfl⟩
  | cons w ws => exact ⟨fun e => absurd e (h w (by simp)), fun e => by cases e⟩
theorem num_nil (most : Int) : numS [] most = none := rfl
theorem sgn_is (w : List UInt8) : signedS w = if sgnOk w = true then some (sgnV w) else none := by
  cases w with
  | nil => rfl
  | cons c w =>
    unfold signedS sgnOk sgnV sgnT numV
    by_cases hc : c = 45
    · subst hc
      simp only [List.head?_cons, if_true, List.drop_succ_cons, List.drop_zero]
      cases numS w 1000 <;> rfl
    · have h1 : ¬ (c :: w).head? = some 45 := by simpa using hc
      show (if c = 45 then (numS w 1000).map (fun n => -n) else numS (c :: w) 1000) = _
      rw [if_neg hc, if_neg h1, if_neg h1]
      cases numS (c :: w) 1000 <;> rfl
/-- a rule's words -/
def portB (ws : List (List UInt8)) : Bool := headW ws == kPort
def ruleOk (ws : List (List UInt8)) : Bool :=
  sgnOk (headW ws) && decide (headW ws.tail ≠ []) &&
  (decide (headW ws.tail.tail ≠ kPort) || (numS (headW ws.tail.tail.tail) 65535).isSome) &&
  (decide (headW (takeW kPort ws.tail.tail) ≠ kAlpn) || decide (headW (takeW kPort ws.tail.tail).tail ≠ [])) &&
  decide (takeW kAlpn (takeW kPort ws.tail.tail) = [])
def ruleV (al : Bool) (ws : List (List UInt8)) : Ru :=
  ⟨al, sgnV (headW ws), headW ws.tail, if headW ws.tail.tail = kPort then numV (headW ws.tail.tail.tail) 65535 else 0, if headW (takeW kPort ws.tail.tail) = kAlpn then headW (takeW kPort ws.tail.tail).tail else []⟩
theorem opt_none {key : List UInt8} {r : List (List UInt8)} (h : headW r ≠ key) : optS key r = (none, r) := by
  match r, h with
  | [], _ => rfl
  | [_], _ => rfl
  | k :: v :: r, h => exact if_neg h
theorem ruleT_is {al : Bool} {k q : Int} {p : List UInt8} {r : List (List UInt8)} (hr : ∀ w ∈ r, w ≠ []) :
    ruleT al k p q r = if (decide (headW r ≠ kAlpn) || decide (headW r.tail ≠ [])) = true ∧ takeW kAlpn r = [] then some ⟨al, k, p, q, if headW r = kAlpn then headW r.tail else []⟩ else none := by
  unfold ruleT takeW
  by_cases h : headW r = kAlpn
  · match r, h, hr with
    | [], h, _ => exact absurd h (by decide)
    | [w], h, _ =>
      have e : w = kAlpn := h
      subst e
      rfl
    | w :: v :: r, h, hr =>
      have e : w = kAlpn := h
      subst e
      have hv : v ≠ [] := hr v (by simp)
      have e2 : optS kAlpn (kAlpn :: v :: r) = (some v, r) := by rw [opt_cons, if_pos rfl]
      rw [e2]
      have e3 : headW (kAlpn :: v :: r) = kAlpn := rfl
      have e4 : headW (kAlpn :: v :: r).tail = v := rfl
      rw [e3, e4, if_pos rfl, if_pos rfl]
      show (if r = [] then _ else _) = if _ ∧ r = [] then _ else _
      simp [hv]
  · rw [opt_none h, if_neg h, if_neg h]
    show (if r = [] then _ else _) = _
    simp [h]
theorem rule_is (al : Bool) {ws : List (List UInt8)} (h : ∀ w ∈ ws, w ≠ []) : ruleS al ws = if ruleOk ws = true then some (ruleV al ws) else none := by
  match ws, h with
  | [], _ => rfl
  | [n], _ =>
    have : ruleOk [n] = false := by unfold ruleOk headW; simp
    rw [this]; rfl
  | n :: p :: r, h =>
    have hp : p ≠ [] := h p (by simp)
    have hr : ∀ w ∈ r, w ≠ [] := fun w hw => h w (by simp [hw])
    rw [ruleS_cons, sgn_is]
    unfold ruleOk ruleV
    have e1 : headW (n :: p :: r) = n := rfl
    have e2 : headW (n :: p :: r).tail = p := rfl
    have e3 : (n :: p :: r).tail.tail = r := rfl
    rw [e1, e2, e3]
    cases hs : sgnOk n with
    | false => rfl
    | true =>
      rw [if_pos rfl]
      show (match (optS kPort r).1 with | none => _ | some w => _) = _
      by_cases hk : headW r = kPort
      · match r, hk, hr with
        | [], hk, _ => exact absurd hk (by decide)
        | [w], hk, _ =>
          have e : w = kPort := hk
          subst e
          have e0 : headW ([kPort] : List (List UInt8)).tail = [] := rfl
          have e9 : headW [kPort] = kPort := rfl
          refine Eq.trans (show ruleT al (sgnV n) p 0 [kPort] = none from rfl) ?_
          rw [e0, e9, num_nil]
          simp
        | w :: v :: r, hk, hr =>
          have e : w = kPort := hk
          subst e
          have e4 : optS kPort (kPort :: v :: r) = (some v, r) := by rw [opt_cons, if_pos rfl]
          have e5 : takeW kPort (kPort :: v :: r) = r := if_pos rfl
          have e6 : headW (kPort :: v :: r) = kPort := rfl
          have e7 : headW (kPort :: v :: r).tail = v := rfl
          rw [e4, e5, e6, e7, if_pos rfl]
          show (match numS v 65535 with | none => _ | some q => _) = _
          unfold numV
          cases hn : numS v 65535 with
          | none => simp
          | some q =>
            show ruleT al _ p q r = _
            rw [ruleT_is (fun w hw => hr w (by simp [hw]))]
            simp [hp]
      · have e5 : takeW kPort r = r := if_neg hk
        rw [opt_none hk, e5, if_neg hk]
        show ruleT al _ p 0 r = _
        rw [ruleT_is hr]
        simp [hp, hk]
/-- a pin's words -/
def pinOk (ws : List (List UInt8)) : Bool :=
  decide (headW ws ≠ []) && (cparseS (headW ws.tail)).isSome &&
  (decide (headW ws.tail.tail ≠ kUntil) || (numS (headW ws.tail.tail.tail) 1099511627776).isSome) &&
  decide (takeW kUntil ws.tail.tail = [])
def pinV (z : Ad.C) (ws : List (List UInt8)) : Pn :=
  ⟨headW ws, (cparseS (headW ws.tail)).getD z, if headW ws.tail.tail = kUntil then numV (headW ws.tail.tail.tail) 1099511627776 else 0⟩
theorem pin_is (z : Ad.C) {ws : List (List UInt8)} (h : ∀ w ∈ ws, w ≠ []) (hz : cparseS [] = none) : pinS ws = if pinOk ws = true then some (pinV z ws) else none := by
  match ws, h with
  | [], _ => rfl
  | [n], _ =>
    have : pinOk [n] = false := by
      unfold pinOk
      have e : headW [n].tail = [] := rfl
      rw [e, hz]; simp
    rw [this]; rfl
  | n :: c :: r, h =>
    have hn : n ≠ [] := h n (by simp)
    have hr : ∀ w ∈ r, w ≠ [] := fun w hw => h w (by simp [hw])
    rw [pinS_cons]
    unfold pinOk pinV
    have e1 : headW (n :: c :: r) = n := rfl
    have e2 : headW (n :: c :: r).tail = c := rfl
    have e3 : (n :: c :: r).tail.tail = r := rfl
    rw [e1, e2, e3]
    cases hc : cparseS c with
    | none => simp
    | some x =>
      show (if (optS kUntil r).2 = [] then match (optS kUntil r).1 with | none => _ | some w => _ else _) = _
      by_cases hk : headW r = kUntil
      · match r, hk, hr with
        | [], hk, _ => exact absurd hk (by decide)
        | [w], hk, _ =>
          have e : w = kUntil := hk
          subst e
          have e4 : optS kUntil [kUntil] = (none, [kUntil]) := rfl
          rw [e4]
          have e5 : headW [kUntil].tail = [] := rfl
          have e6 : headW [kUntil] = kUntil := rfl
          rw [e5, e6, num_nil]
          simp
        | w :: v :: r, hk, hr =>
          have e : w = kUntil := hk
          subst e
          have e4 : optS kUntil (kUntil :: v :: r) = (some v, r) := by rw [opt_cons, if_pos rfl]
          have e5 : takeW kUntil (kUntil :: v :: r) = r := if_pos rfl
          have e6 : headW (kUntil :: v :: r) = kUntil := rfl
          have e7 : headW (kUntil :: v :: r).tail = v := rfl
          rw [e4, e5, e6, e7, if_pos rfl]
          show (if r = [] then (numS v 1099511627776).map _ else none) = _
          unfold numV
          by_cases hz : r = []
          · rw [if_pos hz]
            cases hq : numS v 1099511627776 <;> simp [hn, hz]
          · rw [if_neg hz]; simp [hz]
      · have e5 : takeW kUntil r = r := if_neg hk
        rw [opt_none hk, e5, if_neg hk]
        show (if r = [] then _ else _) = _
        by_cases hz : r = []
        · subst hz
          rw [if_pos rfl]; simp [hn, hk]
        · rw [if_neg hz]; simp [hz]
/-- default's words -/
def defOk (ws : List (List UInt8)) : Bool := (decide (headW ws = kAllow) || decide (headW ws = kDeny)) && decide (ws.tail = [])
theorem def_is (ws : List (List UInt8)) : (if ws = [kAllow] then some (Eff.al true) else if ws = [kDeny] then some (.al false) else none) = if defOk ws = true then some (Eff.al (decide (headW ws = kAllow))) else none := by
  match ws with
  | [] => rfl
  | [w] =>
    unfold defOk
    have e : headW [w] = w := rfl
    rw [e]
    by_cases h1 : w = kAllow
    · subst h1; rfl
    · by_cases h2 : w = kDeny
      · subst h2; rfl
      · simp [h1, h2]
  | w :: v :: r => simp [defOk]
end Go.Proofs.YtlpondbcnfaggaaGreatDoor.Po
