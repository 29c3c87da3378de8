/-
  Hosts and patterns by labels, the last one first: what a pattern matches, told by the labels. Plain lemmas, no condition.
-/
import Derived.Test.YtlpondbcnfaggaaGreatDoorR10
import Derived.Test.YtlpondbcnfaggaaGreatDoorR14
namespace Go.Proofs.YtlpondbcnfaggaaGreatDoor.Tr
open Go Go.Proofs.YtlpondbcnfaggaaGreatDoor.Asc Go.Proofs.YtlpondbcnfaggaaGreatDoor.Ad Go.Proofs.YtlpondbcnfaggaaGreatDoor.Nm

/-- labels, joined by dots -/
def dotJ : List (List UInt8) → List UInt8
  | [] => []
  | [x] => x
  | x :: y :: l => x ++ 46 :: dotJ (y :: l)
theorem dotJ_cons (x : List UInt8) {l : List (List UInt8)} (h : l ≠ []) : dotJ (x :: l) = x ++ 46 :: dotJ l := by
  cases l with
  | nil => exact absurd rfl h
  | cons y l => rfl
theorem dotJ_head (c : UInt8) (x : List UInt8) (l : List (List UInt8)) : dotJ ((c :: x) :: l) = c :: dotJ (x :: l) := by
  cases l <;> rfl
theorem dotJ_app : ∀ {p q : List (List UInt8)}, p ≠ [] → q ≠ [] → dotJ (p ++ q) = dotJ p ++ 46 :: dotJ q
  | [], _, h, _ => absurd rfl h
  | [x], q, _, hq => dotJ_cons x hq
  | x :: y :: p, q, _, hq => by
    have h := dotJ_app (p := y :: p) (q := q) (by simp) hq
    rw [List.cons_append, dotJ_cons x (by simp), h, dotJ_cons x (by simp)]
    simp
theorem dotJ_split : ∀ l : List UInt8, dotJ (splitS 46 l) = l
  | [] => rfl
  | c :: l => by
    have h := dotJ_split l
    have hne := splitS_ne 46 l
    unfold splitS
    by_cases hc : c = 46
    · rw [if_pos hc, dotJ_cons [] hne, h, hc]
      rfl
    · rw [if_neg hc, dotJ_head]
      obtain ⟨x, r, hx⟩ : ∃ x r, splitS 46 l = x :: r := by
        cases hs : splitS 46 l with
        | nil => exact absurd hs hne
        | cons x r => exact ⟨x, r, rfl⟩
      rw [hx] at h ⊢
      exact congrArg _ h
theorem split_inj {a b : List UInt8} (h : splitS 46 a = splitS 46 b) : a = b := by rw [← dotJ_split a, h, dotJ_split]
/-- a host ends with a dot and that name just if its labels end with that name's, and there is one more -/
theorem end_labels {n h : List UInt8} : endB n h = true ↔ ∃ p, p ≠ [] ∧ splitS 46 h = p ++ splitS 46 n := by
  constructor
  · intro he
    obtain ⟨a, rfl⟩ := end_is he
    exact ⟨splitS 46 a, splitS_ne 46 a, split_app a n⟩
  · rintro ⟨p, hp, he⟩
    have e : h = dotJ p ++ 46 :: n := by rw [← dotJ_split h, he, dotJ_app hp (splitS_ne 46 n), dotJ_split]
    rw [e]
    exact is_end _ _
/-- the labels, the last one first -/
def backS (l : List UInt8) : List (List UInt8) := (splitS 46 l).reverse
theorem back_ne (l : List UInt8) : backS l ≠ [] := by unfold backS; simpa using splitS_ne 46 l
theorem back_inj {a b : List UInt8} (h : backS a = backS b) : a = b := split_inj (List.reverse_inj.1 h)
theorem end_back {n h : List UInt8} : endB n h = true ↔ ∃ p, p ≠ [] ∧ backS h = backS n ++ p := by
  rw [end_labels]
  unfold backS
  constructor
  · rintro ⟨p, hp, he⟩
    exact ⟨p.reverse, by simpa using hp, by rw [he, List.reverse_append]⟩
  · rintro ⟨p, hp, he⟩
    refine ⟨p.reverse, by simpa using hp, ?_⟩
    rw [← List.reverse_inj, he, List.reverse_append, List.reverse_reverse]
/-- what a pattern matches, by labels -/
theorem match_back (p h : List UInt8) : matchB p h = true ↔ (cutP p).1 = 0 ∨ ((cutP p).1 = 1 ∧ ∃ q, q ≠ [] ∧ backS h = backS (cutP p).2 ++ q) ∨ ((cutP p).1 = 2 ∧ backS h = backS (cutP p).2) := by
  unfold matchB
  by_cases h0 : (cutP p).1 = 0
  · rw [if_pos h0]; exact ⟨fun _ => .inl h0, fun _ => rfl⟩
  rw [if_neg h0]
  by_cases h1 : (cutP p).1 = 1
  · rw [if_pos h1, end_back]
    constructor
    · exact fun h => .inr (.inl ⟨h1, h⟩)
    · rintro (h | ⟨_, h⟩ | ⟨h, _⟩)
      · exact absurd h h0
      · exact h
      · omega
  rw [if_neg h1]
  by_cases h2 : (cutP p).1 = 2
  · rw [if_pos h2, decide_eq_true_eq]
    constructor
    · exact fun h => .inr (.inr ⟨h2, by rw [h]⟩)
    · rintro (h | ⟨h, _⟩ | ⟨_, h⟩)
      · exact absurd h h0
      · exact absurd h h1
      · exact back_inj h
  · rw [if_neg h2]
    constructor
    · exact fun h => by cases h
    · rintro (h | ⟨h, _⟩ | ⟨h, _⟩)
      · exact absurd h h0
      · exact absurd h h1
      · exact absurd h h2
end Go.Proofs.YtlpondbcnfaggaaGreatDoor.Tr

/-
  Where rules stand in a trie of labels, in plain words; what is found over it, the weightiest first, is what is asked. Plain lemmas, no condition.
-/
namespace Go.Proofs.YtlpondbcnfaggaaGreatDoor.Tr
open Go Go.Proofs.YtlpondbcnfaggaaGreatDoor.Asc Go.Proofs.YtlpondbcnfaggaaGreatDoor.Ad Go.Proofs.YtlpondbcnfaggaaGreatDoor.Nm

/-! hosts and patterns, by the labels that lead to them -/
def tailS (h : List UInt8) : List UInt8 := h.drop (h.length - 254)
/-- the labels that lead to where a pattern's rules stand -/
def wayP (p : List UInt8) : List (List UInt8) := if (cutP p).1 = 0 then [] else labelsS (cutP p).2
/-- do they match what has more labels? -/
def belB (p : List UInt8) : Bool := decide ((cutP p).1 ≠ 2)
theorem labels_join (l : List UInt8) : dotJ (labelsS l).reverse = l := by
  unfold labelsS
  split
  · rfl
  · rw [List.reverse_reverse]; exact dotJ_split l
theorem labels_inj {a b : List UInt8} (h : labelsS a = labelsS b) : a = b := by rw [← labels_join a, h, labels_join]
theorem ends_tail {m h : List UInt8} (hm : m.length ≤ 254) : m <:+ tailS h ↔ m <:+ h := by
  unfold tailS
  constructor
  · intro h1
    exact h1.trans (List.drop_suffix _ _)
  · intro h1
    refine List.suffix_of_suffix_length_le h1 (List.drop_suffix _ _) ?_
    have := h1.length_le
    rw [List.length_drop]
    omega
theorem end_suf (n h : List UInt8) : endB n h = true ↔ (46 :: n) <:+ h := ⟨fun he => by obtain ⟨a, ha⟩ := end_is he; exact ⟨a, ha.symm⟩, fun ⟨a, ha⟩ => by rw [← ha]; exact is_end a n⟩
theorem match_0 {p : List UInt8} (c : cutP p = (0, [])) (t : List UInt8) : matchB p t = true := by unfold matchB; rw [c]; rfl
theorem match_1 {p n : List UInt8} (c : cutP p = (1, n)) (t : List UInt8) : matchB p t = endB n t := by unfold matchB; rw [c]; rfl
theorem match_2 {p n : List UInt8} (c : cutP p = (2, n)) (t : List UInt8) : matchB p t = decide (t = n) := by unfold matchB; rw [c]; rfl
theorem match_tail {p : List UInt8} (h : List UInt8) (hp : (cutP p).1 ≠ 3) : matchB p (tailS h) = matchB p h := by
  rcases cut_cases p with ⟨e1, c⟩ | ⟨n, e1, h1, h2, f1, c⟩ | ⟨e1, h2, c⟩ | c
  · rw [match_0 c, match_0 c]
  · rw [match_1 c, match_1 c, Bool.eq_iff_iff, end_suf, end_suf]
    refine ends_tail ?_
    have := (normal_len h2).2
    rw [List.length_cons]
    omega
  · rw [match_2 c, match_2 c]
    have hl := (normal_len h2).2
    by_cases hh : h.length ≤ 254
    · rw [show tailS h = h from by unfold tailS; rw [show h.length - 254 = 0 by omega]; rfl]
    · rw [decide_eq_false, decide_eq_false]
      · rintro rfl; omega
      · intro e
        have := congrArg List.length e
        unfold tailS at this
        rw [List.length_drop] at this
        omega
  · exact absurd (by rw [c]) hp
/-- what a pattern matches, by the labels that lead to its rules -/
theorem match_way {p : List UInt8} (t : List UInt8) (hp : (cutP p).1 ≠ 3) : matchB p t = true ↔ (belB p = true ∧ ∃ i, i < (labelsS t).length ∧ wayP p = (labelsS t).take i) ∨ (belB p = false ∧ wayP p = labelsS t) := by
  have hl := labels_pos t
  rcases cut_cases p with ⟨e1, c⟩ | ⟨n, e1, h1, h2, f1, c⟩ | ⟨e1, h2, c⟩ | c
  · have hb : belB p = true := by unfold belB; rw [c]; rfl
    have hw : wayP p = [] := by unfold wayP; rw [c]; rfl
    exact ⟨fun _ => .inl ⟨hb, 0, hl, by rw [hw]; rfl⟩, fun _ => match_0 c t⟩
  · have hb : belB p = true := by unfold belB; rw [c]; rfl
    have hw : wayP p = labelsS n := by unfold wayP; rw [c]; rfl
    rw [match_1 c, hb, hw]
    constructor
    · intro he
      left
      refine ⟨rfl, ?_⟩
      obtain ⟨a, ha⟩ := end_is he
      have ht : labelsS t = backS t := by
        unfold labelsS backS
        rw [ha, parse_tail a f1]
        rfl
      obtain ⟨q, hq, hb⟩ := end_back.1 he
      rw [ht, hb, labels_fit f1]
      refine ⟨(backS n).length, ?_, ?_⟩
      · rw [List.length_append]
        have := List.length_pos_iff.2 hq
        omega
      · exact (List.take_left' rfl).symm
    · rintro (⟨_, i, hi, e⟩ | ⟨h, _⟩)
      · have hn := labels_pos n
        unfold labelsS at hi e
        cases hp : Ad.parseS t with
        | some a =>
          rw [hp] at hi e
          simp only [Option.isSome_some, if_true, List.length_singleton] at hi e
          obtain rfl : i = 0 := by omega
          rw [← labelsS] at e
          rw [e] at hn
          simp at hn
        | none =>
          rw [hp, h1] at e
          rw [hp] at hi
          simp only [Option.isSome_none, Bool.false_eq_true, if_false] at hi e
          refine end_back.2 ⟨(backS t).drop i, ?_, ?_⟩
          · intro h0
            have := congrArg List.length h0
            rw [List.length_drop] at this
            unfold backS at this
            simp at this hi
            omega
          · unfold backS
            rw [e, List.take_append_drop]
      · cases h
  · have hb : belB p = false := by unfold belB; rw [c]; rfl
    have hw : wayP p = labelsS p := by unfold wayP; rw [c]; rfl
    rw [match_2 c, hb, hw, decide_eq_true_eq]
    constructor
    · intro e
      exact .inr ⟨rfl, by rw [e]⟩
    · rintro (⟨h, _⟩ | ⟨_, h⟩)
      · cases h
      · exact (labels_inj h).symm
  · exact absurd (by rw [c]) hp
theorem weight_way {p : List UInt8} (hp : (cutP p).1 ≠ 3) : weightP p = 2 * (wayP p).length + (if belB p = true then 0 else 1) := by
  unfold weightP belB wayP
  rcases cut_cases p with ⟨e1, c⟩ | ⟨n, e1, h1, h2, f1, c⟩ | ⟨e1, h2, c⟩ | c
  · rw [c]; rfl
  · rw [c]; rfl
  · rw [c]; rfl
  · exact absurd (by rw [c]) hp

/-! the places of rules -/
def plc (f : Ru → Bool) (L : List Ru) : List Nat := (List.range L.length).filter fun i => (L[i]?).any f
theorem plc_mem {f : Ru → Bool} {L : List Ru} {i : Nat} : i ∈ plc f L ↔ ∃ r, L[i]? = some r ∧ f r = true := by
  unfold plc
  rw [List.mem_filter, List.mem_range]
  constructor
  · rintro ⟨h1, h2⟩
    refine ⟨L[i], List.getElem?_eq_getElem h1, ?_⟩
    rw [List.getElem?_eq_getElem h1] at h2
    exact h2
  · rintro ⟨r, h1, h2⟩
    exact ⟨(List.getElem?_eq_some_iff.1 h1).1, by rw [h1]; exact h2⟩
theorem plc_nil (f : Ru → Bool) : plc f [] = [] := rfl
theorem plc_snoc (f : Ru → Bool) (L : List Ru) (r : Ru) : plc f (L ++ [r]) = plc f L ++ (if f r = true then [L.length] else []) := by
  unfold plc
  rw [List.length_append, List.length_singleton, List.range_succ, List.filter_append]
  congr 1
  · refine List.filter_congr fun i hi => ?_
    rw [List.mem_range] at hi
    rw [List.getElem?_append_left hi]
  · have h : (L ++ [r])[L.length]? = some r := by rw [List.getElem?_append_right (Nat.le_refl _)]; simp
    rw [List.filter_cons, h, List.filter_nil]
    rfl
theorem plc_sorted (f : Ru → Bool) (L : List Ru) : (plc f L).Pairwise (· < ·) := List.Pairwise.filter _ List.pairwise_lt_range
theorem plc_lt {f : Ru → Bool} {L : List Ru} {i : Nat} (h : i ∈ plc f L) : i < L.length := by
  obtain ⟨r, h1, _⟩ := plc_mem.1 h
  exact (List.getElem?_eq_some_iff.1 h1).1
/-- the places at a node: those that match more, and those that match just this -/
def belR (L : List Ru) (q : List (List UInt8)) : List Nat := plc (fun r => belB r.pa && decide (wayP r.pa = q)) L
def jusR (L : List Ru) (q : List (List UInt8)) : List Nat := plc (fun r => !belB r.pa && decide (wayP r.pa = q)) L
/-- the i-th row of places for a host of these labels -/
def rowW (L : List Ru) (hl : List (List UInt8)) (i : Nat) : List Nat := if i < hl.length then belR L (hl.take i) else jusR L hl
def rowsW (L : List Ru) (hl : List (List UInt8)) : List (List Nat) := (List.range (hl.length + 1)).map (rowW L hl)
theorem row_is {L : List Ru} {hl : List (List UInt8)} {i a : Nat} (h : a ∈ rowW L hl i) : ∃ r, L[a]? = some r ∧ (if i < hl.length then belB r.pa = true ∧ wayP r.pa = hl.take i else belB r.pa = false ∧ wayP r.pa = hl) := by
  unfold rowW at h
  by_cases hi : i < hl.length
  · rw [if_pos hi] at h
    obtain ⟨r, h1, h2⟩ := plc_mem.1 h
    simp only [Bool.and_eq_true, decide_eq_true_eq] at h2
    exact ⟨r, h1, by rw [if_pos hi]; exact h2⟩
  · rw [if_neg hi] at h
    obtain ⟨r, h1, h2⟩ := plc_mem.1 h
    simp only [Bool.and_eq_true, decide_eq_true_eq, Bool.not_eq_true'] at h2
    exact ⟨r, h1, by rw [if_neg hi]; exact h2⟩
theorem row_weight {L : List Ru} {hl : List (List UInt8)} {i a : Nat} (h : a ∈ rowW L hl i) {r : Ru} (hr : L[a]? = some r) (h3 : (cutP r.pa).1 ≠ 3) : weightP r.pa = if i < hl.length then 2 * i else 2 * hl.length + 1 := by
  obtain ⟨r', h1, h2⟩ := row_is h
  rw [hr] at h1
  injection h1 with h1
  subst h1
  rw [weight_way h3]
  by_cases hi : i < hl.length
  · rw [if_pos hi] at h2 ⊢
    rw [h2.1, h2.2, List.length_take, if_pos rfl]
    omega
  · rw [if_neg hi] at h2 ⊢
    rw [h2.1, h2.2, if_neg (by decide)]
theorem rows_mem {L : List Ru} (hr : ∀ x ∈ L, (cutP x.pa).1 ≠ 3) (t : List UInt8) (a : Nat) : a ∈ (rowsW L (labelsS t)).reverse.flatten ↔ ∃ x, L[a]? = some x ∧ matchB x.pa t = true := by
  rw [List.mem_flatten]
  constructor
  · rintro ⟨l, hl, ha⟩
    rw [List.mem_reverse] at hl
    unfold rowsW at hl
    obtain ⟨i, hi, rfl⟩ := List.mem_map.1 hl
    obtain ⟨r, h1, h2⟩ := row_is ha
    refine ⟨r, h1, (match_way t (hr r (List.mem_of_getElem? h1))).2 ?_⟩
    by_cases h : i < (labelsS t).length
    · rw [if_pos h] at h2
      exact .inl ⟨h2.1, i, h, h2.2⟩
    · rw [if_neg h] at h2
      exact .inr h2
  · rintro ⟨x, h1, h2⟩
    rcases (match_way t (hr x (List.mem_of_getElem? h1))).1 h2 with ⟨h3, i, hi, h4⟩ | ⟨h3, h4⟩
    · refine ⟨rowW L (labelsS t) i, ?_, ?_⟩
      · rw [List.mem_reverse]
        exact List.mem_map.2 ⟨i, List.mem_range.2 (by omega), rfl⟩
      · unfold rowW
        rw [if_pos hi]
        exact plc_mem.2 ⟨x, h1, by rw [h3, decide_eq_true h4]; rfl⟩
    · refine ⟨rowW L (labelsS t) (labelsS t).length, ?_, ?_⟩
      · rw [List.mem_reverse]
        exact List.mem_map.2 ⟨_, List.mem_range.2 (Nat.lt_succ_self _), rfl⟩
      · unfold rowW
        rw [if_neg (Nat.lt_irrefl _)]
        exact plc_mem.2 ⟨x, h1, by rw [h3, decide_eq_true h4]; rfl⟩
/-- who stands ahead weighs more, or as much, and came ahead -/
def Ahd (L : List Ru) (a b : Nat) : Prop := ∀ x y, L[a]? = some x → L[b]? = some y → weightP y.pa < weightP x.pa ∨ (weightP y.pa = weightP x.pa ∧ a < b)
theorem rows_sorted {L : List Ru} (hr : ∀ x ∈ L, (cutP x.pa).1 ≠ 3) (hl : List (List UInt8)) : (rowsW L hl).reverse.flatten.Pairwise (Ahd L) := by
  rw [List.pairwise_flatten]
  constructor
  · intro l h
    rw [List.mem_reverse] at h
    obtain ⟨i, _, rfl⟩ := List.mem_map.1 h
    have hs : (rowW L hl i).Pairwise (· < ·) := by
      unfold rowW
      split
      · exact plc_sorted _ _
      · exact plc_sorted _ _
    refine hs.imp_of_mem fun {a b} ha hb hab => fun x y hx hy => .inr ⟨?_, hab⟩
    rw [row_weight ha hx (hr x (List.mem_of_getElem? hx)), row_weight hb hy (hr y (List.mem_of_getElem? hy))]
  · rw [List.pairwise_reverse]
    unfold rowsW
    rw [List.pairwise_map]
    refine List.pairwise_lt_range.imp_of_mem fun {i j} hi hj hij => fun a ha b hb => fun x y hx hy => .inl ?_
    rw [List.mem_range] at hj
    rw [row_weight ha hx (hr x (List.mem_of_getElem? hx)), row_weight hb hy (hr y (List.mem_of_getElem? hy))]
    by_cases h1 : j < hl.length
    · rw [if_pos h1, if_pos (by omega)]; omega
    · rw [if_neg h1, if_pos (by omega)]; omega

/-! the best, by priority, of rules in that order -/
def fitB (r : Ru) (port : Int) (alpn : List (List UInt8)) : Bool := (decide (r.po = 0) || decide (r.po = port)) && (decide (r.ap = []) || alpn.any fun a => decide (a = r.ap))
theorem count_fit (r : Ru) (h : List UInt8) (port : Int) (alpn : List (List UInt8)) : countB r h port alpn = (matchB r.pa h && fitB r port alpn) := by
  unfold countB fitB
  rw [Bool.and_assoc, Bool.and_comm (decide (r.ap = []) || _)]
def stepF (L : List Ru) (C : Ru → Bool) (o : Option (Ru × Nat)) (a : Nat) : Option (Ru × Nat) := match L[a]? with
  | some r => if C r = true ∧ (∀ x ∈ o, x.1.pr < r.pr) then some (r, a) else o
  | none => o
def goF (L : List Ru) (C : Ru → Bool) (Q : List Nat) (o : Option (Ru × Nat)) : Option (Ru × Nat) := Q.foldl (stepF L C) o
theorem step_cases (L : List Ru) (C : Ru → Bool) (o : Option (Ru × Nat)) (a : Nat) :
    (∃ r, L[a]? = some r ∧ C r = true ∧ (∀ x ∈ o, x.1.pr < r.pr) ∧ stepF L C o a = some (r, a)) ∨ (stepF L C o a = o ∧ ∀ r, L[a]? = some r → C r = true → ∃ x ∈ o, r.pr ≤ x.1.pr) := by
  unfold stepF
  cases h : L[a]? with
  | none => exact .inr ⟨rfl, fun r h => by cases h⟩
  | some r =>
    dsimp only
    by_cases hc : C r = true ∧ (∀ x ∈ o, x.1.pr < r.pr)
    · rw [if_pos hc]
      exact .inl ⟨r, rfl, hc.1, hc.2, rfl⟩
    · rw [if_neg hc]
      refine .inr ⟨rfl, fun r' e hr => ?_⟩
      injection e with e
      subst e
      rcases o with _ | ⟨z, m⟩
      · exact absurd ⟨hr, fun x hx => by cases hx⟩ hc
      · by_cases hz : z.pr < r.pr
        · exact absurd ⟨hr, fun x hx => by injection hx with hx; rw [← hx]; exact hz⟩ hc
        · exact ⟨(z, m), rfl, by show r.pr ≤ z.pr; omega⟩
theorem go_some {L : List Ru} {C : Ru → Bool} {x : Ru} {i : Nat} : ∀ (Q : List Nat) (o : Option (Ru × Nat)), goF L C Q o = some (x, i) →
    (o = some (x, i) ∧ ∀ j ∈ Q, ∀ y, L[j]? = some y → C y = true → y.pr ≤ x.pr) ∨
    (∃ Q1 Q2, Q = Q1 ++ i :: Q2 ∧ L[i]? = some x ∧ C x = true ∧ (∀ z ∈ o, z.1.pr < x.pr) ∧ (∀ j ∈ Q1, ∀ y, L[j]? = some y → C y = true → y.pr < x.pr) ∧ ∀ j ∈ Q2, ∀ y, L[j]? = some y → C y = true → y.pr ≤ x.pr)
  | [], o, h => .inl ⟨h, fun j hj => by cases hj⟩
  | a :: Q, o, h => by
    rcases go_some Q (stepF L C o a) h with ⟨h1, h2⟩ | ⟨Q1, Q2, h1, h2, h3, h4, h5, h6⟩
    · rcases step_cases L C o a with ⟨r, e1, e2, e3, e4⟩ | ⟨e1, e2⟩
      · rw [e4] at h1
        injection h1 with h1
        injection h1 with h7 h8
        subst h7 h8
        exact .inr ⟨[], Q, rfl, e1, e2, e3, fun j hj => (by cases hj), h2⟩
      · rw [e1] at h1
        refine .inl ⟨h1, fun j hj y hy hc => ?_⟩
        rcases List.mem_cons.1 hj with rfl | hj
        · obtain ⟨z, hz, hle⟩ := e2 y hy hc
          rw [h1] at hz
          injection hz with hz
          rw [← hz] at hle
          exact hle
        · exact h2 j hj y hy hc
    · rcases step_cases L C o a with ⟨r, e1, e2, e3, e4⟩ | ⟨e1, e2⟩
      · have h7 : r.pr < x.pr := h4 (r, a) e4
        refine .inr ⟨a :: Q1, Q2, by rw [h1]; rfl, h2, h3, fun z hz => ?_, fun j hj y hy hc => ?_, h6⟩
        · have := e3 z hz; omega
        · rcases List.mem_cons.1 hj with rfl | hj
          · rw [e1] at hy
            injection hy with hy
            rw [← hy]
            exact h7
          · exact h5 j hj y hy hc
      · rw [e1] at h4
        refine .inr ⟨a :: Q1, Q2, by rw [h1]; rfl, h2, h3, h4, fun j hj y hy hc => ?_, h6⟩
        rcases List.mem_cons.1 hj with rfl | hj
        · obtain ⟨z, hz, hle⟩ := e2 y hy hc
          have := h4 z hz
          omega
        · exact h5 j hj y hy hc
theorem go_none {L : List Ru} {C : Ru → Bool} : ∀ (Q : List Nat) (o : Option (Ru × Nat)), goF L C Q o = none → o = none ∧ ∀ j ∈ Q, ∀ y, L[j]? = some y → C y = false
  | [], o, h => ⟨h, fun j hj => by cases hj⟩
  | a :: Q, o, h => by
    obtain ⟨h1, h2⟩ := go_none Q (stepF L C o a) h
    rcases step_cases L C o a with ⟨r, e1, e2, e3, e4⟩ | ⟨e1, e2⟩
    · rw [e4] at h1; cases h1
    · rw [e1] at h1
      refine ⟨h1, fun j hj y hy => ?_⟩
      rcases List.mem_cons.1 hj with rfl | hj
      · cases hc : C y with
        | false => rfl
        | true =>
          obtain ⟨z, hz, _⟩ := e2 y hy hc
          rw [h1] at hz; cases hz
      · exact h2 j hj y hy
/-- what is found, the weightiest first, is what is asked -/
theorem way_find {L : List Ru} (hr : ∀ x ∈ L, (cutP x.pa).1 ≠ 3) (h : List UInt8) (port : Int) (alpn : List (List UInt8)) :
    goF L (fun r => fitB r port alpn) (rowsW L (labelsS (tailS h))).reverse.flatten none = findS L h port alpn := by
  have hm : ∀ j y, L[j]? = some y → countB y h port alpn = true → j ∈ (rowsW L (labelsS (tailS h))).reverse.flatten ∧ fitB y port alpn = true := by
    intro j y hj hc
    rw [count_fit, Bool.and_eq_true] at hc
    exact ⟨(rows_mem hr (tailS h) j).2 ⟨y, hj, by rw [match_tail h (hr y (List.mem_of_getElem? hj))]; exact hc.1⟩, hc.2⟩
  cases hg : goF L (fun r => fitB r port alpn) (rowsW L (labelsS (tailS h))).reverse.flatten none with
  | none =>
    symm
    refine find_none.2 fun y hy => ?_
    obtain ⟨j, hj⟩ := List.getElem?_of_mem hy
    cases hc : countB y h port alpn with
    | false => rfl
    | true =>
      obtain ⟨h1, h2⟩ := hm j y hj hc
      have := (go_none _ _ hg).2 j h1 y hj
      rw [h2] at this; cases this
  | some z =>
    obtain ⟨x, i⟩ := z
    rcases go_some _ _ hg with ⟨h1, _⟩ | ⟨Q1, Q2, h1, h2, h3, _, h5, h6⟩
    · cases h1
    · symm
      have hs := rows_sorted hr (labelsS (tailS h))
      have hi : i ∈ (rowsW L (labelsS (tailS h))).reverse.flatten := by rw [h1]; simp
      rw [h1] at hs
      obtain ⟨_, hs2, _⟩ := List.pairwise_append.1 hs
      obtain ⟨hs3, _⟩ := List.pairwise_cons.1 hs2
      obtain ⟨x', hx1, hx2⟩ := (rows_mem hr (tailS h) i).1 hi
      have hx3 : x = x' := Option.some.inj (h2.symm.trans hx1)
      rw [← hx3, match_tail h (hr x (List.mem_of_getElem? h2))] at hx2
      refine find_is h2 (by rw [count_fit, hx2, h3]; rfl) fun j y hj hc => ?_
      obtain ⟨g1, g2⟩ := hm j y hj hc
      rw [h1] at g1
      rcases List.mem_append.1 g1 with g1 | g1
      · have := h5 j g1 y hj g2
        exact ⟨fun h => by unfold lt at h; omega, fun _ => .inl this⟩
      · rcases List.mem_cons.1 g1 with rfl | g1
        · rw [h2] at hj
          injection hj with hj
          subst hj
          exact ⟨fun h => by unfold lt at h; omega, fun h => absurd h (Nat.lt_irrefl _)⟩
        · have a1 := h6 j g1 y hj g2
          have a2 := hs3 j g1 x y h2 hj
          refine ⟨fun h => by unfold lt at h; omega, fun h => ?_⟩
          unfold lt
          omega
/-- rows behind which none stands -/
theorem flat_short (R : List (List Nat)) (k : Nat) : (R ++ List.replicate k []).reverse.flatten = R.reverse.flatten := by
  rw [List.reverse_append, List.flatten_append, List.reverse_replicate, List.flatten_replicate_nil, List.nil_append]
end Go.Proofs.YtlpondbcnfaggaaGreatDoor.Tr
