/-
  Rules, in plain words: patterns, what they match, what they weigh, which rule counts; what follows of it. No condition.
-/
import Derived.Test.YtlpondbcnfaggaaGreatDoorR09
namespace Go.Proofs.YtlpondbcnfaggaaGreatDoor.Tr
open Go Go.Proofs.YtlpondbcnfaggaaGreatDoor.Asc Go.Proofs.YtlpondbcnfaggaaGreatDoor.Ad Go.Proofs.YtlpondbcnfaggaaGreatDoor.Nm

/-! a text that ends with a name is no text of an address -/
theorem dotR_tail (l : List UInt8) {n : List UInt8} (h : digS (Nm.lastS n) = false) : dotR (l ++ 46 :: n) = none := by
  unfold dotR
  split
  · cases hn : numsS (splitS 46 (l ++ 46 :: n)) with
    | none => rfl
    | some b =>
      have h1 := nums_all hn _ (lastS_mem _)
      rw [last_app] at h1
      rw [h1] at h; cases h
  · rfl
theorem split_tail (l : List UInt8) : ∀ (k : Nat) (m : List UInt8), m.length = k → (58 : UInt8) ∉ m → ∃ x, (splitS 58 (l ++ m)).getLastD [] = x ++ m
  | 0, m, hk, _ => ⟨(splitS 58 l).getLastD [], by rw [List.eq_nil_of_length_eq_zero hk]; simp⟩
  | k + 1, m, hk, hm => by
    have hne : m ≠ [] := by rintro rfl; simp at hk
    obtain ⟨a, c, rfl⟩ : ∃ a c, m = a ++ [c] := ⟨m.dropLast, m.getLast hne, (List.dropLast_concat_getLast hne).symm⟩
    have hc : c ≠ 58 := by rintro rfl; exact hm (by simp)
    obtain ⟨x, hx⟩ := split_tail l k a (by simp at hk; exact hk) (fun h => hm (by simp [h]))
    refine ⟨x, ?_⟩
    rw [← List.append_assoc, splitS_snoc, if_neg hc, List.getLastD_eq_getLast?, List.getLast?_append, List.getLast?_singleton, Option.some_or, Option.getD_some, hx, List.append_assoc]
theorem groups_tail (l : List UInt8) (last : Bool) {n : List UInt8} (h : Fit n) : groupsR (l ++ 46 :: n) last = none := by
  unfold groupsR
  rw [if_neg (by simp)]
  have hm : (58 : UInt8) ∉ 46 :: n := fun h1 => by
    rcases List.mem_cons.1 h1 with h1 | h1
    · exact absurd h1 (by decide)
    · exact h.free h1
  obtain ⟨x, hx⟩ := split_tail l _ (46 :: n) rfl hm
  have hne := splitS_ne 58 (l ++ 46 :: n)
  have hmem : x ++ 46 :: n ∈ splitS 58 (l ++ 46 :: n) := by
    rw [← hx, List.getLastD_eq_getLast?, List.getLast?_eq_some_getLast hne]
    exact List.getLast_mem hne
  exact grps_bad last (hex_bad (by simp)) (dotR_tail _ h.dig) hmem
theorem parse_tail (l : List UInt8) {n : List UInt8} (h : Fit n) : Ad.parseS (l ++ 46 :: n) = none := by
  have hd := dotR_tail l h.dig
  rcases occ_cases (l ++ 46 :: n) with h0 | ⟨j, h1, h2⟩ | ⟨j, k, h1, h2, h3, h4⟩
  · rw [parse_plain hd h0, groups_tail _ _ h]; rfl
  · rw [parse_short h1 h2]
    have hj : j + 2 ≤ l.length := by
      have e := (occ_is h1).2
      rcases Nat.lt_or_ge (j + 1) l.length with h5 | h5
      · omega
      · rw [List.getElem?_append_right h5] at e
        have hm := List.mem_of_getElem? e
        rcases List.mem_cons.1 hm with h6 | h6
        · exact absurd h6 (by decide)
        · exact absurd h6 h.free
    rw [List.drop_append_of_le_length hj, groups_tail _ _ h]
    cases groupsR (List.take j (l ++ 46 :: n)) false <;> rfl
  · exact parse_twice h1 h2 h3 h4

/-- a rule -/
structure Ru where
  al : Bool
  pr : Int
  pa : List UInt8
  po : Int
  ap : List UInt8
deriving DecidableEq
def Ru.zero : Ru := ⟨false, 0, [], 0, []⟩
def nameB (s : List UInt8) : Bool := decide (normalS s = (s, 0))
/-- what a pattern is: 0 all, 1 wild, 2 a name, 3 none; and its name -/
def cutP (p : List UInt8) : Nat × List UInt8 :=
  if p = [42] then (0, [])
  else if 2 < p.length ∧ p.take 2 = [42, 46] then (if (Ad.parseS (p.drop 2)).isSome = true ∨ nameB (p.drop 2) = false then (3, []) else (1, p.drop 2))
  else if nameB p = true then (2, p) else (3, [])
def endB (n h : List UInt8) : Bool := decide (n.length < h.length) && decide (h.drop (h.length - n.length) = n) && decide (h[h.length - n.length - 1]? = some 46)
def matchB (p h : List UInt8) : Bool :=
  if (cutP p).1 = 0 then true else if (cutP p).1 = 1 then endB (cutP p).2 h else if (cutP p).1 = 2 then decide (h = (cutP p).2) else false
def weightP (p : List UInt8) : Nat := if (cutP p).1 = 0 then 0 else 2 * (labelsS (cutP p).2).length + (cutP p).1 - 1
def rightS (r : Ru) : Int :=
  if r.pr < -1000 ∨ 1000 < r.pr then 1 else if (cutP r.pa).1 = 3 then 9 else if r.po < 0 ∨ 65535 < r.po then 10
  else if (r.ap ≠ [] ∧ allS visI r.ap = false) ∨ 255 < r.ap.length then 1 else 0
/-- they differ in nothing but Allow -/
def twinB (a b : Ru) : Bool := decide (a.pr = b.pr) && decide (a.pa = b.pa) && decide (a.po = b.po) && decide (a.ap = b.ap)
def addE (L : List Ru) (r : Ru) : Int := if rightS r ≠ 0 then rightS r else if 200 ≤ L.length then 2 else if L.any (twinB r) then 7 else 0
def addS (L : List Ru) (r : Ru) : List Ru := if addE L r = 0 then L ++ [r] else L
def countB (r : Ru) (h : List UInt8) (port : Int) (alpn : List (List UInt8)) : Bool := matchB r.pa h && (decide (r.ap = []) || alpn.any fun a => decide (a = r.ap)) && (decide (r.po = 0) || decide (r.po = port))
def lt (a b : Ru) : Prop := a.pr < b.pr ∨ (a.pr = b.pr ∧ weightP a.pa < weightP b.pa)
instance (a b : Ru) : Decidable (lt a b) := by unfold lt; exact inferInstance
/-- the best of rules for which C holds, behind k rules of which o is the best -/
def bestS (C : Ru → Bool) : List Ru → Nat → Option (Ru × Nat) → Option (Ru × Nat)
  | [], _, o => o
  | r :: rs, k, o => bestS C rs (k + 1) (if C r = true ∧ (∀ x ∈ o, lt x.1 r) then some (r, k) else o)
def findS (L : List Ru) (h : List UInt8) (port : Int) (alpn : List (List UInt8)) : Option (Ru × Nat) := bestS (fun r => countB r h port alpn) L 0 none

/-! patterns -/
theorem cut_cases (p : List UInt8) : (p = [42] ∧ cutP p = (0, [])) ∨ (∃ n, p = 42 :: 46 :: n ∧ Ad.parseS n = none ∧ normalS n = (n, 0) ∧ Fit n ∧ cutP p = (1, n)) ∨ (p ≠ [42] ∧ normalS p = (p, 0) ∧ cutP p = (2, p)) ∨ cutP p = (3, []) := by
  unfold cutP
  by_cases h0 : p = [42]
  · exact .inl ⟨h0, by rw [if_pos h0]⟩
  rw [if_neg h0]
  by_cases h1 : 2 < p.length ∧ p.take 2 = [42, 46]
  · rw [if_pos h1]
    by_cases h2 : (Ad.parseS (p.drop 2)).isSome = true ∨ nameB (p.drop 2) = false
    · exact .inr (.inr (.inr (by rw [if_pos h2])))
    · rw [if_neg h2]
      have h3 : Ad.parseS (p.drop 2) = none := by
        cases hp : Ad.parseS (p.drop 2) with
        | none => rfl
        | some a => exact absurd (.inl (by rw [hp]; rfl)) h2
      have h4 : normalS (p.drop 2) = (p.drop 2, 0) := by
        by_cases h5 : nameB (p.drop 2) = false
        · exact absurd (.inr h5) h2
        · unfold nameB at h5
          simpa using h5
      refine .inr (.inl ⟨p.drop 2, ?_, h3, h4, ?_, rfl⟩)
      · have := List.take_append_drop 2 p
        rw [h1.2] at this
        exact this.symm
      · rcases normal_is h4 with ⟨a, h5, _, _⟩ | ⟨_, _, h5, _, _⟩
        · rw [h3] at h5; cases h5
        · exact h5
  · rw [if_neg h1]
    by_cases h2 : nameB p = true
    · rw [if_pos h2]
      unfold nameB at h2
      exact .inr (.inr (.inl ⟨h0, by simpa using h2, rfl⟩))
    · rw [if_neg h2]
      exact .inr (.inr (.inr rfl))
theorem end_is {n h : List UInt8} (he : endB n h = true) : ∃ a, h = a ++ 46 :: n := by
  unfold endB at he
  simp only [Bool.and_eq_true, decide_eq_true_eq] at he
  obtain ⟨⟨h1, h2⟩, h3⟩ := he
  refine ⟨h.take (h.length - n.length - 1), ?_⟩
  have h4 : h.drop (h.length - n.length - 1) = 46 :: n := by
    have h5 := List.drop_eq_getElem_cons (l := h) (i := h.length - n.length - 1) (by omega)
    rw [h5, show h.length - n.length - 1 + 1 = h.length - n.length by omega, h2]
    congr 1
    have := (List.getElem?_eq_some_iff.1 h3).2
    exact this
  rw [← h4, List.take_append_drop]
theorem is_end (a n : List UInt8) : endB n (a ++ 46 :: n) = true := by
  unfold endB
  have hl : (a ++ 46 :: n).length = a.length + 1 + n.length := by rw [List.length_append, List.length_cons]; omega
  simp only [Bool.and_eq_true, decide_eq_true_eq]
  refine ⟨⟨by omega, ?_⟩, ?_⟩
  · rw [show (a ++ 46 :: n).length - n.length = a.length + 1 by omega, show a ++ 46 :: n = (a ++ [46]) ++ n by simp, show a.length + 1 = (a ++ [46]).length by simp, List.drop_left]
  · rw [show (a ++ 46 :: n).length - n.length - 1 = a.length by omega, List.getElem?_append_right (Nat.le_refl _)]
    simp
theorem labels_fit {n : List UInt8} (h : Fit n) : labelsS n = (splitS 46 n).reverse := by unfold labelsS; rw [h.none]; rfl
theorem labels_pos (n : List UInt8) : 1 ≤ (labelsS n).length := by
  unfold labelsS
  split
  · exact Nat.le_refl _
  · rw [List.length_reverse]
    exact List.length_pos_iff.2 (splitS_ne 46 n)
theorem labels_more {a n : List UInt8} (h : Fit n) : (labelsS n).length < (labelsS (a ++ 46 :: n)).length := by
  rw [labels_fit h]
  unfold labelsS
  rw [parse_tail a h]
  show _ < (splitS 46 (a ++ 46 :: n)).reverse.length
  rw [List.length_reverse, List.length_reverse, split_app, List.length_append]
  have := List.length_pos_iff.2 (splitS_ne 46 a)
  omega
/-- of two patterns that match one host the one that weighs no more is not much longer -/
theorem weight_len {p q h : List UInt8} (hp : matchB p h = true) (hq : matchB q h = true) (hw : weightP q ≤ weightP p) : q.length ≤ p.length + 1 := by
  unfold matchB at hp hq
  unfold weightP at hw
  rcases cut_cases q with ⟨e1, c1⟩ | ⟨n, e1, _, _, f1, c1⟩ | ⟨e1, _, c1⟩ | c1
  · rw [e1]; simp
  · have hl := labels_pos n
    rw [c1] at hq hw
    simp only [if_neg (show ¬ (1 : Nat) = 0 by decide), if_pos] at hq hw
    obtain ⟨a, ha⟩ := end_is hq
    rcases cut_cases p with ⟨e2, c2⟩ | ⟨m, e2, _, _, f2, c2⟩ | ⟨e2, _, c2⟩ | c2
    · rw [c2] at hw
      simp only [if_pos] at hw
      omega
    · rw [c2] at hp hw
      simp only [if_neg (show ¬ (1 : Nat) = 0 by decide), if_pos] at hp hw
      obtain ⟨b, hb⟩ := end_is hp
      rw [e1, e2]
      simp only [List.length_cons]
      rcases Nat.lt_or_ge m.length n.length with hlt | hge
      · exfalso
        have s1 : (46 :: m) <:+ h := ⟨b, hb.symm⟩
        have s2 : n <:+ h := ⟨a ++ [46], by rw [ha]; simp⟩
        obtain ⟨c, hc⟩ := List.suffix_of_suffix_length_le s1 s2 (by simp; omega)
        have := labels_more (a := c) f2
        rw [hc] at this
        omega
      · omega
    · rw [c2] at hp
      simp only [if_neg (show ¬ (2 : Nat) = 0 by decide), if_neg (show ¬ (2 : Nat) = 1 by decide), if_pos, decide_eq_true_eq] at hp
      rw [← hp, ha, e1]
      simp
    · rw [c2] at hp
      simp at hp
  · rw [c1] at hq hw
    simp only [if_neg (show ¬ (2 : Nat) = 0 by decide), if_neg (show ¬ (2 : Nat) = 1 by decide), if_pos, decide_eq_true_eq] at hq hw
    have hl := labels_pos q
    rcases cut_cases p with ⟨e2, c2⟩ | ⟨m, e2, _, _, f2, c2⟩ | ⟨e2, _, c2⟩ | c2
    · rw [c2] at hw
      simp only [if_pos] at hw
      omega
    · rw [c2] at hp hw
      simp only [if_neg (show ¬ (1 : Nat) = 0 by decide), if_pos] at hp hw
      obtain ⟨b, hb⟩ := end_is hp
      have := labels_more (a := b) f2
      rw [← hb, hq] at this
      omega
    · rw [c2] at hp
      simp only [if_neg (show ¬ (2 : Nat) = 0 by decide), if_neg (show ¬ (2 : Nat) = 1 by decide), if_pos, decide_eq_true_eq] at hp
      rw [← hp, hq]
      omega
    · rw [c2] at hp
      simp at hp
  · rw [c1] at hq
    simp at hq
/-- of two patterns that match one host and weigh the same each is the other -/
theorem weight_same {p q h : List UInt8} (hp : matchB p h = true) (hq : matchB q h = true) (hw : weightP q = weightP p) : q = p := by
  unfold matchB at hp hq
  unfold weightP at hw
  rcases cut_cases q with ⟨e1, c1⟩ | ⟨n, e1, _, _, f1, c1⟩ | ⟨e1, _, c1⟩ | c1
  · rw [c1] at hw
    rcases cut_cases p with ⟨e2, c2⟩ | ⟨m, e2, _, _, f2, c2⟩ | ⟨e2, _, c2⟩ | c2
    · rw [e1, e2]
    · have := labels_pos m
      rw [c2] at hw
      simp at hw
      omega
    · have := labels_pos p
      rw [c2] at hw
      simp at hw
    · rw [c2] at hp
      simp at hp
  · have hl := labels_pos n
    rw [c1] at hq hw
    simp only [if_neg (show ¬ (1 : Nat) = 0 by decide), if_pos] at hq hw
    obtain ⟨a, ha⟩ := end_is hq
    rcases cut_cases p with ⟨e2, c2⟩ | ⟨m, e2, _, _, f2, c2⟩ | ⟨e2, _, c2⟩ | c2
    · rw [c2] at hw
      simp only [if_pos] at hw
      omega
    · rw [c2] at hp hw
      simp only [if_neg (show ¬ (1 : Nat) = 0 by decide), if_pos] at hp hw
      obtain ⟨b, hb⟩ := end_is hp
      have s1 : (46 :: m) <:+ h := ⟨b, hb.symm⟩
      have s2 : (46 :: n) <:+ h := ⟨a, ha.symm⟩
      rcases Nat.lt_trichotomy m.length n.length with hlt | heq | hgt
      · exfalso
        obtain ⟨c, hc⟩ := List.suffix_of_suffix_length_le s1 (show n <:+ h from ⟨a ++ [46], by rw [ha]; simp⟩) (by simp; omega)
        have := labels_more (a := c) f2
        rw [hc] at this
        omega
      · have h1 := List.suffix_of_suffix_length_le s1 s2 (by simp; omega)
        have h2 := h1.eq_of_length (by simp; omega)
        injection h2 with _ h2
        rw [e1, e2, h2]
      · exfalso
        obtain ⟨c, hc⟩ := List.suffix_of_suffix_length_le s2 (show m <:+ h from ⟨b ++ [46], by rw [hb]; simp⟩) (by simp; omega)
        have := labels_more (a := c) f1
        rw [hc] at this
        omega
    · rw [c2] at hw
      simp only [if_neg (show ¬ (2 : Nat) = 0 by decide)] at hw
      omega
    · rw [c2] at hp
      simp at hp
  · rw [c1] at hq hw
    simp only [if_neg (show ¬ (2 : Nat) = 0 by decide), if_neg (show ¬ (2 : Nat) = 1 by decide), if_pos, decide_eq_true_eq] at hq hw
    have hl := labels_pos q
    rcases cut_cases p with ⟨e2, c2⟩ | ⟨m, e2, _, _, f2, c2⟩ | ⟨e2, _, c2⟩ | c2
    · rw [c2] at hw
      simp only [if_pos] at hw
      omega
    · rw [c2] at hw
      simp only [if_neg (show ¬ (1 : Nat) = 0 by decide)] at hw
      omega
    · rw [c2] at hp
      simp only [if_neg (show ¬ (2 : Nat) = 0 by decide), if_neg (show ¬ (2 : Nat) = 1 by decide), if_pos, decide_eq_true_eq] at hp
      rw [← hp, hq]
    · rw [c2] at hp
      simp at hp
  · rw [c1] at hq
    simp at hq

/-! the best -/
theorem best_some (C : Ru → Bool) : ∀ (L : List Ru) (k : Nat) (o : Option (Ru × Nat)), (∀ z m, o = some (z, m) → m < k) → ∀ x i, bestS C L k o = some (x, i) →
    (o = some (x, i) ∨ (k ≤ i ∧ L[i - k]? = some x ∧ C x = true)) ∧ (∀ j y, L[j]? = some y → C y = true → ¬ lt x y ∧ (j + k < i → lt y x)) ∧ (∀ z m, o = some (z, m) → (z, m) = (x, i) ∨ lt z x)
  | [], k, o, ho, x, i, h => by
    refine ⟨.inl h, fun j y hj => by simp at hj, fun z m hz => .inl ?_⟩
    rw [bestS] at h
    rw [h] at hz
    injection hz with hz
    exact hz.symm
  | r :: rs, k, o, ho, x, i, h => by
    rw [bestS] at h
    by_cases hc : C r = true ∧ (∀ x ∈ o, lt x.1 r)
    · rw [if_pos hc] at h
      obtain ⟨a1, a2, a3⟩ := best_some C rs (k + 1) (some (r, k)) (fun z m hz => by injection hz with hz; injection hz with _ hz; omega) x i h
      have h3 := a3 r k rfl
      have hrx : ¬ lt x r ∧ (k < i → lt r x) := by
        rcases h3 with h3 | h3
        · injection h3 with e1 e2
          subst e1 e2
          exact ⟨fun h => by unfold lt at h; omega, fun h => absurd h (Nat.lt_irrefl _)⟩
        · exact ⟨fun h => by unfold lt at h h3; omega, fun _ => h3⟩
      refine ⟨.inr ?_, fun j y hj hy => ?_, fun z m hz => .inr ?_⟩
      · rcases a1 with a1 | ⟨b1, b2, b3⟩
        · injection a1 with a1
          injection a1 with e1 e2
          subst e1 e2
          exact ⟨Nat.le_refl _, by simp, hc.1⟩
        · refine ⟨by omega, ?_, b3⟩
          rw [show i - k = (i - (k + 1)) + 1 by omega, List.getElem?_cons_succ]
          exact b2
      · cases j with
        | zero =>
          simp at hj
          subst hj
          exact ⟨hrx.1, fun h => hrx.2 (by omega)⟩
        | succ j =>
          obtain ⟨q1, q2⟩ := a2 j y (by simpa using hj) hy
          exact ⟨q1, fun h => q2 (by omega)⟩
      · have hz1 := hc.2 (z, m) hz
        rcases h3 with h3 | h3
        · injection h3 with e1 e2
          subst e1
          exact hz1
        · unfold lt at hz1 h3 ⊢
          simp only at hz1
          omega
    · rw [if_neg hc] at h
      obtain ⟨a1, a2, a3⟩ := best_some C rs (k + 1) o (fun z m hz => by have := ho z m hz; omega) x i h
      refine ⟨?_, fun j y hj hy => ?_, a3⟩
      · rcases a1 with a1 | ⟨b1, b2, b3⟩
        · exact .inl a1
        · refine .inr ⟨by omega, ?_, b3⟩
          rw [show i - k = (i - (k + 1)) + 1 by omega, List.getElem?_cons_succ]
          exact b2
      · cases j with
        | zero =>
          simp at hj
          subst hj
          have hn : ∃ z m, o = some (z, m) ∧ ¬ lt z r := by
            rcases o with _ | ⟨z, m⟩
            · exact absurd ⟨hy, fun x hx => by cases hx⟩ hc
            · by_cases hz : lt z r
              · exact absurd ⟨hy, fun x hx => by injection hx with hx; rw [← hx]; exact hz⟩ hc
              · exact ⟨z, m, rfl, hz⟩
          obtain ⟨z, m, rfl, hz⟩ := hn
          have hm := ho z m rfl
          rcases a3 z m rfl with h3 | h3
          · injection h3 with e1 e2
            subst e1 e2
            exact ⟨hz, fun h => by omega⟩
          · unfold lt at hz h3 ⊢
            exact ⟨by omega, fun _ => by omega⟩
        | succ j =>
          obtain ⟨q1, q2⟩ := a2 j y (by simpa using hj) hy
          exact ⟨q1, fun h => q2 (by omega)⟩
theorem best_none (C : Ru → Bool) : ∀ (L : List Ru) (k : Nat) (o : Option (Ru × Nat)), bestS C L k o = none → o = none ∧ ∀ y ∈ L, C y = false
  | [], k, o, h => ⟨h, fun y hy => by cases hy⟩
  | r :: rs, k, o, h => by
    rw [bestS] at h
    obtain ⟨h1, h2⟩ := best_none C rs (k + 1) _ h
    split at h1
    · cases h1
    · rename_i hc
      refine ⟨h1, fun y hy => ?_⟩
      rcases List.mem_cons.1 hy with rfl | hy
      · cases hy2 : C y with
        | false => rfl
        | true => exact absurd ⟨hy2, fun x hx => by rw [h1] at hx; cases hx⟩ hc
      · exact h2 y hy
end Go.Proofs.YtlpondbcnfaggaaGreatDoor.Tr

/-
  Policies as texts, in plain words: words of a line, what a line does, what is right, what is parsed and printed; what follows for lines that are joined. No condition.
-/
namespace Go.Proofs.YtlpondbcnfaggaaGreatDoor.Po
open Go Go.Proofs.YtlpondbcnfaggaaGreatDoor.Asc Go.Proofs.YtlpondbcnfaggaaGreatDoor.Ad Go.Proofs.YtlpondbcnfaggaaGreatDoor.Nm Go.Proofs.YtlpondbcnfaggaaGreatDoor.Tr

/-- a pin -/
structure Pn where
  nm : List UInt8
  ci : Ad.C
  un : Int
deriving DecidableEq
/-- a policy -/
structure Pol where
  al : Bool
  ru : List Ru
  pn : List Pn
deriving DecidableEq
def Pol.zero : Pol := ⟨false, [], []⟩
def rulesE : List Ru → List Ru → Int
  | _, [] => 0
  | L, r :: rs => if addE L r ≠ 0 then addE L r else rulesE (L ++ [r]) rs
def pinE (L : List Pn) (x : Pn) : Int :=
  if nameB x.nm = false then 9 else if Ad.rightS x.ci = false ∨ x.un < 0 ∨ 1099511627776 < x.un then 1
  else if L.any (fun y => decide (y.nm = x.nm) && decide (y.ci = x.ci)) then 7 else 0
def pinsE : List Pn → List Pn → Int
  | _, [] => 0
  | L, x :: xs => if pinE L x ≠ 0 then pinE L x else pinsE (L ++ [x]) xs
def rightP (p : Pol) : Int := if rulesE [] p.ru ≠ 0 then rulesE [] p.ru else if 200 < p.pn.length then 2 else pinsE [] p.pn
theorem right_zero : rightP Pol.zero = 0 := rfl

/-! words -/
def blank (c : UInt8) : Bool := decide (c = 32) || decide (c = 9)
def splitW : List UInt8 → List (List UInt8)
  | [] => [[]]
  | x :: l => if blank x = true then [] :: splitW l else (x :: (splitW l).headD []) :: (splitW l).tail
def wordsS (l : List UInt8) : List (List UInt8) := (splitW l).filter fun w => decide (w ≠ [])
def kDefault : List UInt8 := [100, 101, 102, 97, 117, 108, 116]
def kAllow : List UInt8 := [97, 108, 108, 111, 119]
def kDeny : List UInt8 := [100, 101, 110, 121]
def kPin : List UInt8 := [112, 105, 110]
def kPort : List UInt8 := [112, 111, 114, 116]
def kAlpn : List UInt8 := [97, 108, 112, 110]
def kUntil : List UInt8 := [117, 110, 116, 105, 108]
def signedS : List UInt8 → Option Int
  | [] => none
  | c :: w => if c = 45 then (numS w 1000).map (fun n => -n) else numS (c :: w) 1000
def optS (key : List UInt8) : List (List UInt8) → Option (List UInt8) × List (List UInt8)
  | k :: v :: r => if k = key then (some v, r) else (none, k :: v :: r)
  | l => (none, l)
/-- the last words of a rule -/
def ruleT (al : Bool) (k : Int) (p : List UInt8) (q : Int) (r : List (List UInt8)) : Option Ru :=
  if (optS kAlpn r).2 = [] then some ⟨al, k, p, q, (optS kAlpn r).1.getD []⟩ else none
def ruleS (al : Bool) : List (List UInt8) → Option Ru
  | n :: p :: r => match signedS n with
    | none => none
    | some k => match (optS kPort r).1 with
      | none => ruleT al k p 0 (optS kPort r).2
      | some w => match numS w 65535 with
        | none => none
        | some q => ruleT al k p q (optS kPort r).2
  | _ => none
def pinS : List (List UInt8) → Option Pn
  | n :: c :: r => match cparseS c with
    | none => none
    | some x => if (optS kUntil r).2 = [] then match (optS kUntil r).1 with
        | none => some ⟨n, x, 0⟩
        | some w => (numS w 1099511627776).map fun u => ⟨n, x, u⟩
      else none
  | _ => none
/-- what a line does -/
inductive Eff where
  | keep
  | al (b : Bool)
  | ru (r : Ru)
  | pn (x : Pn)
def Pol.app (p : Pol) : Eff → Pol
  | .keep => p
  | .al b => { p with al := b }
  | .ru r => { p with ru := p.ru ++ [r] }
  | .pn x => { p with pn := p.pn ++ [x] }
def effS : List (List UInt8) → Option Eff
  | [] => some .keep
  | w :: r =>
    if w.head? = some 35 then some .keep
    else if w = kDefault then (if r = [kAllow] then some (.al true) else if r = [kDeny] then some (.al false) else none)
    else if w = kAllow then (ruleS true r).map .ru
    else if w = kDeny then (ruleS false r).map .ru
    else if w = kPin then (pinS r).map .pn
    else none
/-- line by line: the policy, which line is wrong, why -/
def goP : List (List UInt8) → Nat → Pol → Pol × Nat × Int
  | [], _, p => (p, 0, 0)
  | l :: ls, k, p => match effS (wordsS l) with
    | none => (Pol.zero, k + 1, 3)
    | some e => if rightP (p.app e) ≠ 0 then (Pol.zero, k + 1, rightP (p.app e)) else goP ls (k + 1) (p.app e)
def parseP (s : List UInt8) : Pol × Nat × Int := goP (splitS 10 s) 0 Pol.zero

/-! line by line -/
theorem go_cons (l : List UInt8) (ls : List (List UInt8)) (k : Nat) (p : Pol) : goP (l :: ls) k p = match effS (wordsS l) with
    | none => (Pol.zero, k + 1, 3)
    | some e => if rightP (p.app e) ≠ 0 then (Pol.zero, k + 1, rightP (p.app e)) else goP ls (k + 1) (p.app e) := rfl
/-- one line, right or wrong -/
theorem go_cases (l : List UInt8) (ls : List (List UInt8)) (k : Nat) (p : Pol) :
    (∃ e, effS (wordsS l) = some e ∧ rightP (p.app e) = 0 ∧ goP (l :: ls) k p = goP ls (k + 1) (p.app e) ∧ ∀ ls' j, goP (l :: ls') j p = goP ls' (j + 1) (p.app e)) ∨
    (∃ c, c ≠ 0 ∧ ∀ ls' j, goP (l :: ls') j p = (Pol.zero, j + 1, c)) := by
  cases he : effS (wordsS l) with
  | none => exact .inr ⟨3, by decide, fun ls' j => by rw [go_cons, he]⟩
  | some e =>
    by_cases hr : rightP (p.app e) = 0
    · exact .inl ⟨e, rfl, hr, by rw [go_cons, he]; exact if_neg (by simp [hr]), fun ls' j => by rw [go_cons, he]; exact if_neg (by simp [hr])⟩
    · exact .inr ⟨_, hr, fun ls' j => by rw [go_cons, he]; exact if_pos hr⟩
theorem go_err : ∀ (ls : List (List UInt8)) (k : Nat) (p : Pol), (goP ls k p).2.2 ≠ 0 → (goP ls k p).1 = Pol.zero ∧ k < (goP ls k p).2.1 ∧ (goP ls k p).2.1 ≤ k + ls.length
  | [], k, p, h => absurd rfl h
  | l :: ls, k, p, h => by
    rcases go_cases l ls k p with ⟨e, _, _, h1, _⟩ | ⟨c, _, h1⟩
    · rw [h1] at h ⊢
      obtain ⟨a, b, d⟩ := go_err ls (k + 1) _ h
      exact ⟨a, by omega, by rw [List.length_cons]; omega⟩
    · rw [h1]
      exact ⟨rfl, Nat.lt_succ_self k, by rw [List.length_cons]; show k + 1 ≤ _; omega⟩
theorem go_ok : ∀ (ls : List (List UInt8)) (k : Nat) (p : Pol), rightP p = 0 → (goP ls k p).2.2 = 0 → (goP ls k p).2.1 = 0 ∧ rightP (goP ls k p).1 = 0
  | [], k, p, hp, _ => ⟨rfl, hp⟩
  | l :: ls, k, p, hp, h => by
    rcases go_cases l ls k p with ⟨e, _, hr, h1, _⟩ | ⟨c, hc, h1⟩
    · rw [h1] at h ⊢
      exact go_ok ls (k + 1) _ hr h
    · rw [h1] at h
      exact absurd h hc
theorem go_app : ∀ (l1 l2 : List (List UInt8)) (k : Nat) (p : Pol), goP (l1 ++ l2) k p = if (goP l1 k p).2.2 = 0 then goP l2 (k + l1.length) (goP l1 k p).1 else goP l1 k p
  | [], l2, k, p => by
    rw [List.nil_append, if_pos (show (goP [] k p).2.2 = 0 from rfl)]
    rfl
  | l :: l1, l2, k, p => by
    rw [List.cons_append]
    rcases go_cases l l1 k p with ⟨e, _, hr, h1, h2⟩ | ⟨c, hc, h1⟩
    · rw [h2, h1, go_app l1 l2 (k + 1) _, List.length_cons, show k + 1 + l1.length = k + (l1.length + 1) by omega]
    · rw [h1, h1, if_neg hc]
theorem go_shift : ∀ (ls : List (List UInt8)) (k j : Nat) (p : Pol), goP ls (k + j) p = if (goP ls k p).2.2 = 0 then goP ls k p else ((goP ls k p).1, (goP ls k p).2.1 + j, (goP ls k p).2.2)
  | [], k, j, p => by rw [if_pos (show (goP [] k p).2.2 = 0 from rfl)]; rfl
  | l :: ls, k, j, p => by
    rcases go_cases l ls k p with ⟨e, _, hr, h1, h2⟩ | ⟨c, hc, h1⟩
    · rw [h2, h1, show k + j + 1 = k + 1 + j by omega, go_shift ls (k + 1) j _]
    · rw [h1, h1, if_neg hc]
      show (Pol.zero, k + j + 1, c) = (Pol.zero, k + 1 + j, c)
      rw [show k + j + 1 = k + 1 + j by omega]
/-- a line that counts for nothing -/
theorem go_keep {l : List UInt8} (h : effS (wordsS l) = some .keep) (ls : List (List UInt8)) (k : Nat) {p : Pol} (hp : rightP p = 0) : goP (l :: ls) k p = goP ls (k + 1) p := by
  rw [go_cons, h]
  exact if_neg (by simp [Pol.app, hp])
/-- what lines bring -/
def Eff.rus : Eff → List Ru
  | .ru r => [r]
  | _ => []
def Eff.pns : Eff → List Pn
  | .pn x => [x]
  | _ => []
def ruOf (l : List UInt8) : List Ru := ((effS (wordsS l)).map Eff.rus).getD []
def pnOf (l : List UInt8) : List Pn := ((effS (wordsS l)).map Eff.pns).getD []
theorem go_rows : ∀ (ls : List (List UInt8)) (k : Nat) (p : Pol), (goP ls k p).2.2 = 0 → (goP ls k p).1.ru = p.ru ++ ls.flatMap ruOf ∧ (goP ls k p).1.pn = p.pn ++ ls.flatMap pnOf
  | [], k, p, _ => by simp [goP]
  | l :: ls, k, p, h => by
    rcases go_cases l ls k p with ⟨e, he, hr, h1, _⟩ | ⟨c, hc, h1⟩
    · rw [h1] at h ⊢
      obtain ⟨a, b⟩ := go_rows ls (k + 1) _ h
      rw [a, b, List.flatMap_cons, List.flatMap_cons]
      have e1 : ruOf l = e.rus := by unfold ruOf; rw [he]; rfl
      have e2 : pnOf l = e.pns := by unfold pnOf; rw [he]; rfl
      rw [e1, e2]
      cases e <;> simp [Pol.app, Eff.rus, Eff.pns]
    · rw [h1] at h
      exact absurd h hc

/-! texts, line by line -/
theorem split_appc (c : UInt8) : ∀ a b : List UInt8, splitS c (a ++ c :: b) = splitS c a ++ splitS c b
  | [], b => by show splitS c (c :: b) = [] :: splitS c b; rw [splitS, if_pos rfl]
  | x :: a, b => by
    have ih := split_appc c a b
    have hne := splitS_ne c a
    rw [List.cons_append, splitS, splitS, ih]
    by_cases hx : x = c
    · rw [if_pos hx, if_pos hx]; rfl
    · rw [if_neg hx, if_neg hx]
      cases hs : splitS c a with
      | nil => exact absurd hs hne
      | cons q t => rfl
/-- two texts, one behind the other, a line feed between -/
theorem parse_join (s t : List UInt8) : parseP (s ++ 10 :: t) = if (parseP s).2.2 = 0 then goP (splitS 10 t) (splitS 10 s).length (parseP s).1 else parseP s := by
  unfold parseP
  rw [split_appc, go_app, Nat.zero_add]
theorem split_le (c : UInt8) : ∀ l : List UInt8, (splitS c l).length ≤ l.length + 1
  | [] => Nat.le_refl _
  | x :: l => by
    have h := split_le c l
    rw [splitS]
    split
    · rw [List.length_cons, List.length_cons]; omega
    · rw [List.length_cons, List.length_tail, List.length_cons]; omega
theorem parse_err {s : List UInt8} (h : (parseP s).2.2 ≠ 0) : (parseP s).1 = Pol.zero ∧ 0 < (parseP s).2.1 ∧ (parseP s).2.1 ≤ s.length + 1 := by
  obtain ⟨a, b, c⟩ := go_err _ _ _ h
  have := split_le 10 s
  exact ⟨a, b, by unfold parseP; omega⟩
theorem parse_ok {s : List UInt8} (h : (parseP s).2.2 = 0) : (parseP s).2.1 = 0 ∧ rightP (parseP s).1 = 0 := go_ok _ _ _ right_zero h
/-- PolicyJoin's facts -/
theorem join_told {s t : List UInt8} (hg : (parseP (s ++ 10 :: t)).2.2 = 0) : (parseP s).2.2 = 0 ∧
    ((parseP t).2.2 = 0 → (parseP (s ++ 10 :: t)).1.ru = (parseP s).1.ru ++ (parseP t).1.ru ∧ (parseP (s ++ 10 :: t)).1.pn = (parseP s).1.pn ++ (parseP t).1.pn) := by
  rw [parse_join] at hg ⊢
  by_cases h : (parseP s).2.2 = 0
  · rw [if_pos h] at hg ⊢
    refine ⟨h, fun ht => ?_⟩
    obtain ⟨a, b⟩ := go_rows _ _ _ hg
    obtain ⟨c, d⟩ := go_rows (splitS 10 t) 0 Pol.zero ht
    rw [a, b]
    show _ = _ ++ (goP (splitS 10 t) 0 Pol.zero).1.ru ∧ _ = _ ++ (goP (splitS 10 t) 0 Pol.zero).1.pn
    rw [c, d]
    exact ⟨rfl, rfl⟩
  · rw [if_neg h] at hg
    exact absurd hg h
/-- one more line behind a text -/
theorem parse_last {s l : List UInt8} (hl : (10 : UInt8) ∉ l) {e : Eff} (he : effS (wordsS l) = some e) (h : (parseP s).2.2 = 0) (hr : rightP ((parseP s).1.app e) = 0) : parseP (s ++ 10 :: l) = ((parseP s).1.app e, 0, 0) := by
  rw [parse_join, if_pos h, splitS_free hl, go_cons, he]
  exact if_neg (by simp [hr])
theorem right_al (p : Pol) (b : Bool) : rightP { p with al := b } = rightP p := rfl
/-- PolicyDefault's fact -/
theorem default_told {s : List UInt8} (h : (parseP s).2.2 = 0) (b : Bool) : parseP (s ++ 10 :: (32 :: kDefault ++ [32, 32] ++ (if b = true then kAllow else kDeny) ++ [9])) = ({ (parseP s).1 with al := b }, 0, 0) := by
  have hr := (parse_ok h).2
  cases b
  · exact parse_last (by decide) (e := .al false) rfl h hr
  · exact parse_last (by decide) (e := .al true) rfl h hr
/-- PolicyLines' facts: comments and blanks around a text -/
theorem lines_told (s : List UInt8) : parseP ([35, 32, 97, 10, 9, 10] ++ s ++ [10, 32, 35, 98]) = if (parseP s).2.2 = 0 then parseP s else ((parseP s).1, (parseP s).2.1 + 2, (parseP s).2.2) := by
  have e : [35, 32, 97, 10, 9, 10] ++ s ++ [10, 32, 35, 98] = ([35, 32, 97] : List UInt8) ++ 10 :: ([9] ++ 10 :: (s ++ 10 :: [32, 35, 98])) := by simp
  rw [e]
  unfold parseP
  rw [split_appc, split_appc, split_appc, show splitS 10 [35, 32, 97] = [[35, 32, 97]] from rfl, show splitS 10 [9] = [[9]] from rfl, show splitS 10 [32, 35, 98] = [[32, 35, 98]] from rfl, List.singleton_append, List.singleton_append, go_keep rfl _ _ right_zero, go_keep rfl _ _ right_zero, go_app, go_shift _ 0 2]
  by_cases h : (goP (splitS 10 s) 0 Pol.zero).2.2 = 0
  · rw [if_pos h, if_pos h]
    obtain ⟨h1, h2⟩ := go_ok _ _ _ right_zero h
    rw [go_keep rfl _ _ h2]
    show ((goP (splitS 10 s) 0 Pol.zero).1, 0, 0) = _
    revert h h1
    generalize goP (splitS 10 s) 0 Pol.zero = q
    obtain ⟨a, b, c⟩ := q
    rintro rfl rfl
    rfl
  · rw [if_neg h, if_neg h]
theorem more_told (s t : List UInt8) : if (parseP s).2.2 = 0 then ((parseP (s ++ 10 :: t)).2.2 = 0 ↔ (parseP (s ++ 10 :: t)).2.1 = 0) else parseP (s ++ 10 :: t) = parseP s := by
  by_cases h : (parseP s).2.2 = 0
  · rw [if_pos h]
    constructor
    · exact fun hg => (parse_ok hg).1
    · intro hk
      by_cases hg : (parseP (s ++ 10 :: t)).2.2 = 0
      · exact hg
      · have := (parse_err hg).2.1
        omega
  · rw [if_neg h, parse_join, if_neg h]
end Go.Proofs.YtlpondbcnfaggaaGreatDoor.Po
