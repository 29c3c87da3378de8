/-
  Rules, in plain words: patterns, what they match, what they weigh, which rule counts; what follows of it. No condition.
-/
import Derived.Test.YtlpondbcnfaggaaGreatDoorQ09
import Derived.Test.YtlpondbcnfaggaaGreatDoorQ01
import Derived.Test.YtlpondbcnfaggaaGreatDoorQ02
import Derived.Lib.Strings
import Derived.Laws.Small
namespace Go.Proofs.YtlpondbcnfaggaaGreatDoor.Tr
open Go Go.Proofs.YtlpondbcnfaggaaGreatDoor.Asc Go.Proofs.YtlpondbcnfaggaaGreatDoor.Ad Go.Proofs.YtlpondbcnfaggaaGreatDoor.Nm

/-! a text that ends with a name is no text of an address -/
theorem dotR_tail (l : List UInt8) {n : List UInt8} (h : digS (Nm.lastS n) = false) : dotR (l ++ 46 :: n) = none := by
  unfold dotR
  split
  · cases hn : numsS (splitS 46 (l ++ 46 :: n)) with
    | none => rfl
    | some b =>
      have h1 := nums_all hn _ (lastS_mem _)
      rw [last_app] at h1
      rw [h1] at h; cases h
  · rfl
theorem split_tail (l : List UInt8) : ∀ (k : Nat) (m : List UInt8), m.length = k → (58 : UInt8) ∉ m → ∃ x, (splitS 58 (l ++ m)).getLastD [] = x ++ m
  | 0, m, hk, _ => ⟨(splitS 58 l).getLastD [], by rw [List.eq_nil_of_length_eq_zero hk]; simp⟩
  | k + 1, m, hk, hm => by
    have hne : m ≠ [] := by rintro rfl; simp at hk
    obtain ⟨a, c, rfl⟩ : ∃ a c, m = a ++ [c] := ⟨m.dropLast, m.getLast hne, (List.dropLast_concat_getLast hne).symm⟩
    have hc : c ≠ 58 := by rintro rfl; exact hm (by simp)
    obtain ⟨x, hx⟩ := split_tail l k a (by simp at hk; exact hk) (fun h => hm (by simp [h]))
    refine ⟨x, ?_⟩
    rw [← List.append_assoc, splitS_snoc, if_neg hc, List.getLastD_eq_getLast?, List.getLast?_append, List.getLast?_singleton, Option.some_or, Option.getD_some, hx, List.append_assoc]
theorem groups_tail (l : List UInt8) (last : Bool) {n : List UInt8} (h : Fit n) : groupsR (l ++ 46 :: n) last = none := by
  unfold groupsR
  rw [if_neg (by simp)]
  have hm : (58 : UInt8) ∉ 46 :: n := fun h1 => by
    rcases List.mem_cons.1 h1 with h1 | h1
    · exact absurd h1 (by decide)
    · exact h.free h1
  obtain ⟨x, hx⟩ := split_tail l _ (46 :: n) rfl hm
  have hne := splitS_ne 58 (l ++ 46 :: n)
  have hmem : x ++ 46 :: n ∈ splitS 58 (l ++ 46 :: n) := by
    rw [← hx, List.getLastD_eq_getLast?, List.getLast?_eq_some_getLast hne]
    exact List.getLast_mem hne
  exact grps_bad last (hex_bad (by simp)) (dotR_tail _ h.dig) hmem
theorem parse_tail (l : List UInt8) {n : List UInt8} (h : Fit n) : Ad.parseS (l ++ 46 :: n) = none := by
  have hd := dotR_tail l h.dig
  rcases occ_cases (l ++ 46 :: n) with h0 | ⟨j, h1, h2⟩ | ⟨j, k, h1, h2, h3, h4⟩
  · rw [parse_plain hd h0, groups_tail _ _ h]; rfl
  · rw [parse_short h1 h2]
    have hj : j + 2 ≤ l.length := by
      have e := (occ_is h1).2
      rcases Nat.lt_or_ge (j + 1) l.length with h5 | h5
      · omega
      · rw [List.getElem?_append_right h5] at e
        have hm := List.mem_of_getElem? e
        rcases List.mem_cons.1 hm with h6 | h6
        · exact absurd h6 (by decide)
        · exact absurd h6 h.free
    rw [List.drop_append_of_le_length hj, groups_tail _ _ h]
    cases groupsR (List.take j (l ++ 46 :: n)) false <;> rfl
  · exact parse_twice h1 h2 h3 h4

/-- a rule -/
structure Ru where
  al : Bool
  pr : Int
  pa : List UInt8
  po : Int
  ap : List UInt8
deriving DecidableEq
def Ru.zero : Ru := ⟨false, 0, [], 0, []⟩
def nameB (s : List UInt8) : Bool := decide (normalS s = (s, 0))
/-- what a pattern is: 0 all, 1 wild, 2 a name, 3 none; and its name -/
def cutP (p : List UInt8) : Nat × List UInt8 :=
  if p = [42] then (0, [])
  else if 2 < p.length ∧ p.take 2 = [42, 46] then (if (Ad.parseS (p.drop 2)).isSome = true ∨ nameB (p.drop 2) = false then (3, []) else (1, p.drop 2))
  else if nameB p = true then (2, p) else (3, [])
def endB (n h : List UInt8) : Bool := decide (n.length < h.length) && decide (h.drop (h.length - n.length) = n) && decide (h[h.length - n.length - 1]? = some 46)
def matchB (p h : List UInt8) : Bool :=
  if (cutP p).1 = 0 then true else if (cutP p).1 = 1 then endB (cutP p).2 h else if (cutP p).1 = 2 then decide (h = (cutP p).2) else false
def weightP (p : List UInt8) : Nat := if (cutP p).1 = 0 then 0 else 2 * (labelsS (cutP p).2).length + (cutP p).1 - 1
def rightS (r : Ru) : Int :=
  if r.pr < -1000 ∨ 1000 < r.pr then 1 else if (cutP r.pa).1 = 3 then 9 else if r.po < 0 ∨ 65535 < r.po then 10
  else if (r.ap ≠ [] ∧ allS visI r.ap = false) ∨ 255 < r.ap.length then 1 else 0
/-- they differ in nothing but Allow -/
def twinB (a b : Ru) : Bool := decide (a.pr = b.pr) && decide (a.pa = b.pa) && decide (a.po = b.po) && decide (a.ap = b.ap)
def addE (L : List Ru) (r : Ru) : Int := if rightS r ≠ 0 then rightS r else if 200 ≤ L.length then 2 else if L.any (twinB r) then 7 else 0
def addS (L : List Ru) (r : Ru) : List Ru := if addE L r = 0 then L ++ [r] else L
def countB (r : Ru) (h : List UInt8) (port : Int) (alpn : List (List UInt8)) : Bool := matchB r.pa h && (decide (r.ap = []) || alpn.any fun a => decide (a = r.ap)) && (decide (r.po = 0) || decide (r.po = port))
def lt (a b : Ru) : Prop := a.pr < b.pr ∨ (a.pr = b.pr ∧ weightP a.pa < weightP b.pa)
instance (a b : Ru) : Decidable (lt a b) := by unfold lt; exact inferInstance
/-- the best of rules for which C holds, behind k rules of which o is the best -/
def bestS (C : Ru → Bool) : List Ru → Nat → Option (Ru × Nat) → Option (Ru × Nat)
  | [], _, o => o
  | r :: rs, k, o => bestS C rs (k + 1) (if C r = true ∧ (∀ x ∈ o, lt x.1 r) then some (r, k) else o)
def findS (L : List Ru) (h : List UInt8) (port : Int) (alpn : List (List UInt8)) : Option (Ru × Nat) := bestS (fun r => countB r h port alpn) L 0 none

/-! patterns -/
theorem cut_cases (p : List UInt8) : (p = [42] ∧ cutP p = (0, [])) ∨ (∃ n, p = 42 :: 46 :: n ∧ Ad.parseS n = none ∧ normalS n = (n, 0) ∧ Fit n ∧ cutP p = (1, n)) ∨ (p ≠ [42] ∧ normalS p = (p, 0) ∧ cutP p = (2, p)) ∨ cutP p = (3, []) := by
  unfold cutP
  by_cases h0 : p = [42]
  · exact .inl ⟨h0, by rw [if_pos h0]⟩
  rw [if_neg h0]
  by_cases h1 : 2 < p.length ∧ p.take 2 = [42, 46]
  · rw [if_pos h1]
    by_cases h2 : (Ad.parseS (p.drop 2)).isSome = true ∨ nameB (p.drop 2) = false
    · exact .inr (.inr (.inr (by rw [if_pos h2])))
    · rw [if_neg h2]
      have h3 : Ad.parseS (p.drop 2) = none := by
        cases hp : Ad.parseS (p.drop 2) with
        | none => rfl
        | some a => exact absurd (.inl (by rw [hp]; rfl)) h2
      have h4 : normalS (p.drop 2) = (p.drop 2, 0) := by
        by_cases h5 : nameB (p.drop 2) = false
        · exact absurd (.inr h5) h2
        · unfold nameB at h5
          simpa using h5
      refine .inr (.inl ⟨p.drop 2, ?_, h3, h4, ?_, rfl⟩)
      · have := List.take_append_drop 2 p
        rw [h1.2] at this
        exact this.symm
      · rcases normal_is h4 with ⟨a, h5, _, _⟩ | ⟨_, _, h5, _, _⟩
        · rw [h3] at h5; cases h5
        · exact h5
  · rw [if_neg h1]
    by_cases h2 : nameB p = true
    · rw [if_pos h2]
      unfold nameB at h2
      exact .inr (.inr (.inl ⟨h0, by simpa using h2, rfl⟩))
    · rw [if_neg h2]
      exact .inr (.inr (.inr rfl))
theorem end_is {n h : List UInt8} (he : endB n h = true) : ∃ a, h = a ++ 46 :: n := by
  unfold endB at he
  simp only [Bool.and_eq_true, decide_eq_true_eq] at he
  obtain ⟨⟨h1, h2⟩, h3⟩ := he
  refine ⟨h.take (h.length - n.length - 1), ?_⟩
  have h4 : h.drop (h.length - n.length - 1) = 46 :: n := by
    have h5 := List.drop_eq_getElem_cons (l := h) (i := h.length - n.length - 1) (by omega)
    rw [h5, show h.length - n.length - 1 + 1 = h.length - n.length by omega, h2]
    congr 1
    have := (List.getElem?_eq_some_iff.1 h3).2
    exact this
  rw [← h4, List.take_append_drop]
theorem is_end (a n : List UInt8) : endB n (a ++ 46 :: n) = true := by
  unfold endB
  have hl : (a ++ 46 :: n).length = a.length + 1 + n.length := by rw [List.length_append, List.length_cons]; omega
  simp only [Bool.and_eq_true, decide_eq_true_eq]
  refine ⟨⟨by omega, ?_⟩, ?_⟩
  · rw [show (a ++ 46 :: n).length - n.length = a.length + 1 by omega, show a ++ 46 :: n = (a ++ [46]) ++ n by simp, show a.length + 1 = (a ++ [46]).length by simp, List.drop_left]
  · rw [show (a ++ 46 :: n).length - n.length - 1 = a.length by omega, List.getElem?_append_right (Nat.le_refl _)]
    simp
theorem labels_fit {n : List UInt8} (h : Fit n) : labelsS n = (splitS 46 n).reverse := by unfold labelsS; rw [h.none]; rfl
theorem labels_pos (n : List UInt8) : 1 ≤ (labelsS n).length := by
  unfold labelsS
  split
  · exact Nat.le_refl _
  · rw [List.length_reverse]
    exact List.length_pos_iff.2 (splitS_ne 46 n)
theorem labels_more {a n : List UInt8} (h : Fit n) : (labelsS n).length < (labelsS (a ++ 46 :: n)).length := by
  rw [labels_fit h]
  unfold labelsS
  rw [parse_tail a h]
  show _ < (splitS 46 (a ++ 46 :: n)).reverse.length
  rw [List.length_reverse, List.length_reverse, split_app, List.length_append]
  have := List.length_pos_iff.2 (splitS_ne 46 a)
  omega
/-- of two patterns that match one host the one that weighs no more is not much longer -/
theorem weight_len {p q h : List UInt8} (hp : matchB p h = true) (hq : matchB q h = true) (hw : weightP q ≤ weightP p) : q.length ≤ p.length + 1 := by
  unfold matchB at hp hq
  unfold weightP at hw
  rcases cut_cases q with ⟨e1, c1⟩ | ⟨n, e1, _, _, f1, c1⟩ | ⟨e1, _, c1⟩ | c1
  · rw [e1]; simp
  · have hl := labels_pos n
    rw [c1] at hq hw
    simp only [if_neg (show ¬ (1 : Nat) = 0 by decide), if_pos] at hq hw
    obtain ⟨a, ha⟩ := end_is hq
    rcases cut_cases p with ⟨e2, c2⟩ | ⟨m, e2, _, _, f2, c2⟩ | ⟨e2, _, c2⟩ | c2
    · rw [c2] at hw
      simp only [if_pos] at hw
      omega
    · rw [c2] at hp hw
      simp only [if_neg (show ¬ (1 : Nat) = 0 by decide), if_pos] at hp hw
      obtain ⟨b, hb⟩ := end_is hp
      rw [e1, e2]
      simp only [List.length_cons]
      rcases Nat.lt_or_ge m.length n.length with hlt | hge
      · exfalso
        have s1 : (46 :: m) <:+ h := ⟨b, hb.symm⟩
        have s2 : n <:+ h := ⟨a ++ [46], by rw [ha]; simp⟩
        obtain ⟨c, hc⟩ := List.suffix_of_suffix_length_le s1 s2 (by simp; omega)
        have := labels_more (a := c) f2
        rw [hc] at this
        omega
      · omega
    · rw [c2] at hp
      simp only [if_neg (show ¬ (2 : Nat) = 0 by decide), if_neg (show ¬ (2 : Nat) = 1 by decide), if_pos, decide_eq_true_eq] at hp
      rw [← hp, ha, e1]
      simp
    · rw [c2] at hp
      simp at hp
  · rw [c1] at hq hw
    simp only [if_neg (show ¬ (2 : Nat) = 0 by decide), if_neg (show ¬ (2 : Nat) = 1 by decide), if_pos, decide_eq_true_eq] at hq hw
    have hl := labels_pos q
    rcases cut_cases p with ⟨e2, c2⟩ | ⟨m, e2, _, _, f2, c2⟩ | ⟨e2, _, c2⟩ | c2
    · rw [c2] at hw
      simp only [if_pos] at hw
      omega
    · rw [c2] at hp hw
      simp only [if_neg (show ¬ (1 : Nat) = 0 by decide), if_pos] at hp hw
      obtain ⟨b, hb⟩ := end_is hp
      have := labels_more (a := b) f2
      rw [← hb, hq] at this
      omega
    · rw [c2] at hp
      simp only [if_neg (show ¬ (2 : Nat) = 0 by decide), if_neg (show ¬ (2 : Nat) = 1 by decide), if_pos, decide_eq_true_eq] at hp
      rw [← hp, hq]
      omega
    · rw [c2] at hp
      simp at hp
  · rw [c1] at hq
    simp at hq
/-- of two patterns that match one host and weigh the same each is the other -/
theorem weight_same {p q h : List UInt8} (hp : matchB p h = true) (hq : matchB q h = true) (hw : weightP q = weightP p) : q = p := by
  unfold matchB at hp hq
  unfold weightP at hw
  rcases cut_cases q with ⟨e1, c1⟩ | ⟨n, e1, _, _, f1, c1⟩ | ⟨e1, _, c1⟩ | c1
  · rw [c1] at hw
    rcases cut_cases p with ⟨e2, c2⟩ | ⟨m, e2, _, _, f2, c2⟩ | ⟨e2, _, c2⟩ | c2
    · rw [e1, e2]
    · have := labels_pos m
      rw [c2] at hw
      simp at hw
      omega
    · have := labels_pos p
      rw [c2] at hw
      simp at hw
    · rw [c2] at hp
      simp at hp
  · have hl := labels_pos n
    rw [c1] at hq hw
    simp only [if_neg (show ¬ (1 : Nat) = 0 by decide), if_pos] at hq hw
    obtain ⟨a, ha⟩ := end_is hq
    rcases cut_cases p with ⟨e2, c2⟩ | ⟨m, e2, _, _, f2, c2⟩ | ⟨e2, _, c2⟩ | c2
    · rw [c2] at hw
      simp only [if_pos] at hw
      omega
    · rw [c2] at hp hw
      simp only [if_neg (show ¬ (1 : Nat) = 0 by decide), if_pos] at hp hw
      obtain ⟨b, hb⟩ := end_is hp
      have s1 : (46 :: m) <:+ h := ⟨b, hb.symm⟩
      have s2 : (46 :: n) <:+ h := ⟨a, ha.symm⟩
      rcases Nat.lt_trichotomy m.length n.length with hlt | heq | hgt
      · exfalso
        obtain ⟨c, hc⟩ := List.suffix_of_suffix_length_le s1 (show n <:+ h from ⟨a ++ [46], by rw [ha]; simp⟩) (by simp; omega)
        have := labels_more (a := c) f2
        rw [hc] at this
        omega
      · have h1 := List.suffix_of_suffix_length_le s1 s2 (by simp; omega)
        have h2 := h1.eq_of_length (by simp; omega)
        injection h2 with _ h2
        rw [e1, e2, h2]
      · exfalso
        obtain ⟨c, hc⟩ := List.suffix_of_suffix_length_le s2 (show m <:+ h from ⟨b ++ [46], by rw [hb]; simp⟩) (by simp; omega)
        have := labels_more (a := c) f1
        rw [hc] at this
        omega
    · rw [c2] at hw
      simp only [if_neg (show ¬ (2 : Nat) = 0 by decide)] at hw
      omega
    · rw [c2] at hp
      simp at hp
  · rw [c1] at hq hw
    simp only [if_neg (show ¬ (2 : Nat) = 0 by decide), if_neg (show ¬ (2 : Nat) = 1 by decide), if_pos, decide_eq_true_eq] at hq hw
    have hl := labels_pos q
    rcases cut_cases p with ⟨e2, c2⟩ | ⟨m, e2, _, _, f2, c2⟩ | ⟨e2, _, c2⟩ | c2
    · rw [c2] at hw
      simp only [if_pos] at hw
      omega
    · rw [c2] at hw
      simp only [if_neg (show ¬ (1 : Nat) = 0 by decide)] at hw
      omega
    · rw [c2] at hp
      simp only [if_neg (show ¬ (2 : Nat) = 0 by decide), if_neg (show ¬ (2 : Nat) = 1 by decide), if_pos, decide_eq_true_eq] at hp
      rw [← hp, hq]
    · rw [c2] at hp
      simp at hp
  · rw [c1] at hq
    simp at hq

/-! the best -/
theorem best_some (C : Ru → Bool) : ∀ (L : List Ru) (k : Nat) (o : Option (Ru × Nat)), (∀ z m, o = some (z, m) → m < k) → ∀ x i, bestS C L k o = some (x, i) →
    (o = some (x, i) ∨ (k ≤ i ∧ L[i - k]? = some x ∧ C x = true)) ∧ (∀ j y, L[j]? = some y → C y = true → ¬ lt x y ∧ (j + k < i → lt y x)) ∧ (∀ z m, o = some (z, m) → (z, m) = (x, i) ∨ lt z x)
  | [], k, o, ho, x, i, h => by
    refine ⟨.inl h, fun j y hj => by simp at hj, fun z m hz => .inl ?_⟩
    rw [bestS] at h
    rw [h] at hz
    injection hz with hz
    exact hz.symm
  | r :: rs, k, o, ho, x, i, h => by
    rw [bestS] at h
    by_cases hc : C r = true ∧ (∀ x ∈ o, lt x.1 r)
    · rw [if_pos hc] at h
      obtain ⟨a1, a2, a3⟩ := best_some C rs (k + 1) (some (r, k)) (fun z m hz => by injection hz with hz; injection hz with _ hz; omega) x i h
      have h3 := a3 r k rfl
      have hrx : ¬ lt x r ∧ (k < i → lt r x) := by
        rcases h3 with h3 | h3
        · injection h3 with e1 e2
          subst e1 e2
          exact ⟨fun h => by unfold lt at h; omega, fun h => absurd h (Nat.lt_irrefl _)⟩
        · exact ⟨fun h => by unfold lt at h h3; omega, fun _ => h3⟩
      refine ⟨.inr ?_, fun j y hj hy => ?_, fun z m hz => .inr ?_⟩
      · rcases a1 with a1 | ⟨b1, b2, b3⟩
        · injection a1 with a1
          injection a1 with e1 e2
          subst e1 e2
          exact ⟨Nat.le_refl _, by simp, hc.1⟩
        · refine ⟨by omega, ?_, b3⟩
          rw [show i - k = (i - (k + 1)) + 1 by omega, List.getElem?_cons_succ]
          exact b2
      · cases j with
        | zero =>
          simp at hj
          subst hj
          exact ⟨hrx.1, fun h => hrx.2 (by omega)⟩
        | succ j =>
          obtain ⟨q1, q2⟩ := a2 j y (by simpa using hj) hy
          exact ⟨q1, fun h => q2 (by omega)⟩
      · have hz1 := hc.2 (z, m) hz
        rcases h3 with h3 | h3
        · injection h3 with e1 e2
          subst e1
          exact hz1
        · unfold lt at hz1 h3 ⊢
          simp only at hz1
          omega
    · rw [if_neg hc] at h
      obtain ⟨a1, a2, a3⟩ := best_some C rs (k + 1) o (fun z m hz => by have := ho z m hz; omega) x i h
      refine ⟨?_, fun j y hj hy => ?_, a3⟩
      · rcases a1 with a1 | ⟨b1, b2, b3⟩
        · exact .inl a1
        · refine .inr ⟨by omega, ?_, b3⟩
          rw [show i - k = (i - (k + 1)) + 1 by omega, List.getElem?_cons_succ]
          exact b2
      · cases j with
        | zero =>
          simp at hj
          subst hj
          have hn : ∃ z m, o = some (z, m) ∧ ¬ lt z r := by
            rcases o with _ | ⟨z, m⟩
            · exact absurd ⟨hy, fun x hx => by cases hx⟩ hc
            · by_cases hz : lt z r
              · exact absurd ⟨hy, fun x hx => by injection hx with hx; rw [← hx]; exact hz⟩ hc
              · exact ⟨z, m, rfl, hz⟩
          obtain ⟨z, m, rfl, hz⟩ := hn
          have hm := ho z m rfl
          rcases a3 z m rfl with h3 | h3
          · injection h3 with e1 e2
            subst e1 e2
            exact ⟨hz, fun h => by omega⟩
          · unfold lt at hz h3 ⊢
            exact ⟨by omega, fun _ => by omega⟩
        | succ j =>
          obtain ⟨q1, q2⟩ := a2 j y (by simpa using hj) hy
          exact ⟨q1, fun h => q2 (by omega)⟩
theorem best_none (C : Ru → Bool) : ∀ (L : List Ru) (k : Nat) (o : Option (Ru × Nat)), bestS C L k o = none → o = none ∧ ∀ y ∈ L, C y = false
  | [], k, o, h => ⟨h, fun y hy => by cases hy⟩
  | r :: rs, k, o, h => by
    rw [bestS] at h
    obtain ⟨h1, h2⟩ := best_none C rs (k + 1) _ h
    split at h1
    · cases h1
    · rename_i hc
      refine ⟨h1, fun y hy => ?_⟩
      rcases List.mem_cons.1 hy with rfl | hy
      · cases hy2 : C y with
        | false => rfl
        | true => exact absurd ⟨hy2, fun x hx => by rw [h1] at hx; cases hx⟩ hc
      · exact h2 y hy
end Go.Proofs.YtlpondbcnfaggaaGreatDoor.Tr

/-
  A rule as it lies in memory, and '==' of two of them; rules that a slice leads to. Plain lemmas, no condition.
-/
namespace Go.Proofs.YtlpondbcnfaggaaGreatDoor.Tr
open Go.RowKit Go.Proofs.YtlpondbcnfaggaaGreatDoor.Wd Go.Proofs.YtlpondbcnfaggaaGreatDoor.Asc Go.Proofs.YtlpondbcnfaggaaGreatDoor.Tx Go.Proofs.YtlpondbcnfaggaaGreatDoor.St

/-- its cells -/
def ruC (r : Ru) : Array Value := #[.bool r.al, .int .i64 r.pr, .string (str r.pa), .int .i64 r.po, .string (str r.ap)]
theorem undU : Tryz.prog.underlying 23 = some (.struct (Tryz.prog.fieldsOf 23)) := by kernel_rfl
theorem infU : (Tryz.prog.info? 23).map (·.size) = some 5 := by kernel_rfl
theorem ruC_one (r : Ru) : (ruC r).all (·.oneCell') = true := by simp [ruC, Value.oneCell']
theorem ruC_size (r : Ru) : (ruC r).size = 5 := rfl
theorem fieldsU : ∃ f0 f1 f2 f3 f4 : Field, (Tryz.prog.fieldsOf 23).toList = [f0, f1, f2, f3, f4] ∧ (f0.type = 4 ∧ f0.offset = 0 ∧ f0.name ≠ "_") ∧ (f1.type = 3 ∧ f1.offset = 1 ∧ f1.name ≠ "_") ∧ (f2.type = 9 ∧ f2.offset = 2 ∧ f2.name ≠ "_") ∧ (f3.type = 3 ∧ f3.offset = 3 ∧ f3.name ≠ "_") ∧ (f4.type = 9 ∧ f4.offset = 4 ∧ f4.name ≠ "_") := by
  simp only [Program.fieldsOf, Tryz.underlying23]
  exact ⟨_, _, _, _, _, rfl, ⟨rfl, rfl, by decide⟩, ⟨rfl, rfl, by decide⟩, ⟨rfl, rfl, by decide⟩, ⟨rfl, rfl, by decide⟩, ⟨rfl, rfl, by decide⟩⟩
theorem stoodU : Tryz.prog.stoodInHeld 23 = false := by kernel_rfl
theorem str_beq (a b : List UInt8) : ((str a).toList == (str b).toList) = decide (a = b) := by
  rw [Lib.toList_data, Lib.toList_data]
  show (a == b) = _
  by_cases h : a = b
  · rw [h]; simp
  · rw [decide_eq_false h, beq_eq_false_iff_ne]; exact h
theorem ru_is (r q : Ru) : decide (r = q) = (decide (r.al = q.al) && (decide (r.pr = q.pr) && (decide (r.pa = q.pa) && (decide (r.po = q.po) && decide (r.ap = q.ap))))) := by
  obtain ⟨a, b, c, d, e⟩ := r
  obtain ⟨a', b', c', d', e'⟩ := q
  rw [Bool.eq_iff_iff]
  simp
theorem eqf_cons (k : Nat) (cs ds : Array Value) (f : Field) (fs : List Field) (u v : Value) (b : Bool) (w : World) (hn : f.name ≠ "_") (a1 : (part f.type cs f.offset).run Tryz.prog w = .ok u w)
    (a2 : (part f.type ds f.offset).run Tryz.prog w = .ok v w) (a3 : (Op.equalIn k f.type u v).run Tryz.prog w = .ok b w) :
    (Op.eqFields k cs ds (f :: fs)).run Tryz.prog w = if b then (Op.eqFields k cs ds fs).run Tryz.prog w else .ok false w := by
  simp only [Op.eqFields, hn, ne_eq, not_false_eq_true, if_true, Sem.run_bind, a1, a2, a3, Result.andThen_ok]
  cases b <;> simp
theorem eqf_nil (k : Nat) (cs ds : Array Value) (w : World) : (Op.eqFields k cs ds []).run Tryz.prog w = .ok true w := by simp [Op.eqFields]
theorem part_s (f : Field) (cs : Array Value) (v : Value) (w : World) (i : Nat) (h : f.type = 9 ∧ f.offset = i ∧ f.name ≠ "_") (hv : cs[i]? = some v) : (part f.type cs f.offset).run Tryz.prog w = .ok v w := by
  rw [h.1, h.2.1]; exact run_part_plain w (by kernel_rfl) hv
theorem part_i (f : Field) (cs : Array Value) (v : Value) (w : World) (i : Nat) (h : f.type = 3 ∧ f.offset = i ∧ f.name ≠ "_") (hv : cs[i]? = some v) : (part f.type cs f.offset).run Tryz.prog w = .ok v w := by
  rw [h.1, h.2.1]; exact run_part_plain w (by kernel_rfl) hv
theorem part_b (f : Field) (cs : Array Value) (v : Value) (w : World) (i : Nat) (h : f.type = 4 ∧ f.offset = i ∧ f.name ≠ "_") (hv : cs[i]? = some v) : (part f.type cs f.offset).run Tryz.prog w = .ok v w := by
  rw [h.1, h.2.1]; exact run_part_plain w (by kernel_rfl) hv
theorem eqs_ (k : Nat) (f : Field) (a b : List UInt8) (w : World) {i : Nat} (h : f.type = 9 ∧ f.offset = i ∧ f.name ≠ "_") : (Op.equalIn (k + 1) f.type (.string (str a)) (.string (str b))).run Tryz.prog w = .ok (decide (a = b)) w := by
  rw [h.1, ← str_beq]; exact run_equalIn_string w k _ _ _ Tryz.underlying9
theorem eqi_ (k : Nat) (f : Field) (a b : Int) (w : World) {i : Nat} (h : f.type = 3 ∧ f.offset = i ∧ f.name ≠ "_") : (Op.equalIn (k + 1) f.type (.int .i64 a) (.int .i64 b)).run Tryz.prog w = .ok (decide (a = b)) w := by
  rw [h.1, show decide (a = b) = (a == b) from by by_cases e : a = b <;> simp [e]]
  exact run_equalIn_int w k _ .i64 .i64 _ _ Tryz.underlying3
theorem eqb_ (k : Nat) (f : Field) (a b : Bool) (w : World) {i : Nat} (h : f.type = 4 ∧ f.offset = i ∧ f.name ≠ "_") : (Op.equalIn (k + 1) f.type (.bool a) (.bool b)).run Tryz.prog w = .ok (decide (a = b)) w := by
  rw [h.1, show decide (a = b) = (a == b) from by cases a <;> cases b <;> rfl]
  exact run_equalIn_bool w k _ _ _ Tryz.underlying4
theorem if_run (b x : Bool) (w : World) : (if b then (Result.ok x w : Result Bool) else .ok false w) = .ok (b && x) w := by cases b <;> rfl
theorem eqInU (k : Nat) (r q : Ru) (w : World) : (Op.equalIn (k + 2) 23 (.agg (ruC r)) (.agg (ruC q))).run Tryz.prog w = .ok (decide (r = q)) w := by
  obtain ⟨f0, f1, f2, f3, f4, hfs, h0, h1, h2, h3, h4⟩ := fieldsU
  rw [run_equalIn_struct w (k + 1) _ _ _ undU stoodU, hfs, ru_is]
  rw [eqf_cons (k + 1) (ruC r) (ruC q) f0 _ _ _ _ w h0.2.2 (part_b f0 (ruC r) (.bool r.al) w 0 h0 rfl) (part_b f0 (ruC q) (.bool q.al) w 0 h0 rfl) (eqb_ k f0 r.al q.al w h0)]
  rw [eqf_cons (k + 1) (ruC r) (ruC q) f1 _ _ _ _ w h1.2.2 (part_i f1 (ruC r) (.int .i64 r.pr) w 1 h1 rfl) (part_i f1 (ruC q) (.int .i64 q.pr) w 1 h1 rfl) (eqi_ k f1 r.pr q.pr w h1)]
  rw [eqf_cons (k + 1) (ruC r) (ruC q) f2 _ _ _ _ w h2.2.2 (part_s f2 (ruC r) (.string (str r.pa)) w 2 h2 rfl) (part_s f2 (ruC q) (.string (str q.pa)) w 2 h2 rfl) (eqs_ k f2 r.pa q.pa w h2)]
  rw [eqf_cons (k + 1) (ruC r) (ruC q) f3 _ _ _ _ w h3.2.2 (part_i f3 (ruC r) (.int .i64 r.po) w 3 h3 rfl) (part_i f3 (ruC q) (.int .i64 q.po) w 3 h3 rfl) (eqi_ k f3 r.po q.po w h3)]
  rw [eqf_cons (k + 1) (ruC r) (ruC q) f4 _ _ _ _ w h4.2.2 (part_s f4 (ruC r) (.string (str r.ap)) w 4 h4 rfl) (part_s f4 (ruC q) (.string (str q.ap)) w 4 h4 rfl) (eqs_ k f4 r.ap q.ap w h4)]
  rw [eqf_nil, if_run, if_run, if_run, if_run, if_run, Bool.and_true]
theorem eqInUn (n : Nat) (h : 2 ≤ n) (r q : Ru) (w : World) : (Op.equalIn n 23 (.agg (ruC r)) (.agg (ruC q))).run Tryz.prog w = .ok (decide (r = q)) w := by
  obtain ⟨k, rfl⟩ : ∃ k, n = k + 2 := ⟨n - 2, by omega⟩
  exact eqInU k r q w
/-- '==' of two rules -/
theorem eqlU (r q : Ru) (w : World) : (binOp .eql 23 (.agg (ruC r)) (.agg (ruC q))).run Tryz.prog w = .ok (.bool (decide (r = q))) w := by
  rw [run_eql_struct, eqInUn _ (by omega) r q w, Result.andThen_ok]
/-- '!=' of two rules -/
theorem neqU (r q : Ru) (w : World) : (binOp .neq 23 (.agg (ruC r)) (.agg (ruC q))).run Tryz.prog w = .ok (.bool (!decide (r = q))) w := by
  rw [run_neq_struct, eqInUn _ (by omega) r q w, Result.andThen_ok]
theorem grdU : Tryz.prog.eqGuardType Tryz.prog.depth 23 = false := by kernel_rfl
theorem go_neqU {ops : Array Oper} {rest : List Oper} {o : Oper} {a : Act} {w : World} {Q : Exit → Act → World → Prop} {x y : Operand} {t : TypeId} (r q : Ru) (b : Bool) (hb : decide (r = q) = b)
    (ho : o.op = .binOp .neq 23 x y t) (hw : Region.wanted o (yielded ops a.tmps) = true) (hx : a.eval x = .agg (ruC r)) (hy : a.eval y = .agg (ruC q))
    (h : wpList Tryz.prog ops Q rest (a.put o.dst (.bool (!b))) w) : wpList Tryz.prog ops Q (o :: rest) a w := by
  show if Region.wanted o (yielded ops a.tmps) = true then _ else _
  rw [if_pos hw]
  refine .inl ?_
  unfold Oper.wp execOp
  simp only [ho, hx, hy, Sem.run_bind, run_eqGuard_agg w .neq _ _ _ _ _ grdU, Result.andThen_ok, neqU, hb, Sem.run_pure]
  exact h
theorem go_eqlU {ops : Array Oper} {rest : List Oper} {o : Oper} {a : Act} {w : World} {Q : Exit → Act → World → Prop} {x y : Operand} {t : TypeId} (r q : Ru) (b : Bool) (hb : decide (r = q) = b)
    (ho : o.op = .binOp .eql 23 x y t) (hw : Region.wanted o (yielded ops a.tmps) = true) (hx : a.eval x = .agg (ruC r)) (hy : a.eval y = .agg (ruC q))
    (h : wpList Tryz.prog ops Q rest (a.put o.dst (.bool b)) w) : wpList Tryz.prog ops Q (o :: rest) a w := by
  show if Region.wanted o (yielded ops a.tmps) = true then _ else _
  rw [if_pos hw]
  refine .inl ?_
  unfold Oper.wp execOp
  simp only [ho, hx, hy, Sem.run_bind, run_eqGuard_agg w .eql _ _ _ _ _ grdU, Result.andThen_ok, eqlU, hb, Sem.run_pure]
  exact h
/-- a rule is built -/
theorem go_bdU {ops : Array Oper} {rest : List Oper} {o : Oper} {a : Act} {w : World} {Q : Exit → Act → World → Prop} {fs : Array (Nat × Operand)} (vs : List (Nat × Value)) (r : Ru) (hB : Tryz.prog.built 23 vs = some (ruC r))
    (hw : Region.wanted o (yielded ops a.tmps) = true) (ho : o.op = .build 23 fs) (hv : (fs.map fun (i, x) => (i, a.eval x)).toList = vs)
    (h : wpList Tryz.prog ops Q rest (a.put o.dst (.agg (ruC r))) w) : wpList Tryz.prog ops Q (o :: rest) a w := by
  show if Region.wanted o (yielded ops a.tmps) = true then _ else _
  rw [if_pos hw]
  have e : Tryz.prog.built 23 (fs.map fun (i, x) => (i, a.eval x)).toList = some (ruC r) := by rw [hv]; exact hB
  refine .inl (wp_build _ _ ho (by rw [e]; rfl) ?_)
  rw [e]
  exact h
/-- the zero rule in a block of its own; then another -/
abbrev zU : Array Value := #[.bool false, .int .i64 0, .string ⟨#[]⟩, .int .i64 0, .string ⟨#[]⟩]
theorem ru_new (w : World) (r : Ru) : Blk ((w.alloc (.cells zU 23)).setRow w.heap.size (ruC r)) w.heap.size 23 (ruC r) ∧
    Below w.heap.size w ((w.alloc (.cells zU 23)).setRow w.heap.size (ruC r)) :=
  ⟨setRow_blk (Blk.new _ _ _), setRow_below ((Below.refl _ _).alloc (Nat.le_refl _) _) (Blk.new _ _ _) (Nat.le_refl _) _⟩
theorem ru_zero (w : World) : Blk (w.alloc (.cells zU 23)) w.heap.size 23 (ruC Ru.zero) ∧ Below w.heap.size w (w.alloc (.cells zU 23)) :=
  ⟨Blk.new _ _ _, (Below.refl _ _).alloc (Nat.le_refl _) _⟩

/-- rules that a slice leads to -/
def RuAt (w : World) (g o : Nat) (r : Ru) : Prop := w.cell? ⟨g, o, none⟩ = some (.bool r.al) ∧ w.cell? ⟨g, o + 1, none⟩ = some (.int .i64 r.pr) ∧ w.cell? ⟨g, o + 2, none⟩ = some (.string (str r.pa)) ∧ w.cell? ⟨g, o + 3, none⟩ = some (.int .i64 r.po) ∧ w.cell? ⟨g, o + 4, none⟩ = some (.string (str r.ap))
theorem RuAt.below {w w' : World} {g o B : Nat} {r : Ru} (h : RuAt w g o r) (hg : g < B) (hb : Below B w w') : RuAt w' g o r := by
  obtain ⟨h0, h1, h2, h3, h4⟩ := h
  exact ⟨(hb.cell (p := ⟨g, _, none⟩) hg).trans h0, (hb.cell (p := ⟨g, _, none⟩) hg).trans h1, (hb.cell (p := ⟨g, _, none⟩) hg).trans h2, (hb.cell (p := ⟨g, _, none⟩) hg).trans h3, (hb.cell (p := ⟨g, _, none⟩) hg).trans h4⟩
def SrcU (w : World) (A : Option Addr) (l : List Ru) : Prop :=
  ∀ (i : Nat) (r : Ru), l[i]? = some r → ∃ g o, A = some ⟨g, o, none⟩ ∧ g < w.heap.size ∧ RuAt w g (o + i * 5) r
theorem SrcU.below {w w' : World} {A : Option Addr} {l : List Ru} (h : SrcU w A l) (hb : Below w.heap.size w w') : SrcU w' A l := fun i r hr => by
  obtain ⟨g, o, hA, hg, h0⟩ := h i r hr
  exact ⟨g, o, hA, Nat.lt_of_lt_of_le hg hb.size, h0.below hg hb⟩
theorem SrcU.nil (w : World) (A : Option Addr) : SrcU w A [] := fun i r h => by simp at h
theorem SrcU.get {w wr : World} {A : Option Addr} {l : List Ru} {k : Nat} (h : SrcU w A l) (hk : k < l.length) (hb : Below w.heap.size w wr) :
    ∃ r g o, l[k]? = some r ∧ A = some ⟨g, o, none⟩ ∧ g < w.heap.size ∧ RuAt wr g (o + k * 5) r := by
  have hx : l[k]? = some l[k] := List.getElem?_eq_getElem hk
  obtain ⟨g, o, hA, hg, h0⟩ := h k _ hx
  exact ⟨l[k], g, o, hx, hA, hg, h0.below hg hb⟩
end Go.Proofs.YtlpondbcnfaggaaGreatDoor.Tr
