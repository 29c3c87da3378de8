/-
  What follows of rules, in plain words: the one that is found is the best, in whatever order they came; a rule for all; names. No condition.
-/
import Derived.Test.YtlpondbcnfaggaaGreatDoorR10
import Derived.Test.YtlpondbcnfaggaaGreatDoorR13
import Derived.Test.YtlpondbcnfaggaaGreatDoorR03
import Derived.Test.YtlpondbcnfaggaaGreatDoorR12
import Derived.Test.YtlpondbcnfaggaaGreatDoorR11
import Derived.Test.YtlpondbcnfaggaaGreatDoorR01
namespace Go.Proofs.YtlpondbcnfaggaaGreatDoor.Tr
open Go Go.Proofs.YtlpondbcnfaggaaGreatDoor.Asc Go.Proofs.YtlpondbcnfaggaaGreatDoor.Ad Go.Proofs.YtlpondbcnfaggaaGreatDoor.Nm

/-! which rule is found -/
theorem find_none {L : List Ru} {h : List UInt8} {p : Int} {a : List (List UInt8)} : findS L h p a = none ↔ ∀ y ∈ L, countB y h p a = false := by
  refine ⟨fun hf => (best_none _ L 0 none hf).2, fun hf => ?_⟩
  cases he : findS L h p a with
  | none => rfl
  | some z =>
    obtain ⟨a1, _, _⟩ := best_some _ L 0 none (fun z m hz => by cases hz) z.1 z.2 he
    rcases a1 with a1 | ⟨_, b2, b3⟩
    · cases a1
    · have := hf z.1 (List.mem_of_getElem? b2)
      rw [b3] at this; cases this
theorem find_some {L : List Ru} {h : List UInt8} {p : Int} {a : List (List UInt8)} {x : Ru} {i : Nat} (hf : findS L h p a = some (x, i)) :
    L[i]? = some x ∧ countB x h p a = true ∧ ∀ (j : Nat) (y : Ru), L[j]? = some y → countB y h p a = true → ¬ lt x y ∧ (j < i → lt y x) := by
  obtain ⟨a1, a2, _⟩ := best_some _ L 0 none (fun z m hz => by cases hz) x i hf
  rcases a1 with a1 | ⟨_, b2, b3⟩
  · cases a1
  · exact ⟨b2, b3, fun j y hj hy => a2 j y hj hy⟩
theorem find_is {L : List Ru} {h : List UInt8} {p : Int} {a : List (List UInt8)} {x : Ru} {i : Nat} (h1 : L[i]? = some x) (h2 : countB x h p a = true)
    (h3 : ∀ (j : Nat) (y : Ru), L[j]? = some y → countB y h p a = true → ¬ lt x y ∧ (j < i → lt y x)) : findS L h p a = some (x, i) := by
  cases he : findS L h p a with
  | none =>
    have := find_none.1 he x (List.mem_of_getElem? h1)
    rw [h2] at this; cases this
  | some z =>
    obtain ⟨z, m⟩ := z
    obtain ⟨b1, b2, b3⟩ := find_some he
    obtain ⟨c1, c2⟩ := h3 m z b1 b2
    obtain ⟨d1, d2⟩ := b3 i x h1 h2
    have hm : m = i := by
      rcases Nat.lt_trichotomy m i with h4 | h4 | h4
      · exact absurd (c2 h4) d1
      · exact h4
      · exact absurd (d2 h4) c1
    subst hm
    rw [h1] at b1
    injection b1 with b1
    rw [b1]
theorem count_match {y : Ru} {h : List UInt8} {p : Int} {a : List (List UInt8)} (hc : countB y h p a = true) : matchB y.pa h = true := by
  unfold countB at hc
  simp only [Bool.and_eq_true] at hc
  exact hc.1.1
/-- none counts more than the one that is found -/
theorem find_most {L : List Ru} {h : List UInt8} {p : Int} {a : List (List UInt8)} {x : Ru} {i : Nat} (hf : findS L h p a = some (x, i)) {j : Nat} {y : Ru} (hj : L[j]? = some y) (hc : countB y h p a = true) :
    y.pr ≤ x.pr ∧ (y.pr = x.pr → y.pa.length ≤ x.pa.length + 1) ∧ (y.pr = x.pr → y.pa = x.pa → i ≤ j) := by
  obtain ⟨_, b2, b3⟩ := find_some hf
  obtain ⟨c1, c2⟩ := b3 j y hj hc
  refine ⟨?_, fun e => ?_, fun e1 e2 => ?_⟩
  · unfold lt at c1; omega
  · refine weight_len (count_match b2) (count_match hc) ?_
    unfold lt at c1; omega
  · rcases Nat.lt_or_ge j i with h4 | h4
    · have := c2 h4
      unfold lt at this
      rw [e2] at this
      omega
    · exact h4

/-! rules that are added -/
def putS (L l : List Ru) : List Ru := l.foldl addS L
theorem put_snoc (L l : List Ru) (r : Ru) : putS L (l ++ [r]) = addS (putS L l) r := by unfold putS; rw [List.foldl_append]; rfl
theorem twin_pa {a b : Ru} (h : twinB a b = true) : a.pa = b.pa := by
  unfold twinB at h
  simp only [Bool.and_eq_true, decide_eq_true_eq] at h
  exact h.1.1.2
theorem twin_same {a b : Ru} : twinB a b = decide ({ a with al := b.al } = b) := by
  rw [Bool.eq_iff_iff]
  unfold twinB
  obtain ⟨a1, a2, a3, a4, a5⟩ := a
  obtain ⟨b1, b2, b3, b4, b5⟩ := b
  simp [and_assoc]
theorem put_len : ∀ (l L : List Ru), (putS L l).length ≤ L.length + l.length ∧ L.length ≤ (putS L l).length
  | [], L => ⟨Nat.le_refl _, Nat.le_refl _⟩
  | r :: l, L => by
    obtain ⟨h1, h2⟩ := put_len l (addS L r)
    have h3 : (addS L r).length ≤ L.length + 1 ∧ L.length ≤ (addS L r).length := by
      unfold addS; split
      · rw [List.length_append]; exact ⟨Nat.le_refl _, Nat.le_add_right _ _⟩
      · exact ⟨Nat.le_succ _, Nat.le_refl _⟩
    show (putS (addS L r) l).length ≤ _ ∧ _ ≤ (putS (addS L r) l).length
    rw [List.length_cons]
    omega
theorem add_yes {L : List Ru} {r : Ru} (h1 : rightS r = 0) (h2 : L.length < 200) (h3 : L.any (twinB r) = false) : addE L r = 0 ∧ addS L r = L ++ [r] := by
  have he : addE L r = 0 := by
    unfold addE
    rw [if_neg (fun h => h h1), if_neg (by omega), if_neg (by rw [h3]; exact Bool.false_ne_true)]
  exact ⟨he, by unfold addS; rw [if_pos he]⟩
theorem add_cases (L : List Ru) (r : Ru) : (addE L r ≠ 0 ∧ addS L r = L) ∨ (addE L r = 0 ∧ addS L r = L ++ [r] ∧ rightS r = 0 ∧ L.length < 200 ∧ L.any (twinB r) = false) := by
  by_cases h1 : rightS r = 0
  · by_cases h2 : L.length < 200
    · cases h3 : L.any (twinB r) with
      | false =>
        obtain ⟨a, b⟩ := add_yes h1 h2 h3
        exact .inr ⟨a, b, h1, h2, rfl⟩
      | true =>
        have he : addE L r = 7 := by
          unfold addE
          rw [if_neg (fun h => h h1), if_neg (by omega), if_pos h3]
        exact .inl ⟨by rw [he]; decide, by unfold addS; rw [if_neg (by rw [he]; decide)]⟩
    · have he : addE L r = 2 := by
        unfold addE
        rw [if_neg (fun h => h h1), if_pos (by omega)]
      exact .inl ⟨by rw [he]; decide, by unfold addS; rw [if_neg (by rw [he]; decide)]⟩
  · have he : addE L r = rightS r := by
      unfold addE
      rw [if_pos h1]
    exact .inl ⟨by rw [he]; exact h1, by unfold addS; rw [if_neg (by rw [he]; exact h1)]⟩
theorem add_most (L : List Ru) (r : Ru) (h : L.length ≤ 200) : (addS L r).length ≤ 200 := by
  rcases add_cases L r with ⟨_, e⟩ | ⟨_, e, _, h2, _⟩
  · rw [e]; exact h
  · rw [e, List.length_append]; exact h2
/-- all that lie there are right -/
theorem put_right : ∀ (l L : List Ru), (∀ x ∈ L, rightS x = 0) → ∀ x ∈ putS L l, rightS x = 0 ∧ (x ∈ L ∨ x ∈ l)
  | [], L, h, x, hx => ⟨h x hx, .inl hx⟩
  | r :: l, L, h, x, hx => by
    have h1 : ∀ y ∈ addS L r, rightS y = 0 ∧ (y ∈ L ∨ y = r) := by
      intro y hy
      rcases add_cases L r with ⟨_, e⟩ | ⟨_, e, h5, _, _⟩
      · rw [e] at hy
        exact ⟨h y hy, .inl hy⟩
      · rw [e] at hy
        rcases List.mem_append.1 hy with hy | hy
        · exact ⟨h y hy, .inl hy⟩
        · rw [List.mem_singleton] at hy
          subst hy
          exact ⟨h5, .inr rfl⟩
    obtain ⟨h2, h3⟩ := put_right l (addS L r) (fun y hy => (h1 y hy).1) x hx
    refine ⟨h2, ?_⟩
    rcases h3 with h3 | h3
    · rcases (h1 x h3).2 with h4 | h4
      · exact .inl h4
      · exact .inr (by rw [h4]; simp)
    · exact .inr (by simp [h3])

/-! in which order rules of unlike patterns came -/
def Dis (l : List Ru) : Prop := l.Pairwise fun a b => a.pa ≠ b.pa
theorem Dis.one : ∀ {l : List Ru} (_ : Dis l) {x y : Ru}, x ∈ l → y ∈ l → x.pa = y.pa → x = y
  | [], _, _, _, hx, _, _ => by cases hx
  | r :: l, h, x, y, hx, hy, e => by
    obtain ⟨h1, h2⟩ := List.pairwise_cons.1 h
    rcases List.mem_cons.1 hx with e1 | hx
    · rcases List.mem_cons.1 hy with e2 | hy
      · rw [e1, e2]
      · exact absurd (e1 ▸ e) (h1 y hy)
    · rcases List.mem_cons.1 hy with e2 | hy
      · exact absurd (e2 ▸ e).symm (h1 x hx)
      · exact Dis.one h2 hx hy e
theorem put_all : ∀ (l L : List Ru), Dis l → (∀ x ∈ L, ∀ y ∈ l, x.pa ≠ y.pa) → L.length + l.length ≤ 200 → putS L l = L ++ l.filter fun r => decide (rightS r = 0)
  | [], L, _, _, _ => by unfold putS; simp
  | r :: l, L, hd, hn, hl => by
    obtain ⟨h1, h2⟩ := List.pairwise_cons.1 hd
    rw [List.length_cons] at hl
    show putS (addS L r) l = _
    by_cases hr : rightS r = 0
    · have ht : L.any (twinB r) = false := by
        rw [List.any_eq_false]
        intro x hx h3
        exact hn x hx r (by simp) (twin_pa h3).symm
      have ha : addS L r = L ++ [r] := (add_yes hr (by omega) ht).2
      rw [ha, put_all l (L ++ [r]) h2 ?_ (by rw [List.length_append, List.length_singleton]; omega), List.filter_cons, if_pos (by simpa using hr), List.append_assoc]
      · rfl
      · intro x hx y hy
        rcases List.mem_append.1 hx with hx | hx
        · exact hn x hx y (by simp [hy])
        · rw [List.mem_singleton] at hx
          subst hx
          exact h1 y hy
    · have ha : addS L r = L := by
        unfold addS addE
        rw [if_pos hr, if_neg hr]
      rw [ha, put_all l L h2 (fun x hx y hy => hn x hx y (by simp [hy])) (by omega), List.filter_cons, if_neg (by simpa using hr)]
theorem find_turn {K : List Ru} (hd : Dis K) (h : List UInt8) (p : Int) (a : List (List UInt8)) : (findS K.reverse h p a).map Prod.fst = (findS K h p a).map Prod.fst := by
  cases h1 : findS K h p a with
  | none =>
    rw [find_none.2 fun y hy => find_none.1 h1 y (List.mem_reverse.1 hy)]
  | some x =>
    obtain ⟨x, i⟩ := x
    obtain ⟨b1, b2, b3⟩ := find_some h1
    have hx := List.mem_of_getElem? b1
    cases h2 : findS K.reverse h p a with
    | none =>
      have := find_none.1 h2 x (List.mem_reverse.2 hx)
      rw [b2] at this; cases this
    | some z =>
      obtain ⟨z, m⟩ := z
      obtain ⟨c1, c2, c3⟩ := find_some h2
      have hz := List.mem_reverse.1 (List.mem_of_getElem? c1)
      obtain ⟨j, hj⟩ := List.getElem?_of_mem hz
      obtain ⟨k, hk⟩ := List.getElem?_of_mem (List.mem_reverse.2 hx)
      have e1 := (b3 j z hj c2).1
      have e2 := (c3 k x hk b2).1
      have hw : z.pr = x.pr ∧ weightP z.pa = weightP x.pa := by unfold lt at e1 e2; omega
      have := hd.one hz hx (weight_same (count_match b2) (count_match c2) hw.2)
      rw [this]
      rfl
theorem put_turn {l : List Ru} (hd : Dis l) (hl : l.length ≤ 200) (h : List UInt8) (p : Int) (a : List (List UInt8)) : (findS (putS [] l.reverse) h p a).map Prod.fst = (findS (putS [] l) h p a).map Prod.fst := by
  have hr : Dis l.reverse := by
    unfold Dis
    rw [List.pairwise_reverse]
    exact hd.imp fun e => Ne.symm e
  rw [put_all _ _ hr (fun x hx => by cases hx) (by simpa using hl), put_all _ _ hd (fun x hx => by cases hx) (by simpa using hl), List.nil_append, List.nil_append, List.filter_reverse]
  exact find_turn (hd.filter _) h p a

/-! a rule for all -/
theorem add_ahead {r x : Ru} {L : List Ru} (h : x.pa ≠ r.pa) (hl : L.length < 199) : addS (r :: L) x = r :: addS L x := by
  have ht : twinB x r = false := by
    cases hb : twinB x r with
    | false => rfl
    | true => exact absurd (twin_pa hb) h
  have he : addE (r :: L) x = addE L x := by
    unfold addE
    rw [if_neg (show ¬ 200 ≤ (r :: L).length by rw [List.length_cons]; omega), if_neg (show ¬ 200 ≤ L.length by omega), List.any_cons, ht, Bool.false_or]
  unfold addS
  rw [he]
  split
  · rfl
  · rfl
theorem put_ahead {r : Ru} : ∀ (l L : List Ru), (∀ x ∈ l, x.pa ≠ r.pa) → L.length + l.length < 200 → putS (r :: L) l = r :: putS L l
  | [], _, _, _ => rfl
  | x :: l, L, h, hl => by
    rw [List.length_cons] at hl
    show putS (addS (r :: L) x) l = r :: putS (addS L x) l
    rw [add_ahead (h x (by simp)) (by omega)]
    have hk : (addS L x).length ≤ L.length + 1 := by
      unfold addS; split
      · rw [List.length_append]; exact Nat.le_refl _
      · exact Nat.le_succ _
    exact put_ahead l (addS L x) (fun y hy => h y (by simp [hy])) (by omega)
theorem match_all (h : List UInt8) : matchB [42] h = true := by
  unfold matchB cutP
  rw [if_pos rfl]
  rfl
theorem weight_all : weightP [42] = 0 := by
  unfold weightP cutP
  rw [if_pos rfl]
  rfl
theorem weight_pos {p h : List UInt8} (hm : matchB p h = true) (hp : p ≠ [42]) : 0 < weightP p := by
  unfold matchB at hm
  unfold weightP
  rcases cut_cases p with ⟨e1, _⟩ | ⟨n, _, _, _, _, c⟩ | ⟨_, _, c⟩ | c
  · exact absurd e1 hp
  · have := labels_pos n
    rw [c, if_neg (show ¬ (1 : Nat) = 0 by decide)]
    show 0 < 2 * (labelsS n).length + 1 - 1
    omega
  · have := labels_pos p
    rw [c, if_neg (show ¬ (2 : Nat) = 0 by decide)]
    show 0 < 2 * (labelsS p).length + 2 - 1
    omega
  · rw [c] at hm
    simp at hm
theorem right_all {r : Ru} (h1 : -1000 ≤ r.pr) (h2 : r.pr ≤ 1000) (hp : r.pa = [42]) (h3 : r.po = 0) (h4 : r.ap = []) : rightS r = 0 := by
  have hc : (cutP r.pa).1 = 0 := by rw [hp]; unfold cutP; rw [if_pos rfl]
  unfold rightS
  rw [if_neg (by omega), if_neg (by rw [hc]; decide), if_neg (by omega), if_neg (by rw [h4]; simp)]
theorem count_all {r : Ru} (hp : r.pa = [42]) (h3 : r.po = 0) (h4 : r.ap = []) (h : List UInt8) (p : Int) (a : List (List UInt8)) : countB r h p a = true := by
  unfold countB
  rw [hp, match_all, h3, h4]
  simp
theorem find_all {L : List Ru} {r : Ru} (hp : r.pa = [42]) (h3 : r.po = 0) (h4 : r.ap = []) (hL : ∀ x ∈ L, x.pa ≠ [42]) (h : List UInt8) (p : Int) (a : List (List UInt8)) :
    findS (r :: L) h p a = match findS L h p a with
      | some (x, i) => if r.pr ≤ x.pr then some (x, i + 1) else some (r, 0)
      | none => some (r, 0) := by
  have hr := count_all hp h3 h4 h p a
  have hw : weightP r.pa = 0 := by rw [hp]; exact weight_all
  cases hf : findS L h p a with
  | none =>
    refine find_is rfl hr fun j y hj hy => ?_
    cases j with
    | zero =>
      injection hj with hj
      subst hj
      exact ⟨fun h => by unfold lt at h; omega, fun h => absurd h (Nat.lt_irrefl _)⟩
    | succ j =>
      have := find_none.1 hf y (List.mem_of_getElem? (by simpa using hj))
      rw [hy] at this; cases this
  | some x =>
    obtain ⟨x, i⟩ := x
    obtain ⟨b1, b2, b3⟩ := find_some hf
    have hx := weight_pos (count_match b2) (hL x (List.mem_of_getElem? b1))
    dsimp only
    split
    · rename_i hle
      refine find_is (by simpa using b1) b2 fun j y hj hy => ?_
      cases j with
      | zero =>
        injection hj with hj
        subst hj
        refine ⟨fun h => by unfold lt at h; omega, fun _ => ?_⟩
        unfold lt
        omega
      | succ j =>
        obtain ⟨q1, q2⟩ := b3 j y (by simpa using hj) hy
        exact ⟨q1, fun h => q2 (by omega)⟩
    · rename_i hle
      refine find_is rfl hr fun j y hj hy => ?_
      cases j with
      | zero =>
        injection hj with hj
        subst hj
        exact ⟨fun h => by unfold lt at h; omega, fun h => absurd h (Nat.lt_irrefl _)⟩
      | succ j =>
        have h5 := (find_most hf (show L[j]? = some y by simpa using hj) hy).1
        refine ⟨fun h => by unfold lt at h; omega, fun h => absurd h (by omega)⟩

/-! names in their one form -/
theorem Fit.star {x : List UInt8} (h : Fit x) : (42 : UInt8) ∉ x := fun hm => by
  rcases split_mem hm with e | ⟨p, h1, h2⟩
  · revert e; decide
  · have := (lab_parts (List.all_eq_true.1 h.lab p h1)).2.2.1 42 h2
    revert this; decide
theorem fit_of {k x : List UInt8} (hx : normalS k = (x, 0)) (h1 : Ad.parseS x = none) : Fit x ∧ x.length ≤ k.length ∧ normalS x = (x, 0) := by
  rcases normal_is hx with ⟨a, _, _, h3⟩ | ⟨_, h2, f1, _, _⟩
  · rw [h1] at h3; cases h3
  · refine ⟨f1, ?_, normal_again hx⟩
    rw [h2]
    unfold trimS
    split
    · rw [List.length_dropLast, List.length_map]; omega
    · rw [List.length_map]; exact Nat.le_refl _
theorem cut_name {x : List UInt8} (h : Fit x) (hn : normalS x = (x, 0)) : cutP x = (2, x) := by
  have hs := Fit.star h
  unfold cutP
  rw [if_neg (fun e => hs (by rw [e]; simp)), if_neg ?_, if_pos (by unfold nameB; simpa using hn)]
  rintro ⟨h1, h2⟩
  refine hs (List.mem_of_mem_take (i := 2) ?_)
  rw [h2]
  simp
theorem cut_wild {x : List UInt8} (h : Fit x) (hn : normalS x = (x, 0)) : cutP (42 :: 46 :: x) = (1, x) := by
  have h1 : 0 < x.length := List.length_pos_iff.2 h.ne
  unfold cutP
  rw [if_neg (by simp), if_pos ⟨by simp only [List.length_cons]; omega, rfl⟩]
  rw [show (42 :: 46 :: x).drop 2 = x from rfl, if_neg]
  rw [h.none]
  unfold nameB
  simp [hn]
theorem match_name {x : List UInt8} (h : Fit x) (hn : normalS x = (x, 0)) (y : List UInt8) : matchB x y = decide (y = x) := by
  unfold matchB
  rw [cut_name h hn]
  rfl
theorem match_wild {x : List UInt8} (h : Fit x) (hn : normalS x = (x, 0)) (y : List UInt8) : matchB (42 :: 46 :: x) y = endB x y := by
  unfold matchB
  rw [cut_wild h hn]
  rfl
theorem right_pat {al : Bool} {q : List UInt8} (hc : (cutP q).1 ≠ 3) : rightS ⟨al, 0, q, 0, []⟩ = 0 := by
  unfold rightS
  rw [if_neg (by simp only; omega), if_neg hc, if_neg (by simp only; omega), if_neg (by simp)]
/-- two names, and both with a dot between -/
theorem names_told {k l x y : List UInt8} (hk : k.length ≤ 100) (hl : l.length ≤ 100) (hx : normalS k = (x, 0)) (hy : normalS l = (y, 0)) (h1 : Ad.parseS x = none) (h2 : Ad.parseS y = none) :
    matchB x y = decide (y = x) ∧ matchB y (x ++ 46 :: y) = false ∧ matchB (42 :: 46 :: y) (x ++ 46 :: y) = true ∧ matchB (42 :: 46 :: y) y = false ∧ matchB [42] (x ++ 46 :: y) = true ∧
    matchB (x ++ 46 :: y) (x ++ 46 :: y) = true ∧ (∀ al, rightS ⟨al, 0, x ++ 46 :: y, 0, []⟩ = 0) ∧ ∀ al, rightS ⟨al, 0, 42 :: 46 :: (x ++ 46 :: y), 0, []⟩ = 0 := by
  obtain ⟨f1, l1, n1⟩ := fit_of hx h1
  obtain ⟨f2, l2, n2⟩ := fit_of hy h2
  have f3 := f1.app f2
  have n3 := normal_app hx hy h1 h2
  rw [if_neg (by omega)] at n3
  refine ⟨match_name f1 n1 y, ?_, ?_, ?_, match_all _, ?_, fun al => right_pat ?_, fun al => right_pat ?_⟩
  · rw [match_name f2 n2, decide_eq_false_iff_not]
    intro e
    have := congrArg List.length e
    rw [List.length_append, List.length_cons] at this
    omega
  · rw [match_wild f2 n2]
    exact is_end x y
  · rw [match_wild f2 n2]
    unfold endB
    simp
  · rw [match_name f3 n3]
    simp
  · rw [cut_name f3 n3]
    exact (show (2 : Nat) ≠ 3 by decide)
  · rw [cut_wild f3 n3]
    exact (show (1 : Nat) ≠ 3 by decide)
end Go.Proofs.YtlpondbcnfaggaaGreatDoor.Tr

/-
  What package trie's calls do, in words of whatever word 'Tri' for a trie in memory: the bundle that the walks of stage 18's statements take; strings that a slice leads to. Definitions and plain lemmas, no condition.
-/
namespace Go.Proofs.YtlpondbcnfaggaaGreatDoor.Tr
open Go.RowKit Go.Proofs.YtlpondbcnfaggaaGreatDoor.Wd Go.Proofs.YtlpondbcnfaggaaGreatDoor.Asc Go.Proofs.YtlpondbcnfaggaaGreatDoor.Tx Go.Proofs.YtlpondbcnfaggaaGreatDoor.St

/-- strings that a slice leads to -/
def SrcS (w : World) (A : Option Addr) (ss : List ByteArray) : Prop :=
  ∀ (i : Nat) (s : ByteArray), ss[i]? = some s → ∃ g o, A = some ⟨g, o, none⟩ ∧ g < w.heap.size ∧ w.cell? ⟨g, o + i, none⟩ = some (.string s)
theorem SrcS.below {w w' : World} {A : Option Addr} {l : List ByteArray} (h : SrcS w A l) (hb : Below w.heap.size w w') : SrcS w' A l := fun i r hr => by
  obtain ⟨g, o, hA, hg, h0⟩ := h i r hr
  exact ⟨g, o, hA, Nat.lt_of_lt_of_le hg hb.size, (hb.cell (p := ⟨g, _, none⟩) hg).trans h0⟩
theorem SrcS.nil (w : World) (A : Option Addr) : SrcS w A [] := fun i r h => by simp at h
theorem SrcS.get {w wr : World} {A : Option Addr} {l : List ByteArray} {k : Nat} (h : SrcS w A l) (hk : k < l.length) (hb : Below w.heap.size w wr) :
    ∃ s g o, l[k]? = some s ∧ A = some ⟨g, o, none⟩ ∧ g < w.heap.size ∧ wr.cell? ⟨g, o + k, none⟩ = some (.string s) := by
  have hx : l[k]? = some l[k] := List.getElem?_eq_getElem hk
  obtain ⟨g, o, hA, hg, h0⟩ := h k _ hx
  exact ⟨l[k], g, o, hx, hA, hg, (hb.cell (p := ⟨g, _, none⟩) hg).trans h0⟩
theorem OwnU.but {S : List Nat} {w w' : World} {B : Nat} {v : Value} {l : List Ru} (h : OwnU w B v l) (k : But S w w') (hv : ∀ b, v.ownBlock = some b → b ∉ S) : OwnU w' B v l := by
  obtain ⟨hl, h0 | ⟨g, cap, cur, rfl, hg, hh, r⟩⟩ := h
  · exact ⟨hl, .inl h0⟩
  · have hbk : Blk w g 23 cur := hh
    exact ⟨hl, .inr ⟨g, cap, cur, rfl, hg, hbk.but k (hv g rfl), r⟩⟩
theorem OwnU.below {w w' : World} {B : Nat} {v : Value} {l : List Ru} (h : OwnU w B v l) (hb : Below w.heap.size w w') : OwnU w' B v l := h.but (But.of_below hb []) (fun _ _ h => by cases h)

/-- what Find answers -/
def resF : Option (Ru × Nat) → Ending
  | some (r, i) => .returned (.tuple #[.agg (ruC r), .int .i64 (i : Nat), .bool true])
  | none => .returned (.tuple #[.agg (ruC Ru.zero), .int .i64 0, .bool false])
/-- the best so far -/
def bestR (o : Option (Ru × Nat)) : Ru := (o.map Prod.fst).getD Ru.zero
def bestI (o : Option (Ru × Nat)) : Nat := (o.map Prod.snd).getD 0
theorem resF_is (o : Option (Ru × Nat)) : resF o = .returned (.tuple #[.agg (ruC (bestR o)), .int .i64 (bestI o : Nat), .bool o.isSome]) := by
  cases o with
  | none => rfl
  | some x => rfl
/-- what package trie's calls do. Tri w g S L: at block g lies a trie, which leads to the blocks S, with the rules L -/
structure TrC (Tri : World → Nat → List Nat → List Ru → Prop) : Prop where
  lts : ∀ {w g S L}, Tri w g S L → ∀ i ∈ g :: S, i < w.heap.size
  but : ∀ {w w' g S S' L}, Tri w g S L → But S' w w' → (∀ i ∈ g :: S, i ∉ S') → Tri w' g S L
  new_ : ∀ w, Calls Tryz.prog 20 #[] w fun e w' => ∃ g S, e = .returned (.pointer (some ⟨g, 0, none⟩)) ∧ Tri w' g S [] ∧ (∀ i ∈ g :: S, w.heap.size ≤ i) ∧ Below w.heap.size w w'
  add_ : ∀ {B w g S L}, Ad.Env B w → (∀ i ∈ g :: S, B ≤ i) → Tri w g S L → ∀ r : Ru, r.pa.length ≤ 1000000 → r.ap.length ≤ 1000000 →
    Calls Tryz.prog 21 #[.pointer (some ⟨g, 0, none⟩), .agg (ruC r)] w fun e w' => ∃ S', e = .returned (.int .i64 (addE L r)) ∧ Tri w' g S' (addS L r) ∧ (∀ i ∈ S', i ∈ S ∨ w.heap.size ≤ i) ∧ But (g :: S) w w'
  find_ : ∀ {B w g S L}, Ad.Env B w → Tri w g S L → ∀ (h : ByteArray) (port : Int) (A : Option Addr) (n c : Nat) (ss : List ByteArray), h.size ≤ 1000000 → -9223372036854775808 ≤ port ∧ port ≤ 9223372036854775807 → ss.length = n → n ≤ c → n ≤ 1000000 → SrcS w A ss →
    Calls Tryz.prog 23 #[.pointer (some ⟨g, 0, none⟩), .string h, .int .i64 port, .slice A n c] w fun e w' => e = resF (findS L (bs h) port (ss.map bs)) ∧ Below w.heap.size w w'
  rules_ : ∀ {w g S L}, Tri w g S L →
    Calls Tryz.prog 25 #[.pointer (some ⟨g, 0, none⟩)] w fun e w' => ∃ v, e = .returned v ∧ OwnU w' w.heap.size v L ∧ Below w.heap.size w w'
  right_ : ∀ {B w}, Ad.Env B w → ∀ r : Ru, r.pa.length ≤ 1000000 → r.ap.length ≤ 1000000 →
    Calls Tryz.prog 14 #[.agg (ruC r)] w fun e w' => e = .returned (.int .i64 (rightS r)) ∧ Below w.heap.size w w'
  matches_ : ∀ {B w}, Ad.Env B w → ∀ p h : ByteArray, p.size ≤ 1000000 → h.size ≤ 1000000 →
    Calls Tryz.prog 16 #[.string p, .string h] w fun e w' => e = .returned (.bool (matchB (bs p) (bs h))) ∧ Below w.heap.size w w'
/-- the small case comes out right -/
def SmallP : Prop := ∀ {B : Nat} (w : World), Ad.Env B w → Calls Tryz.prog 13 #[] w fun e w' => e = .returned (.bool true) ∧ Below w.heap.size w w'
section
variable {Tri : World → Nat → List Nat → List Ru → Prop}
theorem TrC.find_at (C : TrC Tri) {B : Nat} {w : World} {g : Nat} {S : List Nat} {L : List Ru} (hE : Ad.Env B w) (ht : Tri w g S L) (h : ByteArray) (port : Int) (A : Option Addr) (n c : Nat) (ss : List ByteArray) (hh : h.size ≤ 1000000) (hp : -9223372036854775808 ≤ port ∧ port ≤ 9223372036854775807) (hn : ss.length = n) (hc : n ≤ c) (hm : n ≤ 1000000) (hs : SrcS w A ss)
    (o : Option (Ru × Nat)) (ho : findS L (bs h) port (ss.map bs) = o) : Calls Tryz.prog 23 #[.pointer (some ⟨g, 0, none⟩), .string h, .int .i64 port, .slice A n c] w fun e w' => e = .returned (.tuple #[.agg (ruC (bestR o)), .int .i64 (bestI o : Nat), .bool o.isSome]) ∧ Below w.heap.size w w' := by
  have k := C.find_ hE ht h port A n c ss hh hp hn hc hm hs
  rw [ho, resF_is] at k
  exact k
theorem TrC.below (C : TrC Tri) {w w' : World} {g : Nat} {S : List Nat} {L : List Ru} (h : Tri w g S L) (hb : Below w.heap.size w w') : Tri w' g S L := C.but h (But.of_below hb []) (fun _ _ h => by cases h)
end
end Go.Proofs.YtlpondbcnfaggaaGreatDoor.Tr

/-
  Rules loaded whole out of a row, and held against each other in a region that draws its order. Plain lemmas, no condition.
-/
namespace Go.Proofs.YtlpondbcnfaggaaGreatDoor.Tr
open Go.RowKit Go.Proofs.YtlpondbcnfaggaaGreatDoor.Wd Go.Proofs.YtlpondbcnfaggaaGreatDoor.Asc Go.Proofs.YtlpondbcnfaggaaGreatDoor.Tx Go.Proofs.YtlpondbcnfaggaaGreatDoor.St

theorem ruU_len (r : Ru) : (Tryz.prog.info? 23).map (·.size) = some (ruC r).toList.length := infU
theorem RuAt.range {w : World} {g o : Nat} {r : Ru} (h : RuAt w g o r) : w.rangeAt g o (ruC r).toList := fun j v hv => by
  obtain ⟨h0, h1, h2, h3, h4⟩ := h
  match j, hv with
  | 0, hv => injection hv with hv; subst hv; exact h0
  | 1, hv => injection hv with hv; subst hv; exact h1
  | 2, hv => injection hv with hv; subst hv; exact h2
  | 3, hv => injection hv with hv; subst hv; exact h3
  | 4, hv => injection hv with hv; subst hv; exact h4
  | j + 5, hv => simp [ruC] at hv
/-- is one of these texts that text? -/
def anyS (ap : ByteArray) (l : List ByteArray) : Bool := l.any fun s => decide (bs s = bs ap)
theorem anyS_next {ap : ByteArray} {l : List ByteArray} {k : Nat} {s : ByteArray} (h : l[k]? = some s) : anyS ap (l.take (k + 1)) = (anyS ap (l.take k) || decide (bs s = bs ap)) := by
  have hl := (List.getElem?_eq_some_iff.1 h).1
  have e : l.take (k + 1) = l.take k ++ [s] := by rw [List.take_add_one, h]; rfl
  unfold anyS
  rw [e, List.any_append]
  simp
theorem anyS_map (ap : ByteArray) (l : List ByteArray) : ((l.map bs).any fun a => decide (a = bs ap)) = anyS ap l := by
  unfold anyS
  rw [List.any_map]
  rfl
theorem lit_is (S : ByteArray) (l : List UInt8) : (S.toList == l) = decide (bs S = l) := by
  have h := str_beq (bs S) l
  rw [str_bs] at h
  rwa [show (str l).toList = l from by rw [Lib.toList_data]] at h
theorem str_is (S T : ByteArray) : (S.toList == T.toList) = decide (bs S = bs T) := by
  have h := str_beq (bs S) (bs T)
  rwa [str_bs, str_bs] at h
theorem range_b {w : World} {g t : Nat} {C : Array Value} (h : Blk w g t C) : w.rangeAt g 0 C.toList := fun j v hv => by
  rw [h.cell, Nat.zero_add]
  simpa using hv
theorem yields_neqU {ops : Array Oper} {S : World → Prop} {oi : Oper} {a : Act} {x y : Operand} {t : TypeId} (r q : Ru) (b : Bool) (hb : decide (r = q) = b) (ho : oi.op = .binOp .neq 23 x y t)
    (hw : Region.wanted oi (yielded ops a.tmps) = true) (hx : a.eval x = .agg (ruC r)) (hy : a.eval y = .agg (ruC q)) : YieldsIf Tryz.prog ops S oi (.bool (!b)) a :=
  .inl ⟨hw, fun w _ => by
    unfold execOp
    simp only [ho, hx, hy, Sem.run_bind, run_eqGuard_agg w .neq _ _ _ _ _ grdU, Result.andThen_ok, neqU, hb, Sem.run_pure]⟩
theorem yields_eqlU {ops : Array Oper} {S : World → Prop} {oi : Oper} {a : Act} {x y : Operand} {t : TypeId} (r q : Ru) (b : Bool) (hb : decide (r = q) = b) (ho : oi.op = .binOp .eql 23 x y t)
    (hw : Region.wanted oi (yielded ops a.tmps) = true) (hx : a.eval x = .agg (ruC r)) (hy : a.eval y = .agg (ruC q)) : YieldsIf Tryz.prog ops S oi (.bool b) a :=
  .inl ⟨hw, fun w _ => by
    unfold execOp
    simp only [ho, hx, hy, Sem.run_bind, run_eqGuard_agg w .eql _ _ _ _ _ grdU, Result.andThen_ok, eqlU, hb, Sem.run_pure]⟩
/-- a rule is loaded whole out of a row, be it under a guard that wants it -/
theorem go_ldr {ops : Array Oper} {rest : List Oper} {o : Oper} {a : Act} {w : World} {Q : Exit → Act → World → Prop} {x : Operand} {g p : Nat} (r : Ru) (hr : RuAt w g p r) (hw : Region.wanted o (yielded ops a.tmps) = true) (ho : o.op = .load 23 x)
    (hx : a.eval x = .pointer (some ⟨g, p, none⟩)) (h : wpList Tryz.prog ops Q rest (a.put o.dst (.agg (ruC r))) w) : wpList Tryz.prog ops Q (o :: rest) a w := by
  show if Region.wanted o (yielded ops a.tmps) = true then _ else _
  rw [if_pos hw]
  exact .inl (wp_load_mid 23 x ho g p hx (ruC r).toList _ hr.range undU rfl (ruU_len r) h)
/-- three results, the first one in a block -/
theorem ret_three {fn : Func} {p q r : Tmp} {ty t : TypeId} {a : Act} {w : World} {g n : Nat} {C : Array Value} {v u : Value} {d : TypeDesc} {R : Ending → World → Prop} (hf : fn.results = #[.cell p ty, .tmp q, .tmp r]) (hb : Blk w g t C) (hu : Tryz.prog.underlying ty = some d)
    (hd : d.isRow = true) (hi : (Tryz.prog.info? ty).map (·.size) = some n) (hn : C.size = n) (hp : a.tmps.getD p undef = .pointer (some ⟨g, 0, none⟩)) (hq : a.tmps.getD q undef = v) (hr : a.tmps.getD r undef = u) (h : R (.returned (.tuple #[.agg C, v, u])) w) (hdf : a.defers = []) : bodyPost Tryz.prog fn R .ret a w := by
  have hp' : a.tmps[p]?.getD undef = .pointer (some ⟨g, 0, none⟩) := by simpa using hp
  have hq' : a.tmps[q]?.getD undef = v := by simpa using hq
  have hr' : a.tmps[r]?.getD undef = u := by simpa using hr
  have hl := run_loadVar_row w g t ty C (0, 0) d hb hu (by cases d <;> first | rfl | cases hd) (by rw [hi, hn])
  exact bodyPost_ret (v := .tuple #[.agg C, v, u]) (by simp [results, hf, hp', hq', hr', asAddr, hl]) hdf h
end Go.Proofs.YtlpondbcnfaggaaGreatDoor.Tr

/-
  Pins in memory: a pin's cells, rows of pins; a policy's value; what package policy's calls do, as a bundle. Plain, no condition.
-/
namespace Go.Proofs.YtlpondbcnfaggaaGreatDoor.Po
open Go.RowKit Go.Proofs.YtlpondbcnfaggaaGreatDoor.Wd Go.Proofs.YtlpondbcnfaggaaGreatDoor.Asc Go.Proofs.YtlpondbcnfaggaaGreatDoor.Tx Go.Proofs.YtlpondbcnfaggaaGreatDoor.St Go.Proofs.YtlpondbcnfaggaaGreatDoor.Ad Go.Proofs.YtlpondbcnfaggaaGreatDoor.Tr Go.Proofs.YtlpondbcnfaggaaGreatDoor.Te

/-- a pin whose address has sixteen bytes -/
abbrev Pl := { x : Pn // x.ci.a.length = 16 }
/-- a pin's cells -/
def pnL (x : Pn) : List Value := .string (Tx.str x.nm) :: (x.ci.cells.toList ++ [.int .i64 x.un])
theorem pnL_len (x : Pl) : (pnL x.1).length = 19 := by
  have h := C_size x.1.ci x.2
  rw [← Array.length_toList] at h
  simp [pnL, h]
theorem pnL_one (x : Pn) : ∀ v ∈ pnL x, v.oneCell' = true := fun v hv => by
  unfold pnL at hv
  rcases List.mem_cons.1 hv with rfl | hv
  · rfl
  · rcases List.mem_append.1 hv with hv | hv
    · exact (Array.all_eq_true_iff_forall_mem.1 (C_one x.ci)) v (by simpa using hv)
    · rw [List.mem_singleton.1 hv]; rfl
/-- pins, as elements of a row -/
def elPn : El Pl := ⟨97, 19, fun x => pnL x.1⟩
def pnZ : Value := .agg #[.string .empty, .int .u8 0, .int .u8 0, .int .u8 0, .int .u8 0, .int .u8 0, .int .u8 0, .int .u8 0, .int .u8 0, .int .u8 0, .int .u8 0, .int .u8 0, .int .u8 0, .int .u8 0, .int .u8 0, .int .u8 0, .int .u8 0, .int .i64 0, .int .i64 0]
theorem finePn : elPn.Fine 51 pnZ 48 := ⟨Tryz.underlying51, by kernel_rfl, rfl, by decide, pnL_len, fun x => pnL_one x.1⟩
/-- the pins of a row -/
def plain (l : List Pl) : List Pn := l.map Subtype.val
/-- a pin whose parts are as long, and as great, as memory lets them be -/
structure OkP (x : Pl) : Prop where
  n0 : x.1.nm.length ≤ 1000000
  c0 : -9223372036854775808 ≤ x.1.ci.n
  c1 : x.1.ci.n ≤ 9223372036854775807
  u0 : -9223372036854775808 ≤ x.1.un
  u1 : x.1.un ≤ 9223372036854775807
/-- texts that are not too long -/
def ShortP (p : Pol) : Prop := (∀ r ∈ p.ru, r.pa.length ≤ 1000000 ∧ r.ap.length ≤ 1000000) ∧ ∀ x ∈ p.pn, x.nm.length ≤ 1000000
/-- what package policy's calls do -/
structure PoC : Prop where
  parse_ : ∀ {B w}, Ad.Env B w → ∀ s : ByteArray, s.size ≤ 1000000 → ∀ p n er, parseP (bs s) = (p, n, er) →
    Calls Tryz.prog 32 #[.string s] w fun e w' => ∃ A1 c1 A2 c2 pn, e = .returned (.tuple #[.agg #[.bool p.al, .slice A1 p.ru.length c1, .slice A2 p.pn.length c2], .int .i64 (n : Nat), .int .i64 er]) ∧
      OwnU w' w.heap.size (.slice A1 p.ru.length c1) p.ru ∧ OwnE w' elPn w.heap.size (.slice A2 p.pn.length c2) pn ∧ plain pn = p.pn ∧ Below w.heap.size w w'
  right_ : ∀ {B w}, Ad.Env B w → ∀ (p : Pol) (A1 A2 : Option Addr) (n1 c1 n2 c2 : Nat) (pn : List Pl), SrcU w A1 p.ru → p.ru.length = n1 → n1 ≤ c1 → SrcE w elPn A2 pn → plain pn = p.pn → p.pn.length = n2 → n2 ≤ c2 → n1 ≤ 1000000 → n2 ≤ 1000000 → ShortP p → (∀ x ∈ pn, OkP x) →
    Calls Tryz.prog 31 #[.agg #[.bool p.al, .slice A1 n1 c1, .slice A2 n2 c2]] w fun e w' => e = .returned (.int .i64 (rightP p)) ∧ Below w.heap.size w w'
  print_ : ∀ {B w}, Ad.Env B w → ∀ (p : Pol) (A1 A2 : Option Addr) (n1 c1 n2 c2 : Nat) (pn : List Pl), SrcU w A1 p.ru → p.ru.length = n1 → n1 ≤ c1 → SrcE w elPn A2 pn → plain pn = p.pn → p.pn.length = n2 → n2 ≤ c2 → n1 ≤ 1000 → n2 ≤ 1000 → ShortP p → rightP p = 0 →
    Calls Tryz.prog 33 #[.agg #[.bool p.al, .slice A1 n1 c1, .slice A2 n2 c2]] w fun e w' => e = .returned (.string (Tx.str (printP p))) ∧ Below w.heap.size w w'
/-- the small case comes out right -/
def SmallP : Prop := ∀ {B : Nat} (w : World), Ad.Env B w → Calls Tryz.prog 29 #[] w fun e w' => e = .returned (.bool true) ∧ Below w.heap.size w w'
end Go.Proofs.YtlpondbcnfaggaaGreatDoor.Po

/-
  Pins held against each other, by == and by !=. Plain lemmas over the seat's translation, no condition but addresses of sixteen bytes.
-/
namespace Go.Proofs.YtlpondbcnfaggaaGreatDoor.Po
open Go.RowKit Go.Proofs.YtlpondbcnfaggaaGreatDoor.Wd Go.Proofs.YtlpondbcnfaggaaGreatDoor.Asc Go.Proofs.YtlpondbcnfaggaaGreatDoor.Tx Go.Proofs.YtlpondbcnfaggaaGreatDoor.St Go.Proofs.YtlpondbcnfaggaaGreatDoor.Ad Go.Proofs.YtlpondbcnfaggaaGreatDoor.Tr Go.Proofs.YtlpondbcnfaggaaGreatDoor.Te

def pnC (x : Pn) : Array Value := (pnL x).toArray
theorem undPn : Tryz.prog.underlying 97 = some (.struct (Tryz.prog.fieldsOf 97)) := by kernel_rfl
theorem infPn : (Tryz.prog.info? 97).map (·.size) = some 19 := by kernel_rfl
theorem stoodPn : Tryz.prog.stoodInHeld 97 = false := by kernel_rfl
theorem grdPn : Tryz.prog.eqGuardType Tryz.prog.depth 97 = false := by kernel_rfl
theorem pnC_one (x : Pn) : (pnC x).all (·.oneCell') = true := all_oneCell_toArray (pnL_one x)
theorem fieldsPn : ∃ f g h : Field, (Tryz.prog.fieldsOf 97).toList = [f, g, h] ∧ (f.type = 9 ∧ f.offset = 0 ∧ f.name ≠ "_") ∧ (g.type = 95 ∧ g.offset = 1 ∧ g.name ≠ "_") ∧ (h.type = 3 ∧ h.offset = 18 ∧ h.name ≠ "_") := by
  simp only [Program.fieldsOf, Tryz.underlying97]
  exact ⟨_, _, _, rfl, ⟨rfl, rfl, by decide⟩, ⟨rfl, rfl, by decide⟩, ⟨rfl, rfl, by decide⟩⟩
theorem pn_is (x y : Pn) : decide (x = y) = (decide (x.nm = y.nm) && ((x.ci == y.ci) && decide (x.un = y.un))) := by
  obtain ⟨a, b, c⟩ := x
  obtain ⟨a', b', c'⟩ := y
  rw [Bool.eq_iff_iff]
  simp
theorem part_cidr (x : Pl) (w : World) : (part 95 (pnC x.1) 1).run Tryz.prog w = .ok (.agg x.1.ci.cells) w := by
  have hagg : (isAgg 95).run Tryz.prog w = .ok true w := by
    unfold isAgg
    rw [Sem.run_bind, run_underlying und17 w]
    rfl
  have hz := C_size x.1.ci x.2
  cases hq : Tryz.prog.info? 95 with
  | none => have := info17; rw [hq] at this; cases this
  | some i =>
    have hs : i.size = 17 := by have := info17; rw [hq] at this; simpa using this
    simp [part, Sem.run_bind, hagg, sizeOf, typeInfo, hq, hs]
    apply Array.ext'
    simp [pnC, pnL, hz]
theorem eqInPn (k : Nat) (x y : Pl) (w : World) : (Op.equalIn (k + 4) 97 (.agg (pnC x.1)) (.agg (pnC y.1))).run Tryz.prog w = .ok (decide (x.1 = y.1)) w := by
  obtain ⟨f, g, h, hfs, hf, hg, hh⟩ := fieldsPn
  have u18 : ∀ z : Pl, (pnC z.1)[18]? = some (.int .i64 z.1.un) := fun z => by
    have hz := C_size z.1.ci z.2
    simp [pnC, pnL, hz]
  rw [run_equalIn_struct w (k + 3) _ _ _ undPn stoodPn, hfs, pn_is]
  rw [eqf_cons (k + 3) (pnC x.1) (pnC y.1) f _ _ _ _ w hf.2.2 (part_s f (pnC x.1) (.string (Tx.str x.1.nm)) w 0 hf rfl) (part_s f (pnC y.1) (.string (Tx.str y.1.nm)) w 0 hf rfl) (eqs_ (k + 2) f x.1.nm y.1.nm w hf)]
  rw [eqf_cons (k + 3) (pnC x.1) (pnC y.1) g _ (.agg x.1.ci.cells) (.agg y.1.ci.cells) _ w hg.2.2 (by rw [hg.1, hg.2.1]; exact part_cidr x w) (by rw [hg.1, hg.2.1]; exact part_cidr y w) (by rw [hg.1]; exact eqIn17n (k + 3) (by omega) x.1.ci y.1.ci x.2 y.2 w)]
  rw [eqf_cons (k + 3) (pnC x.1) (pnC y.1) h _ _ _ _ w hh.2.2 (part_i h (pnC x.1) (.int .i64 x.1.un) w 18 hh (u18 x)) (part_i h (pnC y.1) (.int .i64 y.1.un) w 18 hh (u18 y)) (eqi_ (k + 2) h x.1.un y.1.un w hh)]
  rw [eqf_nil, if_run, if_run, if_run, Bool.and_true]
theorem eqInPnn (n : Nat) (h : 4 ≤ n) (x y : Pl) (w : World) : (Op.equalIn n 97 (.agg (pnC x.1)) (.agg (pnC y.1))).run Tryz.prog w = .ok (decide (x.1 = y.1)) w := by
  obtain ⟨k, rfl⟩ : ∃ k, n = k + 4 := ⟨n - 4, by omega⟩
  exact eqInPn k x y w
/-- '!=' of two pins -/
theorem neqPn (x y : Pl) (w : World) : (binOp .neq 97 (.agg (pnC x.1)) (.agg (pnC y.1))).run Tryz.prog w = .ok (.bool (!decide (x.1 = y.1))) w := by
  rw [run_neq_struct, eqInPnn _ (by omega) x y w, Result.andThen_ok]
theorem yields_neqPn {ops : Array Oper} {S : World → Prop} {oi : Oper} {a : Act} {x y : Operand} {t : TypeId} (r q : Pl) (b : Bool) (hb : decide (r.1 = q.1) = b) (ho : oi.op = .binOp .neq 97 x y t)
    (hw : Region.wanted oi (yielded ops a.tmps) = true) (hx : a.eval x = .agg (pnC r.1)) (hy : a.eval y = .agg (pnC q.1)) : YieldsIf Tryz.prog ops S oi (.bool (!b)) a :=
  .inl ⟨hw, fun w _ => by
    unfold execOp
    simp only [ho, hx, hy, Sem.run_bind, run_eqGuard_agg w .neq _ _ _ _ _ grdPn, Result.andThen_ok, neqPn, hb, Sem.run_pure]⟩
theorem pn_len' (x : Pl) : (Tryz.prog.info? 97).map (·.size) = some (pnL x.1).length := by rw [pnL_len]; exact infPn
/-- a pin in a row, wherever only new blocks came -/
theorem _root_.Go.Proofs.YtlpondbcnfaggaaGreatDoor.Te.SrcE.pin {w wr : World} {A : Option Addr} {l : List Pl} {k : Nat} (h : SrcE w elPn A l) (hk : k < l.length) (hb : Below w.heap.size w wr) :
    ∃ (x : Pl) (g o : Nat), l[k]? = some x ∧ A = some ⟨g, o, none⟩ ∧ g < w.heap.size ∧ wr.rangeAt g (o + k * 19) (pnL x.1) := by
  obtain ⟨x, hx⟩ : ∃ x, l[k]? = some x := ⟨_, List.getElem?_eq_getElem hk⟩
  obtain ⟨g, o, hA, hg, hc⟩ := h k x hx
  exact ⟨x, g, o, hx, hA, hg, fun j v hv => by
    rw [hb.cell (p := ⟨g, o + k * 19 + j, none⟩) hg]
    have := hc j v hv
    rw [show o + (k * elPn.n + j) = o + k * 19 + j from by show o + (k * 19 + j) = _; omega] at this
    exact this⟩
end Go.Proofs.YtlpondbcnfaggaaGreatDoor.Po
