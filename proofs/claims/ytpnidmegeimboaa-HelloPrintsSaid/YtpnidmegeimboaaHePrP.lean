/-
  Plain facts: what Print lays is the hello's bytes, and it lays them just if the hello can be told. No condition.
-/
import Derived.Test.YtpnidmegeimboaaHePrint
namespace Go.Proofs.Ytpnidmegeimboaa.He
open Go.RowKit Go.Proofs.Ytpnidmegeimboaa.Wd Go.Proofs.Ytpnidmegeimboaa.Be

theorem vecW_ok (k : Nat) (r : List UInt8 × Bool) (x : List UInt8) : ((vecW k r x).2 = false ↔ (x.length : Int) < 256 ^ k ∧ r.2 = false) ∧ ((x.length : Int) < 256 ^ k → (vecW k r x).1 = r.1 ++ vecB k x) := by
  unfold vecW
  by_cases h : (x.length : Int) < 256 ^ k
  · rw [if_pos h]; exact ⟨⟨fun e => ⟨h, e⟩, fun e => e.2⟩, fun _ => rfl⟩
  · rw [if_neg h]; exact ⟨⟨(fun e => by cases e), fun e => absurd e.1 h⟩, fun e => absurd e h⟩
theorem numW_ok (r : List UInt8 × Bool) (n : Int) : ((numW r n).2 = false ↔ In2 n ∧ r.2 = false) ∧ (In2 n → (numW r n).1 = r.1 ++ two n) := by
  unfold numW In2
  by_cases h : 0 ≤ n ∧ n ≤ 65535
  · rw [if_pos h]; exact ⟨⟨fun e => ⟨by omega, e⟩, fun e => e.2⟩, fun _ => rfl⟩
  · rw [if_neg h]; exact ⟨⟨(fun e => by cases e), fun e => absurd e.1 (by omega)⟩, fun e => absurd e (by omega)⟩
theorem foldW_ok (l : List Int) (r : List UInt8 × Bool) : ((l.foldl numW r).2 = false ↔ (∀ n ∈ l, In2 n) ∧ r.2 = false) ∧ ((∀ n ∈ l, In2 n) → (l.foldl numW r).1 = r.1 ++ numsB l) := by
  induction l generalizing r with
  | nil => exact ⟨⟨fun e => ⟨fun n h => absurd h List.not_mem_nil, e⟩, fun e => e.2⟩, fun _ => by simp [numsB]⟩
  | cons n l ih =>
    obtain ⟨i1, i2⟩ := ih (numW r n)
    obtain ⟨n1, n2⟩ := numW_ok r n
    rw [List.foldl_cons]
    refine ⟨⟨fun e => ?_, fun e => ?_⟩, fun h => ?_⟩
    · obtain ⟨h1, h2⟩ := i1.1 e
      obtain ⟨h3, h4⟩ := n1.1 h2
      exact ⟨fun m hm => by rcases List.mem_cons.1 hm with rfl | hm; exact h3; exact h1 m hm, h4⟩
    · exact i1.2 ⟨fun m hm => e.1 m (List.mem_cons_of_mem _ hm), n1.2 ⟨e.1 n (by simp), e.2⟩⟩
    · rw [i2 (fun m hm => h m (List.mem_cons_of_mem _ hm)), n2 (h n (by simp)), List.append_assoc]
      simp [numsB]
theorem extsW_ok : ∀ (l : List (Int × List UInt8)) (r : List UInt8 × Bool), r.2 = false → r.1.length ≤ 65535 →
    (((extsW r l).2 = false ∧ (extsW r l).1.length ≤ 65535) ↔ (∀ x ∈ l, InX x) ∧ (r.1 ++ extsB l).length ≤ 65535) ∧ ((∀ x ∈ l, InX x) ∧ (r.1 ++ extsB l).length ≤ 65535 → (extsW r l).1 = r.1 ++ extsB l)
  | [], r, hr, hl => by
    have e : r.1 ++ extsB [] = r.1 := by simp [extsB]
    rw [e]
    exact ⟨⟨fun h => ⟨fun x hx => absurd hx List.not_mem_nil, hl⟩, fun h => ⟨hr, hl⟩⟩, fun _ => rfl⟩
  | x :: l, r, hr, hl => by
    obtain ⟨n1, n2⟩ := numW_ok r x.1
    obtain ⟨v1, v2⟩ := vecW_ok 2 (numW r x.1) x.2
    have p2 : (256 : Int) ^ 2 = 65536 := rfl
    rw [p2] at v1 v2
    have hx1 : (extW r x).2 = false ↔ InX x := by
      show (vecW 2 (numW r x.1) x.2).2 = false ↔ In2 x.1 ∧ x.2.length < 65536
      rw [v1, n1]
      constructor
      · rintro ⟨h1, h2, _⟩; exact ⟨h2, by omega⟩
      · rintro ⟨h1, h2⟩; exact ⟨by omega, h1, hr⟩
    have hx2 : InX x → (extW r x).1 = r.1 ++ extB x := fun h => by
      show (vecW 2 (numW r x.1) x.2).1 = _
      have h2 := h.2
      rw [v2 (by omega), n2 h.1, List.append_assoc]
      rfl
    have hB : extsB (x :: l) = extB x ++ extsB l := by simp [extsB]
    by_cases hs : (extW r x).2 = true ∨ 65535 < (extW r x).1.length
    · have e : extsW r (x :: l) = extW r x := by rw [extsW, if_pos hs]
      rw [e]
      have hno : ¬ ((∀ y ∈ x :: l, InX y) ∧ (r.1 ++ extsB (x :: l)).length ≤ 65535) := by
        rintro ⟨h1, h2⟩
        have hx := h1 x (by simp)
        rw [hB, ← List.append_assoc, ← hx2 hx, List.length_append] at h2
        rcases hs with hs | hs
        · rw [hx1.2 hx] at hs; cases hs
        · omega
      refine ⟨⟨fun h => ?_, fun h => absurd h hno⟩, fun h => absurd h hno⟩
      rcases hs with hs | hs
      · rw [h.1] at hs; cases hs
      · omega
    · have e : extsW r (x :: l) = extsW (extW r x) l := by rw [extsW, if_neg hs]
      rw [e]
      have hf : (extW r x).2 = false := by
        cases h : (extW r x).2 with
        | false => rfl
        | true => exact absurd (Or.inl h) hs
      have hle : (extW r x).1.length ≤ 65535 := by rcases Nat.lt_or_ge 65535 (extW r x).1.length with h | h; exact absurd (Or.inr h) hs; exact h
      have hx := hx1.1 hf
      obtain ⟨i1, i2⟩ := extsW_ok l (extW r x) hf hle
      rw [hx2 hx, List.append_assoc, ← hB] at i1 i2
      refine ⟨i1.trans ⟨fun h => ⟨fun y hy => by rcases List.mem_cons.1 hy with rfl | hy; exact hx; exact h.1 y hy, h.2⟩, fun h => ⟨fun y hy => h.1 y (List.mem_cons_of_mem _ hy), h.2⟩⟩, fun h => i2 ⟨fun y hy => h.1 y (List.mem_cons_of_mem _ hy), h.2⟩⟩

theorem withinW_ok (r o : List UInt8 × Bool) : ((withinW 2 r o).2 = false ↔ o.1.length < 65536 ∧ o.2 = false ∧ r.2 = false) ∧ (o.1.length < 65536 → (withinW 2 r o).1 = r.1 ++ vecB 2 o.1) := by
  obtain ⟨v1, v2⟩ := vecW_ok 2 (r.1, r.2 || o.2) o.1
  have p2 : (256 : Int) ^ 2 = 65536 := rfl
  rw [p2] at v1 v2
  refine ⟨?_, fun h => v2 (by omega)⟩
  show (vecW 2 (r.1, r.2 || o.2) o.1).2 = false ↔ _
  rw [v1]
  simp only [Bool.or_eq_false_iff]
  constructor
  · rintro ⟨h1, h2, h3⟩; exact ⟨by omega, h3, h2⟩
  · rintro ⟨h1, h2, h3⟩; exact ⟨by omega, h3, h2⟩

/-- the row fits just if all of it can be told -/
theorem rowP_ok (h : Hel) : ((rowP h).2 = false ↔ In2 h.ver ∧ h.ses.length < 256 ∧ (∀ n ∈ h.cph, In2 n) ∧ (numsB h.cph).length < 65536 ∧ h.met.length < 256 ∧ (h.has = true → (∀ x ∈ h.exts, InX x) ∧ (extsB h.exts).length < 65536)) ∧ ((rowP h).2 = false → (rowP h).1 = layS h) := by
  obtain ⟨a1, a2⟩ := numW_ok ([], false) h.ver
  obtain ⟨b1, b2⟩ := vecW_ok 1 (rowA h) h.ses
  obtain ⟨n1, n2⟩ := foldW_ok h.cph ([], false)
  obtain ⟨c1, c2⟩ := withinW_ok (rowB h) (numsW h.cph)
  obtain ⟨d1, d2⟩ := vecW_ok 1 (rowC h) h.met
  obtain ⟨x1, x2⟩ := extsW_ok h.exts ([], false) rfl (by simp)
  obtain ⟨e1, e2⟩ := withinW_ok (rowD h) (extsW ([], false) h.exts)
  have p1 : (256 : Int) ^ 1 = 256 := rfl
  rw [p1] at b1 b2 d1 d2
  rw [List.nil_append] at x1 x2
  have hD : (rowD h).2 = false ↔ In2 h.ver ∧ h.ses.length < 256 ∧ (∀ n ∈ h.cph, In2 n) ∧ (numsB h.cph).length < 65536 ∧ h.met.length < 256 := by
    show (vecW 1 (rowC h) h.met).2 = false ↔ _
    rw [d1]
    show (_ ∧ (withinW 2 (rowB h) (numsW h.cph)).2 = false) ↔ _
    rw [c1]
    show (_ ∧ _ ∧ _ ∧ (vecW 1 (rowA h) h.ses).2 = false) ↔ _
    rw [b1]
    show (_ ∧ _ ∧ (h.cph.foldl numW ([], false)).2 = false ∧ _ ∧ (numW ([], false) h.ver).2 = false) ↔ _
    rw [n1, a1]
    constructor
    · rintro ⟨h1, h2, ⟨h3, _⟩, h4, h5, _⟩
      have h6 : (numsW h.cph).1 = numsB h.cph := by show (h.cph.foldl numW ([], false)).1 = _; rw [n2 h3]; rfl
      rw [h6] at h2
      exact ⟨h5, by omega, h3, h2, by omega⟩
    · rintro ⟨h1, h2, h3, h4, h5⟩
      have h6 : (numsW h.cph).1 = numsB h.cph := by show (h.cph.foldl numW ([], false)).1 = _; rw [n2 h3]; rfl
      exact ⟨by omega, by rw [h6]; exact h4, ⟨h3, rfl⟩, by omega, h1, rfl⟩
  have hDl : (rowD h).2 = false → (rowD h).1 = headB h := fun hd => by
    obtain ⟨h1, h2, h3, h4, h5⟩ := hD.1 hd
    have h6 : (numsW h.cph).1 = numsB h.cph := by show (h.cph.foldl numW ([], false)).1 = _; rw [n2 h3]; rfl
    show (vecW 1 (rowC h) h.met).1 = _
    rw [d2 (by omega)]
    show (withinW 2 (rowB h) (numsW h.cph)).1 ++ _ = _
    rw [c2 (by rw [h6]; exact h4), h6]
    show (vecW 1 (rowA h) h.ses).1 ++ _ ++ _ = _
    rw [b2 (by omega)]
    show (numW ([], false) h.ver).1 ++ h.rnd ++ _ ++ _ ++ _ = _
    rw [a2 h1]
    simp [headB]
  cases hh : h.has with
  | false =>
    have e : rowP h = rowD h := if_neg (by rw [hh]; simp)
    rw [e]
    refine ⟨hD.trans ⟨fun ⟨h1, h2, h3, h4, h5⟩ => ⟨h1, h2, h3, h4, h5, fun h => by cases h⟩, fun ⟨h1, h2, h3, h4, h5, _⟩ => ⟨h1, h2, h3, h4, h5⟩⟩, fun hd => ?_⟩
    rw [hDl hd, layS, tailB, hh]
    simp
  | true =>
    have e : rowP h = withinW 2 (rowD h) (extsW ([], false) h.exts) := if_pos hh
    rw [e]
    refine ⟨?_, fun hd => ?_⟩
    · rw [e1]
      constructor
      · rintro ⟨h1, h2, h3⟩
        obtain ⟨y1, y2⟩ := x1.1 ⟨h2, by omega⟩
        obtain ⟨z1, z2, z3, z4, z5⟩ := hD.1 h3
        exact ⟨z1, z2, z3, z4, z5, fun _ => ⟨y1, by omega⟩⟩
      · rintro ⟨z1, z2, z3, z4, z5, z6⟩
        obtain ⟨y1, y2⟩ := z6 rfl
        obtain ⟨q1, q2⟩ := x1.2 ⟨y1, by omega⟩
        exact ⟨by omega, q1, hD.2 ⟨z1, z2, z3, z4, z5⟩⟩
    · obtain ⟨h1, h2, h3⟩ := e1.1 hd
      have hx := x1.1 ⟨h2, by omega⟩
      rw [e2 h1, hDl h3, x2 hx, layS, tailB, hh]
      simp
/-- what Print answers: the hello's bytes, just if it can be told -/
theorem print_right {h : Hel} (hr : h.rnd.length = 32) : ((printS h).2 = true ↔ Right h) ∧ (Right h → printS h = (layS h, true)) ∧ (¬ Right h → printS h = ([], false)) := by
  obtain ⟨o1, o2⟩ := rowP_ok h
  have hgo : goB h = true ↔ wrongS h = 0 ∧ h.cph ≠ [] ∧ (h.has = false → h.exts = []) := by
    unfold goB
    simp only [Bool.and_eq_true, Bool.not_eq_true', decide_eq_true_eq, decide_eq_false_iff_not, Bool.and_eq_false_iff, Bool.not_eq_false']
    constructor
    · rintro ⟨⟨h1, h2⟩, h3⟩
      refine ⟨h1, fun e => h2 (by rw [e]; rfl), fun e => ?_⟩
      rcases h3 with h3 | h3
      · rw [e] at h3; cases h3
      · exact List.eq_nil_of_length_eq_zero (by omega)
    · rintro ⟨h1, h2, h3⟩
      refine ⟨⟨h1, fun e => h2 (List.eq_nil_of_length_eq_zero e)⟩, ?_⟩
      cases hh : h.has with
      | true => exact .inl rfl
      | false => exact .inr (by rw [h3 hh]; simp)
  have hiff : (goB h = true ∧ (rowP h).2 = false) ↔ Right h := by
    rw [right_iff hr, hgo, o1]
    constructor
    · rintro ⟨⟨h1, h2, h3⟩, z1, z2, z3, z4, z5, z6⟩
      rw [numsB_len] at z4
      refine ⟨h1, h2, h3, z3, by omega, z5, ?_⟩
      cases hh : h.has with
      | true => exact z6 hh
      | false => rw [h3 hh]; exact ⟨fun x hx => absurd hx List.not_mem_nil, by simp [extsB]⟩
    · rintro ⟨h1, h2, h3, a3, a4, a5, a6, a7⟩
      obtain ⟨w1, w2, _, _⟩ := wrong_ok.1 h1
      have hv := ver_in w1
      exact ⟨⟨h1, h2, h3⟩, ⟨by omega, by omega⟩, by omega, a3, by rw [numsB_len]; omega, a5, fun _ => ⟨a6, a7⟩⟩
  refine ⟨?_, fun h1 => ?_, fun h1 => ?_⟩
  · unfold printS
    split
    · rename_i hc; exact ⟨fun _ => hiff.1 hc, fun _ => rfl⟩
    · rename_i hc; exact ⟨(fun h => by cases h), fun h => absurd (hiff.2 h) hc⟩
  · have hc := hiff.2 h1
    unfold printS
    rw [if_pos hc, o2 hc.2]
  · unfold printS
    rw [if_neg (fun hc => h1 (hiff.1 hc))]
end Go.Proofs.Ytpnidmegeimboaa.He
