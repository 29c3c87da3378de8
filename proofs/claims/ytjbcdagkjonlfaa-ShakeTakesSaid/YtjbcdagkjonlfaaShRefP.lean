/-
  The document's own message (hagioscoperef08), plain: what came and the error; that it tells what our message tells. Plain facts, no condition.
-/
import Derived.Test.YtjbcdagkjonlfaaShPure
namespace Go.Proofs.Ytjbcdagkjonlfaa.Sh
set_option maxRecDepth 20000

/-- the number, as far as it was read ahead of byte k -/
def szK (bs : List UInt8) : Nat → Nat
  | 0 => 0
  | 1 => 0
  | k + 2 => szK bs (k + 1) * 256 + (bs.getD (k + 1) 0).toNat
def sizeR (bs : List UInt8) : Nat := szK bs 4
theorem szK_step (bs : List UInt8) (k : Nat) (h : 1 ≤ k) : szK bs (k + 1) = szK bs k * 256 + (bs.getD k 0).toNat := by
  obtain ⟨j, rfl⟩ : ∃ j, k = j + 1 := ⟨k - 1, by omega⟩
  rfl
theorem szK_lt (bs : List UInt8) (k : Nat) (h : 1 ≤ k) (h3 : k ≤ 3) : szK bs k ≤ 65535 := by
  have b1 := (bs.getD 1 0).toNat_lt
  have b2 := (bs.getD 2 0).toNat_lt
  have e1 : szK bs 1 = 0 := rfl
  have e2 : szK bs 2 = szK bs 1 * 256 + (bs.getD 1 0).toNat := rfl
  have e3 : szK bs 3 = szK bs 2 * 256 + (bs.getD 2 0).toNat := rfl
  obtain rfl | rfl | rfl : k = 1 ∨ k = 2 ∨ k = 3 := by omega
  all_goals omega
theorem sizeR_eq (bs : List UInt8) : sizeR bs = (bs.getD 1 0).toNat * 65536 + (bs.getD 2 0).toNat * 256 + (bs.getD 3 0).toNat := by
  have e1 : szK bs 1 = 0 := rfl
  have e2 : szK bs 2 = szK bs 1 * 256 + (bs.getD 1 0).toNat := rfl
  have e3 : szK bs 3 = szK bs 2 * 256 + (bs.getD 2 0).toNat := rfl
  have e4 : sizeR bs = szK bs 3 * 256 + (bs.getD 3 0).toNat := rfl
  omega
theorem sizeR_lt (bs : List UInt8) : sizeR bs ≤ 16777215 := by
  rw [sizeR_eq]
  have b1 := (bs.getD 1 0).toNat_lt
  have b2 := (bs.getD 2 0).toNat_lt
  have b3 := (bs.getD 3 0).toNat_lt
  omega
def wholeR (bs : List UInt8) : Bool := decide (4 ≤ bs.length ∧ bs.length = 4 + sizeR bs)
def errR (bs : List UInt8) : Nat := if bs.getD 0 0 ≠ 1 then 4 else if 16384 < sizeR bs then 6 else 0
/-- what came, and the error, behind one more byte -/
def stepR (s : List UInt8 × Nat) (c : UInt8) : List UInt8 × Nat :=
  if s.2 ≠ 0 then s else if wholeR s.1 then s else (s.1 ++ [c], errR (s.1 ++ [c]))
def wholeS (s : List UInt8 × Nat) : Bool := decide (s.2 = 0) && wholeR s.1
def wantS (s : List UInt8 × Nat) : Nat := if s.2 ≠ 0 then 0 else if s.1.length < 4 then 4 - s.1.length else 4 + sizeR s.1 - s.1.length
def bodyS (s : List UInt8 × Nat) : List UInt8 := if wholeS s then s.1.drop 4 else []

/-- both tell the same -/
structure Rel (s : List UInt8 × Nat) (m : M) : Prop where
  er : s.2 = m.e
  len : m.e = 0 → s.1.length = m.h + m.b.length
  sz : m.e = 0 → sizeR s.1 = m.s
  body : m.e = 0 → s.1.drop 4 = m.b
  one : m.e = 0 → m.h ≠ 0 → s.1.getD 0 0 = 1
theorem Rel.st : Rel ([], 0) M.st := ⟨rfl, fun _ => rfl, fun _ => rfl, fun _ => rfl, fun _ h => absurd rfl h⟩
theorem rel_whole {s : List UInt8 × Nat} {m : M} (h : Rel s m) (k : OkM m) : wholeS s = wholeM m := by
  unfold wholeS wholeR
  rw [Bool.eq_iff_iff, Bool.and_eq_true, decide_eq_true_iff, decide_eq_true_iff, whole_iff k, h.er]
  have h4 := k.h4
  constructor
  · rintro ⟨h0, h1, h2⟩
    have l := h.len h0
    have z := h.sz h0
    have b := k.bd h0
    by_cases hh : m.h < 4
    · have := k.no hh
      rw [this] at l
      simp at l
      omega
    · exact ⟨h0, by omega, by omega⟩
  · rintro ⟨h0, h1, h2⟩
    have l := h.len h0
    have z := h.sz h0
    exact ⟨h0, by omega, by omega⟩
theorem rel_want {s : List UInt8 × Nat} {m : M} (h : Rel s m) (k : OkM m) : wantS s = wantM m := by
  unfold wantS wantM
  rw [h.er]
  by_cases h0 : m.e = 0
  · rw [if_neg (show ¬ m.e ≠ 0 from by omega), if_neg (show ¬ m.e ≠ 0 from by omega)]
    have l := h.len h0
    have z := h.sz h0
    have h4 := k.h4
    by_cases hh : m.h < 4
    · have := k.no hh
      rw [this] at l
      simp at l
      rw [if_pos (show s.1.length < 4 from by omega), if_pos hh]
      omega
    · rw [if_neg (show ¬ s.1.length < 4 from by omega), if_neg hh]
      omega
  · rw [if_pos h0, if_pos h0]
theorem rel_body {s : List UInt8 × Nat} {m : M} (h : Rel s m) (k : OkM m) : bodyS s = bodyM m := by
  unfold bodyS bodyM
  rw [rel_whole h k]
  by_cases hw : wholeM m = true
  · rw [if_pos hw, if_pos hw]
    exact h.body ((whole_iff k).1 hw).1
  · rw [if_neg hw, if_neg hw]
theorem rel_few {s : List UInt8 × Nat} {m : M} (h : Rel s m) (k : OkM m) (h0 : s.2 = 0) : s.1.length ≤ 20000 := by
  rw [h.er] at h0
  have l := h.len h0
  have := k.bl
  have := k.h4
  omega
theorem getD_app (bs : List UInt8) (c : UInt8) (i : Nat) : (bs ++ [c]).getD i 0 = if i < bs.length then bs.getD i 0 else if i = bs.length then c else 0 := by
  simp only [List.getD_eq_getElem?_getD, List.getElem?_append]
  split
  · rfl
  · rename_i h
    by_cases hi : i = bs.length
    · subst hi; simp
    · rw [if_neg hi, List.getElem?_eq_none (by simp; omega)]
      rfl
theorem getD_far (bs : List UInt8) (i : Nat) (h : bs.length ≤ i) : bs.getD i 0 = 0 := by
  rw [List.getD_eq_getElem?_getD, List.getElem?_eq_none h]
  rfl
theorem rel_step {s : List UInt8 × Nat} {m : M} (h : Rel s m) (k : OkM m) (c : UInt8) : Rel (stepR s c) (stepM m c) := by
  have hw := rel_whole h k
  obtain ⟨bs, e⟩ := s
  obtain ⟨er, len, sz, body, one⟩ := h
  simp only at er len sz body one
  by_cases h0 : m.e = 0
  · have e0 : e = 0 := by omega
    subst e0
    have len := len h0
    have sz := sz h0
    have body := body h0
    have one0 := one h0
    clear one
    have h4 := k.h4
    by_cases hm : wholeM m = true
    · rw [whole_stay k hm]
      have : stepR (bs, 0) c = (bs, 0) := by
        unfold stepR
        rw [if_neg (by simp), if_pos]
        unfold wholeS at hw
        rw [hm] at hw
        simpa using hw
      rw [this]
      exact ⟨er, fun _ => len, fun _ => sz, fun _ => body, fun _ => one0⟩
    · have hst : stepR (bs, 0) c = (bs ++ [c], errR (bs ++ [c])) := by
        unfold stepR
        rw [if_neg (by simp), if_neg]
        unfold wholeS at hw
        intro hx
        rw [hx] at hw
        exact hm (by rw [← hw]; rfl)
      rw [hst]
      have hz := sizeR_eq (bs ++ [c])
      have hz0 := sizeR_eq bs
      rw [sz] at hz0
      simp only [getD_app] at hz
      by_cases hh : m.h < 4
      · have hb := k.no hh
        have hl : bs.length = m.h := by rw [len, hb]; simp
        have lo := k.lo h0
        have cl := c.toNat_lt
        obtain ⟨mh, ms, mb, me⟩ := m
        simp only at hh hb hl lo h0 sz body one0 len hz0 h4
        subst h0 hb
        obtain rfl | rfl | rfl | rfl : mh = 0 ∨ mh = 1 ∨ mh = 2 ∨ mh = 3 := by omega
        · obtain rfl : bs = [] := List.eq_nil_of_length_eq_zero hl
          simp at hz
          have lo := lo (by omega)
          subst lo
          by_cases hc : c.toNat = 1
          · have hc1 : c = 1 := by
              apply UInt8.toNat_inj.1
              exact hc
            subst hc1
            exact ⟨rfl, fun _ => rfl, fun _ => by simp [sizeR_eq, stepM], fun _ => rfl, fun _ _ => rfl⟩
          · have e1 : stepM ⟨0, 0, [], 0⟩ c = ⟨0, 0, [], 4⟩ := by unfold stepM; simp [hc]
            rw [e1]
            have e2 : errR ([] ++ [c]) = 4 := by
              unfold errR
              rw [if_pos]
              intro hx
              apply hc
              have : c = 1 := hx
              rw [this]
              rfl
            exact ⟨e2, fun hx => absurd hx (by simp), fun hx => absurd hx (by simp), fun hx => absurd hx (by simp), fun hx => absurd hx (by simp)⟩
        all_goals
          have h1 : (bs ++ [c]).getD 0 0 = 1 := by rw [getD_app, if_pos (by omega)]; exact one0 (by omega)
          have hd : (bs ++ [c]).drop 4 = [] := by rw [List.drop_eq_nil_iff]; simp; omega
          rw [hl] at hz
          simp at hz
          have f1 := getD_far bs 1
          have f2 := getD_far bs 2
          have f3 := getD_far bs 3
        · have lo := lo (by omega)
          subst lo
          by_cases hc : c.toNat * 65536 ≤ 16384
          · have e1 : stepM ⟨1, 0, [], 0⟩ c = ⟨2, c.toNat * 65536, [], 0⟩ := by unfold stepM; simp [hc]
            rw [e1]
            have e2 : errR (bs ++ [c]) = 0 := by unfold errR; rw [if_neg (by simpa using h1), if_neg (by omega)]
            exact ⟨e2, fun _ => by simp; omega, fun _ => by simp only; omega, fun _ => hd, fun _ _ => h1⟩
          · have e1 : stepM ⟨1, 0, [], 0⟩ c = ⟨1, c.toNat * 65536, [], 6⟩ := by unfold stepM; simp [hc]
            rw [e1]
            have e2 : errR (bs ++ [c]) = 6 := by unfold errR; rw [if_neg (by simpa using h1), if_pos (by omega)]
            exact ⟨e2, fun hx => absurd hx (by simp), fun hx => absurd hx (by simp), fun hx => absurd hx (by simp), fun hx => absurd hx (by simp)⟩
        · have lo := lo (by omega)
          subst lo
          have g1 : (bs.getD 1 0).toNat = 0 := by omega
          by_cases hc : c.toNat * 256 ≤ 16384
          · have e1 : stepM ⟨2, 0, [], 0⟩ c = ⟨3, c.toNat * 256, [], 0⟩ := by unfold stepM; simp [hc]
            rw [e1]
            have e2 : errR (bs ++ [c]) = 0 := by unfold errR; rw [if_neg (by simpa using h1), if_neg (by simp at g1; omega)]
            exact ⟨e2, fun _ => by simp; omega, fun _ => by simp only; simp at g1; omega, fun _ => hd, fun _ _ => h1⟩
          · have e1 : stepM ⟨2, 0, [], 0⟩ c = ⟨2, c.toNat * 256, [], 6⟩ := by unfold stepM; simp [hc]
            rw [e1]
            have e2 : errR (bs ++ [c]) = 6 := by unfold errR; rw [if_neg (by simpa using h1), if_pos (by omega)]
            exact ⟨e2, fun hx => absurd hx (by simp), fun hx => absurd hx (by simp), fun hx => absurd hx (by simp), fun hx => absurd hx (by simp)⟩
        · have g3 : (bs.getD 3 0).toNat = 0 := by rw [f3 (by omega)]; rfl
          have hz1 : sizeR (bs ++ [c]) = ms + c.toNat := by simp at hz0 g3; omega
          by_cases hc : ms + c.toNat ≤ 16384
          · have e1 : stepM ⟨3, ms, [], 0⟩ c = ⟨4, ms + c.toNat, [], 0⟩ := by unfold stepM; simp [hc]
            rw [e1]
            have e2 : errR (bs ++ [c]) = 0 := by unfold errR; rw [if_neg (by simpa using h1), if_neg (by omega)]
            exact ⟨e2, fun _ => by simp; omega, fun _ => hz1, fun _ => hd, fun _ _ => h1⟩
          · have e1 : stepM ⟨3, ms, [], 0⟩ c = ⟨3, ms + c.toNat, [], 6⟩ := by unfold stepM; simp [hc]
            rw [e1]
            have e2 : errR (bs ++ [c]) = 6 := by unfold errR; rw [if_neg (by simpa using h1), if_pos (by omega)]
            exact ⟨e2, fun hx => absurd hx (by simp), fun hx => absurd hx (by simp), fun hx => absurd hx (by simp), fun hx => absurd hx (by simp)⟩
      · have h44 : m.h = 4 := by omega
        have hs : m.b.length < m.s := by
          have := k.bd h0
          have := mt (whole_iff k).2 hm
          rcases Nat.lt_or_ge m.b.length m.s with g | g
          · exact g
          · exact absurd ⟨h0, h44, by omega⟩ this
        rw [stepM_body h0 h44 hs]
        have hz1 : sizeR (bs ++ [c]) = m.s := by
          rw [if_pos (by omega), if_pos (by omega), if_pos (by omega)] at hz
          omega
        have h1 : (bs ++ [c]).getD 0 0 = 1 := by rw [getD_app, if_pos (by omega)]; exact one0 (by omega)
        have few := k.few h0
        have e2 : errR (bs ++ [c]) = 0 := by unfold errR; rw [if_neg (by simpa using h1), if_neg (by omega)]
        refine ⟨e2, fun _ => ?_, fun _ => hz1, fun _ => ?_, fun _ _ => h1⟩
        · simp only [List.length_append, List.length_cons, List.length_nil]
          omega
        · show (bs ++ [c]).drop 4 = m.b ++ [c]
          rw [List.drop_append_of_le_length (by omega), body]
  · rw [stepM_bad h0]
    have : stepR (bs, e) c = (bs, e) := by unfold stepR; rw [if_pos (by simp only; omega)]
    rw [this]
    exact ⟨er, len, sz, body, one⟩
end Go.Proofs.Ytjbcdagkjonlfaa.Sh
