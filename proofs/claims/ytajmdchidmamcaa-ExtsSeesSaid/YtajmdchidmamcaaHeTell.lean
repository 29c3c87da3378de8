/-
  Plain facts: what bytes tell as a hello, what is wrong of it, and that what is laid is read as it was, and what is read is laid as it was; bytes of which some are missing. No condition.
-/
import Derived.Test.YtajmdchidmamcaaHePure
namespace Go.Proofs.Ytajmdchidmamcaa.He
open Go.RowKit Go.Proofs.Ytajmdchidmamcaa.Wd Go.Proofs.Ytajmdchidmamcaa.Be

/-- as many as come, and zeros behind them -/
def rowR (t : List UInt8) : List UInt8 := t ++ List.replicate (32 - t.length) 0
def sV (b : List UInt8) : Nat × Option (List UInt8) := numS (some b) 2
def sR (b : List UInt8) : List UInt8 × Option (List UInt8) := takeS (sV b).2 32
def sS (b : List UInt8) : List UInt8 × Option (List UInt8) := vecS (sR b).2 1
def sC (b : List UInt8) : List UInt8 × Option (List UInt8) := vecS (sS b).2 2
def sM (b : List UInt8) : List UInt8 × Option (List UInt8) := vecS (sC b).2 1
def hasS (b : List UInt8) : Bool := decide (0 < leftS (sM b).2)
def sX (b : List UInt8) : List UInt8 × Option (List UInt8) := if hasS b = true then vecS (sM b).2 2 else ([], (sM b).2)
def eS (b : List UInt8) : List (Int × List UInt8) × Bool := if hasS b = true then extsS (sX b).1 else ([], true)
/-- the hello that bytes tell, and whether they are laid out so -/
def helS (b : List UInt8) : Hel := ⟨((sV b).1 : Int), rowR (sR b).1, (sS b).1, (numsS (sC b).1).1, (sM b).1, hasS b, (eS b).1⟩
def okS (b : List UInt8) : Bool := doneS (sX b).2 && (numsS (sC b).1).2 && (eS b).2 && (decide (0 < (numsS (sC b).1).1.length) && decide (0 < (sM b).1.length))
/-- what is wrong of a hello -/
def wrongS (h : Hel) : Int := if h.ver.tdiv 256 ≠ 3 then 5 else if 32 < h.ses.length then 6 else if (0 : UInt8) ∉ h.met then 8 else if ¬ (h.exts.map (·.1)).Nodup then 7 else 0
def parseS (b : List UInt8) : Hel × Int := if okS b = true then (if wrongS (helS b) = 0 then (helS b, 0) else (Hel.zero, wrongS (helS b))) else (Hel.zero, 3)

def headB (h : Hel) : List UInt8 := two h.ver ++ (h.rnd ++ (vecB 1 h.ses ++ (vecB 2 (numsB h.cph) ++ vecB 1 h.met)))
def tailB (h : Hel) : List UInt8 := if h.has = true then vecB 2 (extsB h.exts) else []
def layS (h : Hel) : List UInt8 := headB h ++ tailB h
structure Form (h : Hel) : Prop where
  ver : In2 h.ver
  rnd : h.rnd.length = 32
  ses : h.ses.length < 256
  cph : ∀ n ∈ h.cph, In2 n
  c0 : h.cph ≠ []
  cl : h.cph.length < 32768
  m0 : h.met ≠ []
  ml : h.met.length < 256
  bare : h.has = false → h.exts = []
  ex : ∀ x ∈ h.exts, InX x
  el : (extsB h.exts).length < 65536

theorem pow1 : (256 : Int) ^ 1 = 256 := rfl
theorem pow2 : (256 : Int) ^ 2 = 65536 := rfl
theorem head_in {h : Hel} (f : Form h) (t : List UInt8) : (sV (headB h ++ t)).1 = h.ver.toNat ∧ (sR (headB h ++ t)).1 = h.rnd ∧ (sS (headB h ++ t)).1 = h.ses ∧ (sC (headB h ++ t)).1 = numsB h.cph ∧ sM (headB h ++ t) = (h.met, some t) := by
  have e1 : sV (headB h ++ t) = (h.ver.toNat, some (h.rnd ++ (vecB 1 h.ses ++ (vecB 2 (numsB h.cph) ++ (vecB 1 h.met ++ t))))) := by
    have : headB h ++ t = bytesOf h.ver 2 ++ (h.rnd ++ (vecB 1 h.ses ++ (vecB 2 (numsB h.cph) ++ (vecB 1 h.met ++ t)))) := by simp [headB, two]
    rw [sV, this]
    exact numS_app _ _ 2 2 (by decide) f.ver.1 f.ver.2
  have e2 : sR (headB h ++ t) = (h.rnd, some (vecB 1 h.ses ++ (vecB 2 (numsB h.cph) ++ (vecB 1 h.met ++ t)))) := by
    rw [sR, e1]
    exact takeS_app _ _ _ (by rw [f.rnd]; rfl)
  have e3 : sS (headB h ++ t) = (h.ses, some (vecB 2 (numsB h.cph) ++ (vecB 1 h.met ++ t))) := by
    rw [sS, e2]
    exact vecS_app _ _ 1 1 (by decide) (by have := f.ses; rw [pow1]; omega)
  have e4 : sC (headB h ++ t) = (numsB h.cph, some (vecB 1 h.met ++ t)) := by
    rw [sC, e3]
    exact vecS_app _ _ 2 2 (by decide) (by have := f.cl; rw [numsB_len, pow2]; omega)
  have e5 : sM (headB h ++ t) = (h.met, some t) := by
    rw [sM, e4]
    exact vecS_app _ _ 1 1 (by decide) (by have := f.ml; rw [pow1]; omega)
  exact ⟨by rw [e1], by rw [e2], by rw [e3], by rw [e4], e5⟩

theorem form_in {h : Hel} (f : Form h) : okS (layS h) = true ∧ helS (layS h) = h := by
  obtain ⟨e1, e2, e3, e4, e5⟩ := head_in f (tailB h)
  change (sV (layS h)).1 = _ at e1
  change (sR (layS h)).1 = _ at e2
  change (sS (layS h)).1 = _ at e3
  change (sC (layS h)).1 = _ at e4
  change sM (layS h) = _ at e5
  have e6 := numsS_in h.cph f.cph
  rw [← e4] at e6
  have e7 : hasS (layS h) = h.has := by
    rw [hasS, e5]
    cases hh : h.has with
    | false => simp [tailB, hh, leftS]
    | true => simp [tailB, hh, leftS, vecB_len]; omega
  have e8 : doneS (sX (layS h)).2 = true ∧ eS (layS h) = (h.exts, true) := by
    unfold eS sX
    rw [e7, e5]
    cases hh : h.has with
    | false =>
      rw [f.bare hh]
      simp [tailB, hh, doneS]
    | true =>
      have e9 : vecS (some (tailB h)) 2 = (extsB h.exts, some []) := by
        have e10 := vecS_app (extsB h.exts) [] 2 2 (by decide) (by have := f.el; rw [pow2]; omega)
        rw [List.append_nil] at e10
        rw [tailB, if_pos hh]
        exact e10
      simp only [if_true]
      rw [e9]
      exact ⟨rfl, extsS_in _ f.ex⟩
  have hc := List.length_pos_iff.2 f.c0
  have hm := List.length_pos_iff.2 f.m0
  refine ⟨?_, ?_⟩
  · unfold okS
    rw [e6, e8.1, e8.2, e5]
    simp [hc, hm]
  · unfold helS
    rw [e1, e2, e3, e6, e5, e7, e8.2, Int.toNat_of_nonneg f.ver.1]
    have : rowR h.rnd = h.rnd := by simp [rowR, f.rnd]
    rw [this]

theorem form_inv {b : List UInt8} (h : okS b = true) : Form (helS b) ∧ layS (helS b) = b := by
  unfold okS at h
  simp only [Bool.and_eq_true, decide_eq_true_eq] at h
  obtain ⟨⟨⟨hd, hn⟩, he⟩, hc0, hm0⟩ := h
  obtain ⟨t6, hx⟩ : ∃ t, (sX b).2 = some t := by
    cases hq : (sX b).2 with
    | none => rw [hq] at hd; cases hd
    | some t => exact ⟨t, rfl⟩
  rw [hx] at hd
  have ht6 : t6 = [] := by simpa [doneS] using hd
  subst ht6
  obtain ⟨n1, n2⟩ := numsS_inv hn
  -- the state behind the methods
  obtain ⟨t5, h5, h6⟩ : ∃ t5, (sM b).2 = some t5 ∧ t5 = (if hasS b = true then vecB 2 (extsB (eS b).1) else []) ∧ (∀ x ∈ (eS b).1, InX x) ∧ (extsB (eS b).1).length < 65536 ∧ (hasS b = false → (eS b).1 = []) := by
    cases hh : hasS b with
    | false =>
      have e1 : eS b = ([], true) := by rw [eS, hh]; rfl
      have e2 : sX b = ([], (sM b).2) := by rw [sX, hh]; rfl
      rw [e2] at hx
      rw [e1]
      exact ⟨[], hx, rfl, by simp, by simp [extsB], fun _ => rfl⟩
    | true =>
      have e1 : eS b = extsS (sX b).1 := by rw [eS, hh]; rfl
      have e2 : sX b = vecS (sM b).2 2 := by rw [sX, hh]; rfl
      rw [e1] at he ⊢
      obtain ⟨h1, h2⟩ := extsS_inv he
      have h3 : vecS (sM b).2 2 = ((sX b).1, some []) := by rw [← e2, ← hx]
      obtain ⟨h4, h7⟩ := vecS_inv (k := 2) (by decide) h3
      rw [List.append_nil] at h4
      rw [pow2] at h7
      refine ⟨_, h4, ?_, h2, by rw [← h1]; omega, fun h => by cases h⟩
      rw [← h1]
      rfl
  obtain ⟨h6, x1, x2, x3⟩ := h6
  obtain ⟨h8, h9⟩ := vecS_inv (size := 1) (k := 1) (by decide) (show vecS (sC b).2 1 = ((sM b).1, some t5) from Prod.ext rfl h5)
  obtain ⟨h10, h11⟩ := vecS_inv (size := 2) (k := 2) (by decide) (show vecS (sS b).2 2 = ((sC b).1, some _) from Prod.ext rfl h8)
  obtain ⟨h12, h13⟩ := vecS_inv (size := 1) (k := 1) (by decide) (show vecS (sR b).2 1 = ((sS b).1, some _) from Prod.ext rfl h10)
  obtain ⟨h14, h15⟩ := takeS_inv (n := 32) (show takeS (sV b).2 32 = ((sR b).1, some _) from Prod.ext rfl h12)
  obtain ⟨h16, h17⟩ := numS_inv (size := 2) (k := 2) (by decide) (show numS (some b) 2 = ((sV b).1, some _) from Prod.ext rfl h14)
  rw [pow1] at h9 h13
  rw [pow2] at h11
  have e256 : (256 : Nat) ^ 2 = 65536 := rfl
  have hl32 : (sR b).1.length = 32 := by omega
  have hr : rowR (sR b).1 = (sR b).1 := by simp [rowR, hl32]
  have hnl : (sC b).1.length = 2 * (numsS (sC b).1).1.length := by conv => lhs; rw [n1, numsB_len]
  refine ⟨⟨⟨by show (0 : Int) ≤ ((sV b).1 : Nat); omega, by show (((sV b).1 : Nat) : Int) < 65536; omega⟩, by show (rowR (sR b).1).length = 32; rw [hr]; exact hl32, by show (sS b).1.length < 256; omega, n2, List.length_pos_iff.1 hc0, by show (numsS (sC b).1).1.length < 32768; omega,
    List.length_pos_iff.1 hm0, by show (sM b).1.length < 256; omega, x3, x1, x2⟩, ?_⟩
  injection h16 with h16
  have e1 : headB (helS b) = two ((sV b).1 : Int) ++ ((sR b).1 ++ (vecB 1 (sS b).1 ++ (vecB 2 (sC b).1 ++ vecB 1 (sM b).1))) := by
    show two ((sV b).1 : Int) ++ (rowR (sR b).1 ++ (vecB 1 (sS b).1 ++ (vecB 2 (numsB (numsS (sC b).1).1) ++ vecB 1 (sM b).1))) = _
    rw [hr, ← n1]
  have e2 : tailB (helS b) = t5 := h6.symm
  rw [layS, e1, e2]
  conv => rhs; rw [h16]
  simp [two]

/-- what bytes begin with -/
theorem head_eq {x h : Hel} (fx : Form x) (fh : Form h) {t s : List UInt8} (e : headB x ++ t = headB h ++ s) : x.ver = h.ver ∧ x.rnd = h.rnd ∧ x.ses = h.ses ∧ x.cph = h.cph ∧ x.met = h.met ∧ t = s := by
  obtain ⟨a1, a2, a3, a4, a5⟩ := head_in fx t
  obtain ⟨b1, b2, b3, b4, b5⟩ := head_in fh s
  rw [e] at a1 a2 a3 a4 a5
  have c1 : x.ver = h.ver := by
    have h1 := Int.toNat_of_nonneg fx.ver.1
    have h2 := Int.toNat_of_nonneg fh.ver.1
    rw [← h1, ← h2, ← a1, ← b1]
  have c4 : x.cph = h.cph := by
    have h1 := numsS_in x.cph fx.cph
    have h2 := numsS_in h.cph fh.cph
    rw [← a4, b4, h2] at h1
    injection h1 with h1
    exact h1.symm
  rw [b5] at a5
  injection a5 with a5 a6
  injection a6 with a6
  exact ⟨c1, a2.symm.trans b2, a3.symm.trans b3, c4, a5.symm, a6.symm⟩
theorem vecB_eq {x y t s : List UInt8} (hx : x.length < 65536) (hy : y.length < 65536) (e : vecB 2 x ++ t = vecB 2 y ++ s) : x = y ∧ t = s := by
  have h1 := vecS_app x t 2 2 (by decide) (by rw [pow2]; omega)
  have h2 := vecS_app y s 2 2 (by decide) (by rw [pow2]; omega)
  rw [e, h2] at h1
  injection h1 with h1 h3
  injection h3 with h3
  exact ⟨h1.symm, h3.symm⟩
theorem tail_ne {h : Hel} (hne : tailB h ≠ []) : h.has = true := by
  cases hh : h.has with
  | true => rfl
  | false => rw [tailB, hh] at hne; exact absurd rfl hne
/-- a beginning of a hello's bytes, that is one: all but the extensions -/
theorem cut_tell {b r : List UInt8} (hr : r ≠ []) (h : okS (b ++ r) = true) (hb : okS b = true) :
    (helS (b ++ r)).has = true ∧ helS b = { helS (b ++ r) with has := false, exts := [] } := by
  obtain ⟨f1, l1⟩ := form_inv h
  obtain ⟨f2, l2⟩ := form_inv hb
  have e : headB (helS b) ++ (tailB (helS b) ++ r) = headB (helS (b ++ r)) ++ tailB (helS (b ++ r)) := by
    rw [← List.append_assoc]
    show layS (helS b) ++ r = layS (helS (b ++ r))
    rw [l1, l2]
  obtain ⟨c1, c2, c3, c4, c5, c6⟩ := head_eq f2 f1 e
  have hh := tail_ne (h := helS (b ++ r)) (by rw [← c6]; simp [hr])
  have hx : (helS b).has = false := by
    cases hq : (helS b).has with
    | false => rfl
    | true =>
      have e1 : tailB (helS b) = vecB 2 (extsB (helS b).exts) := by rw [tailB, if_pos hq]
      have e2 : tailB (helS (b ++ r)) = vecB 2 (extsB (helS (b ++ r)).exts) ++ [] := by rw [tailB, if_pos hh, List.append_nil]
      rw [e1, e2] at c6
      exact absurd (vecB_eq f2.el f1.el c6).2 hr
  refine ⟨hh, ?_⟩
  have hE := f2.bare hx
  generalize helS b = x at *
  obtain ⟨x1, x2, x3, x4, x5, x6, x7⟩ := x
  simp only at c1 c2 c3 c4 c5 hx hE
  subst c1 c2 c3 c4 c5 hx hE
  rfl
theorem wrong_bare (h : Hel) (hw : wrongS h = 0) : wrongS { h with has := false, exts := [] } = 0 := by
  unfold wrongS at *
  split at hw
  · cases hw
  · split at hw
    · cases hw
    · split at hw
      · cases hw
      · rename_i h1 h2 h3
        rw [if_neg h1, if_neg h2, if_neg h3]
        simp
/-- nothing stands behind a hello with extensions -/
theorem more_tell {b r : List UInt8} (hr : r ≠ []) (h : okS b = true) (hh : (helS b).has = true) : okS (b ++ r) = false := by
  cases hb : okS (b ++ r) with
  | false => rfl
  | true =>
    have := (cut_tell hr hb h).2
    rw [this] at hh
    cases hh
theorem parse_form {b : List UInt8} (h : okS b = false) : parseS b = (Hel.zero, 3) := by rw [parseS, if_neg (by rw [h]; simp)]
theorem parse_ok {b : List UInt8} : (parseS b).2 = 0 ↔ okS b = true ∧ wrongS (helS b) = 0 := by
  unfold parseS
  constructor
  · intro h
    split at h
    · split at h
      · rename_i h1 h2; exact ⟨h1, h2⟩
      · rename_i h1 h2; exact absurd h h2
    · cases h
  · rintro ⟨h1, h2⟩
    rw [if_pos h1, if_pos h2]
theorem parse_is {b : List UInt8} (h1 : okS b = true) (h2 : wrongS (helS b) = 0) : parseS b = (helS b, 0) := by rw [parseS, if_pos h1, if_pos h2]
theorem parse_bad {b : List UInt8} (h : (parseS b).2 ≠ 0) : (parseS b).1 = Hel.zero := by
  unfold parseS at *
  split
  · rename_i h1
    rw [if_pos h1] at h
    split
    · rename_i h2; rw [if_pos h2] at h; exact absurd rfl h
    · rfl
  · rfl
/-- what can be told -/
def Right (h : Hel) : Prop := Form h ∧ wrongS h = 0
theorem parse_lay {h : Hel} (r : Right h) : parseS (layS h) = (h, 0) := by
  obtain ⟨h1, h2⟩ := form_in r.1
  rw [parse_is h1 (by rw [h2]; exact r.2), h2]
theorem lay_parse {b : List UInt8} (h : (parseS b).2 = 0) : Right (parseS b).1 ∧ layS (parseS b).1 = b := by
  obtain ⟨h1, h2⟩ := parse_ok.1 h
  rw [parse_is h1 h2]
  obtain ⟨h3, h4⟩ := form_inv h1
  exact ⟨⟨h3, h2⟩, h4⟩
theorem ver_in {v : Int} (h : v.tdiv 256 = 3) : 768 ≤ v ∧ v < 1024 := by
  by_cases h0 : 0 ≤ v
  · rw [Int.tdiv_eq_ediv_of_nonneg h0] at h
    omega
  · obtain ⟨m, rfl⟩ : ∃ m, v = -m := ⟨-v, by omega⟩
    rw [Int.neg_tdiv, Int.tdiv_eq_ediv_of_nonneg (by omega)] at h
    omega
theorem wrong_ok {h : Hel} : wrongS h = 0 ↔ h.ver.tdiv 256 = 3 ∧ h.ses.length ≤ 32 ∧ (0 : UInt8) ∈ h.met ∧ (h.exts.map (·.1)).Nodup := by
  unfold wrongS
  constructor
  · intro hw
    split at hw
    · cases hw
    · split at hw
      · cases hw
      · split at hw
        · cases hw
        · split at hw
          · cases hw
          · rename_i h1 h2 h3 h4
            exact ⟨by simpa using h1, by omega, by simpa using h3, by simpa using h4⟩
  · rintro ⟨h1, h2, h3, h4⟩
    rw [if_neg (by simpa using h1), if_neg (by omega), if_neg (by simpa using h3), if_neg (by simpa using h4)]
/-- what Print asks, and no more -/
theorem right_iff {h : Hel} (hr : h.rnd.length = 32) : Right h ↔ wrongS h = 0 ∧ h.cph ≠ [] ∧ (h.has = false → h.exts = []) ∧ (∀ n ∈ h.cph, In2 n) ∧ h.cph.length < 32768 ∧ h.met.length < 256 ∧ (∀ x ∈ h.exts, InX x) ∧ (extsB h.exts).length < 65536 := by
  constructor
  · rintro ⟨f, hw⟩
    exact ⟨hw, f.c0, f.bare, f.cph, f.cl, f.ml, f.ex, f.el⟩
  · rintro ⟨hw, a1, a2, a3, a4, a5, a6, a7⟩
    obtain ⟨h1, h2, h3, _⟩ := wrong_ok.1 hw
    refine ⟨⟨?_, hr, by omega, a3, a1, a4, fun e => (by rw [e] at h3; cases h3), a5, a2, a6, a7⟩, hw⟩
    have := ver_in h1
    constructor <;> omega
end Go.Proofs.Ytajmdchidmamcaa.He
