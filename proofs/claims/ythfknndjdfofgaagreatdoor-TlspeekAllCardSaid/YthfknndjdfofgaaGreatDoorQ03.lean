/-
 Plain facts: what bytes tell as a hello, what is wrong of it, and that what is laid is read as it was, and what is read is laid as it was; bytes of which some are missing. No condition.
-/
import Derived.Test.YthfknndjdfofgaaGreatDoorQ02
import Derived.Test.YthfknndjdfofgaaGreatDoorQ01
import Derived.Maps.AppendAt
import Derived.OwnWalk
import Derived.Deep.RegionHeldLaw
import Derived.Deep.QuietTactic
import Derived.BigQuiet
import Derived.RegionTactic
import Derived.IntWalk
import Derived.Deep.Cut
import Derived.WalkSpells
import Derived.Lib.SliceRun
namespace Go.Proofs.YthfknndjdfofgaaGreatDoor.He
open Go.RowKit Go.Proofs.YthfknndjdfofgaaGreatDoor.Wd Go.Proofs.YthfknndjdfofgaaGreatDoor.Be

def rowR (t : List UInt8) : List UInt8 := t ++ List.replicate (32 - t.length) 0
def sV (b : List UInt8) : Nat × Option (List UInt8) := numS (some b) 2
def sR (b : List UInt8) : List UInt8 × Option (List UInt8) := takeS (sV b).2 32
def sS (b : List UInt8) : List UInt8 × Option (List UInt8) := vecS (sR b).2 1
def sC (b : List UInt8) : List UInt8 × Option (List UInt8) := vecS (sS b).2 2
def sM (b : List UInt8) : List UInt8 × Option (List UInt8) := vecS (sC b).2 1
def hasS (b : List UInt8) : Bool := decide (0 < leftS (sM b).2)
def sX (b : List UInt8) : List UInt8 × Option (List UInt8) := if hasS b = true then vecS (sM b).2 2 else ([], (sM b).2)
def eS (b : List UInt8) : List (Int × List UInt8) × Bool := if hasS b = true then extsS (sX b).1 else ([], true)
def helS (b : List UInt8) : Hel := ⟨((sV b).1 : Int), rowR (sR b).1, (sS b).1, (numsS (sC b).1).1, (sM b).1, hasS b, (eS b).1⟩
def okS (b : List UInt8) : Bool := doneS (sX b).2 && (numsS (sC b).1).2 && (eS b).2 && (decide (0 < (numsS (sC b).1).1.length) && decide (0 < (sM b).1.length))
def wrongS (h : Hel) : Int := if h.ver.tdiv 256 ≠ 3 then 5 else if 32 < h.ses.length then 6 else if (0 : UInt8) ∉ h.met then 8 else if ¬ (h.exts.map (·.1)).Nodup then 7 else 0
def parseS (b : List UInt8) : Hel × Int := if okS b = true then (if wrongS (helS b) = 0 then (helS b, 0) else (Hel.zero, wrongS (helS b))) else (Hel.zero, 3)

def headB (h : Hel) : List UInt8 := two h.ver ++ (h.rnd ++ (vecB 1 h.ses ++ (vecB 2 (numsB h.cph) ++ vecB 1 h.met)))
def tailB (h : Hel) : List UInt8 := if h.has = true then vecB 2 (extsB h.exts) else []
def layS (h : Hel) : List UInt8 := headB h ++ tailB h
structure Form (h : Hel) : Prop where
 ver : In2 h.ver
 rnd : h.rnd.length = 32
 ses : h.ses.length < 256
 cph : ∀ n ∈ h.cph, In2 n
 c0 : h.cph ≠ []
 cl : h.cph.length < 32768
 m0 : h.met ≠ []
 ml : h.met.length < 256
 bare : h.has = false → h.exts = []
 ex : ∀ x ∈ h.exts, InX x
 el : (extsB h.exts).length < 65536

theorem pow1 : (256 : Int) ^ 1 = 256 := rfl
theorem pow2 : (256 : Int) ^ 2 = 65536 := rfl
theorem head_in {h : Hel} (f : Form h) (t : List UInt8) : (sV (headB h ++ t)).1 = h.ver.toNat ∧ (sR (headB h ++ t)).1 = h.rnd ∧ (sS (headB h ++ t)).1 = h.ses ∧ (sC (headB h ++ t)).1 = numsB h.cph ∧ sM (headB h ++ t) = (h.met, some t) := by
 have e1 : sV (headB h ++ t) = (h.ver.toNat, some (h.rnd ++ (vecB 1 h.ses ++ (vecB 2 (numsB h.cph) ++ (vecB 1 h.met ++ t))))) := by
   have : headB h ++ t = bytesOf h.ver 2 ++ (h.rnd ++ (vecB 1 h.ses ++ (vecB 2 (numsB h.cph) ++ (vecB 1 h.met ++ t)))) := by simp [headB, two]
   rw [sV, this]
   exact numS_app _ _ 2 2 (by decide) f.ver.1 f.ver.2
 have e2 : sR (headB h ++ t) = (h.rnd, some (vecB 1 h.ses ++ (vecB 2 (numsB h.cph) ++ (vecB 1 h.met ++ t)))) := by
   rw [sR, e1]
   exact takeS_app _ _ _ (by rw [f.rnd]; rfl)
 have e3 : sS (headB h ++ t) = (h.ses, some (vecB 2 (numsB h.cph) ++ (vecB 1 h.met ++ t))) := by
   rw [sS, e2]
   exact vecS_app _ _ 1 1 (by decide) (by have := f.ses; rw [pow1]; omega)
 have e4 : sC (headB h ++ t) = (numsB h.cph, some (vecB 1 h.met ++ t)) := by
   rw [sC, e3]
   exact vecS_app _ _ 2 2 (by decide) (by have := f.cl; rw [numsB_len, pow2]; omega)
 have e5 : sM (headB h ++ t) = (h.met, some t) := by
   rw [sM, e4]
   exact vecS_app _ _ 1 1 (by decide) (by have := f.ml; rw [pow1]; omega)
 exact ⟨by rw [e1], by rw [e2], by rw [e3], by rw [e4], e5⟩

theorem form_in {h : Hel} (f : Form h) : okS (layS h) = true ∧ helS (layS h) = h := by
 obtain ⟨e1, e2, e3, e4, e5⟩ := head_in f (tailB h)
 change (sV (layS h)).1 = _ at e1
 change (sR (layS h)).1 = _ at e2
 change (sS (layS h)).1 = _ at e3
 change (sC (layS h)).1 = _ at e4
 change sM (layS h) = _ at e5
 have e6 := numsS_in h.cph f.cph
 rw [← e4] at e6
 have e7 : hasS (layS h) = h.has := by
   rw [hasS, e5]
   cases hh : h.has with
   | false => simp [tailB, hh, leftS]
   | true => simp [tailB, hh, leftS, vecB_len]; omega
 have e8 : doneS (sX (layS h)).2 = true ∧ eS (layS h) = (h.exts, true) := by
   unfold eS sX
   rw [e7, e5]
   cases hh : h.has with
   | false =>
     rw [f.bare hh]
     simp [tailB, hh, doneS]
   | true =>
     have e9 : vecS (some (tailB h)) 2 = (extsB h.exts, some []) := by
       have e10 := vecS_app (extsB h.exts) [] 2 2 (by decide) (by have := f.el; rw [pow2]; omega)
       rw [List.append_nil] at e10
       rw [tailB, if_pos hh]
       exact e10
     simp only [if_true]
     rw [e9]
     exact ⟨rfl, extsS_in _ f.ex⟩
 have hc := List.length_pos_iff.2 f.c0
 have hm := List.length_pos_iff.2 f.m0
 refine ⟨?_, ?_⟩
 · unfold okS
   rw [e6, e8.1, e8.2, e5]
   simp [hc, hm]
 · unfold helS
   rw [e1, e2, e3, e6, e5, e7, e8.2, Int.toNat_of_nonneg f.ver.1]
   have : rowR h.rnd = h.rnd := by simp [rowR, f.rnd]
   rw [this]

theorem form_inv {b : List UInt8} (h : okS b = true) : Form (helS b) ∧ layS (helS b) = b := by
 unfold okS at h
 simp only [Bool.and_eq_true, decide_eq_true_eq] at h
 obtain ⟨⟨⟨hd, hn⟩, he⟩, hc0, hm0⟩ := h
 obtain ⟨t6, hx⟩ : ∃ t, (sX b).2 = some t := by
   cases hq : (sX b).2 with
   | none => rw [hq] at hd; cases hd
   | some t => exact ⟨t, rfl⟩
 rw [hx] at hd
 have ht6 : t6 = [] := by simpa [doneS] using hd
 subst ht6
 obtain ⟨n1, n2⟩ := numsS_inv hn
 -- the state behind the methods
 obtain ⟨t5, h5, h6⟩ : ∃ t5, (sM b).2 = some t5 ∧ t5 = (if hasS b = true then vecB 2 (extsB (eS b).1) else []) ∧ (∀ x ∈ (eS b).1, InX x) ∧ (extsB (eS b).1).length < 65536 ∧ (hasS b = false → (eS b).1 = []) := by
   cases hh : hasS b with
   | false =>
     have e1 : eS b = ([], true) := by rw [eS, hh]; rfl
     have e2 : sX b = ([], (sM b).2) := by rw [sX, hh]; rfl
     rw [e2] at hx
     rw [e1]
     exact ⟨[], hx, rfl, by simp, by simp [extsB], fun _ => rfl⟩
   | true =>
     have e1 : eS b = extsS (sX b).1 := by rw [eS, hh]; rfl
     have e2 : sX b = vecS (sM b).2 2 := by rw [sX, hh]; rfl
     rw [e1] at he ⊢
     obtain ⟨h1, h2⟩ := extsS_inv he
     have h3 : vecS (sM b).2 2 = ((sX b).1, some []) := by rw [← e2, ← hx]
     obtain ⟨h4, h7⟩ := vecS_inv (k := 2) (by decide) h3
     rw [List.append_nil] at h4
     rw [pow2] at h7
     refine ⟨_, h4, ?_, h2, by rw [← h1]; omega, fun h => by cases h⟩
     rw [← h1]
     rfl
 obtain ⟨h6, x1, x2, x3⟩ := h6
 obtain ⟨h8, h9⟩ := vecS_inv (size := 1) (k := 1) (by decide) (show vecS (sC b).2 1 = ((sM b).1, some t5) from Prod.ext rfl h5)
 obtain ⟨h10, h11⟩ := vecS_inv (size := 2) (k := 2) (by decide) (show vecS (sS b).2 2 = ((sC b).1, some _) from Prod.ext rfl h8)
 obtain ⟨h12, h13⟩ := vecS_inv (size := 1) (k := 1) (by decide) (show vecS (sR b).2 1 = ((sS b).1, some _) from Prod.ext rfl h10)
 obtain ⟨h14, h15⟩ := takeS_inv (n := 32) (show takeS (sV b).2 32 = ((sR b).1, some _) from Prod.ext rfl h12)
 obtain ⟨h16, h17⟩ := numS_inv (size := 2) (k := 2) (by decide) (show numS (some b) 2 = ((sV b).1, some _) from Prod.ext rfl h14)
 rw [pow1] at h9 h13
 rw [pow2] at h11
 have e256 : (256 : Nat) ^ 2 = 65536 := rfl
 have hl32 : (sR b).1.length = 32 := by omega
 have hr : rowR (sR b).1 = (sR b).1 := by simp [rowR, hl32]
 have hnl : (sC b).1.length = 2 * (numsS (sC b).1).1.length := by conv => lhs; rw [n1, numsB_len]
 refine ⟨⟨⟨by show (0 : Int) ≤ ((sV b).1 : Nat); omega, by show (((sV b).1 : Nat) : Int) < 65536; omega⟩, by show (rowR (sR b).1).length = 32; rw [hr]; exact hl32, by show (sS b).1.length < 256; omega, n2, List.length_pos_iff.1 hc0, by show (numsS (sC b).1).1.length < 32768; omega,
   List.length_pos_iff.1 hm0, by show (sM b).1.length < 256; omega, x3, x1, x2⟩, ?_⟩
 injection h16 with h16
 have e1 : headB (helS b) = two ((sV b).1 : Int) ++ ((sR b).1 ++ (vecB 1 (sS b).1 ++ (vecB 2 (sC b).1 ++ vecB 1 (sM b).1))) := by
   show two ((sV b).1 : Int) ++ (rowR (sR b).1 ++ (vecB 1 (sS b).1 ++ (vecB 2 (numsB (numsS (sC b).1).1) ++ vecB 1 (sM b).1))) = _
   rw [hr, ← n1]
 have e2 : tailB (helS b) = t5 := h6.symm
 rw [layS, e1, e2]
 conv => rhs; rw [h16]
 simp [two]

theorem parse_form {b : List UInt8} (h : okS b = false) : parseS b = (Hel.zero, 3) := by rw [parseS, if_neg (by rw [h]; simp)]
theorem parse_ok {b : List UInt8} : (parseS b).2 = 0 ↔ okS b = true ∧ wrongS (helS b) = 0 := by
 unfold parseS
 constructor
 · intro h
   split at h
   · split at h
     · rename_i h1 h2; exact ⟨h1, h2⟩
     · rename_i h1 h2; exact absurd h h2
   · cases h
 · rintro ⟨h1, h2⟩
   rw [if_pos h1, if_pos h2]
theorem parse_is {b : List UInt8} (h1 : okS b = true) (h2 : wrongS (helS b) = 0) : parseS b = (helS b, 0) := by rw [parseS, if_pos h1, if_pos h2]
def Right (h : Hel) : Prop := Form h ∧ wrongS h = 0
theorem parse_lay {h : Hel} (r : Right h) : parseS (layS h) = (h, 0) := by
 obtain ⟨h1, h2⟩ := form_in r.1
 rw [parse_is h1 (by rw [h2]; exact r.2), h2]
theorem lay_parse {b : List UInt8} (h : (parseS b).2 = 0) : Right (parseS b).1 ∧ layS (parseS b).1 = b := by
 obtain ⟨h1, h2⟩ := parse_ok.1 h
 rw [parse_is h1 h2]
 obtain ⟨h3, h4⟩ := form_inv h1
 exact ⟨⟨h3, h2⟩, h4⟩
theorem ver_in {v : Int} (h : v.tdiv 256 = 3) : 768 ≤ v ∧ v < 1024 := by
 by_cases h0 : 0 ≤ v
 · rw [Int.tdiv_eq_ediv_of_nonneg h0] at h
   omega
 · obtain ⟨m, rfl⟩ : ∃ m, v = -m := ⟨-v, by omega⟩
   rw [Int.neg_tdiv, Int.tdiv_eq_ediv_of_nonneg (by omega)] at h
   omega
theorem wrong_ok {h : Hel} : wrongS h = 0 ↔ h.ver.tdiv 256 = 3 ∧ h.ses.length ≤ 32 ∧ (0 : UInt8) ∈ h.met ∧ (h.exts.map (·.1)).Nodup := by
 unfold wrongS
 constructor
 · intro hw
   split at hw
   · cases hw
   · split at hw
     · cases hw
     · split at hw
       · cases hw
       · split at hw
         · cases hw
         · rename_i h1 h2 h3 h4
           exact ⟨by simpa using h1, by omega, by simpa using h3, by simpa using h4⟩
 · rintro ⟨h1, h2, h3, h4⟩
   rw [if_neg (by simpa using h1), if_neg (by omega), if_neg (by simpa using h3), if_neg (by simpa using h4)]
theorem right_iff {h : Hel} (hr : h.rnd.length = 32) : Right h ↔ wrongS h = 0 ∧ h.cph ≠ [] ∧ (h.has = false → h.exts = []) ∧ (∀ n ∈ h.cph, In2 n) ∧ h.cph.length < 32768 ∧ h.met.length < 256 ∧ (∀ x ∈ h.exts, InX x) ∧ (extsB h.exts).length < 65536 := by
 constructor
 · rintro ⟨f, hw⟩
   exact ⟨hw, f.c0, f.bare, f.cph, f.cl, f.ml, f.ex, f.el⟩
 · rintro ⟨hw, a1, a2, a3, a4, a5, a6, a7⟩
   obtain ⟨h1, h2, h3, _⟩ := wrong_ok.1 hw
   refine ⟨⟨?_, hr, by omega, a3, a1, a4, fun e => (by rw [e] at h3; cases h3), a5, a2, a6, a7⟩, hw⟩
   have := ver_in h1
   constructor <;> omega
end Go.Proofs.YthfknndjdfofgaaGreatDoor.He

/-
 append onto bytes of the call's own, from a source that may be nil, empty or not.
-/
namespace Go.Proofs.YthfknndjdfofgaaGreatDoor.Wd
open Go.RowKit

def Own (w : World) (B : Nat) (v : Value) (xs : List UInt8) : Prop := w.ownsRow B 5 1 v xs.length (cellsOf xs)

theorem Own.empty (w : World) (B : Nat) (hB : B ≤ w.heap.size) : Own (w.alloc (.cells #[] 5)) B (.slice (some ⟨w.heap.size, 0, none⟩) 0 0) [] :=
 ⟨rfl, .inr ⟨w.heap.size, 0, #[], rfl, hB, heap_alloc_new w _, Nat.le_refl _, Nat.zero_le _, rfl, rfl⟩⟩
theorem Own.alloc {w : World} {B : Nat} {v : Value} {xs : List UInt8} (h : Own w B v xs) (o : Obj) : Own (w.alloc o) B v xs := World.ownsRow.alloc h o
theorem Own.src {w : World} {B : Nat} {v : Value} {xs : List UInt8} (h : Own w B v xs) : ∃ A c, v = .slice A xs.length c ∧ xs.length ≤ c ∧ Src w A xs.length xs := by
 obtain ⟨hl, h0 | ⟨g, cap, cur, hv, hB, hh, hc, _, _, ht⟩⟩ := h
 · obtain ⟨rfl, hn⟩ := h0
   have : xs = [] := List.eq_nil_of_length_eq_zero hn
   subst this
   exact ⟨none, 0, rfl, Nat.le_refl _, Src.nil w⟩
 · refine ⟨_, cap, hv, hc, rfl, fun _ => ⟨_, rfl, ?_, fun j c hj => ?_⟩⟩
   · exact Blk.lt (t := 5) (cs := cur) hh
   · rw [add_none, Nat.zero_add, Blk.cell (t := 5) (cs := cur) hh]
     have h2 := cellsOf_get hj
     rw [← ht, Nat.mul_one, List.getElem?_take] at h2
     split at h2
     · rw [← Array.getElem?_toList]; exact h2
     · cases h2
theorem Own.below {w w' : World} {B B' : Nat} {v : Value} {xs : List UInt8} (h : Own w B v xs) (hb : Below B' w w') (hB : w.heap.size ≤ B') : Own w' B v xs := by
 obtain ⟨hl, h0 | ⟨g, cap, cur, hv, hg, hh, r⟩⟩ := h
 · exact ⟨hl, .inl h0⟩
 · exact ⟨hl, .inr ⟨g, cap, cur, hv, hg, (hb.block g (by have := Blk.lt (t := 5) (cs := cur) hh; omega)).trans hh, r⟩⟩

section
variable {P : Program} {w : World}

theorem run_app_nil {base : Nat} {t ty e : TypeId} {i : TypeInfo} {size : Nat} (ht : P.underlying t = some (.slice e)) (hi : P.info? e = some i)
   {v : Value} {n : Nat} {xs : List Value} (hown : w.ownsRow base e size v n xs) (c : Nat) : (Builtin.append_ #[t, t] ty #[v, .slice none 0 c]).run P w = .ok v w := by
 obtain ⟨_, ⟨rfl, rfl⟩ | ⟨g, cap, cur, rfl, _, _, hnc, _⟩⟩ := hown
 · simp [Builtin.append_, run_underlying ht, sizeOf, typeInfo, hi, Builtin.lenOf, Builtin.firstCells]
 · simp [Builtin.append_, run_underlying ht, sizeOf, typeInfo, hi, Builtin.lenOf, Builtin.firstCells, hnc, storeCells]

theorem run_app {B : Nat} {t ty : TypeId} {i : TypeInfo} (ht : P.underlying t = some (.slice 5)) (hi : P.info? 5 = some i) (hz : i.zero = some (.int .u8 0)) (hs1 : i.size = 1) (hb1 : i.bytes = 1)
   {v : Value} {xs ys : List UInt8} (hown : Own w B v xs) {A : Option Addr} {m c : Nat} (hsrc : Src w A m ys) (hlen : xs.length + m ≤ 140737488355328) (hB : B ≤ w.heap.size) :
   ∃ v' w', (Builtin.append_ #[t, t] ty #[v, .slice A m c]).run P w = .ok v' w' ∧ Own w' B v' (xs ++ ys) ∧ Below B w w' := by
 have hm := hsrc.1
 cases A with
 | none =>
   have h0 : m = 0 := by
     rcases Nat.eq_zero_or_pos m with h | h
     · exact h
     · obtain ⟨ad, e, _⟩ := hsrc.2 h; cases e
   subst h0
   have : ys = [] := List.eq_nil_of_length_eq_zero hm
   subst this
   exact ⟨v, w, run_app_nil ht hi hown c, by rw [List.append_nil]; exact hown, Below.refl _ _⟩
 | some ad =>
   have hcells : ∀ j u, (cellsOf ys)[j]? = some u → w.cell? (ad.add j) = some u := by
     intro j u hu
     simp only [cellsOf, List.getElem?_map, Option.map_eq_some_iff] at hu
     obtain ⟨x, hx, rfl⟩ := hu
     have hp : 0 < m := by have := (List.getElem?_eq_some_iff.1 hx).1; omega
     obtain ⟨ad', e, _, hc⟩ := hsrc.2 hp
     injection e with e
     subst e
     exact hc j x hx
   obtain ⟨v', w', hrun, h2, h3, _, _⟩ := run_append_own_at (P := P) w B t ty 5 i (.int .u8 0) 1 1 ht hi hz hs1 hb1 rfl (by omega) v xs.length (cellsOf xs) hown ad m c (cellsOf ys) (by rw [cellsOf_length, hm, Nat.mul_one]) hcells (cellsOf_one ys)
     (by unfold maxLen; omega) (by omega) hB
   refine ⟨v', w', hrun, ?_, (Below.refl _ _).grown h3 hB (fun k hk => ?_)⟩
   · unfold Own
     rw [List.length_append, cellsOf_append, hm]
     exact h2
   · obtain ⟨_, ⟨rfl, _⟩ | ⟨g, cap, cur, rfl, hg, _⟩⟩ := hown
     · simp [Value.ownBlock] at hk
     · simp [Value.ownBlock] at hk; omega

theorem wpList_app {ops : Array Oper} {rest : List Oper} {o : Oper} {a : Act} {Q : Exit → Act → World → Prop} (hgd : o.guard = none) (s x : Operand) (t : TypeId)
   (ho : o.op = .call { callee := .builtin .append, args := #[s, x], argTypes := #[t, t] }) (ht : P.underlying t = some (.slice 5)) (hinfo : (P.info? 5).map (fun i => (i.zero, i.size, i.bytes)) = some (some (.int .u8 0), 1, 1))
   (B : Nat) (v : Value) (xs : List UInt8) (hs : a.eval s = v) (hown : Own w B v xs) (A : Option Addr) (m c : Nat) (ys : List UInt8) (hx : a.eval x = .slice A m c) (hsrc : Src w A m ys)
   (hlen : xs.length + m ≤ 140737488355328) (hB : B ≤ w.heap.size)
   (h : ∀ v' w', Hid (Own w' B v' (xs ++ ys)) → Below B w w' → wpList P ops Q rest (a.put o.dst v') w') : wpList P ops Q (o :: rest) a w := by
 obtain ⟨i0, hi, hz0, hz1, hz2⟩ := info_parts hinfo
 obtain ⟨v', w', hrun, h2, h3⟩ := run_app (ty := o.type) ht hi hz0 hz1 hz2 hown (c := c) hsrc hlen hB
 refine wpList_plain hgd fun K hK => ?_
 unfold Oper.wp execOp
 simp only [ho, resolve, invoke, builtin, Sem.run_bind, Sem.run_pure, Result.andThen_ok, List.map_toArray, List.map_cons, List.map_nil, hs, hx, hrun]
 exact hK _ _ (h v' w' h2 h3)
end
end Go.Proofs.YthfknndjdfofgaaGreatDoor.Wd

/-
 Words for memory in which some blocks turn: what is kept beside them; copy, from whatever bytes, into a row of bytes that is known whole. Plain lemmas, no condition.
-/
namespace Go.Proofs.YthfknndjdfofgaaGreatDoor.Wd
open Go.RowKit

structure But (S : List Nat) (w w' : World) : Prop where
 os : w'.os = w.os
 tape : w'.tape = w.tape
 output : w'.output = w.output
 size : w.heap.size ≤ w'.heap.size
 block : ∀ i, i < w.heap.size → i ∉ S → w'.heap[i]? = w.heap[i]?
section
variable {S T : List Nat} {a b c w w' : World}
theorem But.refl (S : List Nat) (w : World) : But S w w := ⟨rfl, rfl, rfl, Nat.le_refl _, fun _ _ _ => rfl⟩
theorem But.trans (h : But S a b) (k : But S b c) : But S a c :=
 ⟨k.os.trans h.os, k.tape.trans h.tape, k.output.trans h.output, Nat.le_trans h.size k.size, fun i hi hn => (k.block i (Nat.lt_of_lt_of_le hi h.size) hn).trans (h.block i hi hn)⟩
theorem But.more (h : But S a b) (hS : ∀ i ∈ S, i ∈ T) : But T a b := ⟨h.os, h.tape, h.output, h.size, fun i hi hn => h.block i hi (fun hm => hn (hS i hm))⟩
theorem But.of_below (h : Below w.heap.size w w') (S : List Nat) : But S w w' := ⟨h.os, h.tape, h.output, h.size, fun i hi _ => h.block i hi⟩
theorem But.below {B : Nat} (h : But S w w') (hS : ∀ i ∈ S, B ≤ i) (hB : B ≤ w.heap.size) : Below B w w' :=
 ⟨h.os, h.tape, h.output, h.size, fun i hi => h.block i (Nat.lt_of_lt_of_le hi hB) (fun hm => by have := hS i hm; omega)⟩
theorem But.fresh (h : But S a b) (hS : ∀ i ∈ S, a.heap.size ≤ i) : But [] a b :=
 ⟨h.os, h.tape, h.output, h.size, fun i hi _ => h.block i hi (fun hm => by have := hS i hm; omega)⟩
theorem But.drew (h : But S a w) : But S a w.drew := ⟨h.os, h.tape, h.output, h.size, h.block⟩
theorem But.drewN (h : But S a w) (k : Nat) : But S a (w.drewN k) := ⟨h.os, h.tape, h.output, h.size, h.block⟩
theorem But.alloc (h : But S a w) (o : Obj) : But S a (w.alloc o) :=
 ⟨h.os, h.tape, h.output, Nat.le_trans h.size (by simp), fun i hi hn => (Below.heap_alloc w o i (Nat.lt_of_lt_of_le hi h.size)).trans (h.block i hi hn)⟩
theorem But.set_ (h : But S a w) {p : Addr} (hp : p.block ∈ S ∨ a.heap.size ≤ p.block) (u : Value) : But S a (w.setCell p u) :=
 ⟨h.os, h.tape, h.output, by simpa [World.setCell] using h.size, fun i hi hn => (Below.heap_setCell w p u i (by
   rintro rfl
   rcases hp with hp | hp
   · exact hn hp
   · omega)).trans (h.block i hi hn)⟩
theorem But.row (h : But S a w) {g : Nat} (hp : g ∈ S ∨ a.heap.size ≤ g) (cs : Array Value) : But S a (w.setRow g cs) :=
 ⟨h.os, h.tape, h.output, by simpa [World.setRow] using h.size, fun i hi hn => by
   have hne : i ≠ g := by
     rintro rfl
     rcases hp with hp | hp
     · exact hn hp
     · omega
   have : (w.setRow g cs).heap[i]? = w.heap[i]? := by
     simp only [World.setRow]
     rw [Array.getElem?_modify, if_neg (fun e => hne e.symm)]
   exact this.trans (h.block i hi hn)⟩
theorem Blk.but {g t : Nat} {cs : Array Value} (h : Blk w g t cs) (k : But S w w') (hg : g ∉ S) : Blk w' g t cs := (k.block g h.lt hg).trans h
theorem But.cell (k : But S w w') {p : Addr} (hp : p.block < w.heap.size) (hS : p.block ∉ S) : w'.cell? p = w.cell? p := World.cell?_of_block (k.block p.block hp hS)
theorem Src.but {A : Option Addr} {n : Nat} {xs : List UInt8} (h : Src w A n xs) (k : But S w w') (hA : 0 < n → ∀ x, A = some x → x.block ∉ S) : Src w' A n xs :=
 ⟨h.1, fun hn => by
   obtain ⟨ad, e, hlt, hc⟩ := h.2 hn
   exact ⟨ad, e, Nat.lt_of_lt_of_le hlt k.size, fun j c hj => (k.cell (by rw [block_of_add]; exact hlt) (by rw [block_of_add]; exact hA hn ad e)).trans (hc j c hj)⟩⟩
end

def slid (A : Option Addr) (m l : Nat) : Option Addr := if m = l then A else A.map (·.add l)
theorem slid_zero (A : Option Addr) (m : Nat) : slid A m 0 = A := by
 unfold slid
 split
 · rfl
 · cases A <;> simp [Addr.add]
theorem Src.cut {w : World} {A : Option Addr} {n m l hi : Nat} {xs : List UInt8} (h : Src w A n xs) (h1 : l ≤ hi) (h2 : hi ≤ n) (hm : n ≤ m) : Src w (slid A m l) (hi - l) ((xs.take hi).drop l) := by
 refine ⟨by rw [List.length_drop, List.length_take, h.1]; omega, fun hp => ?_⟩
 obtain ⟨ad, rfl, hlt, hc⟩ := h.2 (by omega)
 refine ⟨ad.add l, by unfold slid; rw [if_neg (by omega)]; rfl, by rw [block_of_add]; exact hlt, fun j c hj => ?_⟩
 rw [add_of_add]
 refine hc _ _ ?_
 rw [List.getElem?_drop, List.getElem?_take] at hj
 split at hj
 · exact hj
 · cases hj
theorem Src.take {w : World} {A : Option Addr} {n k : Nat} {xs : List UInt8} (h : Src w A n xs) (hk : k ≤ n) : Src w A k (xs.take k) := by
 have := h.cut (m := n) (l := 0) (hi := k) (Nat.zero_le _) hk (Nat.le_refl _)
 rwa [slid_zero, Nat.sub_zero, List.drop_zero] at this
section
variable {P : Program} {t e : TypeId} (ht : P.underlying t = some (.slice e)) (hs : (P.info? e).map (·.size) = some 1) (A : Option Addr) (n c : Nat) (w : World)
include ht hs
omit ht in
theorem size_one : (sizeOf e).run P w = .ok 1 w := by
 cases hq : P.info? e with
 | none => simp [hq] at hs
 | some i =>
   have hi : i.size = 1 := by simpa [hq] using hs
   simp [sizeOf, typeInfo, hq, hi]
theorem slice_from (l : Nat) (hl : l ≤ n) : (Instr.sliceAt t (.slice A n c) (some (.int .i64 (l : Int))) none none).run P w = .ok (.slice (slid A c l) (n - l) (c - l)) w := by
 have h1 := size_one (w := w) hs
 simp [Instr.sliceAt, Instr.slice, run_underlying ht, Instr.sliceBounds, run_sliceBound, h1, slid, (by omega : (l : Int) ≤ (n : Int))]
theorem slice_to (h : Nat) (hh : h ≤ c) : (Instr.sliceAt t (.slice A n c) none (some (.int .i64 (h : Int))) none).run P w = .ok (.slice A h c) w := by
 have h1 := size_one (w := w) hs
 simp [Instr.sliceAt, Instr.slice, run_underlying ht, Instr.sliceBounds, run_sliceBound, h1, (by omega : (h : Int) ≤ (c : Int)), Addr.add]
theorem slice_mid (l h : Nat) (hl : l ≤ h) (hh : h ≤ c) : (Instr.sliceAt t (.slice A n c) (some (.int .i64 (l : Int))) (some (.int .i64 (h : Int))) none).run P w = .ok (.slice (slid A c l) (h - l) (c - l)) w := by
 have h1 := size_one (w := w) hs
 simp [Instr.sliceAt, Instr.slice, run_underlying ht, Instr.sliceBounds, run_sliceBound, h1, slid, (by omega : (h : Int) ≤ (c : Int)), (by omega : (l : Int) ≤ (h : Int))]
end

section
variable {P : Program} {w : World}
end

section
variable {P : Program} {w : World}
theorem wpList_min2 {ops : Array Oper} {rest : List Oper} {o : Oper} {a : Act} {Q : Exit → Act → World → Prop} (dst : Option Tmp) (hdst : o.dst = dst) (hgd : o.guard = none) (s x : Operand) (ts : Array TypeId)
   (ho : o.op = .call { callee := .builtin .min, args := #[s, x], argTypes := ts }) (y z M : Int) (hs : a.eval s = .int .i64 y) (hx : a.eval x = .int .i64 z) (hM : M = if z < y then z else y)
   (h : wpList P ops Q rest (a.put dst (.int .i64 M)) w) : wpList P ops Q (o :: rest) a w := by
 subst hdst hM
 refine wpList_plain hgd fun K hK => ?_
 unfold Oper.wp execOp
 simp only [ho, resolve, invoke, builtin, Sem.run_bind, Sem.run_pure, Result.andThen_ok, List.map_toArray, List.map_cons, List.map_nil, hs, hx, run_min_int2]
 exact hK _ _ h
theorem wpList_max2 {ops : Array Oper} {rest : List Oper} {o : Oper} {a : Act} {Q : Exit → Act → World → Prop} (dst : Option Tmp) (hdst : o.dst = dst) (hgd : o.guard = none) (s x : Operand) (ts : Array TypeId)
   (ho : o.op = .call { callee := .builtin .max, args := #[s, x], argTypes := ts }) (y z M : Int) (hs : a.eval s = .int .i64 y) (hx : a.eval x = .int .i64 z) (hM : M = if y < z then z else y)
   (h : wpList P ops Q rest (a.put dst (.int .i64 M)) w) : wpList P ops Q (o :: rest) a w := by
 subst hdst hM
 refine wpList_plain hgd fun K hK => ?_
 unfold Oper.wp execOp
 simp only [ho, resolve, invoke, builtin, Sem.run_bind, Sem.run_pure, Result.andThen_ok, List.map_toArray, List.map_cons, List.map_nil, hs, hx, run_max_int2]
 exact hK _ _ h
end
end Go.Proofs.YthfknndjdfofgaaGreatDoor.Wd

/-
 Bytes of a call's own: their block by name, append onto them as a step of a walk, with a frame that names that one block; limit.Within; bytes.Clone. Plain lemmas, no condition.
-/
namespace Go.Proofs.YthfknndjdfofgaaGreatDoor.Wd
open Go.RowKit

theorem und8 : Tryz.prog.underlying 22 = some (.slice 5) := Tryz.underlying22
theorem inf8 : (Tryz.prog.info? 5).map (fun i => (i.zero, i.size, i.bytes)) = some (some (.int .u8 0), 1, 1) := by kernel_rfl
theorem siz8 : (Tryz.prog.info? 5).map (·.size) = some 1 := by kernel_rfl
theorem con8 {w : World} {A : Option Addr} {n c : Nat} {xs : List UInt8} (h : Src w A n xs) : (convert 22 9 (.slice A n c)).run Tryz.prog w = .ok (.string ⟨xs.toArray⟩) w :=
 conv_src h Tryz.underlying22 Tryz.underlying5 Tryz.underlying9
theorem Own.cut_ {w : World} {B : Nat} {v : Value} {xs : List UInt8} (h : Own w B v xs) : ∃ A c, v = .slice A xs.length c ∧ xs.length ≤ c ∧ Src w A xs.length xs ∧ ∀ x, A = some x → B ≤ x.block := by
 obtain ⟨A, c, rfl, hc, hs⟩ := h.src
 refine ⟨A, c, rfl, hc, hs, fun x hx => ?_⟩
 subst hx
 obtain ⟨_, ⟨h0, _⟩ | ⟨g, cap, cur, hv, hB, _⟩⟩ := h
 · cases h0
 · injection hv with hv _ _
   injection hv with hv
   subst hv
   exact hB
def ad (p : Option Nat) : Option Addr := p.map fun b => ⟨b, 0, none⟩
structure At (w : World) (p : Option Nat) (c : Nat) (bs : List UInt8) : Prop where
 own : Own w 0 (.slice (ad p) bs.length c) bs
theorem At.src {w : World} {p : Option Nat} {c : Nat} {bs : List UInt8} (h : At w p c bs) : bs.length ≤ c ∧ Src w (ad p) bs.length bs := by
 obtain ⟨A', c', e, h1, h2⟩ := h.own.src
 injection e with e1 e2 e3
 rw [← e1] at h2
 exact ⟨by omega, h2⟩
theorem At.nil (w : World) : At w none 0 [] := ⟨rfl, .inl ⟨rfl, rfl⟩⟩
theorem At.row {w : World} {p : Option Nat} {c : Nat} {bs : List UInt8} (h : At w p c bs) {b : Nat} (hb : p = some b) : ∃ cur, Blk w b 5 cur ∧ bs.length ≤ cur.size := by
 subst hb
 obtain ⟨⟨hl, ⟨h0, _⟩ | ⟨g, cap, cur, hv, hg, hh, hn, _, hz, _⟩⟩⟩ := h
 · cases h0
 · injection hv with hv _ _
   injection hv with hv
   injection hv with hv _ _
   subst hv
   exact ⟨cur, hh, by omega⟩
theorem At.lt {w : World} {p : Option Nat} {c : Nat} {bs : List UInt8} (h : At w p c bs) {b : Nat} (hb : p = some b) : b < w.heap.size := by
 obtain ⟨cur, hc, _⟩ := h.row hb
 exact hc.lt
theorem At.but {S : List Nat} {w w' : World} {p : Option Nat} {c : Nat} {bs : List UInt8} (h : At w p c bs) (k : But S w w') (hp : ∀ b, p = some b → b ∉ S) : At w' p c bs := by
 cases p with
 | none =>
   obtain ⟨⟨hl, h0 | ⟨g, cap, cur, hv, _⟩⟩⟩ := h
   · exact ⟨⟨hl, .inl h0⟩⟩
   · cases hv
 | some b =>
   have hlt := h.lt rfl
   obtain ⟨⟨hl, ⟨h0, _⟩ | ⟨g, cap, cur, hv, hg, hh, r⟩⟩⟩ := h
   · cases h0
   · have e : b = g := by injection hv with hv _ _; injection hv with hv; injection hv
     subst e
     exact ⟨⟨hl, .inr ⟨b, cap, cur, hv, hg, (k.block b hlt (hp b rfl)).trans hh, r⟩⟩⟩
theorem At.ne {w : World} {p : Option Nat} {c g t : Nat} {bs : List UInt8} {cs : Array Value} (h : At w p c bs) (hg : Blk w g t cs) (ht : 5 ≠ t) : p ≠ some g := by
 intro e
 obtain ⟨cur, hc, _⟩ := h.row e
 exact hc.ne_ hg ht rfl

section
variable {P : Program} {w : World}
theorem run_app_at {t ty : TypeId} {i : TypeInfo} (ht : P.underlying t = some (.slice 5)) (hi : P.info? 5 = some i) (hz : i.zero = some (.int .u8 0)) (hs1 : i.size = 1) (hb1 : i.bytes = 1)
   {p : Option Nat} {c : Nat} {xs ys : List UInt8} (hat : At w p c xs) {A2 : Option Addr} {m c2 : Nat} (hsrc : Src w A2 m ys) (hlen : xs.length + m ≤ 140737488355328) :
   ∃ p' c' w', (Builtin.append_ #[t, t] ty #[.slice (ad p) xs.length c, .slice A2 m c2]).run P w = .ok (.slice (ad p') (xs.length + m) c') w' ∧ At w' p' c' (xs ++ ys) ∧ (p' = p ∨ p' = some w.heap.size) ∧ But p.toList w w' := by
 have hm := hsrc.1
 cases A2 with
 | none =>
   have h0 : m = 0 := by
     rcases Nat.eq_zero_or_pos m with h | h
     · exact h
     · obtain ⟨ad, e, _⟩ := hsrc.2 h; cases e
   subst h0
   have : ys = [] := List.eq_nil_of_length_eq_zero hm
   subst this
   exact ⟨p, c, w, run_app_nil ht hi hat.own c2, by rw [List.append_nil]; exact hat, .inl rfl, But.refl _ _⟩
 | some a2 =>
   have hcells : ∀ j u, (cellsOf ys)[j]? = some u → w.cell? (a2.add j) = some u := by
     intro j u hu
     simp only [cellsOf, List.getElem?_map, Option.map_eq_some_iff] at hu
     obtain ⟨x, hx, rfl⟩ := hu
     have hp : 0 < m := by have := (List.getElem?_eq_some_iff.1 hx).1; omega
     obtain ⟨ad', e, _, hc⟩ := hsrc.2 hp
     injection e with e
     subst e
     exact hc j x hx
   obtain ⟨v', w', hrun, h2, h3, h4, h5⟩ := run_append_own_at (P := P) w 0 t ty 5 i (.int .u8 0) 1 1 ht hi hz hs1 hb1 rfl (by omega) (.slice (ad p) xs.length c) xs.length (cellsOf xs) hat.own a2 m c2 (cellsOf ys) (by rw [cellsOf_length, hm, Nat.mul_one]) hcells (cellsOf_one ys)
     (by unfold maxLen; omega) (by omega) (Nat.zero_le _)
   have hown : Own w' 0 v' (xs ++ ys) := by
     unfold Own
     rw [List.length_append, cellsOf_append, hm]
     exact h2
   have hob : ∀ q, (Value.slice (ad p) xs.length c).ownBlock = some q → p = some q := by
     intro q hq
     cases p with
     | none => cases hq
     | some b => injection hq with hq; rw [← hq]
   have hbut : But p.toList w w' := ⟨h3.os, h3.tape, h3.output, h3.size, fun i hi hn => h3.block i hi (fun e => hn (by rw [hob i e.symm]; simp))⟩
   have hl : (xs ++ ys).length = xs.length + m := by rw [List.length_append, hm]
   obtain ⟨hl0, ⟨rfl, h0⟩ | ⟨g, cap, cur, rfl, hg, r⟩⟩ := hown
   · refine ⟨none, 0, w', by rw [← hl, h0]; exact hrun, ⟨⟨hl0, .inl ⟨by rw [h0]; rfl, h0⟩⟩⟩, .inl ?_, hbut⟩
     obtain ⟨e, _⟩ := h4.1 rfl
     injection e with e _ _
     cases p with
     | none => rfl
     | some b => cases e
   · refine ⟨some g, cap, w', by rw [← hl]; exact hrun, ⟨⟨hl0, .inr ⟨g, cap, cur, rfl, hg, r⟩⟩⟩, ?_, hbut⟩
     rcases h5 with h5 | h5
     · exact .inl (hob _ h5.symm).symm
     · injection h5 with h5; exact .inr (by rw [← h5])

end
theorem Own.lower {w : World} {B B' : Nat} {v : Value} {xs : List UInt8} (h : Own w B v xs) (hB : B' ≤ B) : Own w B' v xs := by
 obtain ⟨hl, h0 | ⟨g, cap, cur, hv, hg, r⟩⟩ := h
 · exact ⟨hl, .inl h0⟩
 · exact ⟨hl, .inr ⟨g, cap, cur, hv, Nat.le_trans hB hg, r⟩⟩
theorem bclone_any (w : World) (A : Option Addr) (n c : Nat) (xs : List UInt8) (hs : Src w A n xs) (hn : n ≤ 140737488355328) :
   Calls Tryz.prog 80 #[.slice A n c] w fun e w' => ∃ v, e = .returned v ∧ Own w' w.heap.size v xs ∧ Below w.heap.size w w' := by
 have qT : ∀ (w : World) (a : Option Addr) (n c n' c' : Nat), (binOp .eql 22 (.slice a n c) (.slice none n' c')).run Tryz.prog w = .ok (.bool a.isNone) w := fun w a n c n' c' => Lib.run_eql_slice_nil w _ _ a n c n' c' und8
 cases A with
 | none =>
   have h0 : n = 0 := by
     rcases Nat.eq_zero_or_pos n with h | h
     · exact h
     · obtain ⟨ad, e, _⟩ := hs.2 h; cases e
   subst h0
   have hx : xs = [] := List.eq_nil_of_length_eq_zero hs.1
   subst hx
   clear hs
   go_enter Tryz.func80, Tryz.ntmps80
   go_wp2_with fail
   go_ret
   exact ⟨_, rfl, ⟨rfl, .inl ⟨rfl, rfl⟩⟩, Below.refl _ _⟩
 | some ad =>
   have HS := Lib.hid (hs.alloc (.cells #[] 5))
   have HB := Lib.hid (show Below w.heap.size w (w.alloc (.cells #[] 5)) from (Below.refl _ _).alloc (Nat.le_refl _) _)
   have HO := Lib.hid (Own.empty w w.heap.size (Nat.le_refl _))
   clear hs
   go_enter Tryz.func80, Tryz.ntmps80
   go_wp2_with (at_builtin; refine wpList_app rfl (.tmp 5) (.tmp 6) 22 rfl und8 inf8 w.heap.size _ [] rfl HO.out (some ad) n c xs rfl HS.out (by simp; omega) (by simp) ?_; intro v2 w2 HO2 hb2)
   rw [List.nil_append] at HO2
   go_ret
   exact ⟨_, rfl, HO2.out, HB.out.trans hb2⟩
end Go.Proofs.YthfknndjdfofgaaGreatDoor.Wd
