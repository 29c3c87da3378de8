/-
 Plain facts: what is put is read as it was; data of which some is missing, or behind which more stands, is none. No condition.
-/
import Derived.Test.YthfknndjdfofgaaGreatDoorR04
import Derived.Test.YthfknndjdfofgaaGreatDoorR45
namespace Go.Proofs.YthfknndjdfofgaaGreatDoor.Ex
open Go.RowKit Go.Proofs.YthfknndjdfofgaaGreatDoor.Wd Go.Proofs.YthfknndjdfofgaaGreatDoor.Be Go.Proofs.YthfknndjdfofgaaGreatDoor.He

theorem items_cat {α : Type} {one : Option (List UInt8) → α × Option (List UInt8)} {put : α → Option (List UInt8)} (h : ∀ x a rest, put x = some a → one (some (a ++ rest)) = (x, some rest) ∧ 0 < a.length) :
   ∀ (l : List α) (w : List UInt8) (f : Nat), catO put l = some w → w.length < f → itemsF one f (some w) = (l, true)
 | [], w, f, hc, hf => by
   injection hc with hc
   subst hc
   rw [itemsF_end rfl]
   rfl
 | x :: l, w, 0, hc, hf => absurd hf (Nat.not_lt_zero _)
 | x :: l, w, f + 1, hc, hf => by
   rw [catO] at hc
   cases hp : put x with
   | none => rw [hp] at hc; cases hc
   | some a =>
     rw [hp] at hc
     cases hq : catO put l with
     | none => rw [hq] at hc; cases hc
     | some b =>
       rw [hq] at hc
       injection hc with hc
       subst hc
       obtain ⟨h1, h2⟩ := h x a b hp
       have h3 : 0 < leftS (some (a ++ b)) := by show 0 < (a ++ b).length; rw [List.length_append]; omega
       rw [itemsF_step h3, h1]
       have ih := items_cat h l b f hq (by rw [List.length_append] at hf; omega)
       rw [ih]
theorem items_catS {α : Type} {one : Option (List UInt8) → α × Option (List UInt8)} {put : α → Option (List UInt8)} (h : ∀ x a rest, put x = some a → one (some (a ++ rest)) = (x, some rest) ∧ 0 < a.length)
   {l : List α} {w : List UInt8} (hc : catO put l = some w) : itemsS one w = (l, true) := items_cat h l w _ hc (by omega)
theorem read_vec {α : Type} {one : Option (List UInt8) → α × Option (List UInt8)} {k : Nat} {size : Int} {w : List UInt8} {l : List α} (hk : clampI size = k) (hw : w.length < 256 ^ k) (hi : itemsS one w = (l, true)) (hl : l ≠ []) : readS one size (vecB k w) = (l, true) := by
 have hlt : (w.length : Int) < 256 ^ k := by
   have : ((256 ^ k : Nat) : Int) = 256 ^ k := by rw [Int.natCast_pow]; rfl
   omega
 have hv : vecS (some (vecB k w)) size = (w, some []) := by
   have := vecS_app w [] size k hk hlt
   rwa [List.append_nil] at this
 have h3 : 0 < l.length := List.length_pos_iff.2 hl
 show ((itemsS one (vecS (some (vecB k w)) size).1).1, doneS (vecS (some (vecB k w)) size).2 && (itemsS one (vecS (some (vecB k w)) size).1).2 && decide (0 < (itemsS one (vecS (some (vecB k w)) size).1).1.length)) = _
 rw [hv, hi]
 simp [doneS, h3]
theorem layS_is {α : Type} {put : α → Option (List UInt8)} {k : Nat} {l : List α} {d : List UInt8} (h : layS put k l = some d) : ∃ w, catO put l = some w ∧ w ≠ [] ∧ w.length < 256 ^ k ∧ d = vecB k w := by
 rw [layS] at h
 cases hc : catO put l with
 | none => rw [hc] at h; cases h
 | some w =>
   rw [hc] at h
   simp only at h
   split at h
   · cases h
   · rename_i h0
     split at h
     · rename_i h1
       injection h with h
       exact ⟨w, rfl, h0, h1, h.symm⟩
     · cases h
theorem catO_ne {α : Type} {put : α → Option (List UInt8)} {l : List α} {w : List UInt8} (hc : catO put l = some w) (hw : w ≠ []) : l ≠ [] := fun h => by
 rw [h] at hc
 injection hc with hc
 exact hw hc.symm
theorem oneP (x a rest : List UInt8) (h : putP x = some a) : proO (some (a ++ rest)) = (x, some rest) ∧ 0 < a.length := by
 unfold putP at h
 split at h
 · cases h
 · split at h
   · rename_i h1
     injection h with h
     subst h
     exact ⟨vecS_app x rest 1 1 (by decide) (by have : (256 : Int) ^ 1 = 256 := rfl; omega), by rw [vecB_len]; omega⟩
   · cases h
theorem putP_ne {x a : List UInt8} (h : putP x = some a) : x ≠ [] := by
 unfold putP at h
 split at h
 · cases h
 · assumption
theorem catP_ne : ∀ {l : List (List UInt8)} {w : List UInt8}, catO putP l = some w → [] ∉ l
 | [], _, _ => by simp
 | x :: l, w, h => by
   rw [catO] at h
   cases hp : putP x with
   | none => rw [hp] at h; cases h
   | some a =>
     rw [hp] at h
     cases hq : catO putP l with
     | none => rw [hq] at h; cases h
     | some b =>
       intro hm
       rcases List.mem_cons.1 hm with hm | hm
       · exact putP_ne hp hm.symm
       · exact catP_ne hq hm
theorem proto_back {l : List (List UInt8)} {d : List UInt8} (h : layS putP 2 l = some d) : protoS d = (l, 0) := by
 obtain ⟨w, hc, hw, hl, rfl⟩ := layS_is h
 have hr := read_vec (one := proO) (size := 2) (by decide) hl (items_catS oneP hc) (catO_ne hc hw)
 have hn := catP_ne hc
 have hcn : l.contains [] = false := by rw [Bool.eq_false_iff, Ne, List.contains_iff_mem]; exact hn
 rw [protoS, hr]
 simp [hn]
theorem name_back {x d : List UInt8} (h : layS putN 2 [x] = some d) : nameS d = (x, 0) := by
 obtain ⟨w, hc, hw, hl, rfl⟩ := layS_is h
 have hm : mayS x = true := by
   cases hm : mayS x with
   | true => rfl
   | false =>
     have hp : putN x = none := by rw [putN, hm]; rfl
     simp only [catO, hp] at hc
     cases hc
 have hp : putN x = some ((0 : UInt8) :: vecB 2 x) := if_pos hm
 have hwe : w = (0 : UInt8) :: vecB 2 x := by
   simp only [catO, hp, List.append_nil] at hc
   injection hc with hc
   exact hc.symm
 have hx : x.length ≤ 255 := by
   unfold mayS at hm
   rw [Bool.and_eq_true] at hm
   exact of_decide_eq_true hm.1
 have hn : ∀ rest, numS (some ((0 : UInt8) :: (vecB 2 x ++ rest))) 1 = (0, some (vecB 2 x ++ rest)) := fun rest => by
   have := numS_app 0 (vecB 2 x ++ rest) 1 1 (by decide) (by omega) (by decide)
   exact this
 have hone : typO (some w) = ((0, x), some []) := by
   have h1 := hn []
   rw [List.append_nil] at h1
   have h2 := vecS_app x [] 2 2 (by decide) (by have : (256 : Int) ^ 2 = 65536 := rfl; omega)
   rw [List.append_nil] at h2
   unfold typO
   rw [hwe, h1]
   simp only
   rw [h2]
   rfl
 have hi : itemsS typO w = ([(0, x)], true) := by
   unfold itemsS
   have h0 : 0 < leftS (some w) := by rw [hwe]; show 0 < ((0 : UInt8) :: vecB 2 x).length; simp
   rw [itemsF_step h0, hone, itemsF_end rfl]
   rfl
 have hr := read_vec (one := typO) (size := 2) (by decide) hl hi (by simp)
 rw [nameS, hr]
 have hf : [((0 : Int), x)].filter hostB = [(0, x)] := rfl
 simp only [if_true, hf]
 show (if mayS x then (x, 0) else ([], 9)) = _
 rw [hm]
 rfl
end Go.Proofs.YthfknndjdfofgaaGreatDoor.Ex

/-
 In plain words: what a look tells of the hello that law 15 lays out of a name and protocols. No condition.
-/
namespace Go.Proofs.YthfknndjdfofgaaGreatDoor.Tp
open Go.Proofs.YthfknndjdfofgaaGreatDoor.Rc Go.Proofs.YthfknndjdfofgaaGreatDoor.Sh

def helB (d p : List UInt8) : He.Hel := ⟨771, List.replicate 32 0, [], [4865], [0], true, [(0, d), (16, p)]⟩
theorem exts_len (d p : List UInt8) : (He.extsB (helB d p).exts).length = 8 + d.length + p.length := by
 show (He.extsB [(0, d), (16, p)]).length = _
 rw [He.extsB_cons, He.extsB_cons]
 simp only [List.length_append, He.two_len, Be.vecB_len]
 have : (He.extsB []).length = 0 := rfl
 omega
theorem right_hel (d p : List UInt8) (hd : d.length ≤ 300) (hp : p.length ≤ 2000) : He.Right (helB d p) := by
 refine (He.right_iff (by show (List.replicate 32 (0 : UInt8)).length = 32; rfl)).2 ⟨?_, by simp [helB], by simp [helB], ?_, by simp [helB], by simp [helB], ?_, by rw [exts_len]; omega⟩
 · exact He.wrong_ok.2 ⟨rfl, by simp [helB], by simp [helB], by simp [helB]⟩
 · intro n hn
   have : n = 4865 := by simpa [helB] using hn
   rw [this]
   exact ⟨by decide, by decide⟩
 · intro x hx
   have : x = (0, d) ∨ x = (16, p) := by simpa [helB] using hx
   rcases this with rfl | rfl
   · exact ⟨(by show He.In2 0; constructor <;> decide), by show d.length < 65536; omega⟩
   · exact ⟨(by show He.In2 16; constructor <;> decide), by show p.length < 65536; omega⟩
theorem hel_len (d p : List UInt8) : (He.layS (helB d p)).length = 51 + d.length + p.length := by
 have e : He.layS (helB d p) = He.headB (helB d p) ++ Be.vecB 2 (He.extsB (helB d p).exts) := rfl
 rw [e, List.length_append, Be.vecB_len, exts_len]
 have : (He.headB (helB d p)).length = 41 := by
   show (He.two 771 ++ (List.replicate 32 (0 : UInt8) ++ (Be.vecB 1 [] ++ (Be.vecB 2 (He.numsB [4865]) ++ Be.vecB 1 [0])))).length = 41
   simp only [List.length_append, He.two_len, Be.vecB_len, He.numsB_len, List.length_replicate, List.length_cons, List.length_nil]
 omega
theorem look_hel {s : List UInt8} {l : List (List UInt8)} {d p : List UInt8} (h1 : Ex.layS Ex.putN 2 [s] = some d) (h2 : Ex.layS Ex.putP 2 l = some p) (hd : d.length ≤ 300) (hp : p.length ≤ 2000) :
   lookS (He.layS (helB d p)) = if (Nm.normalS s).2 ≠ 0 then ([], Ex.Sn.zero, (Nm.normalS s).2) else ((Nm.normalS s).1, ⟨true, s, l, [], false⟩, 0) := by
 have hP := He.parse_lay (right_hel d p hd hp)
 have hS : Ex.seeS (helB d p).exts = (⟨true, s, l, [], false⟩, 0) := by
   have f0 : He.findL [(0, d), (16, p)] 0 = (d, true) := rfl
   have f1 : He.findL [(0, d), (16, p)] 16 = (p, true) := rfl
   have f2 : He.findL [(0, d), (16, p)] 43 = ([], false) := rfl
   have f3 : He.findL [(0, d), (16, p)] 65037 = ([], false) := rfl
   show Ex.seeS [(0, d), (16, p)] = _
   unfold Ex.seeS Ex.errS
   rw [f0, f1, f2, f3]
   have n0 : Ex.fdS Ex.nameS (d, true) = (s, 0) := by show Ex.nameS d = _; exact Ex.name_back h1
   have n1 : Ex.fdS Ex.protoS (p, true) = (l, 0) := by show Ex.protoS p = _; exact Ex.proto_back h2
   have n2 : Ex.fdS Ex.verS (([] : List UInt8), false) = ([], 0) := rfl
   rw [n0, n1, n2]
   rfl
 unfold lookS
 rw [hP]
 simp only
 rw [if_neg (by simp), hS]
 simp only
 rw [if_neg (by simp), if_pos trivial]
theorem sizes_known {s : List UInt8} {l : List (List UInt8)} {d p : List UInt8} (h1 : Ex.layS Ex.putN 2 [s] = some d) (h2 : Ex.layS Ex.putP 2 l = some p) (hd : d.length ≤ 300) (hp : p.length ≤ 2000) (k : Nat) (hk : k + 1 ≤ 16384) :
   ∃ e m, allT (frameS k (wrapS (He.layS (helB d p)))) = if (Nm.normalS s).2 ≠ 0 then ⟨e, m, 2, (frameS k (wrapS (He.layS (helB d p)))).length, (Nm.normalS s).2, [], Ex.Sn.zero⟩ else ⟨e, m, 1, (frameS k (wrapS (He.layS (helB d p)))).length, 0, (Nm.normalS s).1, ⟨true, s, l, [], false⟩⟩ := by
 obtain ⟨e, m, h⟩ := framed_known (He.layS (helB d p)) (by rw [hel_len]; omega) k hk
 refine ⟨e, m, h.trans ?_⟩
 rw [look_hel h1 h2 hd hp]
 by_cases hz : (Nm.normalS s).2 = 0
 · have hn : ¬ (Nm.normalS s).2 ≠ 0 := by rw [hz]; simp
   rw [if_neg hn, if_neg hn, if_neg (by simp)]
 · rw [if_pos hz, if_pos hz, if_pos (by exact hz)]
end Go.Proofs.YthfknndjdfofgaaGreatDoor.Tp
