/-
 Names of hosts in plain words: what is normal, and what its labels are; what follows of it. No condition.
-/
import Derived.Test.YthfknndjdfofgaaGreatDoorQ14
import Derived.Test.YthfknndjdfofgaaGreatDoorQ01
import Derived.Test.YthfknndjdfofgaaGreatDoorQ10
import Derived.Test.YthfknndjdfofgaaGreatDoorQ03
import Derived.Test.YthfknndjdfofgaaGreatDoorQ06
import Derived.RegionTactic
import Derived.Deep.Cut
namespace Go.Proofs.YthfknndjdfofgaaGreatDoor.Nm
open Go Go.Proofs.YthfknndjdfofgaaGreatDoor.Asc Go.Proofs.YthfknndjdfofgaaGreatDoor.Ad

def labB (c : UInt8) : Bool := decide ((97 ≤ c.toNat ∧ c.toNat ≤ 122) ∨ (65 ≤ c.toNat ∧ c.toNat ≤ 90) ∨ (48 ≤ c.toNat ∧ c.toNat ≤ 57) ∨ c.toNat = 45 ∨ c.toNat = 95)
def labS (p : List UInt8) : Bool := decide (1 ≤ p.length) && decide (p.length ≤ 63) && p.all labB && decide (p.head? ≠ some 45) && decide (p.getLast? ≠ some 45)
def digB (c : UInt8) : Bool := digI (c.toNat : Int)
def digS (p : List UInt8) : Bool := p.all digB
def trimS (l : List UInt8) : List UInt8 := if l.getLast? = some 46 then l.dropLast else l
def lastS (x : List UInt8) : List UInt8 := (splitS 46 x).getLastD []
def nameS (x : List UInt8) : List UInt8 × Int :=
 if x = [] then ([], 8) else if 253 < x.length then ([], 6) else if (splitS 46 x).all labS = false ∨ digS (lastS x) = true then ([], 9) else (x, 0)
def normalS (l : List UInt8) : List UInt8 × Int := match Ad.parseS l with
 | some a => (Ad.ctext a, 0)
 | none => nameS (trimS (l.map lowB))
/-! small bytes -/
theorem low_all : ∀ c : Fin 256, lowB (lowB (UInt8.ofNat c.1)) = lowB (UInt8.ofNat c.1) ∧ hexI ((lowB (UInt8.ofNat c.1)).toNat : Int) = hexI ((UInt8.ofNat c.1).toNat : Int) ∧
   (lowB (UInt8.ofNat c.1) = 46 ↔ UInt8.ofNat c.1 = 46) ∧ (lowB (UInt8.ofNat c.1) = 58 ↔ UInt8.ofNat c.1 = 58) ∧ (lowB (UInt8.ofNat c.1) = 48 ↔ UInt8.ofNat c.1 = 48) := by decide +kernel
theorem low_byte (c : UInt8) : lowB (lowB c) = lowB c ∧ hexI ((lowB c).toNat : Int) = hexI (c.toNat : Int) ∧ (lowB c = 46 ↔ c = 46) ∧ (lowB c = 58 ↔ c = 58) ∧ (lowB c = 48 ↔ c = 48) := by
 have h := low_all ⟨c.toNat, c.toNat_lt⟩
 simp only [UInt8.ofNat_toNat] at h
 exact h
theorem low_low (l : List UInt8) : (l.map lowB).map lowB = l.map lowB := by
 rw [List.map_map]
 exact List.map_congr_left fun c _ => (low_byte c).1
theorem split_low46 (l : List UInt8) : splitS 46 (l.map lowB) = (splitS 46 l).map (List.map lowB) := by
 induction l with
 | nil => rfl
 | cons c r ih =>
   rw [List.map_cons, splitS, splitS]
   by_cases h : c = 46
   · subst h
     rw [if_pos (by decide), if_pos rfl, ih]
     rfl
   · rw [if_neg (fun k => h ((low_byte c).2.2.1.1 k)), if_neg h, ih]
     cases splitS 46 r <;> rfl
/-! where two colons stand -/
theorem occ_cases (l : List UInt8) : (∀ j, occ l j = false) ∨ (∃ j, occ l j = true ∧ ∀ i, i ≠ j → occ l i = false) ∨ ∃ j k, occ l j = true ∧ occ l k = true ∧ j < k ∧ ∀ i, i < j → occ l i = false := by
 have first : ∀ n, (∀ i, i < n → occ l i = false) ∨ ∃ j, j < n ∧ occ l j = true ∧ ∀ i, i < j → occ l i = false := by
   intro n
   induction n with
   | zero => exact .inl fun i hi => by omega
   | succ n ih =>
     rcases ih with h | ⟨j, h1, h2⟩
     · cases ho : occ l n with
       | true => exact .inr ⟨n, by omega, ho, h⟩
       | false =>
         refine .inl fun i hi => ?_
         rcases Nat.lt_or_ge i n with h3 | h3
         · exact h i h3
         · rw [show i = n by omega]; exact ho
     · exact .inr ⟨j, by omega, h2⟩
 rcases first l.length with h | ⟨j, _, h2, h3⟩
 · refine .inl fun j => ?_
   rcases Nat.lt_or_ge j l.length with h1 | h1
   · exact h j h1
   · exact occ_end h1
 · by_cases hk : ∃ k, j < k ∧ occ l k = true
   · obtain ⟨k, h4, h5⟩ := hk
     exact .inr (.inr ⟨j, k, h2, h5, h4, h3⟩)
   · refine .inr (.inl ⟨j, h2, fun i hi => ?_⟩)
     rcases Nat.lt_or_ge i j with h4 | h4
     · exact h3 i h4
     · cases ho : occ l i with
       | false => rfl
       | true => exact absurd ⟨i, by omega, ho⟩ hk
/-! a dot at the end -/
theorem fold_bad {B : Int} : ∀ {l : List UInt8} {a : Int}, (46 : UInt8) ∈ l → foldv B l a = none
 | c :: r, a, h => by
   rw [foldv]
   by_cases hc : c = 46
   · subst hc
     rw [show hexI (((46 : UInt8).toNat : Nat) : Int) = none by decide]
   · have hr : (46 : UInt8) ∈ r := by
       rcases List.mem_cons.1 h with h | h
       · exact absurd h.symm hc
       · exact h
     cases hexI (c.toNat : Int) with
     | none => rfl
     | some d =>
       dsimp only
       split
       · exact fold_bad hr
       · rfl
theorem hex_bad {l : List UInt8} (h : (46 : UInt8) ∈ l) : hexS l = none := by
 unfold hexS digitsS
 split
 · rfl
 · exact fold_bad h
theorem nums_nil : ∀ {L : List (List UInt8)}, [] ∈ L → numsS L = none
 | p :: r, h => by
   rw [numsS]
   rcases List.mem_cons.1 h with rfl | h
   · rfl
   · cases numS p 255 with
     | none => rfl
     | some n => dsimp only; rw [nums_nil h]; rfl
theorem dotR_dot (l : List UInt8) : dotR (l ++ [46]) = none := by
 unfold dotR
 split
 · exact nums_nil (by rw [splitS_snoc, if_pos rfl]; simp)
 · rfl
theorem grps_bad (last : Bool) {p : List UInt8} (h1 : hexS p = none) (h2 : dotR p = none) : ∀ {L : List (List UInt8)}, p ∈ L → grpsR last L = none
 | q :: r, h => by
   rw [grpsR]
   rcases List.mem_cons.1 h with rfl | h
   · rw [h1, h2]
   · have ih := grps_bad last h1 h2 h
     have hr : r ≠ [] := by rintro rfl; cases h
     cases hexS q with
     | some n => simp [ih]
     | none => cases dotR q <;> simp [hr]
theorem groups_dot (l : List UInt8) (last : Bool) : groupsR (l ++ [46]) last = none := by
 unfold groupsR
 rw [if_neg (by simp), splitS_snoc, if_neg (by decide)]
 exact grps_bad last (p := (splitS 58 l).getLastD [] ++ [46]) (hex_bad (by simp)) (dotR_dot _) (by simp)
theorem parse_dotted (l : List UInt8) : Ad.parseS (l ++ [46]) = none := by
 have hd := dotR_dot l
 rcases occ_cases (l ++ [46]) with h | ⟨j, h1, h2⟩ | ⟨j, k, h1, h2, h3, h4⟩
 · rw [parse_plain hd h, groups_dot]; rfl
 · rw [parse_short h1 h2]
   have hj : j + 2 ≤ l.length := by
     have e := (occ_is h1).2
     rcases Nat.lt_or_ge (j + 1) l.length with h5 | h5
     · omega
     · rw [List.getElem?_append_right h5] at e
       rcases Nat.eq_zero_or_pos (j + 1 - l.length) with h6 | h6
       · rw [h6] at e
         injection e with e
         exact absurd e (by decide)
       · rw [List.getElem?_eq_none (by simp only [List.length_cons, List.length_nil]; omega)] at e
         cases e
   rw [List.drop_append_of_le_length hj, groups_dot]
   cases groupsR (List.take j (l ++ [46])) false <;> rfl
 · exact parse_twice h1 h2 h3 h4

/-! names -/
theorem split_mem : ∀ {l : List UInt8} {c : UInt8}, c ∈ l → c = 46 ∨ ∃ p ∈ splitS 46 l, c ∈ p
 | x :: r, c, h => by
   rw [splitS]
   by_cases hx : x = 46
   · rw [if_pos hx]
     rcases List.mem_cons.1 h with h | h
     · exact .inl (h.trans hx)
     · rcases split_mem h with h | ⟨p, h1, h2⟩
       · exact .inl h
       · exact .inr ⟨p, List.mem_cons_of_mem _ h1, h2⟩
   · rw [if_neg hx]
     have hne := splitS_ne 46 r
     cases hs : splitS 46 r with
     | nil => exact absurd hs hne
     | cons q t =>
       rcases List.mem_cons.1 h with h | h
       · exact .inr ⟨x :: q, by simp, by simp [h]⟩
       · rcases split_mem h with h | ⟨p, h1, h2⟩
         · exact .inl h
         · rw [hs] at h1
           rcases List.mem_cons.1 h1 with rfl | h1
           · exact .inr ⟨x :: p, by simp, by simp [h2]⟩
           · exact .inr ⟨p, by simp [h1], h2⟩
theorem labB_not (c : UInt8) (h : labB c = true) : c ≠ 58 ∧ c ≠ 46 := ⟨fun e => by subst e; revert h; decide, fun e => by subst e; revert h; decide⟩
theorem lab_parts {p : List UInt8} (h : labS p = true) : 1 ≤ p.length ∧ p.length ≤ 63 ∧ (∀ c ∈ p, labB c = true) ∧ p.head? ≠ some 45 ∧ p.getLast? ≠ some 45 := by
 unfold labS at h
 simp only [Bool.and_eq_true, decide_eq_true_eq, List.all_eq_true] at h
 obtain ⟨⟨⟨⟨h1, h2⟩, h3⟩, h4⟩, h5⟩ := h
 exact ⟨h1, h2, h3, h4, h5⟩
structure Fit (x : List UInt8) : Prop where
 lab : (splitS 46 x).all labS = true
 dig : digS (lastS x) = false
theorem Fit.free {x : List UInt8} (h : Fit x) : (58 : UInt8) ∉ x := fun hm => by
 rcases split_mem hm with e | ⟨p, h1, h2⟩
 · revert e; decide
 · exact (labB_not 58 ((lab_parts (List.all_eq_true.1 h.lab p h1)).2.2.1 58 h2)).1 rfl
theorem Fit.ne {x : List UInt8} (h : Fit x) : x ≠ [] := by
 rintro rfl
 have := h.lab
 revert this
 decide
theorem trim_low (x : List UInt8) : trimS (x.map lowB) = (trimS x).map lowB := by
 unfold trimS
 have e : ((x.map lowB).getLast? = some 46) ↔ (x.getLast? = some 46) := by
   rw [List.getLast?_map]
   cases x.getLast? with
   | none => simp
   | some c => simpa using (low_byte c).2.2.1
 by_cases h : x.getLast? = some 46
 · rw [if_pos h, if_pos (e.2 h), List.map_dropLast]
 · rw [if_neg h, if_neg (fun k => h (e.1 k))]
theorem name_is {x n : List UInt8} (h : nameS x = (n, 0)) : n = x ∧ x.length ≤ 253 ∧ Fit x := by
 unfold nameS at h
 split at h
 · injection h with _ h; cases h
 · split at h
   · injection h with _ h; cases h
   · split at h
     · injection h with _ h; cases h
     · rename_i h1 h2 h3
       injection h with h _
       simp only [not_or, Bool.not_eq_false, Bool.not_eq_true] at h3
       exact ⟨h.symm, by omega, ⟨h3.1, h3.2⟩⟩
theorem name_yes {x : List UInt8} (h : Fit x) (hl : x.length ≤ 253) : nameS x = (x, 0) := by
 unfold nameS
 rw [if_neg h.ne, if_neg (by omega), if_neg (by rw [h.lab, h.dig]; simp)]
theorem name_no {x : List UInt8} (h : (nameS x).2 ≠ 0) : (nameS x).1 = [] := by
 unfold nameS at h ⊢
 split
 · rfl
 · rename_i h1
   rw [if_neg h1] at h
   split
   · rfl
   · rename_i h2
     rw [if_neg h2] at h
     split
     · rfl
     · rename_i h3
       rw [if_neg h3] at h
       exact absurd rfl h
theorem name_long {x : List UInt8} (h0 : x ≠ []) (h : 253 < x.length) : nameS x = ([], 6) := by
 unfold nameS
 rw [if_neg h0, if_pos h]
theorem name_bad {x : List UInt8} (h0 : x ≠ []) (h1 : x.length ≤ 253) (h : (splitS 46 x).all labS = false ∨ digS (lastS x) = true) : nameS x = ([], 9) := by
 unfold nameS
 rw [if_neg h0, if_neg (by omega), if_pos h]

/-! what is normal -/
theorem normal_addr {l a : List UInt8} (h : Ad.parseS l = some a) : normalS l = (Ad.ctext a, 0) := by
 unfold normalS
 rw [h]
theorem normal_name {l : List UInt8} (h : Ad.parseS l = none) : normalS l = nameS (trimS (l.map lowB)) := by
 unfold normalS
 rw [h]
theorem ctext_tells (a : List UInt8) (ha : a.length = 16) : Ad.parseS (Ad.ctext a) = some a := by
 unfold Ad.ctext
 split
 · rename_i hf
   exact (Ad.parse_four a ha hf).1
 · exact (Ad.parse_text a ha).1
theorem normal_is {l n : List UInt8} (h : normalS l = (n, 0)) : (∃ a, Ad.parseS l = some a ∧ n = Ad.ctext a ∧ Ad.parseS n = some a) ∨ (Ad.parseS l = none ∧ n = trimS (l.map lowB) ∧ Fit n ∧ n.length ≤ 253 ∧ n.map lowB = n) := by
 cases hp : Ad.parseS l with
 | some a =>
   rw [normal_addr hp] at h
   injection h with h _
   exact .inl ⟨a, rfl, h.symm, by rw [← h]; exact ctext_tells a (Ad.parseS_len hp)⟩
 | none =>
   rw [normal_name hp] at h
   obtain ⟨h1, h2, h3⟩ := name_is h
   refine .inr ⟨rfl, h1, h1 ▸ h3, h1 ▸ h2, ?_⟩
   rw [h1, ← trim_low, low_low]
theorem normal_no {l : List UInt8} (h : (normalS l).2 ≠ 0) : (normalS l).1 = [] := by
 cases hp : Ad.parseS l with
 | some a => rw [normal_addr hp] at h; exact absurd rfl h
 | none => rw [normal_name hp] at h ⊢; exact name_no h
theorem normal_len {l n : List UInt8} (h : normalS l = (n, 0)) : n ≠ [] ∧ n.length ≤ 253 := by
 rcases normal_is h with ⟨a, h1, rfl, h2⟩ | ⟨_, _, h3, h4, _⟩
 · have h5 := Ad.ctext_len a (Ad.parseS_len h1)
   refine ⟨fun e => ?_, by omega⟩
   rw [e] at h2
   have h6 := (parse_dotted []).symm
   revert h2
   rw [show Ad.parseS [] = none by decide]
   simp
 · exact ⟨h3.ne, h4⟩
/-! labels, turned again -/
/-! n labels of m letters -/
end Go.Proofs.YthfknndjdfofgaaGreatDoor.Nm

/-
 A hello, byte by byte, in plain words: what is known of a beginning, that it does not change, and that nothing is known ahead of the last byte that it needs; that framed bytes of a wrapped hello are known by their last byte. No condition.
-/
namespace Go.Proofs.YthfknndjdfofgaaGreatDoor.Tp
open Go.Proofs.YthfknndjdfofgaaGreatDoor.Rc Go.Proofs.YthfknndjdfofgaaGreatDoor.Sh

def lookS (b : List UInt8) : List UInt8 × Ex.Sn × Int :=
 if (He.parseS b).2 ≠ 0 then ([], Ex.Sn.zero, (He.parseS b).2)
 else if (Ex.seeS (He.parseS b).1.exts).2 ≠ 0 then ([], Ex.Sn.zero, (Ex.seeS (He.parseS b).1.exts).2)
 else if (Ex.seeS (He.parseS b).1.exts).1.has = true then
   (if (Nm.normalS (Ex.seeS (He.parseS b).1.exts).1.name).2 ≠ 0 then ([], Ex.Sn.zero, (Nm.normalS (Ex.seeS (He.parseS b).1.exts).1.name).2)
    else ((Nm.normalS (Ex.seeS (He.parseS b).1.exts).1.name).1, (Ex.seeS (He.parseS b).1.exts).1, 0))
 else ([], (Ex.seeS (He.parseS b).1.exts).1, 0)
theorem name_len (b : List UInt8) : (Ex.nameS b).1.length ≤ 255 := by
 unfold Ex.nameS
 split
 · unfold Ex.nameL
   split
   · exact Nat.zero_le _
   · split
     · rename_i h
       unfold Ex.mayS at h
       rw [Bool.and_eq_true, decide_eq_true_eq] at h
       exact h.1
     · exact Nat.zero_le _
   · exact Nat.zero_le _
 · exact Nat.zero_le _
theorem see_name (L : List (Int × List UInt8)) : (Ex.seeS L).1.name.length ≤ 255 := by
 unfold Ex.seeS
 split
 · show (Ex.fdS Ex.nameS (He.findL L 0)).1.length ≤ 255
   unfold Ex.fdS
   split
   · exact name_len _
   · exact Nat.zero_le _
 · exact Nat.zero_le _
structure T where
 d : D
 m : M
 z : Nat
 u : Nat
 r : Int
 h : List UInt8
 s : Ex.Sn
def T.st : T := ⟨D.st 0, M.st, 0, 0, 0, [], Ex.Sn.zero⟩
def T.bad (t : T) (d : D) (m : M) (e : Int) : T := ⟨d, m, 2, t.u + 1, e, [], Ex.Sn.zero⟩
def stepT (t : T) (c : UInt8) : T :=
 if t.z ≠ 0 then t
 else if (stepD t.d c).e ≠ 0 then t.bad (stepD t.d c) t.m (stepD t.d c).e
 else if payD t.d = false then ⟨stepD t.d c, t.m, 0, t.u + 1, 0, [], Ex.Sn.zero⟩
 else if (stepM t.m c).e ≠ 0 then t.bad (stepD t.d c) (stepM t.m c) (stepM t.m c).e
 else if wholeM (stepM t.m c) = false then ⟨stepD t.d c, stepM t.m c, 0, t.u + 1, 0, [], Ex.Sn.zero⟩
 else if (lookS (stepM t.m c).b).2.2 ≠ 0 then t.bad (stepD t.d c) (stepM t.m c) (lookS (stepM t.m c).b).2.2
 else ⟨stepD t.d c, stepM t.m c, 1, t.u + 1, 0, (lookS (stepM t.m c).b).1, (lookS (stepM t.m c).b).2.1⟩
structure OkT (t : T) : Prop where
 d : OkD t.d
 m : OkM t.m
 z2 : t.z ≤ 2
 op : t.z = 0 → t.d.e = 0 ∧ t.m.e = 0 ∧ wholeM t.m = false ∧ t.r = 0
 bare : t.z ≠ 1 → t.h = [] ∧ t.s = Ex.Sn.zero
 why : t.z = 2 ↔ t.r ≠ 0
theorem OkT.st : OkT T.st where
 d := OkD.st 0
 m := OkM.st
 z2 := Nat.zero_le _
 op := fun _ => ⟨rfl, rfl, by decide, rfl⟩
 bare := fun _ => ⟨rfl, rfl⟩
 why := ⟨fun h => absurd h (by decide), fun h => absurd rfl h⟩
theorem bad_ok {t : T} {d : D} {m : M} {e : Int} (hd : OkD d) (hm : OkM m) (he : e ≠ 0) : OkT (t.bad d m e) where
 d := hd
 m := hm
 z2 := Nat.le_refl 2
 op := fun h => absurd h (by show ¬ 2 = 0; decide)
 bare := fun _ => ⟨rfl, rfl⟩
 why := ⟨fun _ => he, fun _ => rfl⟩
theorem stepT_ok {t : T} (k : OkT t) (c : UInt8) : OkT (stepT t c) := by
 have hd := stepD_ok k.d c
 have hm := stepM_ok k.m c
 unfold stepT
 split
 · exact k
 rename_i h0
 have h0 : t.z = 0 := by omega
 obtain ⟨_, e2, e3, _⟩ := k.op h0
 split
 · rename_i h1
   exact bad_ok hd k.m (by omega)
 rename_i h1
 have h1 : (stepD t.d c).e = 0 := by omega
 split
 · exact ⟨hd, k.m, Nat.zero_le _, fun _ => ⟨h1, e2, e3, rfl⟩, fun _ => ⟨rfl, rfl⟩, ⟨fun h => absurd h (by show ¬ 0 = 2; decide), fun h => absurd rfl h⟩⟩
 split
 · rename_i h2
   exact bad_ok hd hm (by omega)
 rename_i h2
 have h2 : (stepM t.m c).e = 0 := by omega
 split
 · rename_i h3
   exact ⟨hd, hm, Nat.zero_le _, fun _ => ⟨h1, h2, h3, rfl⟩, fun _ => ⟨rfl, rfl⟩, ⟨fun h => absurd h (by show ¬ 0 = 2; decide), fun h => absurd rfl h⟩⟩
 split
 · rename_i h4
   exact bad_ok hd hm h4
 · exact ⟨hd, hm, by show 1 ≤ 2; decide, fun h => absurd h (by show ¬ 1 = 0; decide), fun h => absurd rfl h, ⟨fun h => absurd h (by show ¬ 1 = 2; decide), fun h => absurd rfl h⟩⟩
theorem stepT_stay {t : T} (h : t.z ≠ 0) (c : UInt8) : stepT t c = t := by unfold stepT; rw [if_pos h]
theorem stepT_used {t : T} (h : t.z = 0) (c : UInt8) : (stepT t c).u = t.u + 1 := by
 unfold stepT
 rw [if_neg (by omega)]
 repeat' split
 all_goals rfl

def runT (t : T) (xs : List UInt8) : T := xs.foldl stepT t
def allT (xs : List UInt8) : T := runT T.st xs
theorem runT_cons (t : T) (c : UInt8) (cs : List UInt8) : runT t (c :: cs) = runT (stepT t c) cs := rfl
theorem runT_app (t : T) (xs ys : List UInt8) : runT t (xs ++ ys) = runT (runT t xs) ys := by unfold runT; rw [List.foldl_append]
theorem runT_ok {t : T} (h : OkT t) (xs : List UInt8) : OkT (runT t xs) := by
 induction xs generalizing t with
 | nil => exact h
 | cons c cs ih => exact ih (stepT_ok h c)
theorem runT_stay {t : T} (h : t.z ≠ 0) (xs : List UInt8) : runT t xs = t := by
 induction xs with
 | nil => rfl
 | cons c cs ih => rw [runT_cons, stepT_stay h, ih]
theorem allT_ok (xs : List UInt8) : OkT (allT xs) := runT_ok OkT.st xs
theorem allT_next {xs : List UInt8} {k : Nat} {c : UInt8} (h : xs[k]? = some c) : allT (xs.take (k + 1)) = stepT (allT (xs.take k)) c := by
 unfold allT
 rw [List.take_add_one, h, runT_app]
 rfl
theorem open_back {t : T} {xs : List UInt8} (h : (runT t xs).z = 0) : t.z = 0 := by
 rcases Nat.eq_zero_or_pos t.z with h0 | h0
 · exact h0
 · rw [runT_stay (by omega)] at h; exact h
theorem runT_used {t : T} (xs : List UInt8) (h : (runT t xs).z = 0) : (runT t xs).u = t.u + xs.length := by
 induction xs generalizing t with
 | nil => rfl
 | cons c cs ih =>
   rw [runT_cons] at h ⊢
   rw [ih h, stepT_used (by
     rcases Nat.eq_zero_or_pos t.z with h0 | h0
     · exact h0
     · rw [stepT_stay (by omega)] at h
       exact open_back h), List.length_cons]
   omega
theorem allT_used {xs : List UInt8} (h : (allT xs).z = 0) : (allT xs).u = xs.length := by
 have := runT_used xs h
 rw [show T.st.u = 0 from rfl, Nat.zero_add] at this
 exact this
theorem known_at : ∀ (xs : List UInt8) (t : T), t.z = 0 → (runT t xs).z ≠ 0 → ∃ k, k < xs.length ∧ (runT t xs).u = t.u + k + 1 ∧ (runT t (xs.take k)).z = 0 ∧ runT t (xs.take (k + 1)) = runT t xs
 | [], t, h0, h => absurd h0 h
 | c :: cs, t, h0, h => by
   rw [runT_cons] at h
   by_cases hs : (stepT t c).z = 0
   · obtain ⟨k, hk, hu, ho, hr⟩ := known_at cs (stepT t c) hs h
     refine ⟨k + 1, by simpa using hk, by rw [runT_cons, hu, stepT_used h0]; omega, ?_, ?_⟩
     · rw [List.take_succ_cons, runT_cons]; exact ho
     · rw [List.take_succ_cons, runT_cons, runT_cons]; exact hr
   · refine ⟨0, by simp, ?_, h0, ?_⟩
     · rw [runT_cons, runT_stay hs, stepT_used h0]
     · rw [List.take_succ_cons, List.take_zero, runT_cons, runT_cons, runT_stay hs, runT_stay hs]
theorem known {xs : List UInt8} (h : (allT xs).z ≠ 0) : 1 ≤ (allT xs).u ∧ (allT xs).u ≤ xs.length ∧ (allT (xs.take ((allT xs).u - 1))).z = 0 ∧ (∀ ys, allT (xs ++ ys) = allT xs) := by
 obtain ⟨k, hk, hu, ho, _⟩ := known_at xs T.st rfl h
 rw [show T.st.u = 0 from rfl, Nat.zero_add] at hu
 have e : (allT xs).u = k + 1 := hu
 refine ⟨by omega, by omega, ?_, fun ys => ?_⟩
 · rw [e, Nat.add_sub_cancel]; exact ho
 · show runT T.st (xs ++ ys) = _
   rw [runT_app]
   exact runT_stay h ys
theorem all_end {xs : List UInt8} {k : Nat} {c : UInt8} (hx : xs[k]? = some c) (h : (stepT (allT (xs.take k)) c).z ≠ 0) : allT xs = stepT (allT (xs.take k)) c := by
 have h1 := allT_next hx
 rw [← h1] at h ⊢
 have h2 := (known h).2.2.2 (xs.drop (k + 1))
 rw [List.take_append_drop] at h2
 exact h2
theorem stepT_n (t : T) (c : UInt8) : (stepT t c).d.n ≤ t.d.n + 1 := by
 have h := stepD_n t.d c
 unfold stepT
 repeat' split
 all_goals first
   | exact Nat.le_succ _
   | exact h
theorem runT_n (t : T) (xs : List UInt8) : (runT t xs).d.n ≤ t.d.n + xs.length := by
 induction xs generalizing t with
 | nil => exact Nat.le_refl _
 | cons c cs ih =>
   have h1 := ih (stepT t c)
   have h2 := stepT_n t c
   rw [runT_cons, List.length_cons]
   omega
theorem allT_n (xs : List UInt8) : (allT xs).d.n ≤ xs.length := by
 have := runT_n T.st xs
 rw [show T.st.d.n = 0 from rfl, Nat.zero_add] at this
 exact this

/-! framed bytes of a message that is wrapped -/
theorem run_open : ∀ (ys : List UInt8) (t : T), t.z = 0 → (runD t.d ys).e = 0 → (∀ k, (runM t.m ((outD t.d ys).take k)).e = 0) → (∀ k, k ≤ (outD t.d ys).length → wholeM (runM t.m ((outD t.d ys).take k)) = false ∨ k = 0) →
   (runT t ys).z = 0 ∧ (runT t ys).d = runD t.d ys ∧ (runT t ys).m = runM t.m (outD t.d ys)
 | [], t, h0, _, _, _ => ⟨h0, rfl, rfl⟩
 | c :: cs, t, h0, hd, hm, hw => by
   have hd1 : (stepD t.d c).e = 0 := e_of hd
   rw [runT_cons]
   cases hp : payD t.d with
   | false =>
     have hs : stepT t c = ⟨stepD t.d c, t.m, 0, t.u + 1, 0, [], Ex.Sn.zero⟩ := by
       unfold stepT
       rw [if_neg (by omega), if_neg (by omega), if_pos hp]
     have ho : outD t.d (c :: cs) = outD (stepD t.d c) cs := by rw [outD, hp]; rfl
     rw [ho] at hm hw ⊢
     rw [hs]
     exact run_open cs _ rfl hd hm hw
   | true =>
     have ho : outD t.d (c :: cs) = c :: outD (stepD t.d c) cs := by rw [outD, hp]; rfl
     rw [ho] at hm hw ⊢
     have h1 := hm 1
     rw [List.take_succ_cons, List.take_zero] at h1
     have h2 := hw 1 (by simp)
     rw [List.take_succ_cons, List.take_zero] at h2
     have h1 : (stepM t.m c).e = 0 := h1
     have h2 : wholeM (stepM t.m c) = false := by
       rcases h2 with h2 | h2
       · exact h2
       · cases h2
     have hs : stepT t c = ⟨stepD t.d c, stepM t.m c, 0, t.u + 1, 0, [], Ex.Sn.zero⟩ := by
       unfold stepT
       rw [if_neg (by omega), if_neg (by omega), if_neg (by rw [hp]; simp), if_neg (by omega), if_pos h2]
     rw [hs]
     exact run_open cs ⟨stepD t.d c, stepM t.m c, 0, t.u + 1, 0, [], Ex.Sn.zero⟩ rfl hd (fun k => hm (k + 1)) (fun k hk => by
       have hk : k ≤ (outD (stepD t.d c) cs).length := hk
       have h3 := hw (k + 1) (by rw [List.length_cons]; omega)
       rcases h3 with h3 | h3
       · exact .inl h3
       · cases h3)
end Go.Proofs.YthfknndjdfofgaaGreatDoor.Tp

/-
 Contract over this seat's translation: hagioscope/hagioscoperef10.Rows says that two equal rows are the same.
-/
namespace Go.Proofs.YthfknndjdfofgaaGreatDoor.Ex
open Go.RowKit Go.Proofs.YthfknndjdfofgaaGreatDoor.Wd Go.Proofs.YthfknndjdfofgaaGreatDoor.Be Go.Proofs.YthfknndjdfofgaaGreatDoor.He Go.Proofs.YthfknndjdfofgaaGreatDoor.Ro

set_option maxRecDepth 100000 in
set_option maxHeartbeats 1000000 in
theorem rrows_any (A B : Option Addr) (n c d : Nat) (l : List (List UInt8)) (w : World) (h1 : SrcE w elS A l) (h2 : SrcE w elS B l) (hl : l.length = n) (hn : n ≤ 140737488351232) :
   Calls Tryz.prog 18 #[.slice A n c, .slice B n d] w fun e w' => e = .returned (.bool true) ∧ Hid (∃ k, w' = w.drewN k) := by
 have H1 := Lib.hid h1
 have H2 := Lib.hid h2
 have HL := Lib.hid hl
 clear h1 h2 hl
 go_enter Tryz.func18, Tryz.ntmps18
 go_wp2_with fail
 go_loopw [5] (fun i wr => ∃ k, k ≤ n ∧ i = .int .i64 (k : Int) ∧ Hid (∃ j, wr = w.drewN j)) (fun i _ => n - (intOf i).toNat)
 case atStart => exact ⟨0, Nat.zero_le _, rfl, Lib.hid ⟨0, rfl⟩⟩
 case round =>
   obtain ⟨k, hk, rfl, HW⟩ := hrel
   by_cases hlt : k < n
   · have hki : (k : Int) < (n : Int) := by omega
     obtain ⟨x, hx⟩ : ∃ x, l[k]? = some x := ⟨_, List.getElem?_eq_getElem (by have := HL.out; omega)⟩
     obtain ⟨g1, o1, rfl, hg1, hc1⟩ := H1.out k x hx
     obtain ⟨g2, o2, rfl, hg2, hc2⟩ := H2.out k x hx
     have hd1 : wr.cell? ⟨g1, o1 + k, none⟩ = some (.string (str8 x)) := by obtain ⟨n0, rfl⟩ := HW.out; have := hc1 0 _ rfl; simpa [elS] using this
     have hd2 : wr.cell? ⟨g2, o2 + k, none⟩ = some (.string (str8 x)) := by obtain ⟨n0, rfl⟩ := HW.out; have := hc2 0 _ rfl; simpa [elS] using this
     clear hx hg1 hg2 hc1 hc2
     go_wp2_with fail
     go_quiet (fail)
     go_wp2_with fail
     go_roundw
     case rel => exact ⟨k + 1, by omega, by go_num, Lib.hid (by obtain ⟨j, rfl⟩ := HW.out; exact ⟨_, World.drewN_drewN _ _ _⟩)⟩
     case measure => simp [intOf]; omega
   · obtain rfl : k = n := by omega
     go_wp2_with fail
     go_ret
     exact ⟨rfl, HW⟩
end Go.Proofs.YthfknndjdfofgaaGreatDoor.Ex

/-
 Contract over this seat's translation: hagioscope/hagioscoperef09.Ints says that two equal rows are the same.
-/
namespace Go.Proofs.YthfknndjdfofgaaGreatDoor.Ex
open Go.RowKit Go.Proofs.YthfknndjdfofgaaGreatDoor.Wd Go.Proofs.YthfknndjdfofgaaGreatDoor.Be Go.Proofs.YthfknndjdfofgaaGreatDoor.He Go.Proofs.YthfknndjdfofgaaGreatDoor.Ro

set_option maxRecDepth 100000 in
set_option maxHeartbeats 1000000 in
theorem rints_any (A B : Option Addr) (n c d : Nat) (l : List (Int)) (w : World) (h1 : SrcE w elI A l) (h2 : SrcE w elI B l) (hl : l.length = n) (hn : n ≤ 140737488351232) :
   Calls Tryz.prog 42 #[.slice A n c, .slice B n d] w fun e w' => e = .returned (.bool true) ∧ Hid (∃ k, w' = w.drewN k) := by
 have H1 := Lib.hid h1
 have H2 := Lib.hid h2
 have HL := Lib.hid hl
 clear h1 h2 hl
 go_enter Tryz.func42, Tryz.ntmps42
 go_wp2_with fail
 go_loopw [5] (fun i wr => ∃ k, k ≤ n ∧ i = .int .i64 (k : Int) ∧ Hid (∃ j, wr = w.drewN j)) (fun i _ => n - (intOf i).toNat)
 case atStart => exact ⟨0, Nat.zero_le _, rfl, Lib.hid ⟨0, rfl⟩⟩
 case round =>
   obtain ⟨k, hk, rfl, HW⟩ := hrel
   by_cases hlt : k < n
   · have hki : (k : Int) < (n : Int) := by omega
     obtain ⟨x, hx⟩ : ∃ x, l[k]? = some x := ⟨_, List.getElem?_eq_getElem (by have := HL.out; omega)⟩
     obtain ⟨g1, o1, rfl, hg1, hc1⟩ := H1.out k x hx
     obtain ⟨g2, o2, rfl, hg2, hc2⟩ := H2.out k x hx
     have hd1 : wr.cell? ⟨g1, o1 + k, none⟩ = some (.int .i64 x) := by obtain ⟨n0, rfl⟩ := HW.out; have := hc1 0 _ rfl; simpa [elI] using this
     have hd2 : wr.cell? ⟨g2, o2 + k, none⟩ = some (.int .i64 x) := by obtain ⟨n0, rfl⟩ := HW.out; have := hc2 0 _ rfl; simpa [elI] using this
     clear hx hg1 hg2 hc1 hc2
     go_wp2_with fail
     go_quiet (fail)
     go_wp2_with fail
     go_roundw
     case rel => exact ⟨k + 1, by omega, by go_num, Lib.hid (by obtain ⟨j, rfl⟩ := HW.out; exact ⟨_, World.drewN_drewN _ _ _⟩)⟩
     case measure => simp [intOf]; omega
   · obtain rfl : k = n := by omega
     go_wp2_with fail
     go_ret
     exact ⟨rfl, HW⟩
end Go.Proofs.YthfknndjdfofgaaGreatDoor.Ex

/-
 Contract over this seat's translation: hagioscoperef10's Same says that what is seen is the same, if it is equal.
-/
namespace Go.Proofs.YthfknndjdfofgaaGreatDoor.Ex
open Go.RowKit Go.Proofs.YthfknndjdfofgaaGreatDoor.Wd Go.Proofs.YthfknndjdfofgaaGreatDoor.Be Go.Proofs.YthfknndjdfofgaaGreatDoor.He Go.Proofs.YthfknndjdfofgaaGreatDoor.Ro

theorem drewB {w w' : World} (h : ∃ k, w' = w.drewN k) : Below w.heap.size w w' := by
 obtain ⟨k, rfl⟩ := h
 exact ((But.refl [] w).drewN k).below (by simp) (Nat.le_refl _)

set_option maxRecDepth 100000 in
set_option maxHeartbeats 1000000 in
theorem rsame_any (s : Sn) (va vv vb vu : Value) (B1 B2 B3 B4 : Nat) (w : World) (h1 : RelP w B1 va s.alpn) (h2 : RelV w B2 vv s.vers) (h3 : RelP w B3 vb s.alpn) (h4 : RelV w B4 vu s.vers) :
   Calls Tryz.prog 19 #[.agg (snC s va vv), .agg (snC s vb vu)] w fun e w' => e = .returned (.bool true) ∧ Below w.heap.size w w' := by
 obtain ⟨A1, c1, rfl, _, _, s1⟩ := h1.1.src fineS
 obtain ⟨A2, c2, rfl, _, _, s2⟩ := h2.1.src fineI
 obtain ⟨A3, c3, rfl, _, _, s3⟩ := h3.1.src fineS
 obtain ⟨A4, c4, rfl, _, _, s4⟩ := h4.1.src fineI
 have hl1 := h1.2
 have hl2 := h2.2
 have HB := Lib.hid (((Below.refl w.heap.size w).alloc (Nat.le_refl _) (.cells (snC s (.slice A1 s.alpn.length c1) (.slice A2 s.vers.length c2)) 29)).alloc (by simp) (.cells (snC s (.slice A3 s.alpn.length c3) (.slice A4 s.vers.length c4)) 29))
 have b0 := (Blk.new w 29 (snC s (.slice A1 s.alpn.length c1) (.slice A2 s.vers.length c2))).alloc (.cells (snC s (.slice A3 s.alpn.length c3) (.slice A4 s.vers.length c4)) 29)
 have b1 := blk_at (w.alloc (.cells (snC s (.slice A1 s.alpn.length c1) (.slice A2 s.vers.length c2)) 29)) 29 (snC s (.slice A3 s.alpn.length c3) (.slice A4 s.vers.length c4)) _ (w.heap.size + 1) (by rw [alloc_size]) rfl
 have S1 := Lib.hid (s1.below HB.out)
 have S2 := Lib.hid (s2.below HB.out)
 have S3 := Lib.hid (s3.below HB.out)
 have S4 := Lib.hid (s4.below HB.out)
 clear s1 s2 s3 s4 h1 h2 h3 h4
 obtain ⟨ha, nm, al, vs, ech⟩ := s
 simp only at hl1 hl2 S1 S2 S3 S4 HB b0 b1 ⊢
 unfold snC at HB b0 b1 S1 S2 S3 S4 ⊢
 simp only at HB b0 b1 S1 S2 S3 S4 ⊢
 obtain ⟨n1, hn1⟩ : ∃ n, al.length = n := ⟨_, rfl⟩
 obtain ⟨n2, hn2⟩ : ∃ n, vs.length = n := ⟨_, rfl⟩
 rw [hn1] at hl1 HB b0 b1 S1 S2 S3 S4 ⊢
 rw [hn2] at hl2 HB b0 b1 S1 S2 S3 S4 ⊢
 have HN1 := Lib.hid hn1
 have HN2 := Lib.hid hn2
 clear hn1 hn2
 go_enter Tryz.func19, Tryz.ntmps19
 go_upto_region 1 with fail
 generalize (w.alloc (.cells #[.bool ha, .string (str8 nm), .slice A1 n1 c1, .slice A2 n2 c2, .bool ech] 29)).alloc (.cells #[.bool ha, .string (str8 nm), .slice A3 n1 c3, .slice A4 n2 c4, .bool ech] 29) = w0 at *
 have k0 := b0.cell 0
 have k1 := b0.cell 1
 have k2 := b0.cell 2
 have k3 := b0.cell 3
 have k4 := b0.cell 4
 have m0 := b1.cell 0
 have m1 := b1.cell 1
 have m2 := b1.cell 2
 have m3 := b1.cell 3
 have m4 := b1.cell 4
 have B0 := Lib.hid b0
 have B1' := Lib.hid b1
 clear b0 b1
 go_wp2_with fail
 refine (rrows_any A1 A3 n1 c1 c3 al w0 S1.out S3.out HN1.out (by omega)).mono ?_
 rintro e w1 ⟨rfl, hd⟩
 have hb := drewB hd.out
 have b2 := B0.out.below hb B0.out.lt
 have b3 := B1'.out.below hb B1'.out.lt
 have S2' := Lib.hid (S2.out.below hb)
 have S4' := Lib.hid (S4.out.below hb)
 have HB1 := Lib.hid (HB.out.trans (hb.mono HB.out.size))
 clear k0 k1 k2 k3 k4 m0 m1 m2 m3 m4 hd hb B0 B1' HB S1 S2 S3 S4
 have k3 := b2.cell 3
 have k4 := b2.cell 4
 have m3 := b3.cell 3
 have m4 := b3.cell 4
 have B2' := Lib.hid b2
 have B3' := Lib.hid b3
 clear b2 b3
 go_wp2_with fail
 refine (rints_any A2 A4 n2 c2 c4 vs w1 S2'.out S4'.out HN2.out (by omega)).mono ?_
 rintro e w2 ⟨rfl, hd⟩
 have hb := drewB hd.out
 have b2 := B2'.out.below hb B2'.out.lt
 have b3 := B3'.out.below hb B3'.out.lt
 have HB2 := Lib.hid (HB1.out.trans (hb.mono HB1.out.size))
 clear k3 k4 m3 m4 hd hb B2' B3' HB1 S2' S4'
 have k4 := b2.cell 4
 have m4 := b3.cell 4
 clear b2 b3
 go_wp2_with fail
 go_ret
 exact ⟨rfl, HB2.out⟩
end Go.Proofs.YthfknndjdfofgaaGreatDoor.Ex

/-
 Verdicts as they lie in memory: built, loaded and stored whole; the document's own Same of two. Plain lemmas, and a contract; no condition.
-/
namespace Go.Proofs.YthfknndjdfofgaaGreatDoor.Tp
open Go.RowKit Go.Proofs.YthfknndjdfofgaaGreatDoor.Wd

theorem undV : Tryz.prog.underlying 31 = some (.struct (Tryz.prog.fieldsOf 31)) := by kernel_rfl
theorem infV : (Tryz.prog.info? 31).map (·.size) = some 11 := by kernel_rfl
def vC (z p u r : Int) (H : ByteArray) (s : Ex.Sn) (va vv : Value) : Array Value := #[.int .i64 z, .int .i64 p, .int .i64 u, .int .i64 r, .string H, .int .i64 0, .bool s.has, .string (str8 s.name), va, vv, .bool s.ech]
theorem vC_size (z p u r : Int) (H : ByteArray) (s : Ex.Sn) (va vv : Value) : (vC z p u r H s va vv).size = 11 := rfl
theorem vC_one (z p u r : Int) (H : ByteArray) (s : Ex.Sn) (A B : Option Addr) (n m c d : Nat) : (vC z p u r H s (.slice A n c) (.slice B m d)).all (·.oneCell') = true := by simp [vC, Value.oneCell']
theorem seen_size (s : Ex.Sn) (va vv : Value) : (Ex.snC s va vv).size = 5 := rfl
theorem seen_one (s : Ex.Sn) (A B : Option Addr) (n m c d : Nat) : (Ex.snC s (.slice A n c) (.slice B m d)).all (·.oneCell') = true := by simp [Ex.snC, Value.oneCell']
theorem set11 (a0 a1 a2 a3 a4 a5 a6 a7 a8 a9 a10 x0 x1 x2 x3 x4 x5 x6 x7 x8 x9 x10 : Value) : ((((((((((((#[a0, a1, a2, a3, a4, a5, a6, a7, a8, a9, a10] : Array Value).setIfInBounds 0 x0).setIfInBounds 1 x1).setIfInBounds 2 x2).setIfInBounds 3 x3).setIfInBounds 4 x4).setIfInBounds 5 x5).setIfInBounds 6 x6).setIfInBounds 7 x7).setIfInBounds 8 x8).setIfInBounds 9 x9).setIfInBounds 10 x10) = #[x0, x1, x2, x3, x4, x5, x6, x7, x8, x9, x10] := by simp
theorem eleven (w : World) (g : Nat) (t : TypeId) (a0 a1 a2 a3 a4 a5 a6 a7 a8 a9 a10 x0 x1 x2 x3 x4 x5 x6 x7 x8 x9 x10 : Value) (h : Blk w g t #[a0, a1, a2, a3, a4, a5, a6, a7, a8, a9, a10]) :
   Blk (((((((((((w.setCell ⟨g, 0, none⟩ x0).setCell ⟨g, 1, none⟩ x1).setCell ⟨g, 2, none⟩ x2).setCell ⟨g, 3, none⟩ x3).setCell ⟨g, 4, none⟩ x4).setCell ⟨g, 5, none⟩ x5).setCell ⟨g, 6, none⟩ x6).setCell ⟨g, 7, none⟩ x7).setCell ⟨g, 8, none⟩ x8).setCell ⟨g, 9, none⟩ x9).setCell ⟨g, 10, none⟩ x10) g t #[x0, x1, x2, x3, x4, x5, x6, x7, x8, x9, x10] ∧ w.grownBy (((((((((((w.setCell ⟨g, 0, none⟩ x0).setCell ⟨g, 1, none⟩ x1).setCell ⟨g, 2, none⟩ x2).setCell ⟨g, 3, none⟩ x3).setCell ⟨g, 4, none⟩ x4).setCell ⟨g, 5, none⟩ x5).setCell ⟨g, 6, none⟩ x6).setCell ⟨g, 7, none⟩ x7).setCell ⟨g, 8, none⟩ x8).setCell ⟨g, 9, none⟩ x9).setCell ⟨g, 10, none⟩ x10) (some g) := by
 refine ⟨?_, ?_⟩
 · have h1 := (((((((((((h.set_ 0 x0).set_ 1 x1).set_ 2 x2).set_ 3 x3).set_ 4 x4).set_ 5 x5).set_ 6 x6).set_ 7 x7).set_ 8 x8).set_ 9 x9).set_ 10 x10)
   rwa [set11] at h1
 · exact (only_setCell (p := ⟨g, 10, none⟩) (only_setCell (p := ⟨g, 9, none⟩) (only_setCell (p := ⟨g, 8, none⟩) (only_setCell (p := ⟨g, 7, none⟩) (only_setCell (p := ⟨g, 6, none⟩) (only_setCell (p := ⟨g, 5, none⟩) (only_setCell (p := ⟨g, 4, none⟩) (only_setCell (p := ⟨g, 3, none⟩) (only_setCell (p := ⟨g, 2, none⟩) (only_setCell (p := ⟨g, 1, none⟩) (only_setCell (p := ⟨g, 0, none⟩) (only_refl w _) (.inl rfl) _) (.inl rfl) _) (.inl rfl) _) (.inl rfl) _) (.inl rfl) _) (.inl rfl) _) (.inl rfl) _) (.inl rfl) _) (.inl rfl) _) (.inl rfl) _) (.inl rfl) _)
end Go.Proofs.YthfknndjdfofgaaGreatDoor.Tp
