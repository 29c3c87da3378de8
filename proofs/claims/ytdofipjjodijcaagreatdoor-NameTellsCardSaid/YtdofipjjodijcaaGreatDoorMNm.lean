/-
  Names of hosts in plain words: what is normal, and what its labels are; what follows of it. No condition.
-/
import Derived.Test.YtdofipjjodijcaaGreatDoorAdRound
import Derived.Test.YtdofipjjodijcaaGreatDoorRfPure
import Derived.Lib.SplitLaws
import Derived.Lib.SlTrimSet
import Derived.Lib.Strings
import Derived.Test.YtdofipjjodijcaaGreatDoorSt
import Derived.Test.YtdofipjjodijcaaGreatDoorAdEnv
import Derived.Test.YtdofipjjodijcaaGreatDoorOwn
import Derived.Test.YtdofipjjodijcaaGreatDoorClone
import Derived.Laws.MakeOwn
import Derived.Test.YtdofipjjodijcaaGreatDoorTxAny
import Derived.Test.YtdofipjjodijcaaGreatDoorAuEnv
import Derived.Test.YtdofipjjodijcaaGreatDoorAdParse
import Derived.Test.YtdofipjjodijcaaGreatDoorAdPrintG
import Derived.Shelf.Strings.SlTrimAscii
namespace Go.Proofs.YtdofipjjodijcaaGreatDoor.Nm
open Go Go.Proofs.YtdofipjjodijcaaGreatDoor.Asc Go.Proofs.YtdofipjjodijcaaGreatDoor.Ad

/-- a byte of a label, a label, digits alone -/
def labB (c : UInt8) : Bool := decide ((97 ≤ c.toNat ∧ c.toNat ≤ 122) ∨ (65 ≤ c.toNat ∧ c.toNat ≤ 90) ∨ (48 ≤ c.toNat ∧ c.toNat ≤ 57) ∨ c.toNat = 45 ∨ c.toNat = 95)
def labS (p : List UInt8) : Bool := decide (1 ≤ p.length) && decide (p.length ≤ 63) && p.all labB && decide (p.head? ≠ some 45) && decide (p.getLast? ≠ some 45)
def digB (c : UInt8) : Bool := digI (c.toNat : Int)
def digS (p : List UInt8) : Bool := p.all digB
def trimS (l : List UInt8) : List UInt8 := if l.getLast? = some 46 then l.dropLast else l
def lastS (x : List UInt8) : List UInt8 := (splitS 46 x).getLastD []
def nameS (x : List UInt8) : List UInt8 × Int :=
  if x = [] then ([], 8) else if 253 < x.length then ([], 6) else if (splitS 46 x).all labS = false ∨ digS (lastS x) = true then ([], 9) else (x, 0)
def normalS (l : List UInt8) : List UInt8 × Int := match Ad.parseS l with
  | some a => (Ad.ctext a, 0)
  | none => nameS (trimS (l.map lowB))
def labelsS (l : List UInt8) : List (List UInt8) := if (Ad.parseS l).isSome then [l] else (splitS 46 l).reverse
/-- with dots between -/
def joinD : List (List UInt8) → List UInt8
  | [] => []
  | [p] => p
  | p :: q :: r => p ++ 46 :: joinD (q :: r)

/-! small bytes -/
theorem low_all : ∀ c : Fin 256, lowB (lowB (UInt8.ofNat c.1)) = lowB (UInt8.ofNat c.1) ∧ hexI ((lowB (UInt8.ofNat c.1)).toNat : Int) = hexI ((UInt8.ofNat c.1).toNat : Int) ∧
    (lowB (UInt8.ofNat c.1) = 46 ↔ UInt8.ofNat c.1 = 46) ∧ (lowB (UInt8.ofNat c.1) = 58 ↔ UInt8.ofNat c.1 = 58) ∧ (lowB (UInt8.ofNat c.1) = 48 ↔ UInt8.ofNat c.1 = 48) := by decide +kernel
theorem low_byte (c : UInt8) : lowB (lowB c) = lowB c ∧ hexI ((lowB c).toNat : Int) = hexI (c.toNat : Int) ∧ (lowB c = 46 ↔ c = 46) ∧ (lowB c = 58 ↔ c = 58) ∧ (lowB c = 48 ↔ c = 48) := by
  have h := low_all ⟨c.toNat, c.toNat_lt⟩
  simp only [UInt8.ofNat_toNat] at h
  exact h
theorem low_low (l : List UInt8) : (l.map lowB).map lowB = l.map lowB := by
  rw [List.map_map]
  exact List.map_congr_left fun c _ => (low_byte c).1
theorem fold_low (B : Int) : ∀ (l : List UInt8) (a : Int), foldv B (l.map lowB) a = foldv B l a
  | [], _ => rfl
  | c :: r, a => by
    rw [List.map_cons, foldv, foldv, (low_byte c).2.1]
    cases hexI (c.toNat : Int) with
    | none => rfl
    | some d =>
      dsimp only
      split
      · exact fold_low B r _
      · rfl
theorem dig_low (B : Int) (m : Nat) (l : List UInt8) : digitsS B m (l.map lowB) = digitsS B m l := by
  unfold digitsS
  rw [List.length_map, fold_low]
theorem num_low (l : List UInt8) (m : Int) : numS (l.map lowB) m = numS l m := by
  unfold numS
  rw [List.length_map, dig_low]
  have e : ((l.map lowB)[0]? = some 48) ↔ (l[0]? = some 48) := by
    cases l with
    | nil => simp
    | cons c r => simpa using (low_byte c).2.2.2.2
  by_cases h : 1 < l.length ∧ l[0]? = some 48
  · rw [if_pos h, if_pos ⟨h.1, e.2 h.2⟩]
  · rw [if_neg h, if_neg (fun k => h ⟨k.1, e.1 k.2⟩)]
theorem mem_low46 {l : List UInt8} : (46 : UInt8) ∈ l.map lowB ↔ (46 : UInt8) ∈ l := by
  rw [List.mem_map]
  exact ⟨fun ⟨c, h1, h2⟩ => (low_byte c).2.2.1.1 h2 ▸ h1, fun h => ⟨46, h, by decide⟩⟩
theorem mem_low58 {l : List UInt8} : (58 : UInt8) ∈ l.map lowB ↔ (58 : UInt8) ∈ l := by
  rw [List.mem_map]
  exact ⟨fun ⟨c, h1, h2⟩ => (low_byte c).2.2.2.1.1 h2 ▸ h1, fun h => ⟨58, h, by decide⟩⟩
theorem split_low46 (l : List UInt8) : splitS 46 (l.map lowB) = (splitS 46 l).map (List.map lowB) := by
  induction l with
  | nil => rfl
  | cons c r ih =>
    rw [List.map_cons, splitS, splitS]
    by_cases h : c = 46
    · subst h
      rw [if_pos (by decide), if_pos rfl, ih]
      rfl
    · rw [if_neg (fun k => h ((low_byte c).2.2.1.1 k)), if_neg h, ih]
      cases splitS 46 r <;> rfl
theorem split_low58 (l : List UInt8) : splitS 58 (l.map lowB) = (splitS 58 l).map (List.map lowB) := by
  induction l with
  | nil => rfl
  | cons c r ih =>
    rw [List.map_cons, splitS, splitS]
    by_cases h : c = 58
    · subst h
      rw [if_pos (by decide), if_pos rfl, ih]
      rfl
    · rw [if_neg (fun k => h ((low_byte c).2.2.2.1.1 k)), if_neg h, ih]
      cases splitS 58 r <;> rfl
theorem nums_low : ∀ L : List (List UInt8), numsS (L.map (List.map lowB)) = numsS L
  | [] => rfl
  | p :: r => by rw [List.map_cons, numsS, numsS, num_low, nums_low r]
theorem dotR_low (l : List UInt8) : dotR (l.map lowB) = dotR l := by
  unfold dotR
  rw [split_low46, List.length_map, nums_low]
theorem grps_low (last : Bool) : ∀ L : List (List UInt8), grpsR last (L.map (List.map lowB)) = grpsR last L
  | [] => rfl
  | p :: r => by
    rw [List.map_cons, grpsR, grpsR, show hexS (p.map lowB) = hexS p from dig_low 16 4 p, grps_low last r, dotR_low]
    simp
theorem groups_low (l : List UInt8) (last : Bool) : groupsR (l.map lowB) last = groupsR l last := by
  unfold groupsR
  rw [split_low58, grps_low]
  simp
theorem occ_low (l : List UInt8) (j : Nat) : occ (l.map lowB) j = occ l j := by
  have h : ∀ i : Nat, ((l.map lowB)[i]? == some 58) = (l[i]? == some 58) := fun i => by
    rw [List.getElem?_map]
    cases l[i]? with
    | none => rfl
    | some c =>
      have h1 := (low_byte c).2.2.2.1
      by_cases h2 : c = 58
      · subst h2; decide
      · simp only [Option.map_some]
        rw [beq_eq_false_iff_ne.2 (fun k => h2 (h1.1 (Option.some.inj k))), beq_eq_false_iff_ne.2 (fun k => h2 (Option.some.inj k))]
  unfold occ
  rw [h j, h (j + 1)]

/-! where two colons stand -/
theorem occ_cases (l : List UInt8) : (∀ j, occ l j = false) ∨ (∃ j, occ l j = true ∧ ∀ i, i ≠ j → occ l i = false) ∨ ∃ j k, occ l j = true ∧ occ l k = true ∧ j < k ∧ ∀ i, i < j → occ l i = false := by
  have first : ∀ n, (∀ i, i < n → occ l i = false) ∨ ∃ j, j < n ∧ occ l j = true ∧ ∀ i, i < j → occ l i = false := by
    intro n
    induction n with
    | zero => exact .inl fun i hi => by omega
    | succ n ih =>
      rcases ih with h | ⟨j, h1, h2⟩
      · cases ho : occ l n with
        | true => exact .inr ⟨n, by omega, ho, h⟩
        | false =>
          refine .inl fun i hi => ?_
          rcases Nat.lt_or_ge i n with h3 | h3
          · exact h i h3
          · rw [show i = n by omega]; exact ho
      · exact .inr ⟨j, by omega, h2⟩
  rcases first l.length with h | ⟨j, _, h2, h3⟩
  · refine .inl fun j => ?_
    rcases Nat.lt_or_ge j l.length with h1 | h1
    · exact h j h1
    · exact occ_end h1
  · by_cases hk : ∃ k, j < k ∧ occ l k = true
    · obtain ⟨k, h4, h5⟩ := hk
      exact .inr (.inr ⟨j, k, h2, h5, h4, h3⟩)
    · refine .inr (.inl ⟨j, h2, fun i hi => ?_⟩)
      rcases Nat.lt_or_ge i j with h4 | h4
      · exact h3 i h4
      · cases ho : occ l i with
        | false => rfl
        | true => exact absurd ⟨i, by omega, ho⟩ hk
/-- great letters, small letters: one address -/
theorem parse_low (l : List UInt8) : Ad.parseS (l.map lowB) = Ad.parseS l := by
  cases hd : dotR l with
  | some d => rw [parse_dot hd, parse_dot (by rw [dotR_low]; exact hd)]
  | none =>
    have hd2 : dotR (l.map lowB) = none := by rw [dotR_low]; exact hd
    rcases occ_cases l with h | ⟨j, h1, h2⟩ | ⟨j, k, h1, h2, h3, h4⟩
    · rw [parse_plain hd h, parse_plain hd2 (fun j => by rw [occ_low]; exact h j), groups_low]
    · rw [parse_short h1 h2, parse_short (l := l.map lowB) (j := j) (by rw [occ_low]; exact h1) (fun i hi => by rw [occ_low]; exact h2 i hi), ← List.map_take, ← List.map_drop, groups_low, groups_low]
    · rw [parse_twice h1 h2 h3 h4, parse_twice (l := l.map lowB) (j := j) (k := k) (by rw [occ_low]; exact h1) (by rw [occ_low]; exact h2) h3 (fun i hi => by rw [occ_low]; exact h4 i hi)]

/-! a dot at the end -/
theorem fold_bad {B : Int} : ∀ {l : List UInt8} {a : Int}, (46 : UInt8) ∈ l → foldv B l a = none
  | c :: r, a, h => by
    rw [foldv]
    by_cases hc : c = 46
    · subst hc
      rw [show hexI (((46 : UInt8).toNat : Nat) : Int) = none by decide]
    · have hr : (46 : UInt8) ∈ r := by
        rcases List.mem_cons.1 h with h | h
        · exact absurd h.symm hc
        · exact h
      cases hexI (c.toNat : Int) with
      | none => rfl
      | some d =>
        dsimp only
        split
        · exact fold_bad hr
        · rfl
theorem hex_bad {l : List UInt8} (h : (46 : UInt8) ∈ l) : hexS l = none := by
  unfold hexS digitsS
  split
  · rfl
  · exact fold_bad h
theorem nums_nil : ∀ {L : List (List UInt8)}, [] ∈ L → numsS L = none
  | p :: r, h => by
    rw [numsS]
    rcases List.mem_cons.1 h with rfl | h
    · rfl
    · cases numS p 255 with
      | none => rfl
      | some n => dsimp only; rw [nums_nil h]; rfl
theorem dotR_dot (l : List UInt8) : dotR (l ++ [46]) = none := by
  unfold dotR
  split
  · exact nums_nil (by rw [splitS_snoc, if_pos rfl]; simp)
  · rfl
theorem grps_bad (last : Bool) {p : List UInt8} (h1 : hexS p = none) (h2 : dotR p = none) : ∀ {L : List (List UInt8)}, p ∈ L → grpsR last L = none
  | q :: r, h => by
    rw [grpsR]
    rcases List.mem_cons.1 h with rfl | h
    · rw [h1, h2]
    · have ih := grps_bad last h1 h2 h
      have hr : r ≠ [] := by rintro rfl; cases h
      cases hexS q with
      | some n => simp [ih]
      | none => cases dotR q <;> simp [hr]
theorem groups_dot (l : List UInt8) (last : Bool) : groupsR (l ++ [46]) last = none := by
  unfold groupsR
  rw [if_neg (by simp), splitS_snoc, if_neg (by decide)]
  exact grps_bad last (p := (splitS 58 l).getLastD [] ++ [46]) (hex_bad (by simp)) (dotR_dot _) (by simp)
theorem parse_dotted (l : List UInt8) : Ad.parseS (l ++ [46]) = none := by
  have hd := dotR_dot l
  rcases occ_cases (l ++ [46]) with h | ⟨j, h1, h2⟩ | ⟨j, k, h1, h2, h3, h4⟩
  · rw [parse_plain hd h, groups_dot]; rfl
  · rw [parse_short h1 h2]
    have hj : j + 2 ≤ l.length := by
      have e := (occ_is h1).2
      rcases Nat.lt_or_ge (j + 1) l.length with h5 | h5
      · omega
      · rw [List.getElem?_append_right h5] at e
        rcases Nat.eq_zero_or_pos (j + 1 - l.length) with h6 | h6
        · rw [h6] at e
          injection e with e
          exact absurd e (by decide)
        · rw [List.getElem?_eq_none (by simp only [List.length_cons, List.length_nil]; omega)] at e
          cases e
    rw [List.drop_append_of_le_length hj, groups_dot]
    cases groupsR (List.take j (l ++ [46])) false <;> rfl
  · exact parse_twice h1 h2 h3 h4

/-! names -/
theorem split_mem : ∀ {l : List UInt8} {c : UInt8}, c ∈ l → c = 46 ∨ ∃ p ∈ splitS 46 l, c ∈ p
  | x :: r, c, h => by
    rw [splitS]
    by_cases hx : x = 46
    · rw [if_pos hx]
      rcases List.mem_cons.1 h with h | h
      · exact .inl (h.trans hx)
      · rcases split_mem h with h | ⟨p, h1, h2⟩
        · exact .inl h
        · exact .inr ⟨p, List.mem_cons_of_mem _ h1, h2⟩
    · rw [if_neg hx]
      have hne := splitS_ne 46 r
      cases hs : splitS 46 r with
      | nil => exact absurd hs hne
      | cons q t =>
        rcases List.mem_cons.1 h with h | h
        · exact .inr ⟨x :: q, by simp, by simp [h]⟩
        · rcases split_mem h with h | ⟨p, h1, h2⟩
          · exact .inl h
          · rw [hs] at h1
            rcases List.mem_cons.1 h1 with rfl | h1
            · exact .inr ⟨x :: p, by simp, by simp [h2]⟩
            · exact .inr ⟨p, by simp [h1], h2⟩
theorem lastS_mem (x : List UInt8) : lastS x ∈ splitS 46 x := by
  unfold lastS
  rw [List.getLastD_eq_getLast?, List.getLast?_eq_some_getLast (splitS_ne 46 x)]
  exact List.getLast_mem _
theorem hex_dig {c : UInt8} {d : Int} (h : hexI (c.toNat : Int) = some d) (hd : d < 10) : digB c = true := by
  unfold digB digI
  unfold hexI at h
  split at h
  · rename_i h1; simpa using h1
  · split at h
    · rename_i h1; injection h with h; omega
    · split at h
      · rename_i h1; injection h with h; omega
      · cases h
theorem fold_digs : ∀ {l : List UInt8} {a n : Int}, foldv 10 l a = some n → digS l = true
  | [], _, _, _ => rfl
  | c :: r, a, n, h => by
    rw [foldv] at h
    cases hc : hexI (c.toNat : Int) with
    | none => rw [hc] at h; cases h
    | some d =>
      rw [hc] at h
      dsimp only at h
      split at h
      · rename_i hd
        show (digB c && digS r) = true
        rw [hex_dig hc hd, fold_digs h]
        rfl
      · cases h
theorem num_digs {l : List UInt8} {m n : Int} (h : numS l m = some n) : digS l = true := by
  unfold numS at h
  split at h
  · cases h
  · split at h
    · cases h
    · rename_i k hk
      unfold digitsS at hk
      split at hk
      · cases hk
      · exact fold_digs hk
theorem nums_all : ∀ {L : List (List UInt8)} {b : List UInt8}, numsS L = some b → ∀ p ∈ L, digS p = true
  | [], _, _, p, hp => by cases hp
  | q :: r, b, h, p, hp => by
    rw [numsS] at h
    cases hn : numS q 255 with
    | none => rw [hn] at h; cases h
    | some n =>
      rw [hn] at h
      dsimp only at h
      cases hr : numsS r with
      | none => rw [hr] at h; cases h
      | some t =>
        rcases List.mem_cons.1 hp with rfl | hp
        · exact num_digs hn
        · exact nums_all hr p hp
/-- no address: no colon, and the last part is not all digits -/
theorem no_addr {x : List UInt8} (h : (58 : UInt8) ∉ x) (hd : digS (lastS x) = false) : Ad.parseS x = none := by
  unfold Ad.parseS
  rw [Ad.ib_free h, if_neg (by omega), ← dotR_eq]
  unfold dotR
  split
  · cases hn : numsS (splitS 46 x) with
    | none => rfl
    | some b => rw [nums_all hn _ (lastS_mem x)] at hd; cases hd
  · rfl
theorem labB_not (c : UInt8) (h : labB c = true) : c ≠ 58 ∧ c ≠ 46 := ⟨fun e => by subst e; revert h; decide, fun e => by subst e; revert h; decide⟩
theorem lab_parts {p : List UInt8} (h : labS p = true) : 1 ≤ p.length ∧ p.length ≤ 63 ∧ (∀ c ∈ p, labB c = true) ∧ p.head? ≠ some 45 ∧ p.getLast? ≠ some 45 := by
  unfold labS at h
  simp only [Bool.and_eq_true, decide_eq_true_eq, List.all_eq_true] at h
  obtain ⟨⟨⟨⟨h1, h2⟩, h3⟩, h4⟩, h5⟩ := h
  exact ⟨h1, h2, h3, h4, h5⟩
/-- labels that may be, the last one not all digits -/
structure Fit (x : List UInt8) : Prop where
  lab : (splitS 46 x).all labS = true
  dig : digS (lastS x) = false
theorem Fit.free {x : List UInt8} (h : Fit x) : (58 : UInt8) ∉ x := fun hm => by
  rcases split_mem hm with e | ⟨p, h1, h2⟩
  · revert e; decide
  · exact (labB_not 58 ((lab_parts (List.all_eq_true.1 h.lab p h1)).2.2.1 58 h2)).1 rfl
theorem Fit.none {x : List UInt8} (h : Fit x) : Ad.parseS x = none := no_addr h.free h.dig
theorem Fit.ne {x : List UInt8} (h : Fit x) : x ≠ [] := by
  rintro rfl
  have := h.lab
  revert this
  decide
theorem Fit.trim {x : List UInt8} (h : Fit x) : trimS x = x := by
  unfold trimS
  split
  · rename_i hl
    obtain ⟨y, hy⟩ := List.getLast?_eq_some_iff.1 hl
    have h1 := h.lab
    rw [hy, splitS_snoc, if_pos rfl, List.all_append] at h1
    simp [labS] at h1
  · rfl
theorem trim_dot (x : List UInt8) : trimS (x ++ [46]) = x := by
  unfold trimS
  rw [if_pos (by simp)]
  simp
theorem trim_low (x : List UInt8) : trimS (x.map lowB) = (trimS x).map lowB := by
  unfold trimS
  have e : ((x.map lowB).getLast? = some 46) ↔ (x.getLast? = some 46) := by
    rw [List.getLast?_map]
    cases x.getLast? with
    | none => simp
    | some c => simpa using (low_byte c).2.2.1
  by_cases h : x.getLast? = some 46
  · rw [if_pos h, if_pos (e.2 h), List.map_dropLast]
  · rw [if_neg h, if_neg (fun k => h (e.1 k))]
theorem name_is {x n : List UInt8} (h : nameS x = (n, 0)) : n = x ∧ x.length ≤ 253 ∧ Fit x := by
  unfold nameS at h
  split at h
  · injection h with _ h; cases h
  · split at h
    · injection h with _ h; cases h
    · split at h
      · injection h with _ h; cases h
      · rename_i h1 h2 h3
        injection h with h _
        simp only [not_or, Bool.not_eq_false, Bool.not_eq_true] at h3
        exact ⟨h.symm, by omega, ⟨h3.1, h3.2⟩⟩
theorem name_yes {x : List UInt8} (h : Fit x) (hl : x.length ≤ 253) : nameS x = (x, 0) := by
  unfold nameS
  rw [if_neg h.ne, if_neg (by omega), if_neg (by rw [h.lab, h.dig]; simp)]
theorem name_no {x : List UInt8} (h : (nameS x).2 ≠ 0) : (nameS x).1 = [] := by
  unfold nameS at h ⊢
  split
  · rfl
  · rename_i h1
    rw [if_neg h1] at h
    split
    · rfl
    · rename_i h2
      rw [if_neg h2] at h
      split
      · rfl
      · rename_i h3
        rw [if_neg h3] at h
        exact absurd rfl h
theorem name_long {x : List UInt8} (h0 : x ≠ []) (h : 253 < x.length) : nameS x = ([], 6) := by
  unfold nameS
  rw [if_neg h0, if_pos h]
theorem name_bad {x : List UInt8} (h0 : x ≠ []) (h1 : x.length ≤ 253) (h : (splitS 46 x).all labS = false ∨ digS (lastS x) = true) : nameS x = ([], 9) := by
  unfold nameS
  rw [if_neg h0, if_neg (by omega), if_pos h]

/-! what is normal -/
theorem normal_addr {l a : List UInt8} (h : Ad.parseS l = some a) : normalS l = (Ad.ctext a, 0) := by
  unfold normalS
  rw [h]
theorem normal_name {l : List UInt8} (h : Ad.parseS l = none) : normalS l = nameS (trimS (l.map lowB)) := by
  unfold normalS
  rw [h]
theorem ctext_tells (a : List UInt8) (ha : a.length = 16) : Ad.parseS (Ad.ctext a) = some a := by
  unfold Ad.ctext
  split
  · rename_i hf
    exact (Ad.parse_four a ha hf).1
  · exact (Ad.parse_text a ha).1
/-- an address, or a name of small letters -/
theorem normal_is {l n : List UInt8} (h : normalS l = (n, 0)) : (∃ a, Ad.parseS l = some a ∧ n = Ad.ctext a ∧ Ad.parseS n = some a) ∨ (Ad.parseS l = none ∧ n = trimS (l.map lowB) ∧ Fit n ∧ n.length ≤ 253 ∧ n.map lowB = n) := by
  cases hp : Ad.parseS l with
  | some a =>
    rw [normal_addr hp] at h
    injection h with h _
    exact .inl ⟨a, rfl, h.symm, by rw [← h]; exact ctext_tells a (Ad.parseS_len hp)⟩
  | none =>
    rw [normal_name hp] at h
    obtain ⟨h1, h2, h3⟩ := name_is h
    refine .inr ⟨rfl, h1, h1 ▸ h3, h1 ▸ h2, ?_⟩
    rw [h1, ← trim_low, low_low]
theorem normal_no {l : List UInt8} (h : (normalS l).2 ≠ 0) : (normalS l).1 = [] := by
  cases hp : Ad.parseS l with
  | some a => rw [normal_addr hp] at h; exact absurd rfl h
  | none => rw [normal_name hp] at h ⊢; exact name_no h
theorem normal_len {l n : List UInt8} (h : normalS l = (n, 0)) : n ≠ [] ∧ n.length ≤ 253 := by
  rcases normal_is h with ⟨a, h1, rfl, h2⟩ | ⟨_, _, h3, h4, _⟩
  · have h5 := Ad.ctext_len a (Ad.parseS_len h1)
    refine ⟨fun e => ?_, by omega⟩
    rw [e] at h2
    have h6 := (parse_dotted []).symm
    revert h2
    rw [show Ad.parseS [] = none by decide]
    simp
  · exact ⟨h3.ne, h4⟩
theorem normal_fit {n : List UInt8} (h : Fit n) (h1 : n.length ≤ 253) (h2 : n.map lowB = n) : normalS n = (n, 0) := by
  rw [normal_name h.none, h2, h.trim]
  exact name_yes h h1
theorem normal_again {l n : List UInt8} (h : normalS l = (n, 0)) : normalS n = (n, 0) := by
  rcases normal_is h with ⟨a, h1, h2, h3⟩ | ⟨_, _, h3, h4, h5⟩
  · rw [normal_addr h3, ← h2]
  · exact normal_fit h3 h4 h5
theorem normal_low (l : List UInt8) : normalS (l.map lowB) = normalS l := by
  cases hp : Ad.parseS l with
  | some a => rw [normal_addr hp, normal_addr (by rw [parse_low]; exact hp)]
  | none => rw [normal_name hp, normal_name (by rw [parse_low]; exact hp), low_low]
theorem normal_dot {l n : List UInt8} (h : normalS l = (n, 0)) : if (Ad.parseS n).isSome then (normalS (n ++ [46])).2 ≠ 0 else normalS (n ++ [46]) = (n, 0) := by
  have hd := normal_name (parse_dotted n)
  rw [List.map_append, show List.map lowB [46] = [46] by decide, trim_dot] at hd
  rcases normal_is h with ⟨a, h1, h2, h3⟩ | ⟨_, _, h3, h4, h5⟩
  · rw [h3, if_pos (by rfl), hd]
    intro e
    obtain ⟨m, hm⟩ : ∃ m, nameS (n.map lowB) = (m, 0) := ⟨_, Prod.ext rfl e⟩
    have := (name_is hm).2.2.none
    rw [parse_low, h3] at this
    cases this
  · rw [h3.none, if_neg (by simp), hd, h5]
    exact name_yes h3 h4

/-! labels, turned again -/
theorem join_cons {p : List UInt8} {L : List (List UInt8)} (h : L ≠ []) : joinD (p :: L) = p ++ 46 :: joinD L := by
  cases L with
  | nil => exact absurd rfl h
  | cons q r => rfl
theorem join_split : ∀ l : List UInt8, joinD (splitS 46 l) = l
  | [] => rfl
  | x :: r => by
    have ih := join_split r
    have hne := splitS_ne 46 r
    rw [splitS]
    by_cases hx : x = 46
    · rw [if_pos hx, join_cons hne, ih, hx]; rfl
    · rw [if_neg hx]
      cases hs : splitS 46 r with
      | nil => exact absurd hs hne
      | cons q t =>
        rw [hs] at ih
        cases t with
        | nil => exact congrArg (x :: ·) ih
        | cons u t => exact congrArg (x :: ·) ih
theorem split_app : ∀ (a b : List UInt8), splitS 46 (a ++ 46 :: b) = splitS 46 a ++ splitS 46 b
  | [], b => by show splitS 46 (46 :: b) = [] :: splitS 46 b; rw [splitS, if_pos rfl]
  | x :: a, b => by
    have ih := split_app a b
    have hne := splitS_ne 46 a
    rw [List.cons_append, splitS, splitS, ih]
    by_cases hx : x = 46
    · rw [if_pos hx, if_pos hx]; rfl
    · rw [if_neg hx, if_neg hx]
      cases hs : splitS 46 a with
      | nil => exact absurd hs hne
      | cons q t => rfl
theorem last_app (a b : List UInt8) : lastS (a ++ 46 :: b) = lastS b := by
  unfold lastS
  rw [split_app, List.getLastD_eq_getLast?, List.getLastD_eq_getLast?, List.getLast?_append, List.getLast?_eq_some_getLast (splitS_ne 46 b)]
  rfl
theorem Fit.app {a b : List UInt8} (ha : Fit a) (hb : Fit b) : Fit (a ++ 46 :: b) := ⟨by rw [split_app, List.all_append, ha.lab, hb.lab]; rfl, by rw [last_app]; exact hb.dig⟩
/-- two names with a dot between -/
theorem normal_app {k l x y : List UInt8} (hx : normalS k = (x, 0)) (hy : normalS l = (y, 0)) (h1 : Ad.parseS x = none) (h2 : Ad.parseS y = none) :
    normalS (x ++ 46 :: y) = if 252 < x.length + y.length then ([], 6) else (x ++ 46 :: y, 0) := by
  rcases normal_is hx with ⟨a, _, _, h3⟩ | ⟨_, _, f1, _, l1⟩
  · rw [h1] at h3; cases h3
  rcases normal_is hy with ⟨a, _, _, h3⟩ | ⟨_, _, f2, _, l2⟩
  · rw [h2] at h3; cases h3
  have hf := f1.app f2
  have hl : (x ++ 46 :: y).map lowB = x ++ 46 :: y := by rw [List.map_append, List.map_cons, l1, l2]; rfl
  have hn : (x ++ 46 :: y).length = x.length + y.length + 1 := by rw [List.length_append, List.length_cons]; omega
  split
  · rw [normal_name hf.none, hl, hf.trim]
    exact name_long (by simp) (by omega)
  · exact normal_fit hf (by omega) hl
/-- labels of a normal name are short, and none is empty -/
theorem labels_of {l n : List UInt8} (h : normalS l = (n, 0)) : ((Ad.parseS n).isSome = true ∧ labelsS n = [n]) ∨ ((Ad.parseS n).isSome = false ∧ labelsS n = (splitS 46 n).reverse ∧ ∀ p ∈ splitS 46 n, 1 ≤ p.length ∧ p.length ≤ 63) := by
  unfold labelsS
  rcases normal_is h with ⟨a, h1, h2, h3⟩ | ⟨_, _, h3, h4, h5⟩
  · rw [h3]; exact .inl ⟨rfl, if_pos rfl⟩
  · rw [h3.none]
    refine .inr ⟨rfl, if_neg (by simp), fun p hp => ?_⟩
    have := lab_parts (List.all_eq_true.1 h3.lab p hp)
    exact ⟨this.1, this.2.1⟩

/-! n labels of m letters -/
def repS (n m : Nat) : List UInt8 := joinD (List.replicate n (List.replicate m 97))
theorem rep_one (m : Nat) : repS 1 m = List.replicate m 97 := rfl
theorem join_snoc : ∀ (L : List (List UInt8)) (p : List UInt8), L ≠ [] → joinD (L ++ [p]) = joinD L ++ 46 :: p
  | [q], p, _ => rfl
  | q :: r :: L, p, _ => by
    have ih := join_snoc (r :: L) p (by simp)
    rw [List.cons_append, join_cons (p := q) (L := r :: L ++ [p]) (by simp), ih]
    show _ = (q ++ 46 :: joinD (r :: L)) ++ 46 :: p
    rw [List.append_assoc]
    rfl
theorem rep_more (n m : Nat) (h : 1 ≤ n) : repS (n + 1) m = repS n m ++ 46 :: List.replicate m 97 := by
  unfold repS
  rw [show List.replicate (n + 1) (List.replicate m (97 : UInt8)) = List.replicate n (List.replicate m 97) ++ [List.replicate m 97] from List.replicate_succ', join_snoc _ _ (by
    intro e
    have := congrArg List.length e
    simp at this
    omega)]
theorem rep_len (m : Nat) : ∀ n, 1 ≤ n → (repS n m).length + 1 = n * (m + 1)
  | 1, _ => by rw [rep_one, List.length_replicate, Nat.one_mul]
  | n + 2, _ => by
    have ih := rep_len m (n + 1) (by omega)
    rw [rep_more (n + 1) m (by omega), List.length_append, List.length_cons, List.length_replicate, Nat.succ_mul (n + 1)]
    omega
theorem rep_split (m : Nat) : ∀ n, 1 ≤ n → splitS 46 (repS n m) = List.replicate n (List.replicate m 97)
  | 1, _ => by
    rw [rep_one, splitS_free (fun h => by have := List.eq_of_mem_replicate h; revert this; decide)]
    rfl
  | n + 2, _ => by
    have ih := rep_split m (n + 1) (by omega)
    rw [rep_more (n + 1) m (by omega), split_app, ih, splitS_free (fun h => by have := List.eq_of_mem_replicate h; revert this; decide), ← List.replicate_succ']
theorem lab_rep {m : Nat} (h1 : 1 ≤ m) : labS (List.replicate m 97) = decide (m ≤ 63) := by
  unfold labS
  have e1 : (List.replicate m (97 : UInt8)).all labB = true := List.all_eq_true.2 fun c hc => by rw [List.eq_of_mem_replicate hc]; decide
  have e2 : (List.replicate m (97 : UInt8)).head? ≠ some 45 := fun h => by
    have := List.eq_of_mem_replicate (List.mem_of_mem_head? h)
    revert this; decide
  have e3 : (List.replicate m (97 : UInt8)).getLast? ≠ some 45 := fun h => by
    have := List.eq_of_mem_replicate (List.mem_of_mem_getLast? h)
    revert this; decide
  rw [e1, decide_eq_true e2, decide_eq_true e3, List.length_replicate, decide_eq_true h1]
  simp
theorem rep_last {n m : Nat} (h : 1 ≤ n) : lastS (repS n m) = List.replicate m 97 := by
  have := lastS_mem (repS n m)
  rw [rep_split m n h] at this
  exact List.eq_of_mem_replicate this
theorem rep_low : ∀ (n m : Nat), (repS n m).map lowB = repS n m
  | 0, _ => rfl
  | 1, m => by rw [rep_one, List.map_replicate]; rfl
  | n + 2, m => by
    rw [rep_more (n + 1) m (by omega), List.map_append, List.map_cons, rep_low (n + 1) m, List.map_replicate]
    rfl
theorem rep_mem : ∀ (n m : Nat) (c : UInt8), c ∈ repS n m → c = 46 ∨ c = 97
  | 0, _, c, h => by cases h
  | 1, m, c, h => .inr (List.eq_of_mem_replicate h)
  | n + 2, m, c, h => by
    rw [rep_more (n + 1) m (by omega), List.mem_append, List.mem_cons] at h
    rcases h with h | h | h
    · exact rep_mem (n + 1) m c h
    · exact .inl h
    · exact .inr (List.eq_of_mem_replicate h)
theorem rep_dig {n m : Nat} (h : 1 ≤ n) (hm : 1 ≤ m) : digS (lastS (repS n m)) = false := by
  rw [rep_last h]
  obtain ⟨k, rfl⟩ : ∃ k, m = k + 1 := ⟨m - 1, by omega⟩
  rw [List.replicate_succ]
  rfl
theorem rep_trim {n m : Nat} (h : 1 ≤ n) (hm : 1 ≤ m) : trimS (repS n m) = repS n m := by
  unfold trimS
  rw [if_neg]
  intro hl
  obtain ⟨y, hy⟩ := List.getLast?_eq_some_iff.1 hl
  have h1 : lastS (repS n m) = [] := by
    unfold lastS
    rw [hy, splitS_snoc, if_pos rfl]
    simp
  rw [rep_last h] at h1
  have := congrArg List.length h1
  simp at this
  omega
/-- labels and names may be as long as they may, and no longer -/
theorem normal_rep {n m : Nat} (h : 1 ≤ n) (hm : 1 ≤ m) : normalS (repS n m) = if 253 < (repS n m).length then ([], 6) else if 63 < m then ([], 9) else (repS n m, 0) := by
  have hne : repS n m ≠ [] := fun e => by
    have := rep_len m n h
    rw [e] at this
    have h2 : 1 * 2 ≤ n * (m + 1) := Nat.mul_le_mul h (by omega)
    simp at this
    omega
  have hp : Ad.parseS (repS n m) = none := no_addr (fun hc => by rcases rep_mem n m _ hc with e | e <;> revert e <;> decide) (rep_dig h hm)
  rw [normal_name hp, rep_low, rep_trim h hm]
  split
  · rename_i h1; exact name_long hne h1
  · rename_i h1
    split
    · rename_i h2
      refine name_bad hne (by omega) (.inl ?_)
      rw [rep_split m n h]
      obtain ⟨k, rfl⟩ : ∃ k, n = k + 1 := ⟨n - 1, by omega⟩
      rw [List.replicate_succ, List.all_cons, lab_rep hm, decide_eq_false (by omega)]
      rfl
    · rename_i h2
      refine name_yes ⟨?_, rep_dig h hm⟩ (by omega)
      rw [rep_split m n h]
      exact List.all_eq_true.2 fun p hp => by rw [List.eq_of_mem_replicate hp, lab_rep hm]; exact decide_eq_true (by omega)
end Go.Proofs.YtdofipjjodijcaaGreatDoor.Nm

/-
  What the code's words over texts come to: what stands between dots, a dot behind, digits trimmed, labels of small letters. Plain lemmas, no condition.
-/
namespace Go.Proofs.YtdofipjjodijcaaGreatDoor.Nm
open Go Go.Proofs.YtdofipjjodijcaaGreatDoor.Asc Go.Proofs.YtdofipjjodijcaaGreatDoor.Ad

/-- Split, over lists -/
theorem splitK_is (c : UInt8) : ∀ (n : Nat) (l : List UInt8), l.length ≤ n → Lib.splitK [c] 0 (Lib.count l [c]) l = splitS c l := by
  intro n
  induction n with
  | zero =>
    intro l h
    have : l = [] := List.eq_nil_of_length_eq_zero (by omega)
    subst this
    rfl
  | succ n ih =>
    intro l h
    rcases first_of (c := c) l with hf | ⟨a, b, rfl, hf⟩
    · rw [splitS_free hf, Lib.count_one, List.count_eq_zero.2 hf]
      rfl
    · have hk : Lib.count (a ++ c :: b) [c] = Lib.count b [c] + 1 := by
        rw [Lib.count_one, Lib.count_one, List.count_append, List.count_eq_zero.2 hf, List.count_cons_self]
        omega
      have hi : Lib.index (a ++ c :: b) [c] = (a.length : Int) := by rw [Lib.index_one, ib_at hf]
      have hne : ((a.length : Int) == -1) = false := by rw [beq_eq_false_iff_ne]; omega
      rw [hk, splitS_at hf, Lib.splitK, hi, hne, Int.toNat_natCast]
      rw [if_neg (by simp), Nat.add_zero, List.take_left' rfl, List.length_cons, List.length_nil, Nat.zero_add,
        show List.drop (a.length + 1) (a ++ c :: b) = b by rw [← List.drop_drop, List.drop_left' rfl]; rfl,
        ih b (by rw [List.length_append, List.length_cons] at h; omega)]
/-- Split's pieces, as cells -/
theorem split_cells (s : ByteArray) (c : UInt8) : (Lib.splitB ⟨#[c]⟩ 0 (Lib.countB s ⟨#[c]⟩) s).map Value.string = (splitS c (bs s)).map fun l => Value.string (str l) := by
  have h := Lib.splitB_data ⟨#[c]⟩ 0 (Lib.countB s ⟨#[c]⟩) s
  rw [show Lib.splitK (⟨#[c]⟩ : ByteArray).data.toList 0 (Lib.countB s ⟨#[c]⟩) s.data.toList = splitS c (bs s) from splitK_is c _ (bs s) (Nat.le_refl _)] at h
  rw [← h, List.map_map]
  refine List.map_congr_left fun x _ => ?_
  show Value.string x = Value.string (str (bs x))
  rw [str_bs]
theorem split_count (s : ByteArray) (c : UInt8) : Lib.countB s ⟨#[c]⟩ + 1 = (splitS c (bs s)).length := by
  have h := congrArg List.length (split_cells s c)
  rw [List.length_map, List.length_map, Lib.splitB_all ⟨#[c]⟩ (Nat.le_refl 1) 0 _ s rfl] at h
  exact h

/-- a sign behind -/
theorem suf_one (c : UInt8) (l : List UInt8) : Lib.hasSuffix l [c] = decide (l.getLast? = some c) := by
  rw [Lib.hasSuffix, Bool.eq_iff_iff, List.isSuffixOf_iff_suffix, decide_eq_true_eq, List.getLast?_eq_some_iff]
  exact ⟨fun ⟨t, h⟩ => ⟨t, h.symm⟩, fun ⟨t, h⟩ => ⟨t, h.symm⟩⟩
theorem pre_one (c : UInt8) (b : List UInt8) : Lib.hasPrefix b [c] = decide (b.head? = some c) := by
  cases b with
  | nil => rfl
  | cons x l =>
    by_cases h : x = c
    · subst h; simp [Lib.hasPrefix]
    · have h' : (c == x) = false := by rw [beq_eq_false_iff_ne]; exact fun e => h e.symm
      simp [Lib.hasPrefix, List.isPrefixOf, h, h']
theorem cut_dot (l : List UInt8) : Lib.trimSuffix l [46] = trimS l := by
  unfold Lib.trimSuffix trimS
  rw [suf_one]
  by_cases h : l.getLast? = some 46
  · rw [decide_eq_true h, if_pos rfl, if_pos h, List.dropLast_eq_take]; rfl
  · rw [decide_eq_false h, if_neg (by simp), if_neg h]

/-! digits, trimmed -/
abbrev digN : List UInt8 := [48, 49, 50, 51, 52, 53, 54, 55, 56, 57]
theorem dig_all : ∀ c : Fin 256, digN.contains (UInt8.ofNat c.1) = digB (UInt8.ofNat c.1) := by decide +kernel
theorem dig_is (c : UInt8) : digN.contains c = digB c := by
  have := dig_all ⟨c.toNat, c.toNat_lt⟩
  rwa [UInt8.ofNat_toNat] at this
theorem drop_nil (f : UInt8 → Bool) : ∀ l : List UInt8, l.dropWhile f = [] ↔ ∀ x ∈ l, f x = true
  | [] => by simp
  | x :: l => by
    rw [List.dropWhile_cons]
    by_cases h : f x = true
    · rw [if_pos h, drop_nil f l]; simp [h]
    · rw [if_neg h]
      exact ⟨fun e => (by cases e), fun e => absurd (e x (by simp)) h⟩
theorem trim_digs (p : List UInt8) : Lib.trimS p digN = [] ↔ digS p = true := by
  have hP : (fun c : UInt8 => digN.contains c) = digB := funext dig_is
  unfold Lib.trimS Lib.trimLeftS Lib.trimRightS digS
  rw [hP, drop_nil, List.all_eq_true]
  constructor
  · intro h
    have h2 : p.reverse.dropWhile digB = [] := by
      cases hd : p.reverse.dropWhile digB with
      | nil => rfl
      | cons x r =>
        have h3 := List.head?_dropWhile_not digB p.reverse
        rw [hd] at h3
        have h4 := h x (by rw [hd]; simp)
        simp at h3
        rw [h3] at h4
        cases h4
    rw [drop_nil] at h2
    exact fun x hx => h2 x (List.mem_reverse.2 hx)
  · intro h x hx
    rw [List.mem_reverse] at hx
    exact h x (List.mem_reverse.1 ((List.dropWhile_suffix digB).subset hx))

/-! labels of small letters -/
def maB (c : UInt8) : Bool := decide ((97 ≤ c.toNat ∧ c.toNat ≤ 122) ∨ (48 ≤ c.toNat ∧ c.toNat ≤ 57) ∨ c.toNat = 45 ∨ c.toNat = 95)
def mayS (p : List UInt8) : Bool := decide (1 ≤ p.length) && decide (p.length ≤ 63) && p.all maB && decide (p.head? ≠ some 45) && decide (p.getLast? ≠ some 45)
def labsN : List UInt8 := [97, 98, 99, 100, 101, 102, 103, 104, 105, 106, 107, 108, 109, 110, 111, 112, 113, 114, 115, 116, 117, 118, 119, 120, 121, 122, 95, 48, 49, 50, 51, 52, 53, 54, 55, 56, 57, 45]
theorem ma_all : ∀ c : Fin 256, labB (lowB (UInt8.ofNat c.1)) = maB (lowB (UInt8.ofNat c.1)) ∧ decide (0 ≤ Lib.indexByte labsN (UInt8.ofNat c.1)) = maB (UInt8.ofNat c.1) := by decide +kernel
theorem ma_low (c : UInt8) : labB (lowB c) = maB (lowB c) := by
  have := (ma_all ⟨c.toNat, c.toNat_lt⟩).1
  rwa [UInt8.ofNat_toNat] at this
theorem ma_idx (c : UInt8) : decide (0 ≤ Lib.indexByte labsN c) = maB c := by
  have := (ma_all ⟨c.toNat, c.toNat_lt⟩).2
  rwa [UInt8.ofNat_toNat] at this
theorem ma_asc (c : UInt8) (h : 128 ≤ c.toNat) : maB c = false := by
  unfold maB
  rw [decide_eq_false_iff_not]
  omega
theorem may_low (q : List UInt8) : mayS (q.map lowB) = labS (q.map lowB) := by
  have h : (q.map lowB).all maB = (q.map lowB).all labB := by
    rw [List.all_map, List.all_map]
    exact congrArg q.all (funext fun c => (ma_low c).symm)
  unfold mayS labS
  rw [h]
theorem may_split (l : List UInt8) : (splitS 46 (trimS (l.map lowB))).all mayS = (splitS 46 (trimS (l.map lowB))).all labS := by
  rw [trim_low, split_low46, List.all_map, List.all_map]
  exact congrArg (List.all _) (funext fun q => may_low q)
theorem may_asc {p : List UInt8} (h : mayS p = true) : ∀ c ∈ p, c.toNat < 128 := fun c hc => by
  unfold mayS at h
  simp only [Bool.and_eq_true, List.all_eq_true] at h
  have h1 := h.1.1.2 c hc
  refine Nat.lt_of_not_le fun h2 => ?_
  rw [ma_asc c h2] at h1
  cases h1
/-- what isName asks -/
def isN (x : List UInt8) : Bool := (splitS 46 x).all mayS && !digS (lastS x)
theorem name_code (l : List UInt8) : nameS (trimS (l.map lowB)) = if trimS (l.map lowB) = [] then ([], 8) else if 253 < (trimS (l.map lowB)).length then ([], 6) else if isN (trimS (l.map lowB)) = false then ([], 9) else (trimS (l.map lowB), 0) := by
  unfold nameS isN
  rw [may_split]
  have e : ∀ a b : Bool, (a = false ∨ b = true) ↔ ((a && !b) = false) := by decide
  simp only [e]

/-! signs, one by one -/
theorem all_no (s : ByteArray) (f : UInt8 → Bool) (pos : Nat) (h : ¬ pos < s.size) (ht : ((bs s).take pos).all f = true) : (bs s).all f = true := by
  rwa [List.take_of_length_le (by rw [bs_length]; omega)] at ht
theorem all_hit (s : ByteArray) (f : UInt8 → Bool) (pos : Nat) (h : pos < s.size) (hc : f (s[pos]'h) = false) : (bs s).all f = false :=
  List.all_eq_false.2 ⟨s[pos]'h, List.getElem_mem (by rw [bs_length]; exact h), by rw [hc]; simp⟩
theorem all_step (s : ByteArray) (f : UInt8 → Bool) (pos : Nat) (h : pos < s.size) (ht : ((bs s).take pos).all f = true) (hc : f (s[pos]'h) = true) : ((bs s).take (pos + 1)).all f = true := by
  rw [bs_take s pos h, List.all_append, ht]; simpa using hc
end Go.Proofs.YtdofipjjodijcaaGreatDoor.Nm

/-
  Rows of strings, one at least, in a block: as strings.Split lays them, as make lays room for them, as they are filled from the front. No condition.
-/
namespace Go.Proofs.YtdofipjjodijcaaGreatDoor.Nm
open Go.RowKit Go.Proofs.YtdofipjjodijcaaGreatDoor.Wd Go.Proofs.YtdofipjjodijcaaGreatDoor.Asc Go.Proofs.YtdofipjjodijcaaGreatDoor.Ad

theorem infT : (Tryz.prog.info? 9).map (fun i => (i.zero, i.size, i.bytes)) = some (some (.string ⟨#[]⟩), 1, 16) := by kernel_rfl
abbrev strs (L : List (List UInt8)) : List Value := L.map fun l => Value.string (str l)
/-- the slice v leads to the strings L -/
def RowL (w : World) (v : Value) (L : List (List UInt8)) : Prop :=
  ∃ g c, v = .slice (some ⟨g, 0, none⟩) L.length c ∧ L.length ≤ c ∧ g < w.heap.size ∧ ∀ k l, L[k]? = some l → w.cell? ⟨g, k, none⟩ = some (.string (str l))
section
variable {w w' : World} {v : Value} {L : List (List UInt8)}
theorem RowL.below (h : RowL w v L) (hb : Below w.heap.size w w') : RowL w' v L := by
  obtain ⟨g, c, hv, hc, hg, hr⟩ := h
  exact ⟨g, c, hv, hc, Nat.lt_of_lt_of_le hg hb.size, fun k l hk => (hb.cell (p := ⟨g, k, none⟩) hg).trans (hr k l hk)⟩
theorem RowL.drew (h : RowL w v L) (n : Nat) : RowL (w.drewN n) v L := h
end
theorem strs_at {L : List (List UInt8)} {k : Nat} {l : List UInt8} (h : L[k]? = some l) : (strs L).toArray[k]? = some (.string (str l)) := by
  rw [List.getElem?_toArray, List.getElem?_map, h]
  rfl
theorem RowL.new (w : World) (L : List (List UInt8)) : RowL (w.alloc (.cells (strs L).toArray 9)) (.slice (some ⟨w.heap.size, 0, none⟩) L.length L.length) L :=
  ⟨_, _, rfl, Nat.le_refl _, by simp, fun k l hk => by rw [(Blk.new w 9 _).cell]; exact strs_at hk⟩

/-- make([]string, n) -/
theorem make_strs (n : Nat) (hn : n ≤ 4294967296) : ∃ C : Array Value, C.size = n ∧ ∀ u : World, (Instr.makeSlice 27 (.int .i64 (n : Int)) (.int .i64 (n : Int))).run Tryz.prog u =
    .ok (.slice (some ⟨u.heap.size, 0, none⟩) n n) (u.alloc (.cells C 9)) := by
  obtain ⟨i0, hi, hz0, hz1, hz2⟩ := info_parts infT
  refine ⟨madeCells (Value.string ⟨#[]⟩).cells (n * i0.size), by rw [hz1]; simp [madeCells], fun u => ?_⟩
  have h := run_make (P := Tryz.prog) u 27 9 i0 (.string ⟨#[]⟩) Tryz.underlying27 hi hz0 .i64 .i64 (n : Int) (n : Int) (by omega) (Int.le_refl _) (by rw [hz2]; omega) (by omega)
  rw [Int.toNat_natCast] at h
  exact h

theorem spl_len (c : UInt8) : ∀ l, (splitS c l).length ≤ l.length + 1
  | [] => by simp [splitS]
  | x :: l => by
    have ih := spl_len c l
    have hne := List.length_pos_iff.2 (splitS_ne c l)
    unfold splitS
    split
    · simp; omega
    · simp; omega
theorem spl_mem (c : UInt8) : ∀ (l p : List UInt8), p ∈ splitS c l → p.length ≤ l.length
  | [], p, h => by simp [splitS] at h; subst h; simp
  | x :: l, p, h => by
    have hne := splitS_ne c l
    have ih := spl_mem c l
    unfold splitS at h
    cases hs : splitS c l with
    | nil => exact absurd hs hne
    | cons q r =>
      rw [hs] at h ih
      split at h
      · rcases List.mem_cons.1 h with rfl | h
        · simp
        · have := ih p h; simp; omega
      · rcases List.mem_cons.1 h with rfl | h
        · have := ih q (by simp); simpa using this
        · have := ih p (List.mem_cons_of_mem _ (by simpa using h)); simp; omega

/-- strings.Split at a sign -/
theorem split_any {B : Nat} (s : ByteArray) (c : UInt8) (w : World) (hE : Env B w) (hs : s.size < 4294967281) :
    Calls Tryz.prog 45 #[.string s, .string ⟨#[c]⟩] w fun e w' => ∃ v, e = .returned v ∧ RowL w' v (splitS c (bs s)) ∧ Below w.heap.size w w' := by
  obtain ⟨m, hm⟩ := hE.max
  refine (Tryz.strings_Split s ⟨#[c]⟩ m w hs hm (Nat.le_refl 1)).mono ?_
  rintro e w' ⟨rfl, rfl⟩
  refine ⟨_, rfl, ?_, (Below.refl _ _).alloc (Nat.le_refl _) _⟩
  rw [split_count, split_cells]
  exact RowL.new w (splitS c (bs s))

/-- strings of L in the row's places, as far as k -/
structure Fill (w : World) (g n k : Nat) (L : List (List UInt8)) : Prop where
  at_ : ∃ cur, Blk w g 9 cur ∧ cur.size = n ∧ ∀ j l, j < k → L[j]? = some l → cur[j]? = some (.string (str l))
theorem Fill.below {w w' : World} {g n k : Nat} {L : List (List UInt8)} (h : Fill w g n k L) (hb : Below w.heap.size w w') : Fill w' g n k L := by
  obtain ⟨cur, h1, h2, h3⟩ := h.at_
  exact ⟨cur, h1.below hb h1.lt, h2, h3⟩
theorem Fill.next {w : World} {g n k : Nat} {L : List (List UInt8)} {l : List UInt8} (h : Fill w g n k L) (hk : k < n) (hl : L[k]? = some l) : Fill (w.setCell ⟨g, k, none⟩ (.string (str l))) g n (k + 1) L := by
  obtain ⟨cur, h1, h2, h3⟩ := h.at_
  refine ⟨_, h1.set_ k _, by simpa using h2, fun j x hj hx => ?_⟩
  rw [Array.getElem?_setIfInBounds]
  by_cases e : k = j
  · subst e
    rw [if_pos rfl, if_pos (by omega)]
    rw [hl] at hx
    injection hx with hx
    rw [hx]
  · rw [if_neg e]
    exact h3 j x (by omega) hx
theorem Fill.row {w : World} {g n : Nat} {L : List (List UInt8)} (h : Fill w g n n L) (hn : L.length = n) : RowL w (.slice (some ⟨g, 0, none⟩) n n) L := by
  obtain ⟨cur, h1, h2, h3⟩ := h.at_
  exact ⟨g, n, by rw [hn], by omega, h1.lt, fun k l hk => by rw [h1.cell]; exact h3 k l (by have := (List.getElem?_eq_some_iff.1 hk).1; omega) hk⟩
theorem rev_at {L : List (List UInt8)} {n k : Nat} (hn : L.length = n) (hk : k < n) : L[n - 1 - k]? = L.reverse[k]? := by
  rw [List.getElem?_reverse (by omega), hn]

set_option maxRecDepth 100000 in
set_option maxHeartbeats 4000000 in
/-- what stands between dots, the last one first -/
theorem backward_any {B : Nat} (s : ByteArray) (w : World) (hE : Env B w) (hs : s.size < 4294967281) :
    Calls Tryz.prog 22 #[.string s] w fun e w' => ∃ v, e = .returned v ∧ RowL w' v (splitS 46 (bs s)).reverse ∧ Below w.heap.size w w' := by
  have HS := Lib.hid (split_any (B := B) s 46 w hE hs)
  have hsz : ∀ p ∈ splitS 46 (bs s), p.length ≤ 140737488355328 := fun p hp => by
    have := spl_mem 46 (bs s) p hp
    rw [bs_length] at this
    omega
  have hle := spl_len 46 (bs s)
  rw [bs_length] at hle
  obtain ⟨L, hL⟩ : ∃ L, splitS 46 (bs s) = L := ⟨_, rfl⟩
  obtain ⟨n, hn⟩ : ∃ n, L.length = n := ⟨_, rfl⟩
  rw [hL] at HS hsz hle ⊢
  rw [hn] at hle
  obtain ⟨C, hC, hmk⟩ := make_strs n (by omega)
  have HZ := Lib.hid hsz
  have HN := Lib.hid hn
  have hn9 : n ≤ 4294967281 := by omega
  clear hL hsz hle hE hs
  go_enter Tryz.func22, Tryz.ntmps22
  go_wp2_with fail
  refine HS.out.mono ?_
  rintro e w1 ⟨v, rfl, hr, hb⟩
  obtain ⟨g, c, rfl, hc, hg, hcell⟩ := hr
  rw [HN.out]
  have HB := Lib.hid hb
  have HC := Lib.hid hcell
  have HF : Hid (Fill (w1.alloc (.cells C 9)) w1.heap.size n 0 L.reverse) := Lib.hid ⟨C, Blk.new w1 _ C, hC, fun j l hj => by omega⟩
  have hw1 : w.heap.size ≤ w1.heap.size := hb.size
  clear hb hcell hC HS hc
  go_wp2_with fail
  clear hmk
  obtain ⟨G, hG⟩ : ∃ G, w1.heap.size = G := ⟨_, rfl⟩
  have HB1 : Hid (Below G w1 (w1.alloc (.cells C 9))) := Lib.hid ((Below.refl _ _).alloc (by rw [hG]; exact Nat.le_refl _) _)
  rw [hG] at hg hw1 HF ⊢
  have HW := Lib.hid hw1
  clear hw1
  go_loopw [13] (fun i wr => ∃ k : Nat, k ≤ n ∧ i = .int .i64 (k : Int) ∧ Hid (Fill wr G n k L.reverse) ∧ Hid (Below G w1 wr)) (fun i _ => n - (intOf i).toNat)
  case atStart => exact ⟨0, Nat.zero_le _, rfl, HF, HB1⟩
  case round =>
    obtain ⟨k, hk, rfl, HFk, HBk⟩ := hrel
    by_cases hlt : k < n
    · obtain ⟨p, hp⟩ : ∃ p, L.reverse[k]? = some p := ⟨_, List.getElem?_eq_getElem (by rw [List.length_reverse, HN.out]; exact hlt)⟩
      have hq : L[n - 1 - k]? = some p := by rw [rev_at HN.out hlt]; exact hp
      have hz := HZ.out p (List.mem_of_getElem? hq)
      obtain ⟨P, hP⟩ : ∃ P, str p = P := ⟨_, rfl⟩
      have hPz : P.size ≤ 140737488355328 := by rw [← hP, str_size]; exact hz
      obtain ⟨m, hm⟩ : ∃ m, n - 1 - k = m := ⟨_, rfl⟩
      have hmi : (n : Int) - 1 - (k : Int) = (m : Int) := by omega
      have hml : m < n := by omega
      rw [hm] at hq
      have hcl : wr.cell? ⟨g, m, none⟩ = some (.string P) := by rw [HBk.out.cell (p := ⟨g, m, none⟩) hg, ← hP]; exact HC.out m p hq
      have HK := Lib.hid (fun u => clone_any P u hPz)
      have HP := Lib.hid hP
      have Hp := Lib.hid hp
      clear hq hz hP hPz hm hp
      go_wp2_with fail
      refine (HK.out _).mono ?_
      rintro e w2 ⟨rfl, hb2⟩
      have HF2 := Lib.hid (HFk.out.below hb2)
      have HB2 := Lib.hid (HBk.out.trans (hb2.mono (by have := HBk.out.size; have := hG; omega)))
      obtain ⟨cur, hblk, hcs, _⟩ := HF2.out.at_
      have hcl2 : ∃ u, w2.cell? ⟨G, k, none⟩ = some u := by rw [hblk.cell]; exact ⟨_, Array.getElem?_eq_getElem (by omega)⟩
      obtain ⟨u, hcu⟩ := hcl2
      have hfr := hblk.frozen k
      have HF3 := Lib.hid (HF2.out.next hlt Hp.out)
      have HB3 := Lib.hid (HB2.out.setCell (p := ⟨G, k, none⟩) (Nat.le_refl _) (.string (str p)))
      rw [HP.out] at HF3 HB3
      clear hb2 hblk hcl HK
      go_wp2_with fail
      go_roundw
      case rel => exact ⟨k + 1, hlt, by go_num, HF3, HB3⟩
      case measure => simp [intOf]; omega
    · obtain rfl : k = n := by omega
      go_wp2_with fail
      go_ret
      refine ⟨_, rfl, HFk.out.row (by rw [List.length_reverse, HN.out]), HB.out.trans (HBk.out.mono HW.out)⟩
end Go.Proofs.YtdofipjjodijcaaGreatDoor.Nm

/-
  Contracts of package name over this seat's translation: mayBe, isName, Normal and Labels answer what mayS, isN, normalS and labelsS say.
-/
namespace Go.Proofs.YtdofipjjodijcaaGreatDoor.Nm
open Go.RowKit Go.Proofs.YtdofipjjodijcaaGreatDoor.Wd Go.Proofs.YtdofipjjodijcaaGreatDoor.Asc Go.Proofs.YtdofipjjodijcaaGreatDoor.Ad

abbrev labsA : ByteArray := ⟨#[97, 98, 99, 100, 101, 102, 103, 104, 105, 106, 107, 108, 109, 110, 111, 112, 113, 114, 115, 116, 117, 118, 119, 120, 121, 122, 95, 48, 49, 50, 51, 52, 53, 54, 55, 56, 57, 45]⟩
theorem labs_bs : bs labsA = labsN := rfl
theorem labs_asc : Tx.Asci (bs labsA) := by
  rw [labs_bs]
  show ∀ c ∈ labsN, c.toNat < 128
  decide
/-- strings.ContainsRune among the signs of labels, a sign of ASCII -/
theorem has_asc (c : UInt8) (h : c.toNat < 128) (w : World) :
    Calls Tryz.prog 55 #[.string labsA, .int .i32 (c.toNat : Int)] w fun e w' => e = .returned (.bool (maB c)) ∧ w = w' := by
  have HK : Hid (∀ w, Calls Tryz.prog 72 #[.string labsA, .int .i32 (c.toNat : Int)] w fun e w' => e = .returned (.int .i64 (Lib.indexByte labsN c)) ∧ w = w') := Lib.hid (fun w => by
    refine (Tryz.strings_IndexRune_ascii labsA (c.toNat : Int) w (by omega) (by omega)).mono ?_
    rintro e w1 ⟨rfl, rfl⟩
    refine ⟨?_, rfl⟩
    rw [show ((c.toNat : Int)).toNat.toUInt8 = c by simp]
    rfl)
  have HM := Lib.hid (ma_idx c)
  generalize Lib.indexByte labsN c = k at *
  go_enter Tryz.func55, Tryz.ntmps55
  go_wp2_with fail
  refine (HK.out _).mono ?_
  rintro e w1 ⟨rfl, rfl⟩
  go_wp2_with fail
  go_ret
  exact ⟨ret_b (by rw [← HM.out]), rfl⟩
/-- one past ASCII -/
theorem has_wide (r : Int) (h : 128 ≤ r) (w : World) :
    Calls Tryz.prog 55 #[.string labsA, .int .i32 r] w fun e w' => e = .returned (.bool false) ∧ Below w.heap.size w w' := by
  have HK := Lib.hid (fun w => Tx.irune_wide labsA labs_asc r h w)
  go_enter Tryz.func55, Tryz.ntmps55
  go_wp2_with fail
  refine (HK.out _).mono ?_
  rintro e w1 ⟨rfl, hb⟩
  go_wp2_with fail
  go_ret
  exact ⟨rfl, hb⟩
theorem pre_any (S : ByteArray) (c : UInt8) (w : World) :
    Calls Tryz.prog 53 #[.string S, .string ⟨#[c]⟩] w fun e w' => e = .returned (.bool (decide ((bs S).head? = some c))) ∧ w = w' := by
  refine (Tryz.strings_HasPrefix S ⟨#[c]⟩ w).mono fun _ _ ⟨h1, h2⟩ => ⟨?_, h2.symm⟩
  rw [h1]
  exact congrArg (fun b => Ending.returned (.bool b)) (pre_one c (bs S))
theorem suf_any (S : ByteArray) (c : UInt8) (w : World) (hS : S.size ≤ 9223372036854775807) :
    Calls Tryz.prog 54 #[.string S, .string ⟨#[c]⟩] w fun e w' => e = .returned (.bool (decide ((bs S).getLast? = some c))) ∧ w = w' := by
  refine (Tryz.strings_HasSuffix S ⟨#[c]⟩ w hS).mono fun _ _ ⟨h1, h2⟩ => ⟨?_, h2.symm⟩
  rw [h1]
  exact congrArg (fun b => Ending.returned (.bool b)) (suf_one c (bs S))
/-- strings.TrimSuffix at a dot -/
theorem dot_any (S : ByteArray) (w : World) (hS : S.size ≤ 9223372036854775807) :
    Calls Tryz.prog 12 #[.string S, .string ⟨#[46]⟩] w fun e w' => e = .returned (.string (str (trimS (bs S)))) ∧ w = w' := by
  refine (Tryz.strings_TrimSuffix S ⟨#[46]⟩ w hS).mono fun _ _ ⟨h1, h2⟩ => ⟨?_, h2.symm⟩
  rw [h1]
  exact congrArg (fun b => Ending.returned (.string (str b))) (cut_dot (bs S))
theorem set256 : (Tryz.prog.info? 75).map (fun i => (i.zero, i.size)) = some (some (.agg (Array.replicate 256 (.bool false))), 256) := by kernel_rfl
/-- strings.Trim of digits -/
theorem digs_any (S : ByteArray) (w : World) (hS : S.size ≤ 9223372036854775807) :
    Calls Tryz.prog 35 #[.string S, .string ⟨#[48, 49, 50, 51, 52, 53, 54, 55, 56, 57]⟩] w fun e w' => ∃ T : ByteArray, e = .returned (.string T) ∧ (T.toList.isEmpty = digS (bs S)) ∧ Below w.heap.size w w' := by
  have hT : Calls Tryz.prog 35 #[.string S, .string ⟨#[48, 49, 50, 51, 52, 53, 54, 55, 56, 57]⟩] w fun e w' => e = .returned (.string ⟨(Lib.trimS S.data.toList digN).toArray⟩) ∧ Below w.heap.size w w' :=
    Any.strings_Trim_laid Tryz.lays160 set256 S ⟨#[48, 49, 50, 51, 52, 53, 54, 55, 56, 57]⟩ w hS (by decide) (ascii_of_all (by decide))
  refine hT.mono ?_
  rintro e w1 ⟨rfl, hb⟩
  refine ⟨_, rfl, ?_, hb⟩
  have h := trim_digs (bs S)
  rw [Lib.toList_data]
  show (Lib.trimS (bs S) digN).isEmpty = digS (bs S)
  cases hd : digS (bs S) with
  | true => rw [h.2 hd]; rfl
  | false =>
    cases ht : Lib.trimS (bs S) digN with
    | nil => rw [h.1 ht] at hd; cases hd
    | cons _ _ => rfl

def LabAt (s : ByteArray) (w w' : World) : Prop := ∃ pos, w' = w.iter s pos ∧ pos ≤ s.size ∧ ((bs s).take pos).all maB = true
set_option maxRecDepth 100000 in
set_option maxHeartbeats 4000000 in
theorem may_any (s : ByteArray) (w : World) (hs : s.size < 4294967281) :
    Calls Tryz.prog 34 #[.string s] w fun e w' => e = .returned (.bool (mayS (bs s))) ∧ Below w.heap.size w w' := by
  have HP := Lib.hid (fun w => pre_any s 45 w)
  have HS := Lib.hid (fun w => suf_any s 45 w (by omega))
  have HM : Hid (mayS (bs s) = (decide (1 ≤ s.size) && decide (s.size ≤ 63) && (bs s).all maB && !decide ((bs s).head? = some 45) && !decide ((bs s).getLast? = some 45))) := Lib.hid (by
    unfold mayS
    rw [bs_length]
    simp only [ne_eq, decide_not])
  by_cases h0 : s.size = 0
  · obtain rfl := Asc.empty_of s h0
    clear HM
    go_enter Tryz.func34, Tryz.ntmps34
    go_wp2_with fail
    go_ret
    exact ⟨rfl, Below.refl _ _⟩
  have hne : (s.toList == (⟨#[]⟩ : ByteArray).toList) = false := by
    rw [beq_eq_false_iff_ne, Lib.toList_data, Lib.toList_data]
    intro e
    exact h0 (by rw [← bs_length]; exact congrArg List.length e)
  have hie : s.toList.isEmpty = false := by
    rw [Lib.toList_data]
    cases h : s.data.toList with
    | nil => exact absurd (by rw [← bs_length]; exact congrArg List.length h) h0
    | cons _ _ => rfl
  rw [decide_eq_true (show 1 ≤ s.size by omega), Bool.true_and] at HM
  by_cases h1 : 63 < s.size
  · have i1 : (63 : Int) < (s.size : Int) := by omega
    rw [decide_eq_false (show ¬ s.size ≤ 63 by omega)] at HM
    rw [HM.out]
    clear HM
    go_enter Tryz.func34, Tryz.ntmps34
    go_wp2_with fail
    go_ret
    exact ⟨rfl, Below.refl _ _⟩
  have i1 : ¬ (63 : Int) < (s.size : Int) := by omega
  rw [decide_eq_true (show s.size ≤ 63 by omega), Bool.true_and] at HM
  cases h2 : decide ((bs s).head? = some 45)
  case true =>
    rw [h2] at HM HP
    rw [HM.out, show (((bs s).all maB && !true) && !decide ((bs s).getLast? = some 45)) = false by simp]
    clear HM h2
    go_enter Tryz.func34, Tryz.ntmps34
    go_wp2_with (go_at_call 53; refine (HP.out _).mono ?_; rintro e w1 ⟨rfl, rfl⟩)
    go_ret
    exact ⟨rfl, Below.refl _ _⟩
  cases h3 : decide ((bs s).getLast? = some 45)
  case true =>
    rw [h2] at HM HP
    rw [h3] at HM HS
    rw [HM.out, show (((bs s).all maB && !false) && !true) = false by simp]
    clear HM h2 h3
    go_enter Tryz.func34, Tryz.ntmps34
    go_wp2_with (first | (go_at_call 53; refine (HP.out _).mono ?_; rintro e w1 ⟨rfl, rfl⟩) | (go_at_call 54; refine (HS.out _).mono ?_; rintro e w1 ⟨rfl, rfl⟩))
    go_ret
    exact ⟨rfl, Below.refl _ _⟩
  rw [h2] at HM HP
  rw [h3] at HM HS
  rw [HM.out, show (((bs s).all maB && !false) && !false) = (bs s).all maB by simp]
  clear HM h2 h3 h0 h1
  go_enter Tryz.func34, Tryz.ntmps34
  go_wp2_with (first | (go_at_call 53; refine (HP.out _).mono ?_; rintro e w1 ⟨rfl, rfl⟩) | (go_at_call 54; refine (HS.out _).mono ?_; rintro e w1 ⟨rfl, rfl⟩))
  clear HP HS hne hie i1
  go_loopw [4] (fun _ w' => LabAt s w w') (fun _ w' => s.size - w'.iterPos w.heap.size)
  case atStart => exact ⟨0, rfl, Nat.zero_le _, rfl⟩
  case round =>
    obtain ⟨pos, rfl, hle, ht⟩ := hrel
    have HT := Lib.hid ht
    clear ht
    by_cases hp : pos < s.size
    · by_cases ha : (s[pos]'hp).toNat < 128
      · have hnx : ∀ ty, (Instr.next (.pointer (some ⟨w.heap.size, 0, none⟩)) true ty).run Tryz.prog (w.iter s pos) = _ := fun ty => run_next_ascii (P := Tryz.prog) w s pos ty hp ha
        have HK := Lib.hid (fun u => has_asc (s[pos]'hp) ha u)
        cases hc : maB (s[pos]'hp)
        · have HC := Lib.hid (all_hit s maB pos hp hc)
          rw [hc] at HK
          clear hc ha
          go_wp2_with (go_at_call 55; refine (HK.out _).mono ?_; rintro e w1 ⟨rfl, rfl⟩)
          go_ret
          exact ⟨ret_b HC.out.symm, below_iter _ _ _⟩
        · have HC := Lib.hid (all_step s maB pos hp HT.out hc)
          rw [hc] at HK
          clear hc ha
          go_wp2_with (go_at_call 55; refine (HK.out _).mono ?_; rintro e w1 ⟨rfl, rfl⟩)
          go_roundw
          case rel => exact ⟨pos + 1, rfl, hp, HC.out⟩
          case measure => simp; omega
      · have hnx : ∀ ty, (Instr.next (.pointer (some ⟨w.heap.size, 0, none⟩)) true ty).run Tryz.prog (w.iter s pos) = _ := fun ty => run_next_any w s pos ty hp
        have HC := Lib.hid (all_hit s maB pos hp (ma_asc _ (by omega)))
        have hr : (128 : Int) ≤ ((Utf8.decode s pos).1 : Int) := by have := (decode_high s pos hp (by omega)).1; omega
        have HK := Lib.hid (fun u => has_wide _ hr u)
        generalize ((Utf8.decode s pos).1 : Int) = r at *
        generalize (Utf8.decode s pos).2 = d at *
        clear ha hr
        go_wp2_with (go_at_call 55; refine (HK.out _).mono ?_; rintro e w1 ⟨rfl, hb⟩)
        go_ret
        exact ⟨ret_b HC.out.symm, (below_iter w s (pos + d)).trans (hb.mono (below_iter w s (pos + d)).size)⟩
    · have hnx := fun ty => run_next_end (P := Tryz.prog) w s pos ty hp
      go_wp2
      go_ret
      exact ⟨ret_b (all_no s maB pos hp HT.out).symm, below_iter _ _ _⟩

theorem rev_last {L : List (List UInt8)} (h : L ≠ []) : L.reverse[0]? = some (L.getLastD []) := by
  rw [List.getElem?_reverse (List.length_pos_iff.2 h), Nat.sub_zero, ← List.getLast?_eq_getElem?, List.getLast?_eq_some_getLast h, List.getLastD_eq_getLast?, List.getLast?_eq_some_getLast h]
  rfl
theorem all_rev (L : List (List UInt8)) (f : List UInt8 → Bool) : L.reverse.all f = L.all f := by
  rw [Bool.eq_iff_iff, List.all_eq_true, List.all_eq_true]
  simp
theorem take_next {L : List (List UInt8)} {k : Nat} {p : List UInt8} (h : L[k]? = some p) : L.take (k + 1) = L.take k ++ [p] := by
  rw [List.take_add_one, h]
  rfl

set_option maxRecDepth 100000 in
set_option maxHeartbeats 4000000 in
theorem isName_any {B : Nat} (s : ByteArray) (w : World) (hE : Env B w) (hs : s.size < 4294967281) :
    Calls Tryz.prog 14 #[.string s] w fun e w' => e = .returned (.bool (isN (bs s))) ∧ Below w.heap.size w w' := by
  have HB := Lib.hid (backward_any (B := B) s w hE hs)
  have hI : isN (bs s) = ((splitS 46 (bs s)).reverse.all mayS && !digS (lastS (bs s))) := by rw [all_rev]; rfl
  have hsz : ∀ p ∈ (splitS 46 (bs s)).reverse, p.length < 4294967281 := fun p hp => by
    have := spl_mem 46 (bs s) p (List.mem_reverse.1 hp)
    rw [bs_length] at this
    omega
  have hle := spl_len 46 (bs s)
  rw [bs_length] at hle
  have h0 := rev_last (splitS_ne 46 (bs s))
  rw [show (splitS 46 (bs s)).getLastD [] = lastS (bs s) from rfl] at h0
  rw [← List.length_reverse] at hle
  obtain ⟨L, hL⟩ : ∃ L, (splitS 46 (bs s)).reverse = L := ⟨_, rfl⟩
  obtain ⟨n, hn⟩ : ∃ n, L.length = n := ⟨_, rfl⟩
  obtain ⟨q, hq⟩ : ∃ q, lastS (bs s) = q := ⟨_, rfl⟩
  rw [hL] at HB hI hsz hle h0
  rw [hq] at hI h0
  rw [hn] at hle
  have hqz := hsz q (List.mem_of_getElem? h0)
  have hn0 : 0 < n := by rw [← hn]; exact (List.getElem?_eq_some_iff.1 h0).1
  have HI := Lib.hid hI
  have HZ := Lib.hid hsz
  have HN := Lib.hid hn
  have H0 := Lib.hid h0
  have hn9 : n ≤ 4294967281 := by omega
  clear hI hL hsz hle hE hs h0 hq
  go_enter Tryz.func14, Tryz.ntmps14
  go_wp2_with fail
  refine HB.out.mono ?_
  rintro e w1 ⟨v, rfl, hr, hb⟩
  obtain ⟨g, c, rfl, hc, hg, hcell⟩ := hr
  rw [HN.out]
  have HBl := Lib.hid hb
  have HC := Lib.hid hcell
  have hw1 : w.heap.size ≤ w1.heap.size := hb.size
  have HW := Lib.hid hw1
  clear hb hcell hc HB hw1
  go_wp2_with fail
  go_loopw [10] (fun i wr => ∃ k : Nat, k ≤ n ∧ i = .int .i64 (k : Int) ∧ Hid ((L.take k).all mayS = true) ∧ Hid (Below w1.heap.size w1 wr)) (fun i _ => n - (intOf i).toNat)
  case atStart => exact ⟨0, Nat.zero_le _, rfl, Lib.hid rfl, Lib.hid (Below.refl _ _)⟩
  case round =>
    obtain ⟨k, hk, rfl, HA, HBk⟩ := hrel
    by_cases hlt : k < n
    · obtain ⟨p, hp⟩ : ∃ p, L[k]? = some p := ⟨_, List.getElem?_eq_getElem (by rw [HN.out]; exact hlt)⟩
      have hz := HZ.out p (List.mem_of_getElem? hp)
      obtain ⟨P, hP⟩ : ∃ P, str p = P := ⟨_, rfl⟩
      have hPz : P.size < 4294967281 := by rw [← hP, str_size]; exact hz
      have hcl : wr.cell? ⟨g, k, none⟩ = some (.string P) := by rw [HBk.out.cell (p := ⟨g, k, none⟩) hg, ← hP]; exact HC.out k p hp
      have hT := take_next hp
      have HK := Lib.hid (fun u => may_any P u hPz)
      rw [show bs P = p by rw [← hP]; rfl] at HK
      have hki : (k : Int) < (n : Int) := by omega
      cases hm : mayS p
      · rw [hm] at HK
        have HX : Hid (isN (bs s) = false) := Lib.hid (by
          rw [HI.out, Bool.and_eq_false_iff]
          exact .inl (List.all_eq_false.2 ⟨p, List.mem_of_getElem? hp, by rw [hm]; simp⟩))
        clear hm hT hz hP hPz hp
        go_wp2_with fail
        refine (HK.out _).mono ?_
        rintro e w2 ⟨rfl, hb2⟩
        have HB2 := Lib.hid (HBk.out.trans (hb2.mono HBk.out.size))
        clear hb2 hcl HK
        go_wp2_with fail
        go_ret
        exact ⟨ret_b HX.out.symm, HBl.out.trans (HB2.out.mono HW.out)⟩
      · rw [hm] at HK
        have HX : Hid ((L.take (k + 1)).all mayS = true) := Lib.hid (by rw [hT, List.all_append, HA.out]; simpa using hm)
        clear hm hT hz hP hPz hp
        go_wp2_with fail
        refine (HK.out _).mono ?_
        rintro e w2 ⟨rfl, hb2⟩
        have HB2 := Lib.hid (HBk.out.trans (hb2.mono HBk.out.size))
        clear hb2 hcl HK
        go_wp2_with fail
        go_roundw
        case rel => exact ⟨k + 1, hlt, by go_num, HX, HB2⟩
        case measure => simp [intOf]; omega
    · obtain rfl : k = n := by omega
      have hal : L.all mayS = true := by have h := HA.out; rwa [List.take_of_length_le (by rw [HN.out]; exact Nat.le_refl _)] at h
      have HI2 : Hid (isN (bs s) = !digS q) := Lib.hid (by rw [HI.out, hal, Bool.true_and])
      obtain ⟨P, hP⟩ : ∃ P, str q = P := ⟨_, rfl⟩
      have hPz : P.size ≤ 9223372036854775807 := by rw [← hP, str_size]; omega
      have hcl : wr.cell? ⟨g, 0, none⟩ = some (.string P) := by rw [HBk.out.cell (p := ⟨g, 0, none⟩) hg, ← hP]; exact HC.out 0 q H0.out
      have HK := Lib.hid (fun u => digs_any P u hPz)
      rw [show bs P = q by rw [← hP]; rfl] at HK
      have h0i : (0 : Int) < (k : Int) := by omega
      clear hal hP hPz HI H0
      go_wp2_with fail
      refine (HK.out _).mono ?_
      rintro e w2 ⟨T, rfl, hT, hb2⟩
      have HB2 := Lib.hid (HBk.out.trans (hb2.mono HBk.out.size))
      rw [← hT] at HI2
      clear hb2 hcl HK hT
      go_wp2_with fail
      go_ret
      exact ⟨ret_b HI2.out.symm, HBl.out.trans (HB2.out.mono HW.out)⟩
end Go.Proofs.YtdofipjjodijcaaGreatDoor.Nm

/-
  Contracts of package name's Normal and Labels over this seat's translation: they answer what normalS and labelsS say.
-/
namespace Go.Proofs.YtdofipjjodijcaaGreatDoor.Nm
open Go.RowKit Go.Proofs.YtdofipjjodijcaaGreatDoor.Wd Go.Proofs.YtdofipjjodijcaaGreatDoor.Asc Go.Proofs.YtdofipjjodijcaaGreatDoor.Ad

/-- an address in a block of its own -/
theorem adr_new (w : World) (V : List UInt8) :
    Blk ((w.alloc (.cells #[Value.int .u8 0, Value.int .u8 0, Value.int .u8 0, Value.int .u8 0, Value.int .u8 0, Value.int .u8 0, Value.int .u8 0, Value.int .u8 0, Value.int .u8 0, Value.int .u8 0, Value.int .u8 0, Value.int .u8 0, Value.int .u8 0, Value.int .u8 0, Value.int .u8 0, Value.int .u8 0] 32)).setRow w.heap.size (Ad.cA V)) w.heap.size 32 (Ad.cA V) ∧
    Below w.heap.size w ((w.alloc (.cells #[Value.int .u8 0, Value.int .u8 0, Value.int .u8 0, Value.int .u8 0, Value.int .u8 0, Value.int .u8 0, Value.int .u8 0, Value.int .u8 0, Value.int .u8 0, Value.int .u8 0, Value.int .u8 0, Value.int .u8 0, Value.int .u8 0, Value.int .u8 0, Value.int .u8 0, Value.int .u8 0] 32)).setRow w.heap.size (Ad.cA V)) :=
  ⟨St.setRow_blk (Blk.new _ _ _), St.setRow_below ((Below.refl _ _).alloc (Nat.le_refl _) _) (Blk.new _ _ _) (Nat.le_refl _) _⟩
abbrev resN (q : List UInt8 × Int) : Ending := .returned (.tuple #[.string (str q.1), .int .i64 q.2])
theorem is_empty {T : ByteArray} (h : bs T = []) : T.toList.isEmpty = true ∧ (T.toList == (⟨#[]⟩ : ByteArray).toList) = true := by
  rw [Lib.toList_data, Lib.toList_data, show T.data.toList = [] from h]
  exact ⟨rfl, rfl⟩
theorem no_empty {T : ByteArray} (h : bs T ≠ []) : T.toList.isEmpty = false ∧ (T.toList == (⟨#[]⟩ : ByteArray).toList) = false := by
  rw [Lib.toList_data, Lib.toList_data]
  refine ⟨?_, beq_eq_false_iff_ne.2 h⟩
  cases hd : T.data.toList with
  | nil => exact absurd hd h
  | cons _ _ => rfl
theorem parse_at {B : Nat} (s : ByteArray) (hs : s.size < 4294967281) (o : Option (List UInt8)) (hx : Ad.parseS (bs s) = o) : ∃ V : List UInt8, V.length = 16 ∧ (∀ a, o = some a → V = a) ∧
    ∀ w, Ad.Env B w → Calls Tryz.prog 10 #[.string s] w fun e w' => e = .returned (.tuple #[.agg (Ad.cA V), .bool o.isSome]) ∧ Below w.heap.size w w' := by
  have h := fun w hE => Ad.parse_any (B := B) (bs s) w hE (by rw [bs_length]; exact hs)
  unfold Ad.AddrPost at h
  rw [str_bs, hx] at h
  cases o with
  | none => exact ⟨List.replicate 16 0, rfl, fun a e => (by cases e), h⟩
  | some a => exact ⟨a, Ad.parseS_len hx, fun b e => Option.some.inj e, h⟩

set_option linter.unusedSimpArgs false in
set_option maxRecDepth 100000 in
set_option maxHeartbeats 4000000 in
theorem norm_any {B : Nat} (s : ByteArray) (w : World) (hE : Env B w) (hs : s.size < 4294967281) :
    Calls Tryz.prog 5 #[.string s] w fun e w' => e = resN (normalS (bs s)) ∧ Below w.heap.size w w' := by
  have HE := Lib.hid hE
  clear hE
  cases hx : Ad.parseS (bs s) with
  | some a =>
    obtain ⟨V, hV, hVa, hP⟩ := parse_at (B := B) s hs _ hx
    obtain rfl := hVa a rfl
    have HPa2 : Hid (∀ w, Ad.Env B w → Calls Tryz.prog 10 #[.string s] w fun e w' => e = .returned (.tuple #[.agg (Ad.cA V), .bool true]) ∧ Below w.heap.size w w') := Lib.hid hP
    have HPr := Lib.hid (fun w hE => Ad.print_any (B := B) V hV w hE)
    rw [normal_addr hx]
    generalize Ad.ctext V = T at *
    clear hP hx hVa
    go_enter Tryz.func5, Tryz.ntmps5
    go_wp2_with fail
    refine (HPa2.out _ HE.out).mono ?_
    rintro e w2 ⟨rfl, hb⟩
    have HB1 := Lib.hid hb
    clear hb HPa2
    go_upto_region 2 with (refine St.go_st 32 (Blk.new _ _ _) Ad.info16 rfl (by rw [Ad.cA_size, hV]) (Ad.cA_one _) rfl rfl rfl rfl ?_)
    obtain ⟨hk, hbl⟩ := adr_new w2 V
    have HB2 := Lib.hid (HB1.out.trans (hbl.mono HB1.out.size))
    have HK := Lib.hid hk
    clear hk hbl HB1
    generalize (w2.alloc (.cells #[Value.int .u8 0, Value.int .u8 0, Value.int .u8 0, Value.int .u8 0, Value.int .u8 0, Value.int .u8 0, Value.int .u8 0, Value.int .u8 0, Value.int .u8 0, Value.int .u8 0, Value.int .u8 0, Value.int .u8 0, Value.int .u8 0, Value.int .u8 0, Value.int .u8 0, Value.int .u8 0] 32)).setRow w2.heap.size (Ad.cA V) = w3 at *
    generalize w2.heap.size = g at *
    have k3 := HK.out
    go_wp2_with (refine St.go_ld 32 k3 Ad.und16 rfl Ad.info16 (by rw [Ad.cA_size, hV]) rfl rfl rfl ?_)
    refine (HPr.out _ (HE.out.on HB2.out)).mono ?_
    rintro e w4 ⟨rfl, hb4⟩
    have HB4 := Lib.hid (HB2.out.trans (hb4.mono HB2.out.size))
    clear hb4 k3 HK HB2
    go_wp2_with fail
    go_ret2
    exact ⟨rfl, HB4.out⟩
  | none =>
    obtain ⟨V, hV, hVa, hP⟩ := parse_at (B := B) s hs _ hx
    clear hVa
    have HPa2 : Hid (∀ w, Ad.Env B w → Calls Tryz.prog 10 #[.string s] w fun e w' => e = .returned (.tuple #[.agg (Ad.cA V), .bool false]) ∧ Below w.heap.size w w') := Lib.hid hP
    have HL := Lib.hid (fun w => lower_any s w)
    obtain ⟨l, hl⟩ : ∃ l, lowS s = l := ⟨_, rfl⟩
    have hlb : bs l = (bs s).map lowB := by rw [← hl]; rfl
    have hlz : l.size = s.size := by rw [← hl, low_size]
    rw [hl] at HL
    have HT := Lib.hid (fun w => dot_any l w (by omega))
    obtain ⟨X, hX⟩ : ∃ X, str (trimS (bs l)) = X := ⟨_, rfl⟩
    have hXb : bs X = trimS (bs l) := by rw [← hX]; rfl
    have hXz : X.size ≤ s.size := by
      rw [← hlz, ← bs_length, ← bs_length, hXb]
      unfold trimS
      split
      · rw [List.length_dropLast]; omega
      · exact Nat.le_refl _
    rw [hX] at HT
    rw [normal_name hx, name_code, ← hlb, ← hXb, bs_length]
    have HI := Lib.hid (fun w hE => isName_any (B := B) X w hE (by omega))
    clear hP hx hl hlb hlz hX hXb
    by_cases h0 : bs X = []
    · obtain ⟨e1, e2⟩ := is_empty h0
      rw [if_pos h0]
      clear h0 HI
      go_enter Tryz.func5, Tryz.ntmps5
      go_wp2_with fail
      refine (HPa2.out _ HE.out).mono ?_
      rintro e w2 ⟨rfl, hb⟩
      have HB1 := Lib.hid hb
      clear hb HPa2
      go_upto_region 2 with (refine St.go_st 32 (Blk.new _ _ _) Ad.info16 rfl (by rw [Ad.cA_size, hV]) (Ad.cA_one _) rfl rfl rfl rfl ?_)
      obtain ⟨_, hbl⟩ := adr_new w2 V
      have HB2 := Lib.hid (HB1.out.trans (hbl.mono HB1.out.size))
      clear hbl HB1
      generalize (w2.alloc (.cells #[Value.int .u8 0, Value.int .u8 0, Value.int .u8 0, Value.int .u8 0, Value.int .u8 0, Value.int .u8 0, Value.int .u8 0, Value.int .u8 0, Value.int .u8 0, Value.int .u8 0, Value.int .u8 0, Value.int .u8 0, Value.int .u8 0, Value.int .u8 0, Value.int .u8 0, Value.int .u8 0] 32)).setRow w2.heap.size (Ad.cA V) = w3 at *
      go_wp2_with fail
      refine (HL.out _).mono ?_
      rintro e w4 ⟨rfl, hb⟩
      have HB4 := Lib.hid (HB2.out.trans (hb.mono HB2.out.size))
      clear hb HL HB2
      go_wp2_with fail
      refine (HT.out _).mono ?_
      rintro e w5 ⟨rfl, rfl⟩
      have HB5 := HB4
      clear HT HB4
      go_wp2_with fail
      go_ret2
      exact ⟨rfl, HB5.out⟩
    obtain ⟨e1, e2⟩ := no_empty h0
    rw [if_neg h0]
    by_cases h1 : 253 < X.size
    · have i1 : (253 : Int) < (X.size : Int) := by omega
      rw [if_pos h1]
      clear h0 h1 HI
      go_enter Tryz.func5, Tryz.ntmps5
      go_wp2_with fail
      refine (HPa2.out _ HE.out).mono ?_
      rintro e w2 ⟨rfl, hb⟩
      have HB1 := Lib.hid hb
      clear hb HPa2
      go_upto_region 2 with (refine St.go_st 32 (Blk.new _ _ _) Ad.info16 rfl (by rw [Ad.cA_size, hV]) (Ad.cA_one _) rfl rfl rfl rfl ?_)
      obtain ⟨_, hbl⟩ := adr_new w2 V
      have HB2 := Lib.hid (HB1.out.trans (hbl.mono HB1.out.size))
      clear hbl HB1
      generalize (w2.alloc (.cells #[Value.int .u8 0, Value.int .u8 0, Value.int .u8 0, Value.int .u8 0, Value.int .u8 0, Value.int .u8 0, Value.int .u8 0, Value.int .u8 0, Value.int .u8 0, Value.int .u8 0, Value.int .u8 0, Value.int .u8 0, Value.int .u8 0, Value.int .u8 0, Value.int .u8 0, Value.int .u8 0] 32)).setRow w2.heap.size (Ad.cA V) = w3 at *
      go_wp2_with fail
      refine (HL.out _).mono ?_
      rintro e w4 ⟨rfl, hb⟩
      have HB4 := Lib.hid (HB2.out.trans (hb.mono HB2.out.size))
      clear hb HL HB2
      go_wp2_with fail
      refine (HT.out _).mono ?_
      rintro e w5 ⟨rfl, rfl⟩
      have HB5 := HB4
      clear HT HB4
      go_wp2_with fail
      go_ret2
      exact ⟨rfl, HB5.out⟩
    have i1 : ¬ (253 : Int) < (X.size : Int) := by omega
    rw [if_neg h1]
    cases h2 : isN (bs X)
    · rw [if_pos rfl]
      rw [h2] at HI
      clear h0 h1 h2
      go_enter Tryz.func5, Tryz.ntmps5
      go_wp2_with fail
      refine (HPa2.out _ HE.out).mono ?_
      rintro e w2 ⟨rfl, hb⟩
      have HB1 := Lib.hid hb
      clear hb HPa2
      go_upto_region 2 with (refine St.go_st 32 (Blk.new _ _ _) Ad.info16 rfl (by rw [Ad.cA_size, hV]) (Ad.cA_one _) rfl rfl rfl rfl ?_)
      obtain ⟨_, hbl⟩ := adr_new w2 V
      have HB2 := Lib.hid (HB1.out.trans (hbl.mono HB1.out.size))
      clear hbl HB1
      generalize (w2.alloc (.cells #[Value.int .u8 0, Value.int .u8 0, Value.int .u8 0, Value.int .u8 0, Value.int .u8 0, Value.int .u8 0, Value.int .u8 0, Value.int .u8 0, Value.int .u8 0, Value.int .u8 0, Value.int .u8 0, Value.int .u8 0, Value.int .u8 0, Value.int .u8 0, Value.int .u8 0, Value.int .u8 0] 32)).setRow w2.heap.size (Ad.cA V) = w3 at *
      go_wp2_with fail
      refine (HL.out _).mono ?_
      rintro e w4 ⟨rfl, hb⟩
      have HB4 := Lib.hid (HB2.out.trans (hb.mono HB2.out.size))
      clear hb HL HB2
      go_wp2_with fail
      refine (HT.out _).mono ?_
      rintro e w5 ⟨rfl, rfl⟩
      have HB5 := HB4
      clear HT HB4
      go_wp2_with fail
      refine (HI.out _ (HE.out.on HB5.out)).mono ?_
      rintro e w6 ⟨rfl, hb⟩
      have HB6 := Lib.hid (HB5.out.trans (hb.mono HB5.out.size))
      clear hb
      go_wp2_with fail
      go_ret2
      exact ⟨rfl, HB6.out⟩
    · rw [if_neg (by simp)]
      rw [h2] at HI
      clear h0 h1 h2
      go_enter Tryz.func5, Tryz.ntmps5
      go_wp2_with fail
      refine (HPa2.out _ HE.out).mono ?_
      rintro e w2 ⟨rfl, hb⟩
      have HB1 := Lib.hid hb
      clear hb HPa2
      go_upto_region 2 with (refine St.go_st 32 (Blk.new _ _ _) Ad.info16 rfl (by rw [Ad.cA_size, hV]) (Ad.cA_one _) rfl rfl rfl rfl ?_)
      obtain ⟨_, hbl⟩ := adr_new w2 V
      have HB2 := Lib.hid (HB1.out.trans (hbl.mono HB1.out.size))
      clear hbl HB1
      generalize (w2.alloc (.cells #[Value.int .u8 0, Value.int .u8 0, Value.int .u8 0, Value.int .u8 0, Value.int .u8 0, Value.int .u8 0, Value.int .u8 0, Value.int .u8 0, Value.int .u8 0, Value.int .u8 0, Value.int .u8 0, Value.int .u8 0, Value.int .u8 0, Value.int .u8 0, Value.int .u8 0, Value.int .u8 0] 32)).setRow w2.heap.size (Ad.cA V) = w3 at *
      go_wp2_with fail
      refine (HL.out _).mono ?_
      rintro e w4 ⟨rfl, hb⟩
      have HB4 := Lib.hid (HB2.out.trans (hb.mono HB2.out.size))
      clear hb HL HB2
      go_wp2_with fail
      refine (HT.out _).mono ?_
      rintro e w5 ⟨rfl, rfl⟩
      have HB5 := HB4
      clear HT HB4
      go_wp2_with fail
      refine (HI.out _ (HE.out.on HB5.out)).mono ?_
      rintro e w6 ⟨rfl, hb⟩
      have HB6 := Lib.hid (HB5.out.trans (hb.mono HB5.out.size))
      clear hb
      go_wp2_with fail
      go_ret2
      exact ⟨by show _ = Ending.returned (.tuple #[.string (str (bs X)), .int .i64 0]); rw [str_bs]; rfl, HB6.out⟩

theorem RowL.one {w w' : World} (s : ByteArray) (hb : Below (w.alloc (.cells #[.string s] 9)).heap.size (w.alloc (.cells #[.string s] 9)) w') : RowL w' (.slice (some ⟨w.heap.size, 0, none⟩) 1 1) [bs s] := by
  have h := RowL.new w [bs s]
  rw [show (strs [bs s]).toArray = #[.string s] by simp [strs, str_bs]] at h
  exact h.below hb

set_option linter.unusedSimpArgs false in
set_option maxRecDepth 100000 in
set_option maxHeartbeats 4000000 in
theorem labels_any {B : Nat} (s : ByteArray) (w : World) (hE : Env B w) (hs : s.size < 4294967281) :
    Calls Tryz.prog 8 #[.string s] w fun e w' => ∃ v, e = .returned v ∧ RowL w' v (labelsS (bs s)) ∧ Below w.heap.size w w' := by
  have HE := Lib.hid hE
  clear hE
  cases hx : Ad.parseS (bs s) with
  | some a =>
    obtain ⟨V, hV, hVa, hP⟩ := parse_at (B := B) s hs _ hx
    clear hVa
    have HPa2 : Hid (∀ w, Ad.Env B w → Calls Tryz.prog 10 #[.string s] w fun e w' => e = .returned (.tuple #[.agg (Ad.cA V), .bool true]) ∧ Below w.heap.size w w') := Lib.hid hP
    have HC := Lib.hid (fun u => clone_any s u (by omega))
    have HQ : Hid (labelsS (bs s) = [bs s]) := Lib.hid (by unfold labelsS; rw [hx]; rfl)
    clear hP hx
    go_enter Tryz.func8, Tryz.ntmps8
    go_wp2_with fail
    refine (HPa2.out _ HE.out).mono ?_
    rintro e w2 ⟨rfl, hb⟩
    have HB1 := Lib.hid hb
    clear hb HPa2
    go_upto_region 2 with (refine St.go_st 32 (Blk.new _ _ _) Ad.info16 rfl (by rw [Ad.cA_size, hV]) (Ad.cA_one _) rfl rfl rfl rfl ?_)
    obtain ⟨_, hbl⟩ := adr_new w2 V
    have HB2 := Lib.hid (HB1.out.trans (hbl.mono HB1.out.size))
    clear hbl HB1
    generalize (w2.alloc (.cells #[Value.int .u8 0, Value.int .u8 0, Value.int .u8 0, Value.int .u8 0, Value.int .u8 0, Value.int .u8 0, Value.int .u8 0, Value.int .u8 0, Value.int .u8 0, Value.int .u8 0, Value.int .u8 0, Value.int .u8 0, Value.int .u8 0, Value.int .u8 0, Value.int .u8 0, Value.int .u8 0] 32)).setRow w2.heap.size (Ad.cA V) = w3 at *
    go_wp2_with fail
    refine (HC.out _).mono ?_
    rintro e w4 ⟨rfl, hb⟩
    have HB4 := Lib.hid (HB2.out.trans (hb.mono HB2.out.size))
    clear hb HC HB2
    go_wp2_with fail
    go_ret
    refine ⟨_, rfl, ?_, HB4.out.alloc HB4.out.size _⟩
    rw [HQ.out]
    exact RowL.one s (Below.refl _ _)
  | none =>
    obtain ⟨V, hV, hVa, hP⟩ := parse_at (B := B) s hs _ hx
    clear hVa
    have HPa2 : Hid (∀ w, Ad.Env B w → Calls Tryz.prog 10 #[.string s] w fun e w' => e = .returned (.tuple #[.agg (Ad.cA V), .bool false]) ∧ Below w.heap.size w w') := Lib.hid hP
    have HK := Lib.hid (fun u hE => backward_any (B := B) s u hE hs)
    have HQ : Hid (labelsS (bs s) = (splitS 46 (bs s)).reverse) := Lib.hid (by unfold labelsS; rw [hx]; rfl)
    clear hP hx
    go_enter Tryz.func8, Tryz.ntmps8
    go_wp2_with fail
    refine (HPa2.out _ HE.out).mono ?_
    rintro e w2 ⟨rfl, hb⟩
    have HB1 := Lib.hid hb
    clear hb HPa2
    go_upto_region 2 with (refine St.go_st 32 (Blk.new _ _ _) Ad.info16 rfl (by rw [Ad.cA_size, hV]) (Ad.cA_one _) rfl rfl rfl rfl ?_)
    obtain ⟨_, hbl⟩ := adr_new w2 V
    have HB2 := Lib.hid (HB1.out.trans (hbl.mono HB1.out.size))
    clear hbl HB1
    generalize (w2.alloc (.cells #[Value.int .u8 0, Value.int .u8 0, Value.int .u8 0, Value.int .u8 0, Value.int .u8 0, Value.int .u8 0, Value.int .u8 0, Value.int .u8 0, Value.int .u8 0, Value.int .u8 0, Value.int .u8 0, Value.int .u8 0, Value.int .u8 0, Value.int .u8 0, Value.int .u8 0, Value.int .u8 0] 32)).setRow w2.heap.size (Ad.cA V) = w3 at *
    go_wp2_with fail
    refine (HK.out _ (HE.out.on HB2.out)).mono ?_
    rintro e w4 ⟨v, rfl, hr, hb⟩
    have HB4 := Lib.hid (HB2.out.trans (hb.mono HB2.out.size))
    have HR := Lib.hid hr
    clear hb HK HB2 hr
    go_wp2_with fail
    go_ret
    exact ⟨_, rfl, by rw [HQ.out]; exact HR.out, HB4.out⟩
end Go.Proofs.YtdofipjjodijcaaGreatDoor.Nm

/-
  law14's small case over this seat's translation.
-/
namespace Go.Proofs.YtdofipjjodijcaaGreatDoor.Nm
open Go.RowKit Go.Proofs.YtdofipjjodijcaaGreatDoor.Wd Go.Proofs.YtdofipjjodijcaaGreatDoor.Asc Go.Proofs.YtdofipjjodijcaaGreatDoor.Ad

theorem norm_is {B : Nat} (l : List UInt8) (S : ByteArray) (hS : S = str l) (H : ByteArray) (h : List UInt8) (hH : str h = H) (e : Int) (hq : normalS l = (h, e)) (hl : l.length < 4294967281) (w : World) (hE : Ad.Env B w) :
    Calls Tryz.prog 5 #[.string S] w fun x w' => x = .returned (.tuple #[.string H, .int .i64 e]) ∧ Below w.heap.size w w' := by
  subst hS hH
  have h := norm_any (B := B) (str l) w hE (by rw [str_size]; exact hl)
  rw [show bs (str l) = l from rfl, hq] at h
  exact h
theorem norm_at {B : Nat} (S : ByteArray) (hs : S.size < 4294967281) (n : List UInt8) (e : Int) (N : ByteArray) (hq : normalS (bs S) = (n, e)) (hN : str n = N) (w : World) (hE : Ad.Env B w) :
    Calls Tryz.prog 5 #[.string S] w fun x w' => x = .returned (.tuple #[.string N, .int .i64 e]) ∧ Below w.heap.size w w' := by
  subst hN
  have h := norm_any (B := B) S w hE hs
  rw [hq] at h
  exact h
theorem labels_is {B : Nat} (l : List UInt8) (S : ByteArray) (hS : S = str l) (R : List (List UInt8)) (hq : labelsS l = R) (hl : l.length < 4294967281) (w : World) (hE : Ad.Env B w) :
    Calls Tryz.prog 8 #[.string S] w fun x w' => ∃ v, x = .returned v ∧ RowL w' v R ∧ Below w.heap.size w w' := by
  subst hS
  have h := labels_any (B := B) (str l) w hE (by rw [str_size]; exact hl)
  rw [show bs (str l) = l from rfl, hq] at h
  exact h
/-- 300 zeros, made and turned into a string -/
theorem zeros300 : ∃ C : Array Value, (∀ u : World, (Instr.makeSlice 30 (.int .i64 300) (.int .i64 300)).run Tryz.prog u = .ok (.slice (some ⟨u.heap.size, 0, none⟩) 300 300) (u.alloc (.cells C 5))) ∧
    ∀ u : World, (convert 30 9 (.slice (some ⟨u.heap.size, 0, none⟩) 300 300)).run Tryz.prog (u.alloc (.cells C 5)) = .ok (.string (str (List.replicate 300 0))) (u.alloc (.cells C 5)) := by
  refine ⟨(cellsOf (List.replicate 300 0)).toArray, fun u => make_any 300 (by decide) u, fun u => ?_⟩
  have h := Src.marked u (cellsOf (List.replicate 300 0)).toArray 5 (0, 0) (List.replicate 300 0) rfl
  rw [List.length_replicate] at h
  exact conv (c := 300) h
theorem norm300 : normalS (List.replicate 300 0) = ([], 6) := by kernel_rfl
theorem row3 {w : World} {v : Value} {a b c : List UInt8} (h : RowL w v [a, b, c]) : ∃ g k, v = .slice (some ⟨g, 0, none⟩) 3 k ∧ g < w.heap.size ∧ w.cell? ⟨g, 0, none⟩ = some (.string (str a)) ∧ w.cell? ⟨g, 2, none⟩ = some (.string (str c)) := by
  obtain ⟨g, k, hv, _, hg, hr⟩ := h
  exact ⟨g, k, hv, hg, hr 0 a rfl, hr 2 c rfl⟩
theorem row1 {w : World} {v : Value} {a : List UInt8} (h : RowL w v [a]) : ∃ g k, v = .slice (some ⟨g, 0, none⟩) 1 k ∧ g < w.heap.size ∧ w.cell? ⟨g, 0, none⟩ = some (.string (str a)) := by
  obtain ⟨g, k, hv, _, hg, hr⟩ := h
  exact ⟨g, k, hv, hg, hr 0 a rfl⟩

set_option maxRecDepth 100000 in
set_option maxHeartbeats 8000000 in
theorem small_any {B : Nat} (w : World) (hE : Ad.Env B w) : Calls Tryz.prog 4 #[] w fun e w' => e = .returned (.bool true) ∧ Below w.heap.size w w' := by
  have P1 := Lib.hid (fun w hE => norm_is (B := B) [87, 87, 87, 46, 69, 120, 97, 45, 109, 112, 108, 101, 95, 46] ⟨#[87, 87, 87, 46, 69, 120, 97, 45, 109, 112, 108, 101, 95, 46]⟩ rfl ⟨#[119, 119, 119, 46, 101, 120, 97, 45, 109, 112, 108, 101, 95]⟩ [119, 119, 119, 46, 101, 120, 97, 45, 109, 112, 108, 101, 95] rfl 0 (by kernel_rfl) (by decide) w hE)
  have P2 := Lib.hid (fun w hE => norm_is (B := B) [48, 58, 58, 49] ⟨#[48, 58, 58, 49]⟩ rfl ⟨#[58, 58, 49]⟩ [58, 58, 49] rfl 0 (by kernel_rfl) (by decide) w hE)
  have P3 := Lib.hid (fun w hE => norm_is (B := B) [97, 46, 46, 98] ⟨#[97, 46, 46, 98]⟩ rfl ⟨#[]⟩ [] rfl 9 (by kernel_rfl) (by decide) w hE)
  have P4 := Lib.hid (fun w hE => norm_is (B := B) [46] ⟨#[46]⟩ rfl ⟨#[]⟩ [] rfl 8 (by kernel_rfl) (by decide) w hE)
  have P5 := Lib.hid (fun w hE => norm_is (B := B) [97, 46, 49] ⟨#[97, 46, 49]⟩ rfl ⟨#[]⟩ [] rfl 9 (by kernel_rfl) (by decide) w hE)
  have P6 := Lib.hid (fun w hE => norm_is (B := B) [45, 97] ⟨#[45, 97]⟩ rfl ⟨#[]⟩ [] rfl 9 (by kernel_rfl) (by decide) w hE)
  obtain ⟨C, hmk, hkc⟩ := zeros300
  obtain ⟨Z, hZ⟩ : ∃ Z, str (List.replicate 300 0) = Z := ⟨_, rfl⟩
  rw [hZ] at hkc
  have P7 := Lib.hid (fun w hE => norm_is (B := B) (List.replicate 300 0) Z hZ.symm ⟨#[]⟩ [] rfl 6 norm300 (by decide) w hE)
  have P8 := Lib.hid (fun w hE => labels_is (B := B) [97, 46, 98, 46, 99] ⟨#[97, 46, 98, 46, 99]⟩ rfl [[99], [98], [97]] (by kernel_rfl) (by decide) w hE)
  have P9 := Lib.hid (fun w hE => labels_is (B := B) [49, 46, 50, 46, 51, 46, 52] ⟨#[49, 46, 50, 46, 51, 46, 52]⟩ rfl [[49, 46, 50, 46, 51, 46, 52]] (by kernel_rfl) (by decide) w hE)
  have E0 := Lib.hid hE
  have L0 := Lib.hid (Below.refl w.heap.size w)
  have HMK := Lib.hid hmk
  have HKC := Lib.hid hkc
  clear hE hZ hmk hkc
  go_enter Tryz.func4, Tryz.ntmps4
  go_wp2_with fail
  refine (P1.out w E0.out).mono ?_
  rintro e v1 ⟨rfl, hb⟩
  have L1 := Lib.hid (L0.out.trans (hb.mono L0.out.size))
  have E1 := Lib.hid (E0.out.on hb)
  clear hb P1 L0 E0
  go_wp2_with fail
  refine (P2.out v1 E1.out).mono ?_
  rintro e v2 ⟨rfl, hb⟩
  have L2 := Lib.hid (L1.out.trans (hb.mono L1.out.size))
  have E2 := Lib.hid (E1.out.on hb)
  clear hb P2 L1 E1
  go_wp2_with fail
  refine (P3.out v2 E2.out).mono ?_
  rintro e v3 ⟨rfl, hb⟩
  have L3 := Lib.hid (L2.out.trans (hb.mono L2.out.size))
  have E3 := Lib.hid (E2.out.on hb)
  clear hb P3 L2 E2
  go_wp2_with fail
  refine (P4.out v3 E3.out).mono ?_
  rintro e v4 ⟨rfl, hb⟩
  have L4 := Lib.hid (L3.out.trans (hb.mono L3.out.size))
  have E4 := Lib.hid (E3.out.on hb)
  clear hb P4 L3 E3
  go_wp2_with fail
  refine (P5.out v4 E4.out).mono ?_
  rintro e v5 ⟨rfl, hb⟩
  have L5 := Lib.hid (L4.out.trans (hb.mono L4.out.size))
  have E5 := Lib.hid (E4.out.on hb)
  clear hb P5 L4 E4
  go_wp2_with fail
  refine (P6.out v5 E5.out).mono ?_
  rintro e v6 ⟨rfl, hb⟩
  have L6 := Lib.hid (L5.out.trans (hb.mono L5.out.size))
  have E6 := Lib.hid (E5.out.on hb)
  clear hb P6 L5 E5
  have hmk := HMK.out
  have hkc := HKC.out
  clear HMK HKC
  go_wp2_with fail
  clear hmk hkc
  have hbl : Below v6.heap.size v6 (v6.alloc (.cells C 5)) := (Below.refl _ _).alloc (Nat.le_refl _) _
  have La := Lib.hid (L6.out.trans (hbl.mono L6.out.size))
  have Ea := Lib.hid (E6.out.on hbl)
  clear hbl L6 E6
  generalize v6.alloc (.cells C 5) = u7 at *
  refine (P7.out u7 Ea.out).mono ?_
  rintro e v7 ⟨rfl, hb⟩
  have L7 := Lib.hid (La.out.trans (hb.mono La.out.size))
  have E7 := Lib.hid (Ea.out.on hb)
  clear hb P7 La Ea
  go_wp2_with fail
  refine (P8.out v7 E7.out).mono ?_
  rintro e v8 ⟨r8, rfl, hr, hb⟩
  obtain ⟨g8, k8, rfl, hg8, hc0, hc2⟩ := row3 hr
  have L8 := Lib.hid (L7.out.trans (hb.mono L7.out.size))
  have E8 := Lib.hid (E7.out.on hb)
  clear hb hr P8 L7 E7
  have C0 := Lib.hid hc0
  have C2 := Lib.hid hc2
  clear hc0 hc2
  go_wp2_with fail
  refine (P9.out v8 E8.out).mono ?_
  rintro e v9 ⟨r9, rfl, hr, hb⟩
  obtain ⟨g9, k9, rfl, hg9, hd0⟩ := row1 hr
  have hc0 := (hb.cell (p := ⟨g8, 0, none⟩) hg8).trans C0.out
  have hc2 := (hb.cell (p := ⟨g8, 2, none⟩) hg8).trans C2.out
  have L9 := Lib.hid (L8.out.trans (hb.mono L8.out.size))
  have E9 := Lib.hid (E8.out.on hb)
  clear hb hr P9 L8 E8
  clear C0 C2
  go_wp2_with fail
  go_ret
  exact ⟨rfl, L9.out⟩
end Go.Proofs.YtdofipjjodijcaaGreatDoor.Nm
