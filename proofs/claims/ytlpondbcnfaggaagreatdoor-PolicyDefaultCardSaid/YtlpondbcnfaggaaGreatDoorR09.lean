/-
  Names of hosts in plain words: what is normal, and what its labels are; what follows of it. No condition.
-/
import Derived.Test.YtlpondbcnfaggaaGreatDoorR08
namespace Go.Proofs.YtlpondbcnfaggaaGreatDoor.Nm
open Go Go.Proofs.YtlpondbcnfaggaaGreatDoor.Asc Go.Proofs.YtlpondbcnfaggaaGreatDoor.Ad

/-- a byte of a label, a label, digits alone -/
def labB (c : UInt8) : Bool := decide ((97 ≤ c.toNat ∧ c.toNat ≤ 122) ∨ (65 ≤ c.toNat ∧ c.toNat ≤ 90) ∨ (48 ≤ c.toNat ∧ c.toNat ≤ 57) ∨ c.toNat = 45 ∨ c.toNat = 95)
def labS (p : List UInt8) : Bool := decide (1 ≤ p.length) && decide (p.length ≤ 63) && p.all labB && decide (p.head? ≠ some 45) && decide (p.getLast? ≠ some 45)
def digB (c : UInt8) : Bool := digI (c.toNat : Int)
def digS (p : List UInt8) : Bool := p.all digB
def trimS (l : List UInt8) : List UInt8 := if l.getLast? = some 46 then l.dropLast else l
def lastS (x : List UInt8) : List UInt8 := (splitS 46 x).getLastD []
def nameS (x : List UInt8) : List UInt8 × Int :=
  if x = [] then ([], 8) else if 253 < x.length then ([], 6) else if (splitS 46 x).all labS = false ∨ digS (lastS x) = true then ([], 9) else (x, 0)
def normalS (l : List UInt8) : List UInt8 × Int := match Ad.parseS l with
  | some a => (Ad.ctext a, 0)
  | none => nameS (trimS (l.map lowB))
def labelsS (l : List UInt8) : List (List UInt8) := if (Ad.parseS l).isSome then [l] else (splitS 46 l).reverse
/-- with dots between -/
def joinD : List (List UInt8) → List UInt8
  | [] => []
  | [p] => p
  | p :: q :: r => p ++ 46 :: joinD (q :: r)

/-! small bytes -/
theorem low_all : ∀ c : Fin 256, lowB (lowB (UInt8.ofNat c.1)) = lowB (UInt8.ofNat c.1) ∧ hexI ((lowB (UInt8.ofNat c.1)).toNat : Int) = hexI ((UInt8.ofNat c.1).toNat : Int) ∧
    (lowB (UInt8.ofNat c.1) = 46 ↔ UInt8.ofNat c.1 = 46) ∧ (lowB (UInt8.ofNat c.1) = 58 ↔ UInt8.ofNat c.1 = 58) ∧ (lowB (UInt8.ofNat c.1) = 48 ↔ UInt8.ofNat c.1 = 48) := by decide +kernel
theorem low_byte (c : UInt8) : lowB (lowB c) = lowB c ∧ hexI ((lowB c).toNat : Int) = hexI (c.toNat : Int) ∧ (lowB c = 46 ↔ c = 46) ∧ (lowB c = 58 ↔ c = 58) ∧ (lowB c = 48 ↔ c = 48) := by
  have h := low_all ⟨c.toNat, c.toNat_lt⟩
  simp only [UInt8.ofNat_toNat] at h
  exact h
theorem low_low (l : List UInt8) : (l.map lowB).map lowB = l.map lowB := by
  rw [List.map_map]
  exact List.map_congr_left fun c _ => (low_byte c).1
theorem fold_low (B : Int) : ∀ (l : List UInt8) (a : Int), foldv B (l.map lowB) a = foldv B l a
  | [], _ => rfl
  | c :: r, a => by
    rw [List.map_cons, foldv, foldv, (low_byte c).2.1]
    cases hexI (c.toNat : Int) with
    | none => rfl
    | some d =>
      dsimp only
      split
      · exact fold_low B r _
      · rfl
theorem dig_low (B : Int) (m : Nat) (l : List UInt8) : digitsS B m (l.map lowB) = digitsS B m l := by
  unfold digitsS
  rw [List.length_map, fold_low]
theorem num_low (l : List UInt8) (m : Int) : numS (l.map lowB) m = numS l m := by
  unfold numS
  rw [List.length_map, dig_low]
  have e : ((l.map lowB)[0]? = some 48) ↔ (l[0]? = some 48) := by
    cases l with
    | nil => simp
    | cons c r => simpa using (low_byte c).2.2.2.2
  by_cases h : 1 < l.length ∧ l[0]? = some 48
  · rw [if_pos h, if_pos ⟨h.1, e.2 h.2⟩]
  · rw [if_neg h, if_neg (fun k => h ⟨k.1, e.1 k.2⟩)]
theorem mem_low46 {l : List UInt8} : (46 : UInt8) ∈ l.map lowB ↔ (46 : UInt8) ∈ l := by
  rw [List.mem_map]
  exact ⟨fun ⟨c, h1, h2⟩ => (low_byte c).2.2.1.1 h2 ▸ h1, fun h => ⟨46, h, by decide⟩⟩
theorem mem_low58 {l : List UInt8} : (58 : UInt8) ∈ l.map lowB ↔ (58 : UInt8) ∈ l := by
  rw [List.mem_map]
  exact ⟨fun ⟨c, h1, h2⟩ => (low_byte c).2.2.2.1.1 h2 ▸ h1, fun h => ⟨58, h, by decide⟩⟩
theorem split_low46 (l : List UInt8) : splitS 46 (l.map lowB) = (splitS 46 l).map (List.map lowB) := by
  induction l with
  | nil => rfl
  | cons c r ih =>
    rw [List.map_cons, splitS, splitS]
    by_cases h : c = 46
    · subst h
      rw [if_pos (by decide), if_pos rfl, ih]
      rfl
    · rw [if_neg (fun k => h ((low_byte c).2.2.1.1 k)), if_neg h, ih]
      cases splitS 46 r <;> rfl
theorem split_low58 (l : List UInt8) : splitS 58 (l.map lowB) = (splitS 58 l).map (List.map lowB) := by
  induction l with
  | nil => rfl
  | cons c r ih =>
    rw [List.map_cons, splitS, splitS]
    by_cases h : c = 58
    · subst h
      rw [if_pos (by decide), if_pos rfl, ih]
      rfl
    · rw [if_neg (fun k => h ((low_byte c).2.2.2.1.1 k)), if_neg h, ih]
      cases splitS 58 r <;> rfl
theorem nums_low : ∀ L : List (List UInt8), numsS (L.map (List.map lowB)) = numsS L
  | [] => rfl
  | p :: r => by rw [List.map_cons, numsS, numsS, num_low, nums_low r]
theorem dotR_low (l : List UInt8) : dotR (l.map lowB) = dotR l := by
  unfold dotR
  rw [split_low46, List.length_map, nums_low]
theorem grps_low (last : Bool) : ∀ L : List (List UInt8), grpsR last (L.map (List.map lowB)) = grpsR last L
  | [] => rfl
  | p :: r => by
    rw [List.map_cons, grpsR, grpsR, show hexS (p.map lowB) = hexS p from dig_low 16 4 p, grps_low last r, dotR_low]
    simp
theorem groups_low (l : List UInt8) (last : Bool) : groupsR (l.map lowB) last = groupsR l last := by
  unfold groupsR
  rw [split_low58, grps_low]
  simp
theorem occ_low (l : List UInt8) (j : Nat) : occ (l.map lowB) j = occ l j := by
  have h : ∀ i : Nat, ((l.map lowB)[i]? == some 58) = (l[i]? == some 58) := fun i => by
    rw [List.getElem?_map]
    cases l[i]? with
    | none => rfl
    | some c =>
      have h1 := (low_byte c).2.2.2.1
      by_cases h2 : c = 58
      · subst h2; decide
      · simp only [Option.map_some]
        rw [beq_eq_false_iff_ne.2 (fun k => h2 (h1.1 (Option.some.inj k))), beq_eq_false_iff_ne.2 (fun k => h2 (Option.some.inj k))]
  unfold occ
  rw [h j, h (j + 1)]

/-! where two colons stand -/
theorem occ_cases (l : List UInt8) : (∀ j, occ l j = false) ∨ (∃ j, occ l j = true ∧ ∀ i, i ≠ j → occ l i = false) ∨ ∃ j k, occ l j = true ∧ occ l k = true ∧ j < k ∧ ∀ i, i < j → occ l i = false := by
  have first : ∀ n, (∀ i, i < n → occ l i = false) ∨ ∃ j, j < n ∧ occ l j = true ∧ ∀ i, i < j → occ l i = false := by
    intro n
    induction n with
    | zero => exact .inl fun i hi => by omega
    | succ n ih =>
      rcases ih with h | ⟨j, h1, h2⟩
      · cases ho : occ l n with
        | true => exact .inr ⟨n, by omega, ho, h⟩
        | false =>
          refine .inl fun i hi => ?_
          rcases Nat.lt_or_ge i n with h3 | h3
          · exact h i h3
          · rw [show i = n by omega]; exact ho
      · exact .inr ⟨j, by omega, h2⟩
  rcases first l.length with h | ⟨j, _, h2, h3⟩
  · refine .inl fun j => ?_
    rcases Nat.lt_or_ge j l.length with h1 | h1
    · exact h j h1
    · exact occ_end h1
  · by_cases hk : ∃ k, j < k ∧ occ l k = true
    · obtain ⟨k, h4, h5⟩ := hk
      exact .inr (.inr ⟨j, k, h2, h5, h4, h3⟩)
    · refine .inr (.inl ⟨j, h2, fun i hi => ?_⟩)
      rcases Nat.lt_or_ge i j with h4 | h4
      · exact h3 i h4
      · cases ho : occ l i with
        | false => rfl
        | true => exact absurd ⟨i, by omega, ho⟩ hk
/-- great letters, small letters: one address -/
theorem parse_low (l : List UInt8) : Ad.parseS (l.map lowB) = Ad.parseS l := by
  cases hd : dotR l with
  | some d => rw [parse_dot hd, parse_dot (by rw [dotR_low]; exact hd)]
  | none =>
    have hd2 : dotR (l.map lowB) = none := by rw [dotR_low]; exact hd
    rcases occ_cases l with h | ⟨j, h1, h2⟩ | ⟨j, k, h1, h2, h3, h4⟩
    · rw [parse_plain hd h, parse_plain hd2 (fun j => by rw [occ_low]; exact h j), groups_low]
    · rw [parse_short h1 h2, parse_short (l := l.map lowB) (j := j) (by rw [occ_low]; exact h1) (fun i hi => by rw [occ_low]; exact h2 i hi), ← List.map_take, ← List.map_drop, groups_low, groups_low]
    · rw [parse_twice h1 h2 h3 h4, parse_twice (l := l.map lowB) (j := j) (k := k) (by rw [occ_low]; exact h1) (by rw [occ_low]; exact h2) h3 (fun i hi => by rw [occ_low]; exact h4 i hi)]

/-! a dot at the end -/
theorem fold_bad {B : Int} : ∀ {l : List UInt8} {a : Int}, (46 : UInt8) ∈ l → foldv B l a = none
  | c :: r, a, h => by
    rw [foldv]
    by_cases hc : c = 46
    · subst hc
      rw [show hexI (((46 : UInt8).toNat : Nat) : Int) = none by decide]
    · have hr : (46 : UInt8) ∈ r := by
        rcases List.mem_cons.1 h with h | h
        · exact absurd h.symm hc
        · exact h
      cases hexI (c.toNat : Int) with
      | none => rfl
      | some d =>
        dsimp only
        split
        · exact fold_bad hr
        · rfl
theorem hex_bad {l : List UInt8} (h : (46 : UInt8) ∈ l) : hexS l = none := by
  unfold hexS digitsS
  split
  · rfl
  · exact fold_bad h
theorem nums_nil : ∀ {L : List (List UInt8)}, [] ∈ L → numsS L = none
  | p :: r, h => by
    rw [numsS]
    rcases List.mem_cons.1 h with rfl | h
    · rfl
    · cases numS p 255 with
      | none => rfl
      | some n => dsimp only; rw [nums_nil h]; rfl
theorem dotR_dot (l : List UInt8) : dotR (l ++ [46]) = none := by
  unfold dotR
  split
  · exact nums_nil (by rw [splitS_snoc, if_pos rfl]; simp)
  · rfl
theorem grps_bad (last : Bool) {p : List UInt8} (h1 : hexS p = none) (h2 : dotR p = none) : ∀ {L : List (List UInt8)}, p ∈ L → grpsR last L = none
  | q :: r, h => by
    rw [grpsR]
    rcases List.mem_cons.1 h with rfl | h
    · rw [h1, h2]
    · have ih := grps_bad last h1 h2 h
      have hr : r ≠ [] := by rintro rfl; cases h
      cases hexS q with
      | some n => simp [ih]
      | none => cases dotR q <;> simp [hr]
theorem groups_dot (l : List UInt8) (last : Bool) : groupsR (l ++ [46]) last = none := by
  unfold groupsR
  rw [if_neg (by simp), splitS_snoc, if_neg (by decide)]
  exact grps_bad last (p := (splitS 58 l).getLastD [] ++ [46]) (hex_bad (by simp)) (dotR_dot _) (by simp)
theorem parse_dotted (l : List UInt8) : Ad.parseS (l ++ [46]) = none := by
  have hd := dotR_dot l
  rcases occ_cases (l ++ [46]) with h | ⟨j, h1, h2⟩ | ⟨j, k, h1, h2, h3, h4⟩
  · rw [parse_plain hd h, groups_dot]; rfl
  · rw [parse_short h1 h2]
    have hj : j + 2 ≤ l.length := by
      have e := (occ_is h1).2
      rcases Nat.lt_or_ge (j + 1) l.length with h5 | h5
      · omega
      · rw [List.getElem?_append_right h5] at e
        rcases Nat.eq_zero_or_pos (j + 1 - l.length) with h6 | h6
        · rw [h6] at e
          injection e with e
          exact absurd e (by decide)
        · rw [List.getElem?_eq_none (by simp only [List.length_cons, List.length_nil]; omega)] at e
          cases e
    rw [List.drop_append_of_le_length hj, groups_dot]
    cases groupsR (List.take j (l ++ [46])) false <;> rfl
  · exact parse_twice h1 h2 h3 h4

/-! names -/
theorem split_mem : ∀ {l : List UInt8} {c : UInt8}, c ∈ l → c = 46 ∨ ∃ p ∈ splitS 46 l, c ∈ p
  | x :: r, c, h => by
    rw [splitS]
    by_cases hx : x = 46
    · rw [if_pos hx]
      rcases List.mem_cons.1 h with h | h
      · exact .inl (h.trans hx)
      · rcases split_mem h with h | ⟨p, h1, h2⟩
        · exact .inl h
        · exact .inr ⟨p, List.mem_cons_of_mem _ h1, h2⟩
    · rw [if_neg hx]
      have hne := splitS_ne 46 r
      cases hs : splitS 46 r with
      | nil => exact absurd hs hne
      | cons q t =>
        rcases List.mem_cons.1 h with h | h
        · exact .inr ⟨x :: q, by simp, by simp [h]⟩
        · rcases split_mem h with h | ⟨p, h1, h2⟩
          · exact .inl h
          · rw [hs] at h1
            rcases List.mem_cons.1 h1 with rfl | h1
            · exact .inr ⟨x :: p, by simp, by simp [h2]⟩
            · exact .inr ⟨p, by simp [h1], h2⟩
theorem lastS_mem (x : List UInt8) : lastS x ∈ splitS 46 x := by
  unfold lastS
  rw [List.getLastD_eq_getLast?, List.getLast?_eq_some_getLast (splitS_ne 46 x)]
  exact List.getLast_mem _
theorem hex_dig {c : UInt8} {d : Int} (h : hexI (c.toNat : Int) = some d) (hd : d < 10) : digB c = true := by
  unfold digB digI
  unfold hexI at h
  split at h
  · rename_i h1; simpa using h1
  · split at h
    · rename_i h1; injection h with h; omega
    · split at h
      · rename_i h1; injection h with h; omega
      · cases h
theorem fold_digs : ∀ {l : List UInt8} {a n : Int}, foldv 10 l a = some n → digS l = true
  | [], _, _, _ => rfl
  | c :: r, a, n, h => by
    rw [foldv] at h
    cases hc : hexI (c.toNat : Int) with
    | none => rw [hc] at h; cases h
    | some d =>
      rw [hc] at h
      dsimp only at h
      split at h
      · rename_i hd
        show (digB c && digS r) = true
        rw [hex_dig hc hd, fold_digs h]
        rfl
      · cases h
theorem num_digs {l : List UInt8} {m n : Int} (h : numS l m = some n) : digS l = true := by
  unfold numS at h
  split at h
  · cases h
  · split at h
    · cases h
    · rename_i k hk
      unfold digitsS at hk
      split at hk
      · cases hk
      · exact fold_digs hk
theorem nums_all : ∀ {L : List (List UInt8)} {b : List UInt8}, numsS L = some b → ∀ p ∈ L, digS p = true
  | [], _, _, p, hp => by cases hp
  | q :: r, b, h, p, hp => by
    rw [numsS] at h
    cases hn : numS q 255 with
    | none => rw [hn] at h; cases h
    | some n =>
      rw [hn] at h
      dsimp only at h
      cases hr : numsS r with
      | none => rw [hr] at h; cases h
      | some t =>
        rcases List.mem_cons.1 hp with rfl | hp
        · exact num_digs hn
        · exact nums_all hr p hp
/-- no address: no colon, and the last part is not all digits -/
theorem no_addr {x : List UInt8} (h : (58 : UInt8) ∉ x) (hd : digS (lastS x) = false) : Ad.parseS x = none := by
  unfold Ad.parseS
  rw [Ad.ib_free h, if_neg (by omega), ← dotR_eq]
  unfold dotR
  split
  · cases hn : numsS (splitS 46 x) with
    | none => rfl
    | some b => rw [nums_all hn _ (lastS_mem x)] at hd; cases hd
  · rfl
theorem labB_not (c : UInt8) (h : labB c = true) : c ≠ 58 ∧ c ≠ 46 := ⟨fun e => by subst e; revert h; decide, fun e => by subst e; revert h; decide⟩
theorem lab_parts {p : List UInt8} (h : labS p = true) : 1 ≤ p.length ∧ p.length ≤ 63 ∧ (∀ c ∈ p, labB c = true) ∧ p.head? ≠ some 45 ∧ p.getLast? ≠ some 45 := by
  unfold labS at h
  simp only [Bool.and_eq_true, decide_eq_true_eq, List.all_eq_true] at h
  obtain ⟨⟨⟨⟨h1, h2⟩, h3⟩, h4⟩, h5⟩ := h
  exact ⟨h1, h2, h3, h4, h5⟩
/-- labels that may be, the last one not all digits -/
structure Fit (x : List UInt8) : Prop where
  lab : (splitS 46 x).all labS = true
  dig : digS (lastS x) = false
theorem Fit.free {x : List UInt8} (h : Fit x) : (58 : UInt8) ∉ x := fun hm => by
  rcases split_mem hm with e | ⟨p, h1, h2⟩
  · revert e; decide
  · exact (labB_not 58 ((lab_parts (List.all_eq_true.1 h.lab p h1)).2.2.1 58 h2)).1 rfl
theorem Fit.none {x : List UInt8} (h : Fit x) : Ad.parseS x = none := no_addr h.free h.dig
theorem Fit.ne {x : List UInt8} (h : Fit x) : x ≠ [] := by
  rintro rfl
  have := h.lab
  revert this
  decide
theorem Fit.trim {x : List UInt8} (h : Fit x) : trimS x = x := by
  unfold trimS
  split
  · rename_i hl
    obtain ⟨y, hy⟩ := List.getLast?_eq_some_iff.1 hl
    have h1 := h.lab
    rw [hy, splitS_snoc, if_pos rfl, List.all_append] at h1
    simp [labS] at h1
  · rfl
theorem trim_dot (x : List UInt8) : trimS (x ++ [46]) = x := by
  unfold trimS
  rw [if_pos (by simp)]
  simp
theorem trim_low (x : List UInt8) : trimS (x.map lowB) = (trimS x).map lowB := by
  unfold trimS
  have e : ((x.map lowB).getLast? = some 46) ↔ (x.getLast? = some 46) := by
    rw [List.getLast?_map]
    cases x.getLast? with
    | none => simp
    | some c => simpa using (low_byte c).2.2.1
  by_cases h : x.getLast? = some 46
  · rw [if_pos h, if_pos (e.2 h), List.map_dropLast]
  · rw [if_neg h, if_neg (fun k => h (e.1 k))]
theorem name_is {x n : List UInt8} (h : nameS x = (n, 0)) : n = x ∧ x.length ≤ 253 ∧ Fit x := by
  unfold nameS at h
  split at h
  · injection h with _ h; cases h
  · split at h
    · injection h with _ h; cases h
    · split at h
      · injection h with _ h; cases h
      · rename_i h1 h2 h3
        injection h with h _
        simp only [not_or, Bool.not_eq_false, Bool.not_eq_true] at h3
        exact ⟨h.symm, by omega, ⟨h3.1, h3.2⟩⟩
theorem name_yes {x : List UInt8} (h : Fit x) (hl : x.length ≤ 253) : nameS x = (x, 0) := by
  unfold nameS
  rw [if_neg h.ne, if_neg (by omega), if_neg (by rw [h.lab, h.dig]; simp)]
theorem name_no {x : List UInt8} (h : (nameS x).2 ≠ 0) : (nameS x).1 = [] := by
  unfold nameS at h ⊢
  split
  · rfl
  · rename_i h1
    rw [if_neg h1] at h
    split
    · rfl
    · rename_i h2
      rw [if_neg h2] at h
      split
      · rfl
      · rename_i h3
        rw [if_neg h3] at h
        exact absurd rfl h
theorem name_long {x : List UInt8} (h0 : x ≠ []) (h : 253 < x.length) : nameS x = ([], 6) := by
  unfold nameS
  rw [if_neg h0, if_pos h]
theorem name_bad {x : List UInt8} (h0 : x ≠ []) (h1 : x.length ≤ 253) (h : (splitS 46 x).all labS = false ∨ digS (lastS x) = true) : nameS x = ([], 9) := by
  unfold nameS
  rw [if_neg h0, if_neg (by omega), if_pos h]

/-! what is normal -/
theorem normal_addr {l a : List UInt8} (h : Ad.parseS l = some a) : normalS l = (Ad.ctext a, 0) := by
  unfold normalS
  rw [h]
theorem normal_name {l : List UInt8} (h : Ad.parseS l = none) : normalS l = nameS (trimS (l.map lowB)) := by
  unfold normalS
  rw [h]
theorem ctext_tells (a : List UInt8) (ha : a.length = 16) : Ad.parseS (Ad.ctext a) = some a := by
  unfold Ad.ctext
  split
  · rename_i hf
    exact (Ad.parse_four a ha hf).1
  · exact (Ad.parse_text a ha).1
/-- an address, or a name of small letters -/
theorem normal_is {l n : List UInt8} (h : normalS l = (n, 0)) : (∃ a, Ad.parseS l = some a ∧ n = Ad.ctext a ∧ Ad.parseS n = some a) ∨ (Ad.parseS l = none ∧ n = trimS (l.map lowB) ∧ Fit n ∧ n.length ≤ 253 ∧ n.map lowB = n) := by
  cases hp : Ad.parseS l with
  | some a =>
    rw [normal_addr hp] at h
    injection h with h _
    exact .inl ⟨a, rfl, h.symm, by rw [← h]; exact ctext_tells a (Ad.parseS_len hp)⟩
  | none =>
    rw [normal_name hp] at h
    obtain ⟨h1, h2, h3⟩ := name_is h
    refine .inr ⟨rfl, h1, h1 ▸ h3, h1 ▸ h2, ?_⟩
    rw [h1, ← trim_low, low_low]
theorem normal_no {l : List UInt8} (h : (normalS l).2 ≠ 0) : (normalS l).1 = [] := by
  cases hp : Ad.parseS l with
  | some a => rw [normal_addr hp] at h; exact absurd rfl h
  | none => rw [normal_name hp] at h ⊢; exact name_no h
theorem normal_len {l n : List UInt8} (h : normalS l = (n, 0)) : n ≠ [] ∧ n.length ≤ 253 := by
  rcases normal_is h with ⟨a, h1, rfl, h2⟩ | ⟨_, _, h3, h4, _⟩
  · have h5 := Ad.ctext_len a (Ad.parseS_len h1)
    refine ⟨fun e => ?_, by omega⟩
    rw [e] at h2
    have h6 := (parse_dotted []).symm
    revert h2
    rw [show Ad.parseS [] = none by decide]
    simp
  · exact ⟨h3.ne, h4⟩
theorem normal_fit {n : List UInt8} (h : Fit n) (h1 : n.length ≤ 253) (h2 : n.map lowB = n) : normalS n = (n, 0) := by
  rw [normal_name h.none, h2, h.trim]
  exact name_yes h h1
theorem normal_again {l n : List UInt8} (h : normalS l = (n, 0)) : normalS n = (n, 0) := by
  rcases normal_is h with ⟨a, h1, h2, h3⟩ | ⟨_, _, h3, h4, h5⟩
  · rw [normal_addr h3, ← h2]
  · exact normal_fit h3 h4 h5
theorem normal_low (l : List UInt8) : normalS (l.map lowB) = normalS l := by
  cases hp : Ad.parseS l with
  | some a => rw [normal_addr hp, normal_addr (by rw [parse_low]; exact hp)]
  | none => rw [normal_name hp, normal_name (by rw [parse_low]; exact hp), low_low]
theorem normal_dot {l n : List UInt8} (h : normalS l = (n, 0)) : if (Ad.parseS n).isSome then (normalS (n ++ [46])).2 ≠ 0 else normalS (n ++ [46]) = (n, 0) := by
  have hd := normal_name (parse_dotted n)
  rw [List.map_append, show List.map lowB [46] = [46] by decide, trim_dot] at hd
  rcases normal_is h with ⟨a, h1, h2, h3⟩ | ⟨_, _, h3, h4, h5⟩
  · rw [h3, if_pos (by rfl), hd]
    intro e
    obtain ⟨m, hm⟩ : ∃ m, nameS (n.map lowB) = (m, 0) := ⟨_, Prod.ext rfl e⟩
    have := (name_is hm).2.2.none
    rw [parse_low, h3] at this
    cases this
  · rw [h3.none, if_neg (by simp), hd, h5]
    exact name_yes h3 h4

/-! labels, turned again -/
theorem join_cons {p : List UInt8} {L : List (List UInt8)} (h : L ≠ []) : joinD (p :: L) = p ++ 46 :: joinD L := by
  cases L with
  | nil => exact absurd rfl h
  | cons q r => rfl
theorem join_split : ∀ l : List UInt8, joinD (splitS 46 l) = l
  | [] => rfl
  | x :: r => by
    have ih := join_split r
    have hne := splitS_ne 46 r
    rw [splitS]
    by_cases hx : x = 46
    · rw [if_pos hx, join_cons hne, ih, hx]; rfl
    · rw [if_neg hx]
      cases hs : splitS 46 r with
      | nil => exact absurd hs hne
      | cons q t =>
        rw [hs] at ih
        cases t with
        | nil => exact congrArg (x :: ·) ih
        | cons u t => exact congrArg (x :: ·) ih
theorem split_app : ∀ (a b : List UInt8), splitS 46 (a ++ 46 :: b) = splitS 46 a ++ splitS 46 b
  | [], b => by show splitS 46 (46 :: b) = [] :: splitS 46 b; rw [splitS, if_pos rfl]
  | x :: a, b => by
    have ih := split_app a b
    have hne := splitS_ne 46 a
    rw [List.cons_append, splitS, splitS, ih]
    by_cases hx : x = 46
    · rw [if_pos hx, if_pos hx]; rfl
    · rw [if_neg hx, if_neg hx]
      cases hs : splitS 46 a with
      | nil => exact absurd hs hne
      | cons q t => rfl
theorem last_app (a b : List UInt8) : lastS (a ++ 46 :: b) = lastS b := by
  unfold lastS
  rw [split_app, List.getLastD_eq_getLast?, List.getLastD_eq_getLast?, List.getLast?_append, List.getLast?_eq_some_getLast (splitS_ne 46 b)]
  rfl
theorem Fit.app {a b : List UInt8} (ha : Fit a) (hb : Fit b) : Fit (a ++ 46 :: b) := ⟨by rw [split_app, List.all_append, ha.lab, hb.lab]; rfl, by rw [last_app]; exact hb.dig⟩
/-- two names with a dot between -/
theorem normal_app {k l x y : List UInt8} (hx : normalS k = (x, 0)) (hy : normalS l = (y, 0)) (h1 : Ad.parseS x = none) (h2 : Ad.parseS y = none) :
    normalS (x ++ 46 :: y) = if 252 < x.length + y.length then ([], 6) else (x ++ 46 :: y, 0) := by
  rcases normal_is hx with ⟨a, _, _, h3⟩ | ⟨_, _, f1, _, l1⟩
  · rw [h1] at h3; cases h3
  rcases normal_is hy with ⟨a, _, _, h3⟩ | ⟨_, _, f2, _, l2⟩
  · rw [h2] at h3; cases h3
  have hf := f1.app f2
  have hl : (x ++ 46 :: y).map lowB = x ++ 46 :: y := by rw [List.map_append, List.map_cons, l1, l2]; rfl
  have hn : (x ++ 46 :: y).length = x.length + y.length + 1 := by rw [List.length_append, List.length_cons]; omega
  split
  · rw [normal_name hf.none, hl, hf.trim]
    exact name_long (by simp) (by omega)
  · exact normal_fit hf (by omega) hl
/-- labels of a normal name are short, and none is empty -/
theorem labels_of {l n : List UInt8} (h : normalS l = (n, 0)) : ((Ad.parseS n).isSome = true ∧ labelsS n = [n]) ∨ ((Ad.parseS n).isSome = false ∧ labelsS n = (splitS 46 n).reverse ∧ ∀ p ∈ splitS 46 n, 1 ≤ p.length ∧ p.length ≤ 63) := by
  unfold labelsS
  rcases normal_is h with ⟨a, h1, h2, h3⟩ | ⟨_, _, h3, h4, h5⟩
  · rw [h3]; exact .inl ⟨rfl, if_pos rfl⟩
  · rw [h3.none]
    refine .inr ⟨rfl, if_neg (by simp), fun p hp => ?_⟩
    have := lab_parts (List.all_eq_true.1 h3.lab p hp)
    exact ⟨this.1, this.2.1⟩

/-! n labels of m letters -/
def repS (n m : Nat) : List UInt8 := joinD (List.replicate n (List.replicate m 97))
theorem rep_one (m : Nat) : repS 1 m = List.replicate m 97 := rfl
theorem join_snoc : ∀ (L : List (List UInt8)) (p : List UInt8), L ≠ [] → joinD (L ++ [p]) = joinD L ++ 46 :: p
  | [q], p, _ => rfl
  | q :: r :: L, p, _ => by
    have ih := join_snoc (r :: L) p (by simp)
    rw [List.cons_append, join_cons (p := q) (L := r :: L ++ [p]) (by simp), ih]
    show _ = (q ++ 46 :: joinD (r :: L)) ++ 46 :: p
    rw [List.append_assoc]
    rfl
theorem rep_more (n m : Nat) (h : 1 ≤ n) : repS (n + 1) m = repS n m ++ 46 :: List.replicate m 97 := by
  unfold repS
  rw [show List.replicate (n + 1) (List.replicate m (97 : UInt8)) = List.replicate n (List.replicate m 97) ++ [List.replicate m 97] from List.replicate_succ', join_snoc _ _ (by
    intro e
    have := congrArg List.length e
    simp at this
    omega)]
theorem rep_len (m : Nat) : ∀ n, 1 ≤ n → (repS n m).length + 1 = n * (m + 1)
  | 1, _ => by rw [rep_one, List.length_replicate, Nat.one_mul]
  | n + 2, _ => by
    have ih := rep_len m (n + 1) (by omega)
    rw [rep_more (n + 1) m (by omega), List.length_append, List.length_cons, List.length_replicate, Nat.succ_mul (n + 1)]
    omega
theorem rep_split (m : Nat) : ∀ n, 1 ≤ n → splitS 46 (repS n m) = List.replicate n (List.replicate m 97)
  | 1, _ => by
    rw [rep_one, splitS_free (fun h => by have := List.eq_of_mem_replicate h; revert this; decide)]
    rfl
  | n + 2, _ => by
    have ih := rep_split m (n + 1) (by omega)
    rw [rep_more (n + 1) m (by omega), split_app, ih, splitS_free (fun h => by have := List.eq_of_mem_replicate h; revert this; decide), ← List.replicate_succ']
theorem lab_rep {m : Nat} (h1 : 1 ≤ m) : labS (List.replicate m 97) = decide (m ≤ 63) := by
  unfold labS
  have e1 : (List.replicate m (97 : UInt8)).all labB = true := List.all_eq_true.2 fun c hc => by rw [List.eq_of_mem_replicate hc]; decide
  have e2 : (List.replicate m (97 : UInt8)).head? ≠ some 45 := fun h => by
    have := List.eq_of_mem_replicate (List.mem_of_mem_head? h)
    revert this; decide
  have e3 : (List.replicate m (97 : UInt8)).getLast? ≠ some 45 := fun h => by
    have := List.eq_of_mem_replicate (List.mem_of_mem_getLast? h)
    revert this; decide
  rw [e1, decide_eq_true e2, decide_eq_true e3, List.length_replicate, decide_eq_true h1]
  simp
theorem rep_last {n m : Nat} (h : 1 ≤ n) : lastS (repS n m) = List.replicate m 97 := by
  have := lastS_mem (repS n m)
  rw [rep_split m n h] at this
  exact List.eq_of_mem_replicate this
theorem rep_low : ∀ (n m : Nat), (repS n m).map lowB = repS n m
  | 0, _ => rfl
  | 1, m => by rw [rep_one, List.map_replicate]; rfl
  | n + 2, m => by
    rw [rep_more (n + 1) m (by omega), List.map_append, List.map_cons, rep_low (n + 1) m, List.map_replicate]
    rfl
theorem rep_mem : ∀ (n m : Nat) (c : UInt8), c ∈ repS n m → c = 46 ∨ c = 97
  | 0, _, c, h => by cases h
  | 1, m, c, h => .inr (List.eq_of_mem_replicate h)
  | n + 2, m, c, h => by
    rw [rep_more (n + 1) m (by omega), List.mem_append, List.mem_cons] at h
    rcases h with h | h | h
    · exact rep_mem (n + 1) m c h
    · exact .inl h
    · exact .inr (List.eq_of_mem_replicate h)
theorem rep_dig {n m : Nat} (h : 1 ≤ n) (hm : 1 ≤ m) : digS (lastS (repS n m)) = false := by
  rw [rep_last h]
  obtain ⟨k, rfl⟩ : ∃ k, m = k + 1 := ⟨m - 1, by omega⟩
  rw [List.replicate_succ]
  rfl
theorem rep_trim {n m : Nat} (h : 1 ≤ n) (hm : 1 ≤ m) : trimS (repS n m) = repS n m := by
  unfold trimS
  rw [if_neg]
  intro hl
  obtain ⟨y, hy⟩ := List.getLast?_eq_some_iff.1 hl
  have h1 : lastS (repS n m) = [] := by
    unfold lastS
    rw [hy, splitS_snoc, if_pos rfl]
    simp
  rw [rep_last h] at h1
  have := congrArg List.length h1
  simp at this
  omega
/-- labels and names may be as long as they may, and no longer -/
theorem normal_rep {n m : Nat} (h : 1 ≤ n) (hm : 1 ≤ m) : normalS (repS n m) = if 253 < (repS n m).length then ([], 6) else if 63 < m then ([], 9) else (repS n m, 0) := by
  have hne : repS n m ≠ [] := fun e => by
    have := rep_len m n h
    rw [e] at this
    have h2 : 1 * 2 ≤ n * (m + 1) := Nat.mul_le_mul h (by omega)
    simp at this
    omega
  have hp : Ad.parseS (repS n m) = none := no_addr (fun hc => by rcases rep_mem n m _ hc with e | e <;> revert e <;> decide) (rep_dig h hm)
  rw [normal_name hp, rep_low, rep_trim h hm]
  split
  · rename_i h1; exact name_long hne h1
  · rename_i h1
    split
    · rename_i h2
      refine name_bad hne (by omega) (.inl ?_)
      rw [rep_split m n h]
      obtain ⟨k, rfl⟩ : ∃ k, n = k + 1 := ⟨n - 1, by omega⟩
      rw [List.replicate_succ, List.all_cons, lab_rep hm, decide_eq_false (by omega)]
      rfl
    · rename_i h2
      refine name_yes ⟨?_, rep_dig h hm⟩ (by omega)
      rw [rep_split m n h]
      exact List.all_eq_true.2 fun p hp => by rw [List.eq_of_mem_replicate hp, lab_rep hm]; exact decide_eq_true (by omega)
end Go.Proofs.YtlpondbcnfaggaaGreatDoor.Nm
