/-
  What the code's words over texts come to: what stands between dots, a dot behind, digits trimmed, labels of small letters. Plain lemmas, no condition.
-/
import Derived.Test.YtlpondbcnfaggaaGreatDoorR09
import Derived.Lib.SplitLaws
import Derived.Lib.SlTrimSet
import Derived.Lib.Strings
namespace Go.Proofs.YtlpondbcnfaggaaGreatDoor.Nm
open Go Go.Proofs.YtlpondbcnfaggaaGreatDoor.Asc Go.Proofs.YtlpondbcnfaggaaGreatDoor.Ad

/-- Split, over lists -/
theorem splitK_is (c : UInt8) : ∀ (n : Nat) (l : List UInt8), l.length ≤ n → Lib.splitK [c] 0 (Lib.count l [c]) l = splitS c l := by
  intro n
  induction n with
  | zero =>
    intro l h
    have : l = [] := List.eq_nil_of_length_eq_zero (by omega)
    subst this
    rfl
  | succ n ih =>
    intro l h
    rcases first_of (c := c) l with hf | ⟨a, b, rfl, hf⟩
    · rw [splitS_free hf, Lib.count_one, List.count_eq_zero.2 hf]
      rfl
    · have hk : Lib.count (a ++ c :: b) [c] = Lib.count b [c] + 1 := by
        rw [Lib.count_one, Lib.count_one, List.count_append, List.count_eq_zero.2 hf, List.count_cons_self]
        omega
      have hi : Lib.index (a ++ c :: b) [c] = (a.length : Int) := by rw [Lib.index_one, ib_at hf]
      have hne : ((a.length : Int) == -1) = false := by rw [beq_eq_false_iff_ne]; omega
      rw [hk, splitS_at hf, Lib.splitK, hi, hne, Int.toNat_natCast]
      rw [if_neg (by simp), Nat.add_zero, List.take_left' rfl, List.length_cons, List.length_nil, Nat.zero_add,
        show List.drop (a.length + 1) (a ++ c :: b) = b by rw [← List.drop_drop, List.drop_left' rfl]; rfl,
        ih b (by rw [List.length_append, List.length_cons] at h; omega)]
/-- Split's pieces, as cells -/
theorem split_cells (s : ByteArray) (c : UInt8) : (Lib.splitB ⟨#[c]⟩ 0 (Lib.countB s ⟨#[c]⟩) s).map Value.string = (splitS c (bs s)).map fun l => Value.string (str l) := by
  have h := Lib.splitB_data ⟨#[c]⟩ 0 (Lib.countB s ⟨#[c]⟩) s
  rw [show Lib.splitK (⟨#[c]⟩ : ByteArray).data.toList 0 (Lib.countB s ⟨#[c]⟩) s.data.toList = splitS c (bs s) from splitK_is c _ (bs s) (Nat.le_refl _)] at h
  rw [← h, List.map_map]
  refine List.map_congr_left fun x _ => ?_
  show Value.string x = Value.string (str (bs x))
  rw [str_bs]
theorem split_count (s : ByteArray) (c : UInt8) : Lib.countB s ⟨#[c]⟩ + 1 = (splitS c (bs s)).length := by
  have h := congrArg List.length (split_cells s c)
  rw [List.length_map, List.length_map, Lib.splitB_all ⟨#[c]⟩ (Nat.le_refl 1) 0 _ s rfl] at h
  exact h

/-- a sign behind -/
theorem suf_one (c : UInt8) (l : List UInt8) : Lib.hasSuffix l [c] = decide (l.getLast? = some c) := by
  rw [Lib.hasSuffix, Bool.eq_iff_iff, List.isSuffixOf_iff_suffix, decide_eq_true_eq, List.getLast?_eq_some_iff]
  exact ⟨fun ⟨t, h⟩ => ⟨t, h.symm⟩, fun ⟨t, h⟩ => ⟨t, h.symm⟩⟩
theorem pre_one (c : UInt8) (b : List UInt8) : Lib.hasPrefix b [c] = decide (b.head? = some c) := by
  cases b with
  | nil => rfl
  | cons x l =>
    by_cases h : x = c
    · subst h; simp [Lib.hasPrefix]
    · have h' : (c == x) = false := by rw [beq_eq_false_iff_ne]; exact fun e => h e.symm
      simp [Lib.hasPrefix, List.isPrefixOf, h, h']
theorem cut_dot (l : List UInt8) : Lib.trimSuffix l [46] = trimS l := by
  unfold Lib.trimSuffix trimS
  rw [suf_one]
  by_cases h : l.getLast? = some 46
  · rw [decide_eq_true h, if_pos rfl, if_pos h, List.dropLast_eq_take]; rfl
  · rw [decide_eq_false h, if_neg (by simp), if_neg h]

/-! digits, trimmed -/
abbrev digN : List UInt8 := [48, 49, 50, 51, 52, 53, 54, 55, 56, 57]
theorem dig_all : ∀ c : Fin 256, digN.contains (UInt8.ofNat c.1) = digB (UInt8.ofNat c.1) := by decide +kernel
theorem dig_is (c : UInt8) : digN.contains c = digB c := by
  have := dig_all ⟨c.toNat, c.toNat_lt⟩
  rwa [UInt8.ofNat_toNat] at this
theorem drop_nil (f : UInt8 → Bool) : ∀ l : List UInt8, l.dropWhile f = [] ↔ ∀ x ∈ l, f x = true
  | [] => by simp
  | x :: l => by
    rw [List.dropWhile_cons]
    by_cases h : f x = true
    · rw [if_pos h, drop_nil f l]; simp [h]
    · rw [if_neg h]
      exact ⟨fun e => (by cases e), fun e => absurd (e x (by simp)) h⟩
theorem trim_digs (p : List UInt8) : Lib.trimS p digN = [] ↔ digS p = true := by
  have hP : (fun c : UInt8 => digN.contains c) = digB := funext dig_is
  unfold Lib.trimS Lib.trimLeftS Lib.trimRightS digS
  rw [hP, drop_nil, List.all_eq_true]
  constructor
  · intro h
    have h2 : p.reverse.dropWhile digB = [] := by
      cases hd : p.reverse.dropWhile digB with
      | nil => rfl
      | cons x r =>
        have h3 := List.head?_dropWhile_not digB p.reverse
        rw [hd] at h3
        have h4 := h x (by rw [hd]; simp)
        simp at h3
        rw [h3] at h4
        cases h4
    rw [drop_nil] at h2
    exact fun x hx => h2 x (List.mem_reverse.2 hx)
  · intro h x hx
    rw [List.mem_reverse] at hx
    exact h x (List.mem_reverse.1 ((List.dropWhile_suffix digB).subset hx))

/-! labels of small letters -/
def maB (c : UInt8) : Bool := decide ((97 ≤ c.toNat ∧ c.toNat ≤ 122) ∨ (48 ≤ c.toNat ∧ c.toNat ≤ 57) ∨ c.toNat = 45 ∨ c.toNat = 95)
def mayS (p : List UInt8) : Bool := decide (1 ≤ p.length) && decide (p.length ≤ 63) && p.all maB && decide (p.head? ≠ some 45) && decide (p.getLast? ≠ some 45)
def labsN : List UInt8 := [97, 98, 99, 100, 101, 102, 103, 104, 105, 106, 107, 108, 109, 110, 111, 112, 113, 114, 115, 116, 117, 118, 119, 120, 121, 122, 95, 48, 49, 50, 51, 52, 53, 54, 55, 56, 57, 45]
theorem ma_all : ∀ c : Fin 256, labB (lowB (UInt8.ofNat c.1)) = maB (lowB (UInt8.ofNat c.1)) ∧ decide (0 ≤ Lib.indexByte labsN (UInt8.ofNat c.1)) = maB (UInt8.ofNat c.1) := by decide +kernel
theorem ma_low (c : UInt8) : labB (lowB c) = maB (lowB c) := by
  have := (ma_all ⟨c.toNat, c.toNat_lt⟩).1
  rwa [UInt8.ofNat_toNat] at this
theorem ma_idx (c : UInt8) : decide (0 ≤ Lib.indexByte labsN c) = maB c := by
  have := (ma_all ⟨c.toNat, c.toNat_lt⟩).2
  rwa [UInt8.ofNat_toNat] at this
theorem ma_asc (c : UInt8) (h : 128 ≤ c.toNat) : maB c = false := by
  unfold maB
  rw [decide_eq_false_iff_not]
  omega
theorem may_low (q : List UInt8) : mayS (q.map lowB) = labS (q.map lowB) := by
  have h : (q.map lowB).all maB = (q.map lowB).all labB := by
    rw [List.all_map, List.all_map]
    exact congrArg q.all (funext fun c => (ma_low c).symm)
  unfold mayS labS
  rw [h]
theorem may_split (l : List UInt8) : (splitS 46 (trimS (l.map lowB))).all mayS = (splitS 46 (trimS (l.map lowB))).all labS := by
  rw [trim_low, split_low46, List.all_map, List.all_map]
  exact congrArg (List.all _) (funext fun q => may_low q)
theorem may_asc {p : List UInt8} (h : mayS p = true) : ∀ c ∈ p, c.toNat < 128 := fun c hc => by
  unfold mayS at h
  simp only [Bool.and_eq_true, List.all_eq_true] at h
  have h1 := h.1.1.2 c hc
  refine Nat.lt_of_not_le fun h2 => ?_
  rw [ma_asc c h2] at h1
  cases h1
/-- what isName asks -/
def isN (x : List UInt8) : Bool := (splitS 46 x).all mayS && !digS (lastS x)
theorem name_code (l : List UInt8) : nameS (trimS (l.map lowB)) = if trimS (l.map lowB) = [] then ([], 8) else if 253 < (trimS (l.map lowB)).length then ([], 6) else if isN (trimS (l.map lowB)) = false then ([], 9) else (trimS (l.map lowB), 0) := by
  unfold nameS isN
  rw [may_split]
  have e : ∀ a b : Bool, (a = false ∨ b = true) ↔ ((a && !b) = false) := by decide
  simp only [e]

/-! signs, one by one -/
theorem all_no (s : ByteArray) (f : UInt8 → Bool) (pos : Nat) (h : ¬ pos < s.size) (ht : ((bs s).take pos).all f = true) : (bs s).all f = true := by
  rwa [List.take_of_length_le (by rw [bs_length]; omega)] at ht
theorem all_hit (s : ByteArray) (f : UInt8 → Bool) (pos : Nat) (h : pos < s.size) (hc : f (s[pos]'h) = false) : (bs s).all f = false :=
  List.all_eq_false.2 ⟨s[pos]'h, List.getElem_mem (by rw [bs_length]; exact h), by rw [hc]; simp⟩
theorem all_step (s : ByteArray) (f : UInt8 → Bool) (pos : Nat) (h : pos < s.size) (ht : ((bs s).take pos).all f = true) (hc : f (s[pos]'h) = true) : ((bs s).take (pos + 1)).all f = true := by
  rw [bs_take s pos h, List.all_append, ht]; simpa using hc
end Go.Proofs.YtlpondbcnfaggaaGreatDoor.Nm
