/-
  What the code's words over texts come to: what stands between dots, a dot behind, digits trimmed, labels of small letters. Plain lemmas, no condition.
-/
import Derived.Test.YtgbhnjkigjecmaaGreatDoorQ10
import Derived.Lib.SplitLaws
import Derived.Lib.SlTrimSet
import Derived.Lib.Strings
import Derived.Test.YtgbhnjkigjecmaaGreatDoorQ12
import Derived.Test.YtgbhnjkigjecmaaGreatDoorQ03
import Derived.Test.YtgbhnjkigjecmaaGreatDoorQ14
import Derived.Test.YtgbhnjkigjecmaaGreatDoorQ18
import Derived.Laws.MakeOwn
import Derived.Test.YtgbhnjkigjecmaaGreatDoorQ21
import Derived.Test.YtgbhnjkigjecmaaGreatDoorQ22
import Derived.Test.YtgbhnjkigjecmaaGreatDoorQ23
import Derived.Shelf.Strings.SlTrimAscii
namespace Go.Proofs.YtgbhnjkigjecmaaGreatDoor.Nm
open Go Go.Proofs.YtgbhnjkigjecmaaGreatDoor.Asc Go.Proofs.YtgbhnjkigjecmaaGreatDoor.Ad

/-- Split, over lists -/
theorem splitK_is (c : UInt8) : ∀ (n : Nat) (l : List UInt8), l.length ≤ n → Lib.splitK [c] 0 (Lib.count l [c]) l = splitS c l := by
  intro n
  induction n with
  | zero =>
    intro l h
    have : l = [] := List.eq_nil_of_length_eq_zero (by omega)
    subst this
    rfl
  | succ n ih =>
    intro l h
    rcases first_of (c := c) l with hf | ⟨a, b, rfl, hf⟩
    · rw [splitS_free hf, Lib.count_one, List.count_eq_zero.2 hf]
      rfl
    · have hk : Lib.count (a ++ c :: b) [c] = Lib.count b [c] + 1 := by
        rw [Lib.count_one, Lib.count_one, List.count_append, List.count_eq_zero.2 hf, List.count_cons_self]
        omega
      have hi : Lib.index (a ++ c :: b) [c] = (a.length : Int) := by rw [Lib.index_one, ib_at hf]
      have hne : ((a.length : Int) == -1) = false := by rw [beq_eq_false_iff_ne]; omega
      rw [hk, splitS_at hf, Lib.splitK, hi, hne, Int.toNat_natCast]
      rw [if_neg (by simp), Nat.add_zero, List.take_left' rfl, List.length_cons, List.length_nil, Nat.zero_add,
        show List.drop (a.length + 1) (a ++ c :: b) = b by rw [← List.drop_drop, List.drop_left' rfl]; rfl,
        ih b (by rw [List.length_append, List.length_cons] at h; omega)]
/-- Split's pieces, as cells -/
theorem split_cells (s : ByteArray) (c : UInt8) : (Lib.splitB ⟨#[c]⟩ 0 (Lib.countB s ⟨#[c]⟩) s).map Value.string = (splitS c (bs s)).map fun l => Value.string (str l) := by
  have h := Lib.splitB_data ⟨#[c]⟩ 0 (Lib.countB s ⟨#[c]⟩) s
  rw [show Lib.splitK (⟨#[c]⟩ : ByteArray).data.toList 0 (Lib.countB s ⟨#[c]⟩) s.data.toList = splitS c (bs s) from splitK_is c _ (bs s) (Nat.le_refl _)] at h
  rw [← h, List.map_map]
  refine List.map_congr_left fun x _ => ?_
  show Value.string x = Value.string (str (bs x))
  rw [str_bs]
theorem split_count (s : ByteArray) (c : UInt8) : Lib.countB s ⟨#[c]⟩ + 1 = (splitS c (bs s)).length := by
  have h := congrArg List.length (split_cells s c)
  rw [List.length_map, List.length_map, Lib.splitB_all ⟨#[c]⟩ (Nat.le_refl 1) 0 _ s rfl] at h
  exact h

/-- a sign behind -/
theorem suf_one (c : UInt8) (l : List UInt8) : Lib.hasSuffix l [c] = decide (l.getLast? = some c) := by
  rw [Lib.hasSuffix, Bool.eq_iff_iff, List.isSuffixOf_iff_suffix, decide_eq_true_eq, List.getLast?_eq_some_iff]
  exact ⟨fun ⟨t, h⟩ => ⟨t, h.symm⟩, fun ⟨t, h⟩ => ⟨t, h.symm⟩⟩
theorem pre_one (c : UInt8) (b : List UInt8) : Lib.hasPrefix b [c] = decide (b.head? = some c) := by
  cases b with
  | nil => rfl
  | cons x l =>
    by_cases h : x = c
    · subst h; simp [Lib.hasPrefix]
    · have h' : (c == x) = false := by rw [beq_eq_false_iff_ne]; exact fun e => h e.symm
      simp [Lib.hasPrefix, List.isPrefixOf, h, h']
theorem cut_dot (l : List UInt8) : Lib.trimSuffix l [46] = trimS l := by
  unfold Lib.trimSuffix trimS
  rw [suf_one]
  by_cases h : l.getLast? = some 46
  · rw [decide_eq_true h, if_pos rfl, if_pos h, List.dropLast_eq_take]; rfl
  · rw [decide_eq_false h, if_neg (by simp), if_neg h]

/-! digits, trimmed -/
abbrev digN : List UInt8 := [48, 49, 50, 51, 52, 53, 54, 55, 56, 57]
theorem dig_all : ∀ c : Fin 256, digN.contains (UInt8.ofNat c.1) = digB (UInt8.ofNat c.1) := by decide +kernel
theorem dig_is (c : UInt8) : digN.contains c = digB c := by
  have := dig_all ⟨c.toNat, c.toNat_lt⟩
  rwa [UInt8.ofNat_toNat] at this
theorem drop_nil (f : UInt8 → Bool) : ∀ l : List UInt8, l.dropWhile f = [] ↔ ∀ x ∈ l, f x = true
  | [] => by simp
  | x :: l => by
    rw [List.dropWhile_cons]
    by_cases h : f x = true
    · rw [if_pos h, drop_nil f l]; simp [h]
    · rw [if_neg h]
      exact ⟨fun e => (by cases e), fun e => absurd (e x (by simp)) h⟩
theorem trim_digs (p : List UInt8) : Lib.trimS p digN = [] ↔ digS p = true := by
  have hP : (fun c : UInt8 => digN.contains c) = digB := funext dig_is
  unfold Lib.trimS Lib.trimLeftS Lib.trimRightS digS
  rw [hP, drop_nil, List.all_eq_true]
  constructor
  · intro h
    have h2 : p.reverse.dropWhile digB = [] := by
      cases hd : p.reverse.dropWhile digB with
      | nil => rfl
      | cons x r =>
        have h3 := List.head?_dropWhile_not digB p.reverse
        rw [hd] at h3
        have h4 := h x (by rw [hd]; simp)
        simp at h3
        rw [h3] at h4
        cases h4
    rw [drop_nil] at h2
    exact fun x hx => h2 x (List.mem_reverse.2 hx)
  · intro h x hx
    rw [List.mem_reverse] at hx
    exact h x (List.mem_reverse.1 ((List.dropWhile_suffix digB).subset hx))

/-! labels of small letters -/
def maB (c : UInt8) : Bool := decide ((97 ≤ c.toNat ∧ c.toNat ≤ 122) ∨ (48 ≤ c.toNat ∧ c.toNat ≤ 57) ∨ c.toNat = 45 ∨ c.toNat = 95)
def mayS (p : List UInt8) : Bool := decide (1 ≤ p.length) && decide (p.length ≤ 63) && p.all maB && decide (p.head? ≠ some 45) && decide (p.getLast? ≠ some 45)
def labsN : List UInt8 := [97, 98, 99, 100, 101, 102, 103, 104, 105, 106, 107, 108, 109, 110, 111, 112, 113, 114, 115, 116, 117, 118, 119, 120, 121, 122, 95, 48, 49, 50, 51, 52, 53, 54, 55, 56, 57, 45]
theorem ma_all : ∀ c : Fin 256, labB (lowB (UInt8.ofNat c.1)) = maB (lowB (UInt8.ofNat c.1)) ∧ decide (0 ≤ Lib.indexByte labsN (UInt8.ofNat c.1)) = maB (UInt8.ofNat c.1) := by decide +kernel
theorem ma_low (c : UInt8) : labB (lowB c) = maB (lowB c) := by
  have := (ma_all ⟨c.toNat, c.toNat_lt⟩).1
  rwa [UInt8.ofNat_toNat] at this
theorem ma_idx (c : UInt8) : decide (0 ≤ Lib.indexByte labsN c) = maB c := by
  have := (ma_all ⟨c.toNat, c.toNat_lt⟩).2
  rwa [UInt8.ofNat_toNat] at this
theorem ma_asc (c : UInt8) (h : 128 ≤ c.toNat) : maB c = false := by
  unfold maB
  rw [decide_eq_false_iff_not]
  omega
theorem may_low (q : List UInt8) : mayS (q.map lowB) = labS (q.map lowB) := by
  have h : (q.map lowB).all maB = (q.map lowB).all labB := by
    rw [List.all_map, List.all_map]
    exact congrArg q.all (funext fun c => (ma_low c).symm)
  unfold mayS labS
  rw [h]
theorem may_split (l : List UInt8) : (splitS 46 (trimS (l.map lowB))).all mayS = (splitS 46 (trimS (l.map lowB))).all labS := by
  rw [trim_low, split_low46, List.all_map, List.all_map]
  exact congrArg (List.all _) (funext fun q => may_low q)
theorem may_asc {p : List UInt8} (h : mayS p = true) : ∀ c ∈ p, c.toNat < 128 := fun c hc => by
  unfold mayS at h
  simp only [Bool.and_eq_true, List.all_eq_true] at h
  have h1 := h.1.1.2 c hc
  refine Nat.lt_of_not_le fun h2 => ?_
  rw [ma_asc c h2] at h1
  cases h1
/-- what isName asks -/
def isN (x : List UInt8) : Bool := (splitS 46 x).all mayS && !digS (lastS x)
theorem name_code (l : List UInt8) : nameS (trimS (l.map lowB)) = if trimS (l.map lowB) = [] then ([], 8) else if 253 < (trimS (l.map lowB)).length then ([], 6) else if isN (trimS (l.map lowB)) = false then ([], 9) else (trimS (l.map lowB), 0) := by
  unfold nameS isN
  rw [may_split]
  have e : ∀ a b : Bool, (a = false ∨ b = true) ↔ ((a && !b) = false) := by decide
  simp only [e]

/-! signs, one by one -/
theorem all_no (s : ByteArray) (f : UInt8 → Bool) (pos : Nat) (h : ¬ pos < s.size) (ht : ((bs s).take pos).all f = true) : (bs s).all f = true := by
  rwa [List.take_of_length_le (by rw [bs_length]; omega)] at ht
theorem all_hit (s : ByteArray) (f : UInt8 → Bool) (pos : Nat) (h : pos < s.size) (hc : f (s[pos]'h) = false) : (bs s).all f = false :=
  List.all_eq_false.2 ⟨s[pos]'h, List.getElem_mem (by rw [bs_length]; exact h), by rw [hc]; simp⟩
theorem all_step (s : ByteArray) (f : UInt8 → Bool) (pos : Nat) (h : pos < s.size) (ht : ((bs s).take pos).all f = true) (hc : f (s[pos]'h) = true) : ((bs s).take (pos + 1)).all f = true := by
  rw [bs_take s pos h, List.all_append, ht]; simpa using hc
end Go.Proofs.YtgbhnjkigjecmaaGreatDoor.Nm

/-
  Rows of strings, one at least, in a block: as strings.Split lays them, as make lays room for them, as they are filled from the front. No condition.
-/
namespace Go.Proofs.YtgbhnjkigjecmaaGreatDoor.Nm
open Go.RowKit Go.Proofs.YtgbhnjkigjecmaaGreatDoor.Wd Go.Proofs.YtgbhnjkigjecmaaGreatDoor.Asc Go.Proofs.YtgbhnjkigjecmaaGreatDoor.Ad

theorem infT : (Tryz.prog.info? 9).map (fun i => (i.zero, i.size, i.bytes)) = some (some (.string ⟨#[]⟩), 1, 16) := by kernel_rfl
abbrev strs (L : List (List UInt8)) : List Value := L.map fun l => Value.string (str l)
/-- the slice v leads to the strings L -/
def RowL (w : World) (v : Value) (L : List (List UInt8)) : Prop :=
  ∃ g c, v = .slice (some ⟨g, 0, none⟩) L.length c ∧ L.length ≤ c ∧ g < w.heap.size ∧ ∀ k l, L[k]? = some l → w.cell? ⟨g, k, none⟩ = some (.string (str l))
section
variable {w w' : World} {v : Value} {L : List (List UInt8)}
theorem RowL.below (h : RowL w v L) (hb : Below w.heap.size w w') : RowL w' v L := by
  obtain ⟨g, c, hv, hc, hg, hr⟩ := h
  exact ⟨g, c, hv, hc, Nat.lt_of_lt_of_le hg hb.size, fun k l hk => (hb.cell (p := ⟨g, k, none⟩) hg).trans (hr k l hk)⟩
theorem RowL.drew (h : RowL w v L) (n : Nat) : RowL (w.drewN n) v L := h
end
theorem strs_at {L : List (List UInt8)} {k : Nat} {l : List UInt8} (h : L[k]? = some l) : (strs L).toArray[k]? = some (.string (str l)) := by
  rw [List.getElem?_toArray, List.getElem?_map, h]
  rfl
theorem RowL.new (w : World) (L : List (List UInt8)) : RowL (w.alloc (.cells (strs L).toArray 9)) (.slice (some ⟨w.heap.size, 0, none⟩) L.length L.length) L :=
  ⟨_, _, rfl, Nat.le_refl _, by simp, fun k l hk => by rw [(Blk.new w 9 _).cell]; exact strs_at hk⟩

/-- make([]string, n) -/
theorem make_strs (n : Nat) (hn : n ≤ 4294967296) : ∃ C : Array Value, C.size = n ∧ ∀ u : World, (Instr.makeSlice 26 (.int .i64 (n : Int)) (.int .i64 (n : Int))).run Tryz.prog u =
    .ok (.slice (some ⟨u.heap.size, 0, none⟩) n n) (u.alloc (.cells C 9)) := by
  obtain ⟨i0, hi, hz0, hz1, hz2⟩ := info_parts infT
  refine ⟨madeCells (Value.string ⟨#[]⟩).cells (n * i0.size), by rw [hz1]; simp [madeCells], fun u => ?_⟩
  have h := run_make (P := Tryz.prog) u 26 9 i0 (.string ⟨#[]⟩) Tryz.underlying26 hi hz0 .i64 .i64 (n : Int) (n : Int) (by omega) (Int.le_refl _) (by rw [hz2]; omega) (by omega)
  rw [Int.toNat_natCast] at h
  exact h

theorem spl_len (c : UInt8) : ∀ l, (splitS c l).length ≤ l.length + 1
  | [] => by simp [splitS]
  | x :: l => by
    have ih := spl_len c l
    have hne := List.length_pos_iff.2 (splitS_ne c l)
    unfold splitS
    split
    · simp; omega
    · simp; omega
theorem spl_mem (c : UInt8) : ∀ (l p : List UInt8), p ∈ splitS c l → p.length ≤ l.length
  | [], p, h => by simp [splitS] at h; subst h; simp
  | x :: l, p, h => by
    have hne := splitS_ne c l
    have ih := spl_mem c l
    unfold splitS at h
    cases hs : splitS c l with
    | nil => exact absurd hs hne
    | cons q r =>
      rw [hs] at h ih
      split at h
      · rcases List.mem_cons.1 h with rfl | h
        · simp
        · have := ih p h; simp; omega
      · rcases List.mem_cons.1 h with rfl | h
        · have := ih q (by simp); simpa using this
        · have := ih p (List.mem_cons_of_mem _ (by simpa using h)); simp; omega

/-- strings.Split at a sign -/
theorem split_any {B : Nat} (s : ByteArray) (c : UInt8) (w : World) (hE : Env B w) (hs : s.size < 4294967281) :
    Calls Tryz.prog 111 #[.string s, .string ⟨#[c]⟩] w fun e w' => ∃ v, e = .returned v ∧ RowL w' v (splitS c (bs s)) ∧ Below w.heap.size w w' := by
  obtain ⟨m, hm⟩ := hE.max
  refine (Tryz.strings_Split s ⟨#[c]⟩ m w hs hm (Nat.le_refl 1)).mono ?_
  rintro e w' ⟨rfl, rfl⟩
  refine ⟨_, rfl, ?_, (Below.refl _ _).alloc (Nat.le_refl _) _⟩
  rw [split_count, split_cells]
  exact RowL.new w (splitS c (bs s))

/-- strings of L in the row's places, as far as k -/
structure Fill (w : World) (g n k : Nat) (L : List (List UInt8)) : Prop where
  at_ : ∃ cur, Blk w g 9 cur ∧ cur.size = n ∧ ∀ j l, j < k → L[j]? = some l → cur[j]? = some (.string (str l))
theorem Fill.below {w w' : World} {g n k : Nat} {L : List (List UInt8)} (h : Fill w g n k L) (hb : Below w.heap.size w w') : Fill w' g n k L := by
  obtain ⟨cur, h1, h2, h3⟩ := h.at_
  exact ⟨cur, h1.below hb h1.lt, h2, h3⟩
theorem Fill.next {w : World} {g n k : Nat} {L : List (List UInt8)} {l : List UInt8} (h : Fill w g n k L) (hk : k < n) (hl : L[k]? = some l) : Fill (w.setCell ⟨g, k, none⟩ (.string (str l))) g n (k + 1) L := by
  obtain ⟨cur, h1, h2, h3⟩ := h.at_
  refine ⟨_, h1.set_ k _, by simpa using h2, fun j x hj hx => ?_⟩
  rw [Array.getElem?_setIfInBounds]
  by_cases e : k = j
  · subst e
    rw [if_pos rfl, if_pos (by omega)]
    rw [hl] at hx
    injection hx with hx
    rw [hx]
  · rw [if_neg e]
    exact h3 j x (by omega) hx
theorem Fill.row {w : World} {g n : Nat} {L : List (List UInt8)} (h : Fill w g n n L) (hn : L.length = n) : RowL w (.slice (some ⟨g, 0, none⟩) n n) L := by
  obtain ⟨cur, h1, h2, h3⟩ := h.at_
  exact ⟨g, n, by rw [hn], by omega, h1.lt, fun k l hk => by rw [h1.cell]; exact h3 k l (by have := (List.getElem?_eq_some_iff.1 hk).1; omega) hk⟩
theorem rev_at {L : List (List UInt8)} {n k : Nat} (hn : L.length = n) (hk : k < n) : L[n - 1 - k]? = L.reverse[k]? := by
  rw [List.getElem?_reverse (by omega), hn]

set_option maxRecDepth 100000 in
set_option maxHeartbeats 4000000 in
/-- what stands between dots, the last one first -/
theorem backward_any {B : Nat} (s : ByteArray) (w : World) (hE : Env B w) (hs : s.size < 4294967281) :
    Calls Tryz.prog 75 #[.string s] w fun e w' => ∃ v, e = .returned v ∧ RowL w' v (splitS 46 (bs s)).reverse ∧ Below w.heap.size w w' := by
  have HS := Lib.hid (split_any (B := B) s 46 w hE hs)
  have hsz : ∀ p ∈ splitS 46 (bs s), p.length ≤ 140737488355328 := fun p hp => by
    have := spl_mem 46 (bs s) p hp
    rw [bs_length] at this
    omega
  have hle := spl_len 46 (bs s)
  rw [bs_length] at hle
  obtain ⟨L, hL⟩ : ∃ L, splitS 46 (bs s) = L := ⟨_, rfl⟩
  obtain ⟨n, hn⟩ : ∃ n, L.length = n := ⟨_, rfl⟩
  rw [hL] at HS hsz hle ⊢
  rw [hn] at hle
  obtain ⟨C, hC, hmk⟩ := make_strs n (by omega)
  have HZ := Lib.hid hsz
  have HN := Lib.hid hn
  have hn9 : n ≤ 4294967281 := by omega
  clear hL hsz hle hE hs
  go_enter Tryz.func75, Tryz.ntmps75
  go_wp2_with fail
  refine HS.out.mono ?_
  rintro e w1 ⟨v, rfl, hr, hb⟩
  obtain ⟨g, c, rfl, hc, hg, hcell⟩ := hr
  rw [HN.out]
  have HB := Lib.hid hb
  have HC := Lib.hid hcell
  have HF : Hid (Fill (w1.alloc (.cells C 9)) w1.heap.size n 0 L.reverse) := Lib.hid ⟨C, Blk.new w1 _ C, hC, fun j l hj => by omega⟩
  have hw1 : w.heap.size ≤ w1.heap.size := hb.size
  clear hb hcell hC HS hc
  go_wp2_with fail
  clear hmk
  obtain ⟨G, hG⟩ : ∃ G, w1.heap.size = G := ⟨_, rfl⟩
  have HB1 : Hid (Below G w1 (w1.alloc (.cells C 9))) := Lib.hid ((Below.refl _ _).alloc (by rw [hG]; exact Nat.le_refl _) _)
  rw [hG] at hg hw1 HF ⊢
  have HW := Lib.hid hw1
  clear hw1
  go_loopw [13] (fun i wr => ∃ k : Nat, k ≤ n ∧ i = .int .i64 (k : Int) ∧ Hid (Fill wr G n k L.reverse) ∧ Hid (Below G w1 wr)) (fun i _ => n - (intOf i).toNat)
  case atStart => exact ⟨0, Nat.zero_le _, rfl, HF, HB1⟩
  case round =>
    obtain ⟨k, hk, rfl, HFk, HBk⟩ := hrel
    by_cases hlt : k < n
    · obtain ⟨p, hp⟩ : ∃ p, L.reverse[k]? = some p := ⟨_, List.getElem?_eq_getElem (by rw [List.length_reverse, HN.out]; exact hlt)⟩
      have hq : L[n - 1 - k]? = some p := by rw [rev_at HN.out hlt]; exact hp
      have hz := HZ.out p (List.mem_of_getElem? hq)
      obtain ⟨P, hP⟩ : ∃ P, str p = P := ⟨_, rfl⟩
      have hPz : P.size ≤ 140737488355328 := by rw [← hP, str_size]; exact hz
      obtain ⟨m, hm⟩ : ∃ m, n - 1 - k = m := ⟨_, rfl⟩
      have hmi : (n : Int) - 1 - (k : Int) = (m : Int) := by omega
      have hml : m < n := by omega
      rw [hm] at hq
      have hcl : wr.cell? ⟨g, m, none⟩ = some (.string P) := by rw [HBk.out.cell (p := ⟨g, m, none⟩) hg, ← hP]; exact HC.out m p hq
      have HK := Lib.hid (fun u => clone_any P u hPz)
      have HP := Lib.hid hP
      have Hp := Lib.hid hp
      clear hq hz hP hPz hm hp
      go_wp2_with fail
      refine (HK.out _).mono ?_
      rintro e w2 ⟨rfl, hb2⟩
      have HF2 := Lib.hid (HFk.out.below hb2)
      have HB2 := Lib.hid (HBk.out.trans (hb2.mono (by have := HBk.out.size; have := hG; omega)))
      obtain ⟨cur, hblk, hcs, _⟩ := HF2.out.at_
      have hcl2 : ∃ u, w2.cell? ⟨G, k, none⟩ = some u := by rw [hblk.cell]; exact ⟨_, Array.getElem?_eq_getElem (by omega)⟩
      obtain ⟨u, hcu⟩ := hcl2
      have hfr := hblk.frozen k
      have HF3 := Lib.hid (HF2.out.next hlt Hp.out)
      have HB3 := Lib.hid (HB2.out.setCell (p := ⟨G, k, none⟩) (Nat.le_refl _) (.string (str p)))
      rw [HP.out] at HF3 HB3
      clear hb2 hblk hcl HK
      go_wp2_with fail
      go_roundw
      case rel => exact ⟨k + 1, hlt, by go_num, HF3, HB3⟩
      case measure => simp [intOf]; omega
    · obtain rfl : k = n := by omega
      go_wp2_with fail
      go_ret
      refine ⟨_, rfl, HFk.out.row (by rw [List.length_reverse, HN.out]), HB.out.trans (HBk.out.mono HW.out)⟩
end Go.Proofs.YtgbhnjkigjecmaaGreatDoor.Nm

/-
  Contracts of package name over this seat's translation: mayBe, isName, Normal and Labels answer what mayS, isN, normalS and labelsS say.
-/
namespace Go.Proofs.YtgbhnjkigjecmaaGreatDoor.Nm
open Go.RowKit Go.Proofs.YtgbhnjkigjecmaaGreatDoor.Wd Go.Proofs.YtgbhnjkigjecmaaGreatDoor.Asc Go.Proofs.YtgbhnjkigjecmaaGreatDoor.Ad

abbrev labsA : ByteArray := ⟨#[97, 98, 99, 100, 101, 102, 103, 104, 105, 106, 107, 108, 109, 110, 111, 112, 113, 114, 115, 116, 117, 118, 119, 120, 121, 122, 95, 48, 49, 50, 51, 52, 53, 54, 55, 56, 57, 45]⟩
theorem labs_bs : bs labsA = labsN := rfl
theorem labs_asc : Tx.Asci (bs labsA) := by
  rw [labs_bs]
  show ∀ c ∈ labsN, c.toNat < 128
  decide
/-- strings.ContainsRune among the signs of labels, a sign of ASCII -/
theorem has_asc (c : UInt8) (h : c.toNat < 128) (w : World) :
    Calls Tryz.prog 113 #[.string labsA, .int .i32 (c.toNat : Int)] w fun e w' => e = .returned (.bool (maB c)) ∧ w = w' := by
  have HK : Hid (∀ w, Calls Tryz.prog 100 #[.string labsA, .int .i32 (c.toNat : Int)] w fun e w' => e = .returned (.int .i64 (Lib.indexByte labsN c)) ∧ w = w') := Lib.hid (fun w => by
    refine (Tryz.strings_IndexRune_ascii labsA (c.toNat : Int) w (by omega) (by omega)).mono ?_
    rintro e w1 ⟨rfl, rfl⟩
    refine ⟨?_, rfl⟩
    rw [show ((c.toNat : Int)).toNat.toUInt8 = c by simp]
    rfl)
  have HM := Lib.hid (ma_idx c)
  generalize Lib.indexByte labsN c = k at *
  go_enter Tryz.func113, Tryz.ntmps113
  go_wp2_with fail
  refine (HK.out _).mono ?_
  rintro e w1 ⟨rfl, rfl⟩
  go_wp2_with fail
  go_ret
  exact ⟨ret_b (by rw [← HM.out]), rfl⟩
/-- one past ASCII -/
theorem has_wide (r : Int) (h : 128 ≤ r) (w : World) :
    Calls Tryz.prog 113 #[.string labsA, .int .i32 r] w fun e w' => e = .returned (.bool false) ∧ Below w.heap.size w w' := by
  have HK := Lib.hid (fun w => Tx.irune_wide labsA labs_asc r h w)
  go_enter Tryz.func113, Tryz.ntmps113
  go_wp2_with fail
  refine (HK.out _).mono ?_
  rintro e w1 ⟨rfl, hb⟩
  go_wp2_with fail
  go_ret
  exact ⟨rfl, hb⟩
theorem pre_any (S : ByteArray) (c : UInt8) (w : World) :
    Calls Tryz.prog 59 #[.string S, .string ⟨#[c]⟩] w fun e w' => e = .returned (.bool (decide ((bs S).head? = some c))) ∧ w = w' := by
  refine (Tryz.strings_HasPrefix S ⟨#[c]⟩ w).mono fun _ _ ⟨h1, h2⟩ => ⟨?_, h2.symm⟩
  rw [h1]
  exact congrArg (fun b => Ending.returned (.bool b)) (pre_one c (bs S))
theorem suf_any (S : ByteArray) (c : UInt8) (w : World) (hS : S.size ≤ 9223372036854775807) :
    Calls Tryz.prog 112 #[.string S, .string ⟨#[c]⟩] w fun e w' => e = .returned (.bool (decide ((bs S).getLast? = some c))) ∧ w = w' := by
  refine (Tryz.strings_HasSuffix S ⟨#[c]⟩ w hS).mono fun _ _ ⟨h1, h2⟩ => ⟨?_, h2.symm⟩
  rw [h1]
  exact congrArg (fun b => Ending.returned (.bool b)) (suf_one c (bs S))
/-- strings.TrimSuffix at a dot -/
theorem dot_any (S : ByteArray) (w : World) (hS : S.size ≤ 9223372036854775807) :
    Calls Tryz.prog 34 #[.string S, .string ⟨#[46]⟩] w fun e w' => e = .returned (.string (str (trimS (bs S)))) ∧ w = w' := by
  refine (Tryz.strings_TrimSuffix S ⟨#[46]⟩ w hS).mono fun _ _ ⟨h1, h2⟩ => ⟨?_, h2.symm⟩
  rw [h1]
  exact congrArg (fun b => Ending.returned (.string (str b))) (cut_dot (bs S))
theorem set256 : (Tryz.prog.info? 119).map (fun i => (i.zero, i.size)) = some (some (.agg (Array.replicate 256 (.bool false))), 256) := by kernel_rfl
/-- strings.Trim of digits -/
theorem digs_any (S : ByteArray) (w : World) (hS : S.size ≤ 9223372036854775807) :
    Calls Tryz.prog 77 #[.string S, .string ⟨#[48, 49, 50, 51, 52, 53, 54, 55, 56, 57]⟩] w fun e w' => ∃ T : ByteArray, e = .returned (.string T) ∧ (T.toList.isEmpty = digS (bs S)) ∧ Below w.heap.size w w' := by
  have hT : Calls Tryz.prog 77 #[.string S, .string ⟨#[48, 49, 50, 51, 52, 53, 54, 55, 56, 57]⟩] w fun e w' => e = .returned (.string ⟨(Lib.trimS S.data.toList digN).toArray⟩) ∧ Below w.heap.size w w' :=
    Any.strings_Trim_laid Tryz.lays160 set256 S ⟨#[48, 49, 50, 51, 52, 53, 54, 55, 56, 57]⟩ w hS (by decide) (ascii_of_all (by decide))
  refine hT.mono ?_
  rintro e w1 ⟨rfl, hb⟩
  refine ⟨_, rfl, ?_, hb⟩
  have h := trim_digs (bs S)
  rw [Lib.toList_data]
  show (Lib.trimS (bs S) digN).isEmpty = digS (bs S)
  cases hd : digS (bs S) with
  | true => rw [h.2 hd]; rfl
  | false =>
    cases ht : Lib.trimS (bs S) digN with
    | nil => rw [h.1 ht] at hd; cases hd
    | cons _ _ => rfl

def LabAt (s : ByteArray) (w w' : World) : Prop := ∃ pos, w' = w.iter s pos ∧ pos ≤ s.size ∧ ((bs s).take pos).all maB = true
set_option maxRecDepth 100000 in
set_option maxHeartbeats 4000000 in
theorem may_any (s : ByteArray) (w : World) (hs : s.size < 4294967281) :
    Calls Tryz.prog 76 #[.string s] w fun e w' => e = .returned (.bool (mayS (bs s))) ∧ Below w.heap.size w w' := by
  have HP := Lib.hid (fun w => pre_any s 45 w)
  have HS := Lib.hid (fun w => suf_any s 45 w (by omega))
  have HM : Hid (mayS (bs s) = (decide (1 ≤ s.size) && decide (s.size ≤ 63) && (bs s).all maB && !decide ((bs s).head? = some 45) && !decide ((bs s).getLast? = some 45))) := Lib.hid (by
    unfold mayS
    rw [bs_length]
    simp only [ne_eq, decide_not])
  by_cases h0 : s.size = 0
  · obtain rfl := Asc.empty_of s h0
    clear HM
    go_enter Tryz.func76, Tryz.ntmps76
    go_wp2_with fail
    go_ret
    exact ⟨rfl, Below.refl _ _⟩
  have hne : (s.toList == (⟨#[]⟩ : ByteArray).toList) = false := by
    rw [beq_eq_false_iff_ne, Lib.toList_data, Lib.toList_data]
    intro e
    exact h0 (by rw [← bs_length]; exact congrArg List.length e)
  have hie : s.toList.isEmpty = false := by
    rw [Lib.toList_data]
    cases h : s.data.toList with
    | nil => exact absurd (by rw [← bs_length]; exact congrArg List.length h) h0
    | cons _ _ => rfl
  rw [decide_eq_true (show 1 ≤ s.size by omega), Bool.true_and] at HM
  by_cases h1 : 63 < s.size
  · have i1 : (63 : Int) < (s.size : Int) := by omega
    rw [decide_eq_false (show ¬ s.size ≤ 63 by omega)] at HM
    rw [HM.out]
    clear HM
    go_enter Tryz.func76, Tryz.ntmps76
    go_wp2_with fail
    go_ret
    exact ⟨rfl, Below.refl _ _⟩
  have i1 : ¬ (63 : Int) < (s.size : Int) := by omega
  rw [decide_eq_true (show s.size ≤ 63 by omega), Bool.true_and] at HM
  cases h2 : decide ((bs s).head? = some 45)
  case true =>
    rw [h2] at HM HP
    rw [HM.out, show (((bs s).all maB && !true) && !decide ((bs s).getLast? = some 45)) = false by simp]
    clear HM h2
    go_enter Tryz.func76, Tryz.ntmps76
    go_wp2_with (go_at_call 59; refine (HP.out _).mono ?_; rintro e w1 ⟨rfl, rfl⟩)
    go_ret
    exact ⟨rfl, Below.refl _ _⟩
  cases h3 : decide ((bs s).getLast? = some 45)
  case true =>
    rw [h2] at HM HP
    rw [h3] at HM HS
    rw [HM.out, show (((bs s).all maB && !false) && !true) = false by simp]
    clear HM h2 h3
    go_enter Tryz.func76, Tryz.ntmps76
    go_wp2_with (first | (go_at_call 59; refine (HP.out _).mono ?_; rintro e w1 ⟨rfl, rfl⟩) | (go_at_call 112; refine (HS.out _).mono ?_; rintro e w1 ⟨rfl, rfl⟩))
    go_ret
    exact ⟨rfl, Below.refl _ _⟩
  rw [h2] at HM HP
  rw [h3] at HM HS
  rw [HM.out, show (((bs s).all maB && !false) && !false) = (bs s).all maB by simp]
  clear HM h2 h3 h0 h1
  go_enter Tryz.func76, Tryz.ntmps76
  go_wp2_with (first | (go_at_call 59; refine (HP.out _).mono ?_; rintro e w1 ⟨rfl, rfl⟩) | (go_at_call 112; refine (HS.out _).mono ?_; rintro e w1 ⟨rfl, rfl⟩))
  clear HP HS hne hie i1
  go_loopw [4] (fun _ w' => LabAt s w w') (fun _ w' => s.size - w'.iterPos w.heap.size)
  case atStart => exact ⟨0, rfl, Nat.zero_le _, rfl⟩
  case round =>
    obtain ⟨pos, rfl, hle, ht⟩ := hrel
    have HT := Lib.hid ht
    clear ht
    by_cases hp : pos < s.size
    · by_cases ha : (s[pos]'hp).toNat < 128
      · have hnx : ∀ ty, (Instr.next (.pointer (some ⟨w.heap.size, 0, none⟩)) true ty).run Tryz.prog (w.iter s pos) = _ := fun ty => run_next_ascii (P := Tryz.prog) w s pos ty hp ha
        have HK := Lib.hid (fun u => has_asc (s[pos]'hp) ha u)
        cases hc : maB (s[pos]'hp)
        · have HC := Lib.hid (all_hit s maB pos hp hc)
          rw [hc] at HK
          clear hc ha
          go_wp2_with (go_at_call 113; refine (HK.out _).mono ?_; rintro e w1 ⟨rfl, rfl⟩)
          go_ret
          exact ⟨ret_b HC.out.symm, below_iter _ _ _⟩
        · have HC := Lib.hid (all_step s maB pos hp HT.out hc)
          rw [hc] at HK
          clear hc ha
          go_wp2_with (go_at_call 113; refine (HK.out _).mono ?_; rintro e w1 ⟨rfl, rfl⟩)
          go_roundw
          case rel => exact ⟨pos + 1, rfl, hp, HC.out⟩
          case measure => simp; omega
      · have hnx : ∀ ty, (Instr.next (.pointer (some ⟨w.heap.size, 0, none⟩)) true ty).run Tryz.prog (w.iter s pos) = _ := fun ty => run_next_any w s pos ty hp
        have HC := Lib.hid (all_hit s maB pos hp (ma_asc _ (by omega)))
        have hr : (128 : Int) ≤ ((Utf8.decode s pos).1 : Int) := by have := (decode_high s pos hp (by omega)).1; omega
        have HK := Lib.hid (fun u => has_wide _ hr u)
        generalize ((Utf8.decode s pos).1 : Int) = r at *
        generalize (Utf8.decode s pos).2 = d at *
        clear ha hr
        go_wp2_with (go_at_call 113; refine (HK.out _).mono ?_; rintro e w1 ⟨rfl, hb⟩)
        go_ret
        exact ⟨ret_b HC.out.symm, (below_iter w s (pos + d)).trans (hb.mono (below_iter w s (pos + d)).size)⟩
    · have hnx := fun ty => run_next_end (P := Tryz.prog) w s pos ty hp
      go_wp2
      go_ret
      exact ⟨ret_b (all_no s maB pos hp HT.out).symm, below_iter _ _ _⟩

theorem rev_last {L : List (List UInt8)} (h : L ≠ []) : L.reverse[0]? = some (L.getLastD []) := by
  rw [List.getElem?_reverse (List.length_pos_iff.2 h), Nat.sub_zero, ← List.getLast?_eq_getElem?, List.getLast?_eq_some_getLast h, List.getLastD_eq_getLast?, List.getLast?_eq_some_getLast h]
  rfl
theorem all_rev (L : List (List UInt8)) (f : List UInt8 → Bool) : L.reverse.all f = L.all f := by
  rw [Bool.eq_iff_iff, List.all_eq_true, List.all_eq_true]
  simp
theorem take_next {L : List (List UInt8)} {k : Nat} {p : List UInt8} (h : L[k]? = some p) : L.take (k + 1) = L.take k ++ [p] := by
  rw [List.take_add_one, h]
  rfl

set_option maxRecDepth 100000 in
set_option maxHeartbeats 4000000 in
theorem isName_any {B : Nat} (s : ByteArray) (w : World) (hE : Env B w) (hs : s.size < 4294967281) :
    Calls Tryz.prog 36 #[.string s] w fun e w' => e = .returned (.bool (isN (bs s))) ∧ Below w.heap.size w w' := by
  have HB := Lib.hid (backward_any (B := B) s w hE hs)
  have hI : isN (bs s) = ((splitS 46 (bs s)).reverse.all mayS && !digS (lastS (bs s))) := by rw [all_rev]; rfl
  have hsz : ∀ p ∈ (splitS 46 (bs s)).reverse, p.length < 4294967281 := fun p hp => by
    have := spl_mem 46 (bs s) p (List.mem_reverse.1 hp)
    rw [bs_length] at this
    omega
  have hle := spl_len 46 (bs s)
  rw [bs_length] at hle
  have h0 := rev_last (splitS_ne 46 (bs s))
  rw [show (splitS 46 (bs s)).getLastD [] = lastS (bs s) from rfl] at h0
  rw [← List.length_reverse] at hle
  obtain ⟨L, hL⟩ : ∃ L, (splitS 46 (bs s)).reverse = L := ⟨_, rfl⟩
  obtain ⟨n, hn⟩ : ∃ n, L.length = n := ⟨_, rfl⟩
  obtain ⟨q, hq⟩ : ∃ q, lastS (bs s) = q := ⟨_, rfl⟩
  rw [hL] at HB hI hsz hle h0
  rw [hq] at hI h0
  rw [hn] at hle
  have hqz := hsz q (List.mem_of_getElem? h0)
  have hn0 : 0 < n := by rw [← hn]; exact (List.getElem?_eq_some_iff.1 h0).1
  have HI := Lib.hid hI
  have HZ := Lib.hid hsz
  have HN := Lib.hid hn
  have H0 := Lib.hid h0
  have hn9 : n ≤ 4294967281 := by omega
  clear hI hL hsz hle hE hs h0 hq
  go_enter Tryz.func36, Tryz.ntmps36
  go_wp2_with fail
  refine HB.out.mono ?_
  rintro e w1 ⟨v, rfl, hr, hb⟩
  obtain ⟨g, c, rfl, hc, hg, hcell⟩ := hr
  rw [HN.out]
  have HBl := Lib.hid hb
  have HC := Lib.hid hcell
  have hw1 : w.heap.size ≤ w1.heap.size := hb.size
  have HW := Lib.hid hw1
  clear hb hcell hc HB hw1
  go_wp2_with fail
  go_loopw [10] (fun i wr => ∃ k : Nat, k ≤ n ∧ i = .int .i64 (k : Int) ∧ Hid ((L.take k).all mayS = true) ∧ Hid (Below w1.heap.size w1 wr)) (fun i _ => n - (intOf i).toNat)
  case atStart => exact ⟨0, Nat.zero_le _, rfl, Lib.hid rfl, Lib.hid (Below.refl _ _)⟩
  case round =>
    obtain ⟨k, hk, rfl, HA, HBk⟩ := hrel
    by_cases hlt : k < n
    · obtain ⟨p, hp⟩ : ∃ p, L[k]? = some p := ⟨_, List.getElem?_eq_getElem (by rw [HN.out]; exact hlt)⟩
      have hz := HZ.out p (List.mem_of_getElem? hp)
      obtain ⟨P, hP⟩ : ∃ P, str p = P := ⟨_, rfl⟩
      have hPz : P.size < 4294967281 := by rw [← hP, str_size]; exact hz
      have hcl : wr.cell? ⟨g, k, none⟩ = some (.string P) := by rw [HBk.out.cell (p := ⟨g, k, none⟩) hg, ← hP]; exact HC.out k p hp
      have hT := take_next hp
      have HK := Lib.hid (fun u => may_any P u hPz)
      rw [show bs P = p by rw [← hP]; rfl] at HK
      have hki : (k : Int) < (n : Int) := by omega
      cases hm : mayS p
      · rw [hm] at HK
        have HX : Hid (isN (bs s) = false) := Lib.hid (by
          rw [HI.out, Bool.and_eq_false_iff]
          exact .inl (List.all_eq_false.2 ⟨p, List.mem_of_getElem? hp, by rw [hm]; simp⟩))
        clear hm hT hz hP hPz hp
        go_wp2_with fail
        refine (HK.out _).mono ?_
        rintro e w2 ⟨rfl, hb2⟩
        have HB2 := Lib.hid (HBk.out.trans (hb2.mono HBk.out.size))
        clear hb2 hcl HK
        go_wp2_with fail
        go_ret
        exact ⟨ret_b HX.out.symm, HBl.out.trans (HB2.out.mono HW.out)⟩
      · rw [hm] at HK
        have HX : Hid ((L.take (k + 1)).all mayS = true) := Lib.hid (by rw [hT, List.all_append, HA.out]; simpa using hm)
        clear hm hT hz hP hPz hp
        go_wp2_with fail
        refine (HK.out _).mono ?_
        rintro e w2 ⟨rfl, hb2⟩
        have HB2 := Lib.hid (HBk.out.trans (hb2.mono HBk.out.size))
        clear hb2 hcl HK
        go_wp2_with fail
        go_roundw
        case rel => exact ⟨k + 1, hlt, by go_num, HX, HB2⟩
        case measure => simp [intOf]; omega
    · obtain rfl : k = n := by omega
      have hal : L.all mayS = true := by have h := HA.out; rwa [List.take_of_length_le (by rw [HN.out]; exact Nat.le_refl _)] at h
      have HI2 : Hid (isN (bs s) = !digS q) := Lib.hid (by rw [HI.out, hal, Bool.true_and])
      obtain ⟨P, hP⟩ : ∃ P, str q = P := ⟨_, rfl⟩
      have hPz : P.size ≤ 9223372036854775807 := by rw [← hP, str_size]; omega
      have hcl : wr.cell? ⟨g, 0, none⟩ = some (.string P) := by rw [HBk.out.cell (p := ⟨g, 0, none⟩) hg, ← hP]; exact HC.out 0 q H0.out
      have HK := Lib.hid (fun u => digs_any P u hPz)
      rw [show bs P = q by rw [← hP]; rfl] at HK
      have h0i : (0 : Int) < (k : Int) := by omega
      clear hal hP hPz HI H0
      go_wp2_with fail
      refine (HK.out _).mono ?_
      rintro e w2 ⟨T, rfl, hT, hb2⟩
      have HB2 := Lib.hid (HBk.out.trans (hb2.mono HBk.out.size))
      rw [← hT] at HI2
      clear hb2 hcl HK hT
      go_wp2_with fail
      go_ret
      exact ⟨ret_b HI2.out.symm, HBl.out.trans (HB2.out.mono HW.out)⟩
end Go.Proofs.YtgbhnjkigjecmaaGreatDoor.Nm
