/-
  The text of an address by its groups, in plain words: digits in base 16, groups with a colon between two, the longest row of zeros. No condition.
-/
import Derived.Test.YtlpondbcnfaggaaGreatDoorR03
import Derived.Test.YtlpondbcnfaggaaGreatDoorR07
import Derived.Test.YtlpondbcnfaggaaGreatDoorR06
namespace Go.Proofs.YtlpondbcnfaggaaGreatDoor.Ad
open Go Go.Proofs.YtlpondbcnfaggaaGreatDoor.Asc

/-! a number's text in base 16 -/
def hdg (d : Nat) : UInt8 := UInt8.ofNat (if d < 10 then 48 + d else 87 + d)
theorem hdg_all : ∀ d : Fin 16, hexI ((hdg d.1).toNat : Int) = some (d.1 : Int) ∧ hdg d.1 ≠ 58 ∧ hdg d.1 ≠ 46 ∧ hdg d.1 ≠ 47 := by decide
theorem hx {d : Nat} (h : d < 16) : hexI ((hdg d).toNat : Int) = some (d : Int) := (hdg_all ⟨d, h⟩).1
def hexT (n : Nat) : List UInt8 :=
  if n < 16 then [hdg n] else if n < 256 then [hdg (n / 16), hdg (n % 16)] else if n < 4096 then [hdg (n / 256), hdg (n / 16 % 16), hdg (n % 16)]
  else [hdg (n / 4096), hdg (n / 256 % 16), hdg (n / 16 % 16), hdg (n % 16)]
theorem hexT_len (n : Nat) : 1 ≤ (hexT n).length ∧ (hexT n).length ≤ 4 := by
  unfold hexT
  split <;> (try split) <;> (try split) <;> simp
/-! groups with a colon between two -/
def gB (n : Nat) : List UInt8 := [UInt8.ofNat (n / 256), UInt8.ofNat (n % 256)]
def joinS : List Nat → List UInt8
  | [] => []
  | [n] => hexT n
  | n :: m :: r => hexT n ++ 58 :: joinS (m :: r)
theorem joinS_snoc : ∀ (l : List Nat) (n : Nat), joinS (l ++ [n]) = joinS l ++ ((if l = [] then [] else [58]) ++ hexT n)
  | [], n => by simp [joinS]
  | [m], n => by simp [joinS]
  | m :: k :: r, n => by
    have ih := joinS_snoc (k :: r) n
    rw [List.cons_append, List.cons_append, joinS, ← List.cons_append, ih, joinS]
    simp
theorem joinS_take {l : List Nat} {k n : Nat} (h : l[k]? = some n) : joinS (l.take (k + 1)) = joinS (l.take k) ++ ((if k = 0 then [] else [58]) ++ hexT n) := by
  have hk := (List.getElem?_eq_some_iff.1 h).1
  rw [List.take_add_one, h, Option.toList_some, joinS_snoc]
  congr 3
  rw [eq_iff_iff, ← List.length_eq_zero_iff, List.length_take]
  omega
/-! bytes two by two -/
def pairs : List UInt8 → List Nat
  | a :: b :: l => (a.toNat * 256 + b.toNat) :: pairs l
  | _ => []
/-! the groups that :: stands for -/
def gapStep (i n : Nat) (s : Nat × Nat × Nat) : Nat × Nat × Nat :=
  let start := if n = 0 then s.2.2 else i + 1
  if 2 ≤ i + 1 - start ∧ s.2.1 - s.1 < i + 1 - start then (start, i + 1, start) else (s.1, s.2.1, start)
def gapN (row : List Nat) : Nat → Nat × Nat × Nat
  | 0 => (0, 0, 0)
  | k + 1 => gapStep k (row.getD k 0) (gapN row k)
theorem gapN_inv (row : List Nat) : ∀ k, (gapN row k).2.2 ≤ k ∧ (∀ j, (gapN row k).2.2 ≤ j → j < k → row.getD j 0 = 0) ∧
    (((gapN row k).1 = 0 ∧ (gapN row k).2.1 = 0) ∨ ((gapN row k).1 + 2 ≤ (gapN row k).2.1 ∧ (gapN row k).2.1 ≤ k ∧ ∀ j, (gapN row k).1 ≤ j → j < (gapN row k).2.1 → row.getD j 0 = 0))
  | 0 => ⟨Nat.le_refl _, fun j _ h => absurd h (by omega), .inl ⟨rfl, rfl⟩⟩
  | k + 1 => by
    obtain ⟨h1, h2, h3⟩ := gapN_inv row k
    have hs : (gapN row (k + 1)) = gapStep k (row.getD k 0) (gapN row k) := rfl
    rw [hs]
    generalize gapN row k = s at *
    obtain ⟨f, t, st⟩ := s
    dsimp only at h1 h2 h3
    have hst : (if row.getD k 0 = 0 then st else k + 1) ≤ k + 1 ∧ ∀ j, (if row.getD k 0 = 0 then st else k + 1) ≤ j → j < k + 1 → row.getD j 0 = 0 := by
      split
      · rename_i hz
        refine ⟨by omega, fun j h4 h5 => ?_⟩
        rcases Nat.lt_or_ge j k with h6 | h6
        · exact h2 j h4 h6
        · rw [show j = k by omega]; exact hz
      · exact ⟨Nat.le_refl _, fun j h4 h5 => absurd h4 (by omega)⟩
    unfold gapStep
    dsimp only
    generalize (if row.getD k 0 = 0 then st else k + 1) = start at *
    split
    · rename_i hc
      exact ⟨hst.1, hst.2, .inr ⟨by dsimp only; omega, Nat.le_refl _, hst.2⟩⟩
    · refine ⟨hst.1, hst.2, ?_⟩
      rcases h3 with h3 | ⟨h3, h4, h5⟩
      · exact .inl h3
      · exact .inr ⟨h3, Nat.le_succ_of_le h4, h5⟩
def gapS (row : List Nat) : Nat × Nat := ((gapN row 8).1, (gapN row 8).2.1)

/-- the last j digits of n -/
def lowT (n : Nat) : Nat → List UInt8
  | 0 => []
  | j + 1 => hdg (n / 16 ^ j % 16) :: lowT n j
theorem hexT_low {n j : Nat} (hn : n < 65536) (h : n / 16 ^ j < 16) (hj : j = 0 ∨ 16 ^ j ≤ n) : hexT n = hdg (n / 16 ^ j) :: lowT n j := by
  have hj3 : j ≤ 3 := by
    rcases Nat.lt_or_ge j 4 with h4 | h4
    · omega
    · have := Nat.pow_le_pow_right (n := 16) (by omega) h4
      have e : (16 : Nat) ^ 4 = 65536 := by decide
      omega
  unfold hexT
  obtain rfl | rfl | rfl | rfl : j = 0 ∨ j = 1 ∨ j = 2 ∨ j = 3 := by omega
  · simp at h
    rw [if_pos h]; simp [lowT]
  · simp at h hj
    rw [if_neg (by omega), if_pos (by omega)]; simp [lowT]
  · simp at h hj
    rw [if_neg (by omega), if_neg (by omega), if_pos (by omega)]; simp [lowT]
  · simp at h hj
    rw [if_neg (by omega), if_neg (by omega), if_neg (by omega)]; simp [lowT]
end Go.Proofs.YtlpondbcnfaggaaGreatDoor.Ad

/-
  What is printed is parsed as it was: the texts of addresses and Cidrs, in plain words. No condition.
-/
namespace Go.Proofs.YtlpondbcnfaggaaGreatDoor.Ad
open Go Go.Proofs.YtlpondbcnfaggaaGreatDoor.Asc Go.Proofs.YtlpondbcnfaggaaGreatDoor.Wd

theorem foldv_hdg {d : Nat} (h : d < 16) (l : List UInt8) (acc : Int) : foldv 16 (hdg d :: l) acc = foldv 16 l (acc * 16 + d) := by
  rw [foldv]
  simp only [hx h]
  rw [if_pos (by omega)]
theorem hexS_hexT {n : Nat} (h : n < 65536) : hexS (hexT n) = some (n : Int) := by
  unfold hexS hexT
  split
  · rw [digitsS, if_neg (by simp), foldv_hdg (by omega)]
    show some _ = some _
    congr 1; omega
  · split
    · rw [digitsS, if_neg (by simp), foldv_hdg (by omega), foldv_hdg (by omega)]
      show some _ = some _
      congr 1; omega
    · split
      · rw [digitsS, if_neg (by simp), foldv_hdg (by omega), foldv_hdg (by omega), foldv_hdg (by omega)]
        show some _ = some _
        congr 1; omega
      · rw [digitsS, if_neg (by simp), foldv_hdg (by omega), foldv_hdg (by omega), foldv_hdg (by omega), foldv_hdg (by omega)]
        show some _ = some _
        congr 1; omega
theorem hexT_mem {n : Nat} (h : n < 65536) {c : UInt8} (hc : c ∈ hexT n) : ∃ d : Fin 16, c = hdg d.1 := by
  unfold hexT at hc
  split at hc
  · simp at hc; exact ⟨⟨n, by omega⟩, hc⟩
  · split at hc
    · simp at hc
      rcases hc with hc | hc
      · exact ⟨⟨n / 16, by omega⟩, hc⟩
      · exact ⟨⟨n % 16, by omega⟩, hc⟩
    · split at hc
      · simp at hc
        rcases hc with hc | hc | hc
        · exact ⟨⟨n / 256, by omega⟩, hc⟩
        · exact ⟨⟨n / 16 % 16, by omega⟩, hc⟩
        · exact ⟨⟨n % 16, by omega⟩, hc⟩
      · simp at hc
        rcases hc with hc | hc | hc | hc
        · exact ⟨⟨n / 4096, by omega⟩, hc⟩
        · exact ⟨⟨n / 256 % 16, by omega⟩, hc⟩
        · exact ⟨⟨n / 16 % 16, by omega⟩, hc⟩
        · exact ⟨⟨n % 16, by omega⟩, hc⟩
theorem hexT_free {n : Nat} (h : n < 65536) : (58 : UInt8) ∉ hexT n ∧ (47 : UInt8) ∉ hexT n := by
  refine ⟨fun hc => ?_, fun hc => ?_⟩
  · obtain ⟨d, hd⟩ := hexT_mem h hc; exact (hdg_all d).2.1 hd.symm
  · obtain ⟨d, hd⟩ := hexT_mem h hc; exact (hdg_all d).2.2.2 hd.symm
theorem hexT_cons (n : Nat) : ∃ c r, hexT n = c :: r := by
  have := (hexT_len n).1
  cases h : hexT n with
  | nil => rw [h] at this; simp at this
  | cons c r => exact ⟨c, r, rfl⟩

/-! cuts at a byte -/
theorem ib_free : ∀ {l : List UInt8} {c : UInt8}, c ∉ l → Lib.indexByte l c = -1
  | [], _, _ => rfl
  | b :: l, c, h => by
    have h1 : (b == c) = false := by rw [beq_eq_false_iff_ne]; rintro rfl; exact h (by simp)
    have h2 : Lib.indexByte l c = -1 := ib_free (fun hm => h (by simp [hm]))
    unfold Lib.indexByte
    rw [h1, h2]
    rfl
theorem ib_at : ∀ {a b : List UInt8} {c : UInt8}, c ∉ a → Lib.indexByte (a ++ c :: b) c = (a.length : Int)
  | [], b, c, _ => by simp [Lib.indexByte]
  | x :: a, b, c, h => by
    have h1 : (x == c) = false := by rw [beq_eq_false_iff_ne]; rintro rfl; exact h (by simp)
    have h2 : Lib.indexByte (a ++ c :: b) c = (a.length : Int) := ib_at (fun hm => h (by simp [hm]))
    have h3 : ((a.length : Int) == -1) = false := by rw [beq_eq_false_iff_ne]; omega
    rw [List.cons_append]
    unfold Lib.indexByte
    rw [h1, h2, h3]
    simp
theorem cut_free {l : List UInt8} {c : UInt8} (h : c ∉ l) : Lib.cut l [c] = (l, [], false) := by
  unfold Lib.cut
  rw [Lib.index_one, ib_free h]
  rfl
theorem cut_at {a b : List UInt8} {c : UInt8} (h : c ∉ a) : Lib.cut (a ++ c :: b) [c] = (a, b, true) := by
  unfold Lib.cut
  rw [Lib.index_one, ib_at h, if_pos (by omega)]
  simp

theorem grpS_hexT {n : Nat} (h : n < 65536) (d : Bool) : grpS (hexT n) d = some (gB n) := by
  unfold grpS
  rw [hexS_hexT h]
  rfl
theorem sideGo_join (last : Bool) : ∀ (row : List Nat) (f : Nat) (acc : List UInt8), row ≠ [] → (∀ n ∈ row, n < 65536) → row.length ≤ f → acc.length + 2 * row.length ≤ 16 →
    sideGo last f acc (joinS row) = some (acc ++ row.flatMap gB)
  | [], _, _, h, _, _, _ => absurd rfl h
  | [n], 0, _, _, _, hf, _ => by simp at hf
  | [n], f + 1, acc, _, hn, _, hl => by
    have hn' := hn n (by simp)
    simp at hl
    unfold sideGo joinS
    rw [cut_free (hexT_free hn').1]
    dsimp only
    rw [grpS_hexT hn']
    dsimp only
    rw [if_neg (by simp [gB]; omega), if_neg (by simp)]
    simp
  | n :: m :: r, 0, _, _, _, hf, _ => by simp at hf
  | n :: m :: r, f + 1, acc, _, hn, hf, hl => by
    have hn' := hn n (by simp)
    simp at hl hf
    unfold sideGo joinS
    rw [cut_at (hexT_free hn').1]
    dsimp only
    rw [grpS_hexT hn']
    dsimp only
    rw [if_neg (by simp [gB]; omega), if_pos rfl, sideGo_join last (m :: r) f (acc ++ gB n) (by simp) (fun x hx => hn x (by simp at hx ⊢; exact .inr hx)) (by simp; omega) (by simp [gB]; omega)]
    simp [List.append_assoc]
theorem joinS_len : ∀ (row : List Nat), row.length ≤ (joinS row).length + 0 ∨ row = []
  | [] => .inr rfl
  | [n] => .inl (by have := (hexT_len n).1; simp [joinS]; omega)
  | n :: m :: r => .inl (by
    rcases joinS_len (m :: r) with h | h
    · simp [joinS] at h ⊢; omega
    · cases h)
theorem sideS_join (last : Bool) (row : List Nat) (hn : ∀ n ∈ row, n < 65536) (hl : row.length ≤ 8) : sideS (joinS row) last = some (row.flatMap gB) := by
  cases row with
  | nil => rfl
  | cons n r =>
    have h0 := joinS_len (n :: r)
    have hne : joinS (n :: r) ≠ [] := by
      intro e
      rw [e] at h0
      simp at h0
    unfold sideS
    rw [if_neg hne, sideGo_join last (n :: r) _ [] (by simp) hn (by rcases h0 with h | h; · omega
                                                                    · cases h) (by simp at hl ⊢; omega)]
    simp

/-! two colons -/
def dbl : List UInt8 → Bool
  | a :: b :: l => (a == 58 && b == 58) || dbl (b :: l)
  | _ => false
theorem pre_two (a b : UInt8) (l : List UInt8) : ([58, 58] : List UInt8).isPrefixOf (a :: b :: l) = (a == 58 && b == 58) := by
  simp [List.isPrefixOf, Bool.beq_eq_decide_eq, eq_comm]
theorem ix_none : ∀ {l : List UInt8}, dbl l = false → Lib.index l [58, 58] = -1
  | [], _ => rfl
  | [a], _ => by simp [Lib.index, List.isPrefixOf]
  | a :: b :: l, h => by
    rw [dbl, Bool.or_eq_false_iff] at h
    have ih := ix_none h.2
    unfold Lib.index
    rw [pre_two, h.1, ih]
    rfl
theorem ix_at : ∀ {h t : List UInt8}, dbl (h ++ [58]) = false → Lib.index (h ++ 58 :: 58 :: t) [58, 58] = (h.length : Int)
  | [], t, _ => by
    rw [List.nil_append]
    unfold Lib.index
    rw [pre_two]
    rfl
  | [a], t, hd => by
    have ha : (a == 58 && (58 : UInt8) == 58) = false := by
      simp [dbl] at hd ⊢
      exact hd
    have h0 : Lib.index ([] ++ 58 :: 58 :: t) [58, 58] = (([] : List UInt8).length : Int) := ix_at (by rfl)
    rw [List.nil_append] at h0
    show Lib.index (a :: 58 :: 58 :: t) [58, 58] = _
    unfold Lib.index
    rw [pre_two, ha, h0]
    rfl
  | a :: b :: h, t, hd => by
    have hd' : dbl (a :: b :: (h ++ [58])) = false := hd
    rw [dbl, Bool.or_eq_false_iff] at hd'
    have ih : Lib.index ((b :: h) ++ 58 :: 58 :: t) [58, 58] = ((b :: h).length : Int) := ix_at hd'.2
    show Lib.index (a :: b :: (h ++ 58 :: 58 :: t)) [58, 58] = _
    have h3 : ((((b :: h).length : Nat) : Int) == -1) = false := by rw [beq_eq_false_iff_ne]; omega
    unfold Lib.index
    rw [pre_two, hd'.1, show Lib.index (b :: (h ++ 58 :: 58 :: t)) [58, 58] = ((b :: h).length : Int) from ih, h3]
    simp
theorem dbl_pre : ∀ {l r : List UInt8}, dbl (l ++ r) = false → dbl l = false
  | [], _, _ => rfl
  | [a], _, _ => rfl
  | a :: b :: l, r, h => by
    have h' : dbl (a :: b :: (l ++ r)) = false := h
    rw [dbl, Bool.or_eq_false_iff] at h'
    rw [dbl, h'.1, Bool.false_or]
    exact dbl_pre (l := b :: l) h'.2
theorem dbl_skip : ∀ {x y : List UInt8}, (58 : UInt8) ∉ x → x ≠ [] → dbl (x ++ y) = dbl y
  | [], _, _, h => absurd rfl h
  | [a], y, hx, _ => by
    have ha : (a == 58) = false := by rw [beq_eq_false_iff_ne]; rintro rfl; exact hx (by simp)
    cases y with
    | nil => rfl
    | cons b l =>
      show dbl (a :: b :: l) = _
      rw [dbl, ha]
      rfl
  | a :: b :: x, y, hx, _ => by
    have ha : (a == 58) = false := by rw [beq_eq_false_iff_ne]; rintro rfl; exact hx (by simp)
    show dbl (a :: b :: (x ++ y)) = _
    rw [dbl, ha]
    exact dbl_skip (x := b :: x) (fun hm => hx (by simp at hm ⊢; exact .inr hm)) (by simp)
theorem joinS_head (m : Nat) (r : List Nat) (h : m < 65536) : ∃ c t, joinS (m :: r) = c :: t ∧ c ≠ 58 := by
  obtain ⟨c, t, hc⟩ := hexT_cons m
  have hne : c ≠ 58 := by
    rintro rfl
    exact (hexT_free h).1 (by rw [hc]; simp)
  cases r with
  | nil => exact ⟨c, t, by simp [joinS, hc], hne⟩
  | cons k r => exact ⟨c, _, by rw [joinS, hc, List.cons_append], hne⟩
theorem dbl_join : ∀ (row : List Nat), (∀ n ∈ row, n < 65536) → dbl (joinS row ++ [58]) = false
  | [], _ => rfl
  | [n], h => by
    have hn := h n (by simp)
    rw [joinS, dbl_skip (hexT_free hn).1 (by obtain ⟨c, t, hc⟩ := hexT_cons n; rw [hc]; simp)]
    rfl
  | n :: m :: r, h => by
    have hn := h n (by simp)
    have ih := dbl_join (m :: r) (fun x hx => h x (by simp at hx ⊢; exact .inr hx))
    obtain ⟨c, t, hc, hne⟩ := joinS_head m r (h m (by simp))
    have h1 : (c == 58) = false := by rw [beq_eq_false_iff_ne]; exact hne
    rw [joinS, List.append_assoc, dbl_skip (hexT_free hn).1 (by obtain ⟨c, t, hc⟩ := hexT_cons n; rw [hc]; simp)]
    rw [hc] at ih ⊢
    show dbl (58 :: c :: (t ++ [58])) = false
    rw [dbl, h1, Bool.and_false, Bool.false_or]
    exact ih

theorem gB_pair (a b : UInt8) : gB (a.toNat * 256 + b.toNat) = [a, b] := by
  have ha := a.toNat_lt
  have hb := b.toNat_lt
  unfold gB
  rw [show (a.toNat * 256 + b.toNat) / 256 = a.toNat by omega, show (a.toNat * 256 + b.toNat) % 256 = b.toNat by omega, UInt8.ofNat_toNat, UInt8.ofNat_toNat]
theorem pairs_bytes : ∀ (k : Nat) (l : List UInt8), l.length = 2 * k → (pairs l).flatMap gB = l ∧ (pairs l).length = k ∧ ∀ n ∈ pairs l, n < 65536
  | 0, [], _ => ⟨rfl, rfl, fun n h => by cases h⟩
  | 0, a :: l, h => by simp at h
  | k + 1, [], h => by simp at h
  | k + 1, [a], h => by simp at h; omega
  | k + 1, a :: b :: l, h => by
    obtain ⟨h1, h2, h3⟩ := pairs_bytes k l (by simp at h; omega)
    refine ⟨?_, by simp [pairs, h2], fun n hn => ?_⟩
    · rw [pairs, List.flatMap_cons, gB_pair, h1]; rfl
    · simp [pairs] at hn
      rcases hn with rfl | hn
      · have := a.toNat_lt; have := b.toNat_lt; omega
      · exact h3 n hn

/-! the text of an address -/
def textG (a : List UInt8) : List UInt8 :=
  if (gapS (pairs a)).1 = (gapS (pairs a)).2 then joinS (pairs a) else joinS ((pairs a).take (gapS (pairs a)).1) ++ [58, 58] ++ joinS ((pairs a).drop (gapS (pairs a)).2)
theorem joinS_free (c : UInt8) (hc : c ≠ 58) : ∀ (row : List Nat), (∀ n ∈ row, c ∉ hexT n) → c ∉ joinS row
  | [], _, h => by cases h
  | [n], h, hm => h n (by simp) hm
  | n :: m :: r, h, hm => by
    rw [joinS] at hm
    simp only [List.mem_append, List.mem_cons] at hm
    rcases hm with hm | hm | hm
    · exact h n (by simp) hm
    · exact hc hm
    · exact joinS_free c hc (m :: r) (fun x hx => h x (by simp at hx ⊢; exact .inr hx)) hm
theorem joinS_has (n m : Nat) (r : List Nat) (h : n < 65536) : 0 ≤ Lib.indexByte (joinS (n :: m :: r)) 58 := by
  rw [joinS, ib_at (hexT_free h).1]; omega
theorem ib_mem : ∀ {l : List UInt8} {c : UInt8}, c ∈ l → 0 ≤ Lib.indexByte l c
  | [], _, h => by cases h
  | b :: l, c, h => by
    unfold Lib.indexByte
    split
    · omega
    · rename_i hb
      have hm : c ∈ l := by
        rcases List.mem_cons.1 h with rfl | h
        · simp at hb
        · exact h
      have := ib_mem hm
      split
      · rename_i h1; rw [beq_iff_eq] at h1; omega
      · omega

theorem replicate_gB (k : Nat) : (List.replicate k 0).flatMap gB = List.replicate (2 * k) (0 : UInt8) := by
  induction k with
  | zero => rfl
  | succ k ih =>
    rw [List.replicate_succ, List.flatMap_cons, ih, show 2 * (k + 1) = 2 * k + 2 by omega, List.replicate_succ, List.replicate_succ]
    rfl
theorem row_parts (row : List Nat) (f t : Nat) (hf : f ≤ t) (ht : t ≤ row.length) (hz : ∀ j, f ≤ j → j < t → row.getD j 0 = 0) : row = row.take f ++ (List.replicate (t - f) 0 ++ row.drop t) := by
  have h1 : (row.drop f).take (t - f) = List.replicate (t - f) 0 := by
    apply List.ext_getElem
    · simp; omega
    · intro i h1 h2
      simp at h1 h2
      rw [List.getElem_take, List.getElem_drop, List.getElem_replicate]
      have := hz (f + i) (by omega) (by omega)
      rw [List.getD_eq_getElem?_getD, List.getElem?_eq_getElem (by omega)] at this
      simpa using this
  rw [← h1]
  conv => lhs; rw [← List.take_append_drop f row, ← List.take_append_drop (t - f) (row.drop f)]
  rw [List.drop_drop, show f + (t - f) = t by omega]
theorem flatMap_len (row : List Nat) : (row.flatMap gB).length = 2 * row.length := by
  induction row with
  | nil => rfl
  | cons n r ih => rw [List.flatMap_cons, List.length_append, ih]; simp [gB]; omega

theorem parse_text (a : List UInt8) (ha : a.length = 16) : parseS (textG a) = some a ∧ (47 : UInt8) ∉ textG a ∧ 0 ≤ Lib.indexByte (textG a) 58 := by
  obtain ⟨hb, hl, hn⟩ := pairs_bytes 8 a (by omega)
  have hinv := gapN_inv (pairs a) 8
  unfold textG gapS
  generalize pairs a = row at *
  have hfree : (47 : UInt8) ∉ joinS row := joinS_free 47 (by decide) row (fun n h => (hexT_free (hn n h)).2)
  by_cases he : (gapN row 8).1 = (gapN row 8).2.1
  · rw [if_pos he]
    obtain ⟨n, m, r, rfl⟩ : ∃ n m r, row = n :: m :: r := by
      match row, hl with
      | n :: m :: r, _ => exact ⟨n, m, r, rfl⟩
    have h58 := joinS_has n m r (hn n (by simp))
    refine ⟨?_, hfree, h58⟩
    have hd : dbl (joinS (n :: m :: r)) = false := dbl_pre (dbl_join _ hn)
    unfold parseS
    rw [if_pos h58]
    unfold groupsS
    have hc : Lib.cut (joinS (n :: m :: r)) [58, 58] = (joinS (n :: m :: r), [], false) := by
      unfold Lib.cut
      rw [ix_none hd]
      rfl
    rw [hc]
    dsimp only
    rw [if_neg (by simp), sideS_join true _ hn (by omega)]
    dsimp only
    rw [if_neg (by rw [flatMap_len]; omega), hb]
  · rw [if_neg he]
    obtain ⟨-, -, h3 | ⟨h3, h4, h5⟩⟩ := hinv
    · exact absurd (h3.1.trans h3.2.symm) he
    generalize (gapN row 8).1 = f at *
    generalize (gapN row 8).2.1 = t at *
    have hrow := row_parts row f t (by omega) (by omega) h5
    have hn1 : ∀ n ∈ row.take f, n < 65536 := fun n h => hn n (List.mem_of_mem_take h)
    have hn2 : ∀ n ∈ row.drop t, n < 65536 := fun n h => hn n (List.mem_of_mem_drop h)
    have e : joinS (row.take f) ++ [58, 58] ++ joinS (row.drop t) = joinS (row.take f) ++ 58 :: 58 :: joinS (row.drop t) := by simp
    rw [e]
    have h58 : 0 ≤ Lib.indexByte (joinS (row.take f) ++ 58 :: 58 :: joinS (row.drop t)) 58 := ib_mem (by simp)
    refine ⟨?_, ?_, h58⟩
    · unfold parseS
      rw [if_pos h58]
      unfold groupsS
      have hc : Lib.cut (joinS (row.take f) ++ 58 :: 58 :: joinS (row.drop t)) [58, 58] = (joinS (row.take f), joinS (row.drop t), true) := by
        unfold Lib.cut
        rw [ix_at (dbl_join _ hn1), if_pos (by omega)]
        simp
      rw [hc]
      dsimp only
      rw [if_pos rfl]
      unfold shortS
      rw [sideS_join false _ hn1 (by rw [List.length_take]; omega), sideS_join true _ hn2 (by rw [List.length_drop]; omega)]
      dsimp only
      rw [if_neg (by rw [flatMap_len, flatMap_len, List.length_take, List.length_drop]; omega), flatMap_len, flatMap_len, List.length_take, List.length_drop]
      have hk : 16 - 2 * min f row.length - 2 * (row.length - t) = 2 * (t - f) := by omega
      rw [hk, ← replicate_gB, List.append_assoc, ← List.flatMap_append, ← List.flatMap_append, ← hrow, hb]
    · simp only [List.mem_append, List.mem_cons, not_or]
      exact ⟨joinS_free 47 (by decide) _ (fun n h => (hexT_free (hn1 n h)).2), by decide, by decide, joinS_free 47 (by decide) _ (fun n h => (hexT_free (hn2 n h)).2)⟩
theorem textG_len (a : List UInt8) (ha : a.length = 16) : (textG a).length ≤ 64 := by
  have hj : ∀ row : List Nat, (joinS row).length ≤ 5 * row.length := by
    intro row
    induction row with
    | nil => simp [joinS]
    | cons n r ih =>
      have := (hexT_len n).2
      cases r with
      | nil => simp [joinS]; omega
      | cons m r => simp [joinS] at ih ⊢; omega
  obtain ⟨-, hl, -⟩ := pairs_bytes 8 a (by omega)
  have h3 := (gapN_inv (pairs a) 8).2.2
  unfold textG gapS
  generalize pairs a = row at *
  have h1 := hj row
  have h2 := hj (row.take (gapN row 8).1)
  have h4 := hj (row.drop (gapN row 8).2.1)
  rw [List.length_take] at h2
  rw [List.length_drop] at h4
  split
  · omega
  · simp; omega

/-! a dotted text -/
theorem itoa_all : ∀ c : Fin 256, numS (Lib.itoa (c.1 : Int)) 255 = some (c.1 : Int) ∧ (46 : UInt8) ∉ Lib.itoa (c.1 : Int) ∧ (58 : UInt8) ∉ Lib.itoa (c.1 : Int) ∧ (47 : UInt8) ∉ Lib.itoa (c.1 : Int) := by decide +kernel
theorem itoa_b (c : UInt8) : numS (Lib.itoa (c.toNat : Int)) 255 = some (c.toNat : Int) ∧ (46 : UInt8) ∉ Lib.itoa (c.toNat : Int) ∧ (58 : UInt8) ∉ Lib.itoa (c.toNat : Int) ∧ (47 : UInt8) ∉ Lib.itoa (c.toNat : Int) := itoa_all ⟨c.toNat, c.toNat_lt⟩
theorem num_bits : ∀ n : Fin 129, numS (Lib.itoa (n.1 : Int)) 128 = some (n.1 : Int) := by decide +kernel
theorem num_bits4 : ∀ n : Fin 33, numS (Lib.itoa (n.1 : Int)) 32 = some (n.1 : Int) := by decide +kernel
theorem dotS_next (k : Nat) (c : UInt8) (r : List UInt8) : dotS (k + 2) (Lib.itoa (c.toNat : Int) ++ 46 :: r) = (dotS (k + 1) r).map (c :: ·) := by
  rw [dotS, cut_at (itoa_b c).2.1]
  dsimp only
  rw [(itoa_b c).1]
  dsimp only
  rw [if_neg (by simp), Int.toNat_natCast, UInt8.ofNat_toNat]
theorem dotS_last (c : UInt8) : dotS 1 (Lib.itoa (c.toNat : Int)) = some [c] := by
  rw [dotS, cut_free (itoa_b c).2.1]
  dsimp only
  rw [(itoa_b c).1]
  dsimp only
  rw [if_neg (by simp), Int.toNat_natCast, UInt8.ofNat_toNat]
  rfl
theorem text4_is {a : List UInt8} {b0 b1 b2 b3 : UInt8} (h : lastS a = [b0, b1, b2, b3]) :
    text4 a = Lib.itoa (b0.toNat : Int) ++ 46 :: (Lib.itoa (b1.toNat : Int) ++ 46 :: (Lib.itoa (b2.toNat : Int) ++ 46 :: Lib.itoa (b3.toNat : Int))) := by
  unfold text4
  rw [h]
  simp [rowT, ints]
theorem four_parts {l : List UInt8} (h : l.length = 4) : ∃ b0 b1 b2 b3, l = [b0, b1, b2, b3] := by
  match l, h with
  | [b0, b1, b2, b3], _ => exact ⟨b0, b1, b2, b3, rfl⟩
theorem parse_four (a : List UInt8) (ha : a.length = 16) (hf : fourS a = true) : parseS (text4 a) = some a ∧ (47 : UInt8) ∉ text4 a ∧ ¬ 0 ≤ Lib.indexByte (text4 a) 58 := by
  obtain ⟨b0, b1, b2, b3, hb⟩ := four_parts (lastS_len ha)
  have ht := text4_is hb
  have h0 := itoa_b b0
  have h1 := itoa_b b1
  have h2 := itoa_b b2
  have h3 := itoa_b b3
  have h58 : (58 : UInt8) ∉ text4 a := by
    rw [ht]
    simp only [List.mem_append, List.mem_cons, not_or]
    exact ⟨h0.2.2.1, by decide, h1.2.2.1, by decide, h2.2.2.1, by decide, h3.2.2.1⟩
  have h47 : (47 : UInt8) ∉ text4 a := by
    rw [ht]
    simp only [List.mem_append, List.mem_cons, not_or]
    exact ⟨h0.2.2.2, by decide, h1.2.2.2, by decide, h2.2.2.2, by decide, h3.2.2.2⟩
  have hneg : ¬ 0 ≤ Lib.indexByte (text4 a) 58 := by rw [ib_free h58]; omega
  refine ⟨?_, h47, hneg⟩
  unfold parseS
  rw [if_neg hneg, ht, dotS_next, dotS_next, dotS_next, dotS_last]
  unfold fourS at hf
  rw [beq_iff_eq, hb] at hf
  simp only [Option.map_some]
  rw [← hf]

/-! Cidrs -/
theorem maskS_app : ∀ (x y : List UInt8) (n : Nat), n < 8 * x.length → maskS (x ++ y) n = maskS x n ++ List.replicate y.length 0
  | [], _, _, h => by simp at h
  | c :: x, y, n, h => by
    rw [List.cons_append, maskS, maskS]
    split
    · simp [List.length_append, ← List.replicate_append_replicate]
    · simp only [List.length_cons] at h
      rw [maskS_app x y (n - 8) (by omega)]
      rfl
theorem mask_ff : ∀ n : Fin 96, maskS [0, 0, 0, 0, 0, 0, 0, 0, 0, 0, 255, 255] n.1 ≠ [0, 0, 0, 0, 0, 0, 0, 0, 0, 0, 255, 255] := by decide +kernel
theorem four_bits {a : List UInt8} (hf : fourS a = true) {n : Nat} (h : a = maskS a n) : 96 ≤ n := by
  rcases Nat.lt_or_ge n 96 with hn | hn
  · exfalso
    unfold fourS at hf
    rw [beq_iff_eq] at hf
    unfold of4S at hf
    rw [hf, maskS_app _ _ n (by simpa using hn)] at h
    exact mask_ff ⟨n, hn⟩ (List.append_inj h (by rw [maskS_length])).1.symm
  · exact hn
def ctext (a : List UInt8) : List UInt8 := if fourS a then text4 a else textG a
theorem ctext_len (a : List UInt8) (ha : a.length = 16) : (ctext a).length ≤ 64 := by
  unfold ctext
  split
  · have := text4_len a ha; omega
  · exact textG_len a ha
theorem back (c : C) (hc : c.a.length = 16) (hr : rightS c = true) : cparseS (cprintS (ctext c.a) c) = some c := by
  have hr2 := hr
  unfold rightS at hr2
  rw [beq_iff_eq] at hr2
  obtain ⟨a, n⟩ := c
  unfold ofS at hr2
  injection hr2 with h1 h2
  have hle := bitN_le n
  have hn : ((bitN n : Nat) : Int) = n := h2.symm
  have hof : ofS a n = ⟨a, n⟩ := by unfold ofS; rw [← h1, ← h2]
  generalize bitN n = k at *
  subst hn
  clear h2 hr
  unfold cparseS cprintS ctext bitsI
  dsimp only at hc ⊢
  cases hf : fourS a with
  | true =>
    have hk := four_bits hf h1
    obtain ⟨p1, p2, p3⟩ := parse_four a hc hf
    rw [if_pos rfl, if_pos ⟨rfl, by omega⟩]
    have hcut : Lib.cut (text4 a ++ ([47] ++ Lib.itoa ((k : Int) - 96))) [47] = (text4 a, Lib.itoa ((k : Int) - 96), true) := cut_at p2
    rw [hcut]
    dsimp only
    rw [p1]
    dsimp only
    rw [if_neg p3, if_neg p3, show (k : Int) - 96 = ((k - 96 : Nat) : Int) by omega, num_bits4 ⟨k - 96, by omega⟩]
    dsimp only
    rw [show (96 : Int) + ((k - 96 : Nat) : Int) = (k : Int) by omega, hof]
  | false =>
    obtain ⟨p1, p2, p3⟩ := parse_text a hc
    rw [if_neg (by simp), if_neg (fun h => by cases h.1)]
    have hcut : Lib.cut (textG a ++ ([47] ++ Lib.itoa (k : Int))) [47] = (textG a, Lib.itoa (k : Int), true) := cut_at p2
    rw [hcut]
    dsimp only
    rw [p1]
    dsimp only
    rw [if_pos p3, if_pos p3, num_bits ⟨k, by omega⟩]
    dsimp only
    rw [Int.zero_add, hof]
end Go.Proofs.YtlpondbcnfaggaaGreatDoor.Ad

/-
  The document's own reading of addresses (hagioscoperef03), in plain words, and that it answers as package addr does. No condition.
-/
namespace Go.Proofs.YtlpondbcnfaggaaGreatDoor.Ad
open Go Go.Proofs.YtlpondbcnfaggaaGreatDoor.Asc Go.Proofs.YtlpondbcnfaggaaGreatDoor.Wd

/-- what stands between signs -/
def splitS (c : UInt8) : List UInt8 → List (List UInt8)
  | [] => [[]]
  | x :: l => if x = c then [] :: splitS c l else (x :: (splitS c l).headD []) :: (splitS c l).tail
theorem splitS_ne (c : UInt8) : ∀ l, splitS c l ≠ []
  | [] => by simp [splitS]
  | x :: l => by unfold splitS; split <;> simp
theorem splitS_free {c : UInt8} : ∀ {l : List UInt8}, c ∉ l → splitS c l = [l]
  | [], _ => rfl
  | x :: l, h => by
    unfold splitS
    rw [if_neg (fun e => h (by simp [e])), splitS_free (l := l) (fun hm => h (by simp [hm]))]
    rfl
theorem splitS_at {c : UInt8} : ∀ {a b : List UInt8}, c ∉ a → splitS c (a ++ c :: b) = a :: splitS c b
  | [], b, _ => by simp [splitS]
  | x :: a, b, h => by
    rw [List.cons_append, splitS, if_neg (fun e => h (by simp [e])), splitS_at (a := a) (fun hm => h (by simp [hm]))]
    rfl
theorem first_of {c : UInt8} : ∀ (l : List UInt8), c ∉ l ∨ ∃ a b, l = a ++ c :: b ∧ c ∉ a
  | [] => .inl (by simp)
  | x :: l => by
    by_cases hx : x = c
    · exact .inr ⟨[], l, by simp [hx], by simp⟩
    · rcases first_of (c := c) l with h | ⟨a, b, rfl, h⟩
      · exact .inl (by simp; exact ⟨fun e => hx e.symm, h⟩)
      · exact .inr ⟨x :: a, b, rfl, by simp; exact ⟨fun e => hx e.symm, h⟩⟩
/-- one byte more -/
theorem splitS_snoc (c : UInt8) : ∀ (l : List UInt8) (x : UInt8), splitS c (l ++ [x]) = if x = c then splitS c l ++ [[]] else (splitS c l).dropLast ++ [(splitS c l).getLastD [] ++ [x]]
  | [], x => by by_cases hx : x = c <;> simp [splitS, hx]
  | y :: l, x => by
    have ih := splitS_snoc c l x
    have hne := splitS_ne c l
    rw [List.cons_append, splitS, splitS, ih]
    cases hs : splitS c l with
    | nil => exact absurd hs hne
    | cons p r =>
      by_cases hy : y = c
      · rw [if_pos hy, if_pos hy]
        split
        · rfl
        · simp
      · rw [if_neg hy, if_neg hy]
        by_cases hx : x = c
        · rw [if_pos hx, if_pos hx]
          simp
        · rw [if_neg hx, if_neg hx]
          cases r with
          | nil => simp
          | cons q r => simp

def numsS : List (List UInt8) → Option (List UInt8)
  | [] => some []
  | p :: r => match numS p 255 with
    | none => none
    | some n => (numsS r).map (UInt8.ofNat n.toNat :: ·)
def dotR (l : List UInt8) : Option (List UInt8) := if (splitS 46 l).length = 4 then numsS (splitS 46 l) else none
theorem dotS_split : ∀ (k : Nat) (l : List UInt8), dotS (k + 1) l = if (splitS 46 l).length = k + 1 then numsS (splitS 46 l) else none
  | k, l => by
    rcases first_of (c := 46) l with h | ⟨a, b, rfl, h⟩
    · rw [splitS_free h, dotS, cut_free h]
      dsimp only
      cases hn : numS l 255 with
      | none => simp [numsS, hn]
      | some n =>
        cases k with
        | zero => simp [numsS, hn, dotS]
        | succ k => simp
    · rw [splitS_at h, dotS, cut_at h]
      dsimp only
      have hne := List.length_pos_iff.2 (splitS_ne 46 b)
      cases hn : numS a 255 with
      | none => simp [numsS, hn]
      | some n =>
        cases k with
        | zero =>
          have h1 : ¬ (splitS 46 b).length + 1 = 0 + 1 := by omega
          rw [List.length_cons, if_neg h1]
          rfl
        | succ k =>
          have ih := dotS_split k b
          simp only [numsS, hn, List.length_cons]
          rw [if_neg (by simp), ih]
          by_cases hl : (splitS 46 b).length = k + 1
          · rw [if_pos hl, if_pos (by omega)]
          · rw [if_neg hl, if_neg (by omega)]
            rfl
  termination_by k _ => k
theorem dotR_eq (l : List UInt8) : dotR l = dotS 4 l := (dotS_split 3 l).symm

def grpsR (last : Bool) : List (List UInt8) → Option (List UInt8)
  | [] => some []
  | p :: r => match hexS p with
    | some n => (grpsR last r).map ([UInt8.ofNat (n.toNat / 256), UInt8.ofNat (n.toNat % 256)] ++ ·)
    | none => match dotR p with
      | none => none
      | some d => if last = true ∧ r = [] then some d else none
def groupsR (l : List UInt8) (last : Bool) : Option (List UInt8) := if l = [] then some [] else grpsR last (splitS 58 l)
theorem sideGo_split (last : Bool) : ∀ (f : Nat) (acc l : List UInt8), l.length < f → sideGo last f acc l = (grpsR last (splitS 58 l)).bind fun b => if 16 < acc.length + b.length then none else some (acc ++ b)
  | 0, _, _, h => by omega
  | f + 1, acc, l, hf => by
    rcases first_of (c := 58) l with h | ⟨a, b, rfl, h⟩
    · unfold sideGo
      rw [splitS_free h, cut_free h]
      dsimp only
      unfold grpS
      simp only [grpsR]
      cases hx : hexS l with
      | some n => simp
      | none =>
        cases last with
        | false => cases dotR l <;> simp
        | true =>
          simp only [Bool.not_false, Bool.and_true, if_true, dotR_eq]
          cases dotS 4 l <;> simp
    · have hne := splitS_ne 58 b
      unfold sideGo
      rw [splitS_at h, cut_at h]
      dsimp only
      unfold grpS
      simp only [grpsR]
      cases hx : hexS a with
      | none => cases dotR a <;> simp [hne]
      | some n =>
        dsimp only
        simp only [List.length_append, List.length_cons] at hf
        by_cases h16 : 16 < acc.length + 2
        · rw [if_pos (by simpa using h16)]
          cases grpsR last (splitS 58 b) with
          | none => rfl
          | some x => simp; omega
        · rw [if_neg (by simpa using h16), if_pos trivial, sideGo_split last f _ b (by omega)]
          cases grpsR last (splitS 58 b) with
          | none => rfl
          | some x =>
            simp only [Option.map_some, Option.bind_some, List.length_append, List.length_cons, List.length_nil, List.append_assoc, Nat.add_assoc]
theorem sideS_split (l : List UInt8) (last : Bool) : sideS l last = (groupsR l last).bind fun b => if 16 < b.length then none else some b := by
  unfold sideS groupsR
  split
  · rfl
  · rw [sideGo_split last _ [] l (by omega)]
    simp

theorem grps_nil (last : Bool) : ∀ {L : List (List UInt8)}, [] ∈ L → grpsR last L = none
  | p :: r, h => by
    have h0 : hexS [] = none := rfl
    have h1 : dotR [] = none := rfl
    unfold grpsR
    rcases List.mem_cons.1 h with rfl | h
    · rw [h0, h1]
    · have ih := grps_nil last h
      have hr : r ≠ [] := by rintro rfl; cases h
      cases hexS p with
      | some n => simp [ih]
      | none => cases dotR p <;> simp [hr]
theorem split_two : ∀ (u v : List UInt8), [] ∈ (splitS 58 (u ++ 58 :: 58 :: v)).tail
  | [], v => by simp [splitS]
  | x :: u, v => by
    have ih := split_two u v
    rw [List.cons_append]
    unfold splitS
    split
    · exact List.mem_of_mem_tail ih
    · exact ih
/-- two colons at a place -/
def occ (l : List UInt8) (j : Nat) : Bool := l[j]? == some 58 && l[j + 1]? == some 58
theorem occ_is {l : List UInt8} {j : Nat} (h : occ l j = true) : l[j]? = some 58 ∧ l[j + 1]? = some 58 := by simpa [occ] using h
theorem occ_parts {l : List UInt8} {j : Nat} (h : occ l j = true) : l = l.take j ++ 58 :: 58 :: l.drop (j + 2) := by
  obtain ⟨h1, h2⟩ := occ_is h
  have e1 := (List.getElem?_eq_some_iff.1 h1)
  have e2 := (List.getElem?_eq_some_iff.1 h2)
  obtain ⟨l1, e1⟩ := e1
  obtain ⟨l2, e2⟩ := e2
  conv => lhs; rw [← List.take_append_drop j l]
  rw [List.drop_eq_getElem_cons l1, e1, List.drop_eq_getElem_cons l2, e2]
theorem occ_at (l : List UInt8) (j : Nat) : Lib.occAt l [58, 58] j = occ l j := by
  unfold Lib.occAt occ
  rw [show l[j]? = (l.drop j)[0]? by simp, show l[j + 1]? = (l.drop j)[1]? by simp]
  generalize l.drop j = d
  match d with
  | [] => rfl
  | [a] => simp [List.isPrefixOf]
  | a :: b :: r => rw [pre_two]; simp
theorem occ_end {l : List UInt8} {j : Nat} (hj : l.length ≤ j) : occ l j = false := by
  unfold occ
  rw [List.getElem?_eq_none hj]
  rfl
theorem cut_none {l : List UInt8} (h : ∀ j, occ l j = false) : Lib.cut l [58, 58] = (l, [], false) := by
  unfold Lib.cut
  rw [Lib.index_none (fun j hj => by rw [occ_at l j]; exact h j)]
  rfl
theorem cut_first {l : List UInt8} {j : Nat} (h : occ l j = true) (hn : ∀ i, i < j → occ l i = false) : Lib.cut l [58, 58] = (l.take j, l.drop (j + 2), true) := by
  have hj : j ≤ l.length := by
    rcases Nat.lt_or_ge j l.length with h1 | h1
    · omega
    · rw [occ_end h1] at h; cases h
  unfold Lib.cut
  rw [Lib.index_first hj (by rw [occ_at l j]; exact h) (fun i hi => by rw [occ_at l i]; exact hn i hi), if_pos (by omega)]
  simp
theorem dig_free {l : List UInt8} {a n : Int} (h : foldv 10 l a = some n) : (58 : UInt8) ∉ l := by
  induction l generalizing a with
  | nil => simp
  | cons c r ih =>
    unfold foldv at h
    cases hc : hexI (c.toNat : Int) with
    | none => rw [hc] at h; cases h
    | some d =>
      rw [hc] at h
      dsimp only at h
      split at h
      · intro hm
        rcases List.mem_cons.1 hm with e | e
        · rw [← e, show hexI (((58 : UInt8).toNat : Nat) : Int) = none by decide] at hc
          cases hc
        · exact ih h e
      · cases h
theorem num_free {l : List UInt8} {m n : Int} (h : numS l m = some n) : (58 : UInt8) ∉ l := by
  unfold numS at h
  split at h
  · cases h
  · split at h
    · cases h
    · rename_i k hk
      unfold digitsS at hk
      split at hk
      · cases hk
      · exact dig_free hk
theorem dotS_colon : ∀ (k : Nat) (l b : List UInt8), dotS (k + 1) l = some b → (58 : UInt8) ∉ l
  | k, l, b, h => by
    rcases first_of (c := 46) l with h1 | ⟨a, r, rfl, h1⟩
    · rw [dotS, cut_free h1] at h
      dsimp only at h
      cases hn : numS l 255 with
      | none => rw [hn] at h; cases h
      | some n => exact num_free hn
    · rw [dotS, cut_at h1] at h
      dsimp only at h
      cases hn : numS a 255 with
      | none => rw [hn] at h; cases h
      | some n =>
        rw [hn] at h
        dsimp only at h
        cases k with
        | zero => simp at h
        | succ k =>
          rw [if_neg (by simp)] at h
          cases hd : dotS (k + 1) r with
          | none => rw [hd] at h; cases h
          | some b' =>
            have ih := dotS_colon k r b' hd
            simp only [List.mem_append, List.mem_cons, not_or]
            exact ⟨num_free hn, by decide, ih⟩
  termination_by k _ _ => k

/-- the document's reading, case by case, is package addr's -/
theorem parse_dot {l d : List UInt8} (h : dotR l = some d) : parseS l = some (of4S d) := by
  rw [dotR_eq] at h
  have hf := dotS_colon 3 l d h
  unfold parseS
  rw [ib_free hf, if_neg (by omega), h]
  rfl
theorem parse_plain {l : List UInt8} (h : dotR l = none) (ho : ∀ j, occ l j = false) : parseS l = (groupsR l true).bind fun x => if x.length = 16 then some x else none := by
  by_cases hm : (58 : UInt8) ∈ l
  · unfold parseS
    rw [if_pos (ib_mem hm)]
    unfold groupsS
    rw [cut_none ho, sideS_split]
    dsimp only
    rw [if_neg (by simp)]
    cases groupsR l true with
    | none => rfl
    | some x =>
      simp only [Option.bind_some]
      by_cases h1 : 16 < x.length
      · rw [if_pos h1, if_neg (by omega)]
      · rw [if_neg h1]
        dsimp only
        by_cases h2 : x.length = 16
        · rw [if_neg (by omega), if_pos h2]
        · rw [if_pos (by omega), if_neg h2]
  · unfold parseS
    rw [ib_free hm, if_neg (by omega), ← dotR_eq, h]
    unfold groupsR
    split
    · rfl
    · rw [splitS_free hm]
      simp only [grpsR, h]
      cases hexS l with
      | none => rfl
      | some n => rfl
theorem parse_short {l : List UInt8} {j : Nat} (ho : occ l j = true) (hn : ∀ i, i ≠ j → occ l i = false) :
    parseS l = match groupsR (l.take j) false, groupsR (l.drop (j + 2)) true with
      | some x, some y => if 14 < x.length + y.length then none else some (x ++ List.replicate (16 - x.length - y.length) 0 ++ y)
      | _, _ => none := by
  have hm : (58 : UInt8) ∈ l := List.mem_of_getElem? (occ_is ho).1
  unfold parseS
  rw [if_pos (ib_mem hm)]
  unfold groupsS
  rw [cut_first ho (fun i hi => hn i (by omega))]
  dsimp only
  rw [if_pos rfl]
  unfold shortS
  rw [sideS_split, sideS_split]
  cases groupsR (l.take j) false with
  | none => rfl
  | some x =>
    simp only [Option.bind_some]
    by_cases hx : 16 < x.length
    · rw [if_pos hx]
      cases groupsR (l.drop (j + 2)) true with
      | none => rfl
      | some y => dsimp only; rw [if_pos (by omega)]
    · rw [if_neg hx]
      cases groupsR (l.drop (j + 2)) true with
      | none => rfl
      | some y =>
        simp only [Option.bind_some]
        by_cases hy : 16 < y.length
        · rw [if_pos hy, if_pos (by omega)]
        · rw [if_neg hy]
theorem parse_twice {l : List UInt8} {j k : Nat} (hj : occ l j = true) (hk : occ l k = true) (hjk : j < k) (hn : ∀ i, i < j → occ l i = false) : parseS l = none := by
  have hm : (58 : UInt8) ∈ l := List.mem_of_getElem? (occ_is hj).1
  have hs : sideS (l.drop (j + 2)) true = none := by
    rw [sideS_split]
    unfold groupsR
    have hne : l.drop (j + 2) ≠ [] := by
      intro e
      have h1 := (List.getElem?_eq_some_iff.1 (occ_is hk).2).1
      rw [List.drop_eq_nil_iff] at e
      omega
    rw [if_neg hne, grps_nil]
    · rfl
    · by_cases h1 : k = j + 1
      · have h2 := (occ_is hk).2
        rw [h1] at h2
        obtain ⟨h3, h4⟩ := List.getElem?_eq_some_iff.1 h2
        rw [List.drop_eq_getElem_cons h3, h4]
        simp [splitS]
      · have ho : occ (l.drop (j + 2)) (k - (j + 2)) = true := by
          unfold occ
          rw [List.getElem?_drop, List.getElem?_drop, show j + 2 + (k - (j + 2)) = k by omega, show j + 2 + (k - (j + 2) + 1) = k + 1 by omega]
          exact hk
        rw [occ_parts ho]
        exact List.mem_of_mem_tail (split_two _ _)
  unfold parseS
  rw [if_pos (ib_mem hm)]
  unfold groupsS
  rw [cut_first hj hn]
  dsimp only
  rw [if_pos rfl]
  unfold shortS
  rw [hs]
  cases sideS (l.take j) false <;> rfl
end Go.Proofs.YtlpondbcnfaggaaGreatDoor.Ad
