/-
  Contracts of package ascii's digits, Number and Hex.
-/
import Derived.Test.YtgbhnjkigjecmaaGreatDoorQ02
import Derived.Test.YtgbhnjkigjecmaaGreatDoorShelf
import Derived.Lib.AppendIntMem
namespace Go.Proofs.YtgbhnjkigjecmaaGreatDoor.Asc
open Go.RowKit Go.Proofs.YtgbhnjkigjecmaaGreatDoor.Wd

/-- a number, or none, as both results -/
def dTup : Option Int → Value
  | none => .tuple #[.int .i64 0, .bool false]
  | some n => .tuple #[.int .i64 n, .bool true]
theorem ret_no {o : Option Int} (h : o = none) : Ending.returned (.tuple #[.int .i64 0, .bool false]) = .returned (dTup o) := by rw [h]; rfl
theorem ret_yes {o : Option Int} {n : Int} (h : o = some n) : Ending.returned (.tuple #[.int .i64 n, .bool true]) = .returned (dTup o) := by rw [h]; rfl

theorem fold_none (B : Int) (s : ByteArray) (pos : Nat) (n : Int) (h : pos < s.size) (hc : hexI ((s[pos]'h).toNat : Int) = none) : foldv B ((bs s).drop pos) n = none := by
  rw [bs_drop s pos h, foldv, hc]
theorem fold_big (B : Int) (s : ByteArray) (pos : Nat) (n d : Int) (h : pos < s.size) (hc : hexI ((s[pos]'h).toNat : Int) = some d) (hd : ¬ d < B) : foldv B ((bs s).drop pos) n = none := by
  rw [bs_drop s pos h, foldv, hc]; simp only [if_neg hd]
theorem fold_on (B : Int) (s : ByteArray) (pos : Nat) (n d : Int) (h : pos < s.size) (hc : hexI ((s[pos]'h).toNat : Int) = some d) (hd : d < B) : foldv B ((bs s).drop pos) n = foldv B ((bs s).drop (pos + 1)) (n * B + d) := by
  rw [bs_drop s pos h, foldv, hc]; simp only [if_pos hd]
theorem digits_in (B : Int) (M : Nat) (s : ByteArray) (h0 : 0 < s.size) (hM : s.size ≤ M) : digitsS B M (bs s) = foldv B (bs s) 0 := by
  rw [digitsS, bs_length, if_neg (by omega)]

def DigIn (B : Nat) (Bi : Int) (s : ByteArray) (w : World) (x : Value) (w' : World) : Prop :=
  ∃ (pos : Nat) (n : Int), w' = w.iter s pos ∧ x = .int .i64 n ∧ pos ≤ s.size ∧ 0 ≤ n ∧ n < ((B ^ pos : Nat) : Int) ∧ foldv Bi ((bs s).drop pos) n = foldv Bi (bs s) 0

theorem pow_bd10 (pos : Nat) (h : pos < 18) : (((10 : Nat) ^ pos : Nat) : Int) ≤ 100000000000000000 := by
  have h1 : (10 : Nat) ^ pos ≤ 10 ^ 17 := Nat.pow_le_pow_right (by omega) (by omega)
  have h2 : (10 : Nat) ^ 17 = 100000000000000000 := by decide
  omega
set_option maxHeartbeats 1000000 in
theorem digits10_in (s : ByteArray) (w : World) (h0 : 0 < s.size) (hM : s.size ≤ 18) :
    Calls Tryz.prog 145 #[.string s, .int .i64 10, .int .i64 18] w fun e w' => e = .returned (dTup (digitsS 10 18 (bs s))) ∧ Below w.heap.size w w' := by
  have E := Lib.hid (digits_in 10 18 s h0 hM)
  have hne : s.toList.isEmpty = false := by
    rw [Lib.toList_data]
    have := bs_length s
    cases h : s.data.toList with
    | nil => rw [bs, h] at this; simp at this; omega
    | cons a l => rfl
  have hne2 : ¬ s.toList = [] := by
    intro h; rw [h] at hne; cases hne
  go_enter Tryz.func145, Tryz.ntmps145
  go_wp2
  clear hne hne2
  go_loopw [8] (fun x w' => DigIn 10 10 s w x w') (fun _ w' => s.size - w'.iterPos w.heap.size)
  case atStart => exact ⟨0, 0, rfl, rfl, Nat.zero_le _, Int.le_refl _, by simp, rfl⟩
  case round =>
    obtain ⟨pos, n, rfl, rfl, hle, hn0, hn1, hf⟩ := hrel
    have HF := Lib.hid hf
    clear hf
    by_cases hp : pos < s.size
    · obtain ⟨hr, h1⟩ := at_hex s pos hp
      have hpw := pow_bd10 pos (by omega)
      have hnx : ∀ ty, (Instr.next (.pointer (some ⟨w.heap.size, 0, none⟩)) true ty).run Tryz.prog (w.iter s pos) = _ := fun ty => run_next_any w s pos ty hp
      cases hc : hexI ((s[pos]'hp).toNat : Int) with
      | none =>
        have HC := Lib.hid hc
        rw [hc] at hr
        have HR := Lib.hid hr
        clear hr hc h1
        go_wp2_with (go_at_call 161; refine (digit_none _ _ HR.out).mono ?_; rintro e w' ⟨rfl, rfl⟩)
        go_ret2
        exact ⟨ret_no (by rw [E.out, ← HF.out]; exact fold_none _ s pos n hp HC.out), below_iter _ _ _⟩
      | some d =>
        have h1' := h1 d hc
        rw [h1'] at hnx
        have hb := hex_bd hc
        obtain ⟨hb0, hb1⟩ := hb
        have HC := Lib.hid hc
        rw [hc] at hr
        have HR := Lib.hid hr
        clear hr hc h1 h1'
        have hn2 : n ≤ 100000000000000000 - 1 := by omega
        by_cases hd : d < 10
        · have HN := Lib.hid (show n * 10 + d < (((10 : Nat) ^ (pos + 1) : Nat) : Int) by rw [Nat.pow_succ]; omega)
          clear hn1 hpw
          go_wp2_with (go_at_call 161; refine (digit_some _ _ _ HR.out).mono ?_; rintro e w' ⟨rfl, rfl⟩)
          go_roundw
          case rel => exact ⟨pos + 1, n * 10 + d, rfl, by go_num, hp, by omega, HN.out, by rw [← HF.out]; exact (fold_on _ s pos n d hp HC.out hd).symm⟩
          case measure => simp; omega
        · have hd' : 10 ≤ d := by omega
          clear hn1 hpw
          go_wp2_with (go_at_call 161; refine (digit_some _ _ _ HR.out).mono ?_; rintro e w' ⟨rfl, rfl⟩)
          go_ret2
          exact ⟨ret_no (by rw [E.out, ← HF.out]; exact fold_big _ s pos n d hp HC.out (by omega)), below_iter _ _ _⟩
    · have hnx := fun ty => run_next_end (P := Tryz.prog) w s pos ty hp
      clear hn1
      go_wp2
      go_ret2
      exact ⟨ret_yes (by rw [E.out, ← HF.out, bs_end s pos hp]; rfl), below_iter _ _ _⟩

theorem digits10_any (s : ByteArray) (w : World) (hs : s.size ≤ maxLen) :
    Calls Tryz.prog 145 #[.string s, .int .i64 10, .int .i64 18] w fun e w' => e = .returned (dTup (digitsS 10 18 (bs s))) ∧ Below w.heap.size w w' := by
  unfold maxLen at hs
  by_cases h0 : s.size = 0
  · have e : s = ⟨#[]⟩ := bs_inj (bs_nil s h0)
    subst e
    go_enter Tryz.func145, Tryz.ntmps145
    go_wp2
    go_ret2
    exact ⟨ret_no rfl, Below.refl _ _⟩
  · by_cases hM : s.size ≤ 18
    · exact digits10_in s w (by omega) hM
    · have hE := Lib.hid (show digitsS 10 18 (bs s) = none by rw [digitsS, bs_length, if_pos (by omega)])
      have hne2 : ¬ s.toList = [] := by
        rw [Lib.toList_data]
        intro h
        exact h0 (by rw [← bs_length, bs, h]; rfl)
      have hne : s.toList.isEmpty = false := by simpa using hne2
      have hgt : (18 : Int) < (s.size : Int) := by omega
      go_enter Tryz.func145, Tryz.ntmps145
      go_wp2
      go_ret2
      exact ⟨ret_no hE.out, Below.refl _ _⟩

theorem pow_bd16 (pos : Nat) (h : pos < 4) : (((16 : Nat) ^ pos : Nat) : Int) ≤ 4096 := by
  have h1 : (16 : Nat) ^ pos ≤ 16 ^ 3 := Nat.pow_le_pow_right (by omega) (by omega)
  have h2 : (16 : Nat) ^ 3 = 4096 := by decide
  omega
set_option maxHeartbeats 1000000 in
theorem digits16_in (s : ByteArray) (w : World) (h0 : 0 < s.size) (hM : s.size ≤ 4) :
    Calls Tryz.prog 145 #[.string s, .int .i64 16, .int .i64 4] w fun e w' => e = .returned (dTup (digitsS 16 4 (bs s))) ∧ Below w.heap.size w w' := by
  have E := Lib.hid (digits_in 16 4 s h0 hM)
  have hne : s.toList.isEmpty = false := by
    rw [Lib.toList_data]
    have := bs_length s
    cases h : s.data.toList with
    | nil => rw [bs, h] at this; simp at this; omega
    | cons a l => rfl
  have hne2 : ¬ s.toList = [] := by
    intro h; rw [h] at hne; cases hne
  go_enter Tryz.func145, Tryz.ntmps145
  go_wp2
  clear hne hne2
  go_loopw [8] (fun x w' => DigIn 16 16 s w x w') (fun _ w' => s.size - w'.iterPos w.heap.size)
  case atStart => exact ⟨0, 0, rfl, rfl, Nat.zero_le _, Int.le_refl _, by simp, rfl⟩
  case round =>
    obtain ⟨pos, n, rfl, rfl, hle, hn0, hn1, hf⟩ := hrel
    have HF := Lib.hid hf
    clear hf
    by_cases hp : pos < s.size
    · obtain ⟨hr, h1⟩ := at_hex s pos hp
      have hpw := pow_bd16 pos (by omega)
      have hnx : ∀ ty, (Instr.next (.pointer (some ⟨w.heap.size, 0, none⟩)) true ty).run Tryz.prog (w.iter s pos) = _ := fun ty => run_next_any w s pos ty hp
      cases hc : hexI ((s[pos]'hp).toNat : Int) with
      | none =>
        have HC := Lib.hid hc
        rw [hc] at hr
        have HR := Lib.hid hr
        clear hr hc h1
        go_wp2_with (go_at_call 161; refine (digit_none _ _ HR.out).mono ?_; rintro e w' ⟨rfl, rfl⟩)
        go_ret2
        exact ⟨ret_no (by rw [E.out, ← HF.out]; exact fold_none _ s pos n hp HC.out), below_iter _ _ _⟩
      | some d =>
        have h1' := h1 d hc
        rw [h1'] at hnx
        have hb := hex_bd hc
        obtain ⟨hb0, hb1⟩ := hb
        have HC := Lib.hid hc
        rw [hc] at hr
        have HR := Lib.hid hr
        clear hr hc h1 h1'
        have hn2 : n ≤ 4096 - 1 := by omega
        by_cases hd : d < 16
        · have HN := Lib.hid (show n * 16 + d < (((16 : Nat) ^ (pos + 1) : Nat) : Int) by rw [Nat.pow_succ]; omega)
          clear hn1 hpw
          go_wp2_with (go_at_call 161; refine (digit_some _ _ _ HR.out).mono ?_; rintro e w' ⟨rfl, rfl⟩)
          go_roundw
          case rel => exact ⟨pos + 1, n * 16 + d, rfl, by go_num, hp, by omega, HN.out, by rw [← HF.out]; exact (fold_on _ s pos n d hp HC.out hd).symm⟩
          case measure => simp; omega
        · have hd' : 16 ≤ d := by omega
          clear hn1 hpw
          go_wp2_with (go_at_call 161; refine (digit_some _ _ _ HR.out).mono ?_; rintro e w' ⟨rfl, rfl⟩)
          go_ret2
          exact ⟨ret_no (by rw [E.out, ← HF.out]; exact fold_big _ s pos n d hp HC.out (by omega)), below_iter _ _ _⟩
    · have hnx := fun ty => run_next_end (P := Tryz.prog) w s pos ty hp
      clear hn1
      go_wp2
      go_ret2
      exact ⟨ret_yes (by rw [E.out, ← HF.out, bs_end s pos hp]; rfl), below_iter _ _ _⟩

theorem digits16_any (s : ByteArray) (w : World) (hs : s.size ≤ maxLen) :
    Calls Tryz.prog 145 #[.string s, .int .i64 16, .int .i64 4] w fun e w' => e = .returned (dTup (digitsS 16 4 (bs s))) ∧ Below w.heap.size w w' := by
  unfold maxLen at hs
  by_cases h0 : s.size = 0
  · have e : s = ⟨#[]⟩ := bs_inj (bs_nil s h0)
    subst e
    go_enter Tryz.func145, Tryz.ntmps145
    go_wp2
    go_ret2
    exact ⟨ret_no rfl, Below.refl _ _⟩
  · by_cases hM : s.size ≤ 4
    · exact digits16_in s w (by omega) hM
    · have hE := Lib.hid (show digitsS 16 4 (bs s) = none by rw [digitsS, bs_length, if_pos (by omega)])
      have hne2 : ¬ s.toList = [] := by
        rw [Lib.toList_data]
        intro h
        exact h0 (by rw [← bs_length, bs, h]; rfl)
      have hne : s.toList.isEmpty = false := by simpa using hne2
      have hgt : (4 : Int) < (s.size : Int) := by omega
      go_enter Tryz.func145, Tryz.ntmps145
      go_wp2
      go_ret2
      exact ⟨ret_no hE.out, Below.refl _ _⟩

theorem hex_any (s : ByteArray) (w : World) (hs : s.size ≤ maxLen) :
    Calls Tryz.prog 162 #[.string s] w fun e w' => e = .returned (dTup (hexS (bs s))) ∧ Below w.heap.size w w' := by
  cases h : hexS (bs s) with
  | none =>
    have H := Lib.hid (show digitsS 16 4 (bs s) = none from h)
    clear h
    go_enter Tryz.func162, Tryz.ntmps162
    go_wp2_with (go_at_call 145; refine (digits16_any _ _ hs).mono ?_; rintro e w' ⟨rfl, hb⟩; rw [H.out, dTup])
    go_ret2
    exact ⟨rfl, hb⟩
  | some n =>
    have H := Lib.hid (show digitsS 16 4 (bs s) = some n from h)
    clear h
    go_enter Tryz.func162, Tryz.ntmps162
    go_wp2_with (go_at_call 145; refine (digits16_any _ _ hs).mono ?_; rintro e w' ⟨rfl, hb⟩; rw [H.out, dTup])
    go_ret2
    exact ⟨rfl, hb⟩

theorem num_zero (l : List UInt8) (most : Int) (h1 : 1 < l.length) (h2 : l[0]? = some 48) : numS l most = none := by rw [numS, if_pos ⟨h1, h2⟩]
theorem num_none (l : List UInt8) (most : Int) (h : digitsS 10 18 l = none) : numS l most = none := by
  rw [numS]; split
  · rfl
  · rw [h]
theorem num_big (l : List UInt8) (most n : Int) (h : digitsS 10 18 l = some n) (hm : most < n) : numS l most = none := by
  rw [numS]; split
  · rfl
  · rw [h]; simp only [if_pos hm]
theorem num_yes (l : List UInt8) (most n : Int) (h0 : ¬ (1 < l.length ∧ l[0]? = some 48)) (h : digitsS 10 18 l = some n) (hm : ¬ most < n) : numS l most = some n := by
  rw [numS, if_neg h0, h]; simp only [if_neg hm]

theorem first_is (s : ByteArray) (h : 0 < s.size) : (bs s)[0]? = some (s[0]'h) := by
  rw [List.getElem?_eq_getElem (by rw [bs_length]; exact h)]; rfl
theorem byte_ne {c : UInt8} {k : Nat} (hk : k < 256) (h : ¬ c = UInt8.ofNat k) : ((c.toNat : Int) == (k : Int)) = false := by
  have : ¬ c.toNat = k := fun e => h (by apply UInt8.toNat.inj; rw [e]; simp; omega)
  simp; omega

set_option maxHeartbeats 1000000 in
theorem number_any (s : ByteArray) (most : Int) (w : World) (hs : s.size ≤ maxLen) :
    Calls Tryz.prog 106 #[.string s, .int .i64 most] w fun e w' => e = .returned (dTup (numS (bs s) most)) ∧ Below w.heap.size w w' := by
  have hs' := hs
  unfold maxLen at hs
  by_cases hz : 1 < s.size ∧ (bs s)[0]? = some 48
  · obtain ⟨h1, h2⟩ := hz
    have h0 : 0 < s.size := by omega
    rw [first_is s h0] at h2
    injection h2 with h2
    have HN := Lib.hid (num_zero (bs s) most (by rw [bs_length]; exact h1) (by rw [first_is s h0, h2]))
    have hb : (((s[0]'h0).toNat : Int) == 48) = true := by rw [h2]; rfl
    clear h2
    go_enter Tryz.func106, Tryz.ntmps106
    go_wp2
    go_ret2
    exact ⟨ret_no HN.out, Below.refl _ _⟩
  · have HZ := Lib.hid hz
    clear hz
    by_cases h1 : 1 < s.size
    · have h0 : 0 < s.size := by omega
      have hb : (((s[0]'h0).toNat : Int) == 48) = false := byte_ne (k := 48) (by omega) (fun e => HZ.out ⟨h1, by rw [first_is s h0, e]; rfl⟩)
      cases h : digitsS 10 18 (bs s) with
      | none =>
        have H := Lib.hid h
        clear h
        go_enter Tryz.func106, Tryz.ntmps106
        go_wp2_with (go_at_call 145; refine (digits10_any _ _ hs').mono ?_; rintro e w' ⟨rfl, hbe⟩; rw [H.out, dTup])
        go_ret2
        exact ⟨ret_no (num_none _ _ H.out), hbe⟩
      | some n =>
        have H := Lib.hid h
        clear h
        by_cases hm : most < n
        · go_enter Tryz.func106, Tryz.ntmps106
          go_wp2_with (go_at_call 145; refine (digits10_any _ _ hs').mono ?_; rintro e w' ⟨rfl, hbe⟩; rw [H.out, dTup])
          go_ret2
          exact ⟨ret_no (num_big _ _ _ H.out hm), hbe⟩
        · go_enter Tryz.func106, Tryz.ntmps106
          go_wp2_with (go_at_call 145; refine (digits10_any _ _ hs').mono ?_; rintro e w' ⟨rfl, hbe⟩; rw [H.out, dTup])
          go_ret2
          exact ⟨ret_yes (num_yes _ _ _ HZ.out H.out (by omega)), hbe⟩
    · have h1' : ¬ (1 : Int) < (s.size : Int) := by omega
      cases h : digitsS 10 18 (bs s) with
      | none =>
        have H := Lib.hid h
        clear h
        go_enter Tryz.func106, Tryz.ntmps106
        go_wp2_with (go_at_call 145; refine (digits10_any _ _ hs').mono ?_; rintro e w' ⟨rfl, hbe⟩; rw [H.out, dTup])
        go_ret2
        exact ⟨ret_no (num_none _ _ H.out), hbe⟩
      | some n =>
        have H := Lib.hid h
        clear h
        by_cases hm : most < n
        · go_enter Tryz.func106, Tryz.ntmps106
          go_wp2_with (go_at_call 145; refine (digits10_any _ _ hs').mono ?_; rintro e w' ⟨rfl, hbe⟩; rw [H.out, dTup])
          go_ret2
          exact ⟨ret_no (num_big _ _ _ H.out hm), hbe⟩
        · go_enter Tryz.func106, Tryz.ntmps106
          go_wp2_with (go_at_call 145; refine (digits10_any _ _ hs').mono ?_; rintro e w' ⟨rfl, hbe⟩; rw [H.out, dTup])
          go_ret2
          exact ⟨ret_yes (num_yes _ _ _ HZ.out H.out (by omega)), hbe⟩
end Go.Proofs.YtgbhnjkigjecmaaGreatDoor.Asc

/-
  What the library's variables hold where a call begins, and what stands of it behind; strings.Cut, strings.Contains, strconv.Itoa so.
-/
namespace Go.Proofs.YtgbhnjkigjecmaaGreatDoor.Ad
open Go.RowKit Go.Proofs.YtgbhnjkigjecmaaGreatDoor.Wd Go.Proofs.YtgbhnjkigjecmaaGreatDoor.Asc

structure Env (B : Nat) (w : World) : Prop where
  max : ∃ m, w.cell? ⟨0, 0, none⟩ = some (.int .i64 m)
  tab : Lib.TabBelow Tryz.prog B w "internal/strconv.uint64pow10" .u64 Lib.pow10Tab
  low : 0 < B
  le : B ≤ w.heap.size
  tz : w.cell? ⟨5, 15, none⟩ = some (.int .u8 4)
  lowz : 5 < B
theorem Env.below {B : Nat} {w w' : World} (h : Env B w) (hb : Below B w w') : Env B w' where
  max := by
    obtain ⟨m, hm⟩ := h.max
    exact ⟨m, (hb.cell (p := ⟨0, 0, none⟩) h.low).trans hm⟩
  tab := h.tab.on hb
  low := h.low
  le := Nat.le_trans h.le hb.size
  tz := (hb.cell (p := ⟨5, 15, none⟩) h.lowz).trans h.tz
  lowz := h.lowz
theorem Env.on {B : Nat} {w w' : World} (h : Env B w) (hb : Below w.heap.size w w') : Env B w' := h.below (hb.mono h.le)

/-- a list of bytes as a string -/
abbrev str (l : List UInt8) : ByteArray := ⟨l.toArray⟩
theorem str_size (l : List UInt8) : (str l).size = l.length := by show l.toArray.size = _; simp
theorem str_bs (s : ByteArray) : str (bs s) = s := by apply bs_inj; rfl

theorem below_grow (B : Nat) (w : World) (q : Nat) (os : Array Obj) (hB : B ≤ w.heap.size) : Below B w (Sort.grow (w.drewN q) os) :=
  ⟨rfl, rfl, rfl, by first | (simp [Sort.grow]; done) | (simp [Sort.grow]; omega), fun i hi => by
    show ((w.drewN q).heap ++ os)[i]? = _
    rw [Array.getElem?_append_left (by show i < w.heap.size; omega)]
    rfl⟩
theorem below_drewN' (w : World) (n : Nat) : Below w.heap.size w (w.drewN n) := ⟨rfl, rfl, rfl, Nat.le_refl _, fun _ _ => rfl⟩
theorem cut_any {B : Nat} (l sep : List UInt8) (w : World) (hE : Env B w) (hl : l.length < 4294967281) :
    Calls Tryz.prog 52 #[.string (str l), .string (str sep)] w fun e w' =>
      e = .returned (.tuple #[.string (str (Lib.cut l sep).1), .string (str (Lib.cut l sep).2.1), .bool (Lib.cut l sep).2.2]) ∧ Below w.heap.size w w' := by
  obtain ⟨m, hm⟩ := hE.max
  refine (Tryz.strings_Cut (str l) (str sep) m w (by rw [str_size]; exact hl) hm).mono ?_
  rintro e w' ⟨he, n, rfl⟩
  exact ⟨he, below_drewN' w n⟩
theorem contains_any (l : List UInt8) (c : UInt8) (w : World) :
    Calls Tryz.prog 62 #[.string (str l), .string (str [c])] w fun e w' => e = .returned (.bool (decide (0 ≤ Lib.indexByte l c))) ∧ w' = w :=
  Tryz.strings_Contains_one (str l) c w
theorem itoa_any {B : Nat} (n : Int) (h0 : -9223372036854775808 ≤ n) (h1 : n ≤ 9223372036854775807) (w : World) (hE : Env B w) :
    Calls Tryz.prog 25 #[.int .i64 n] w fun e w' => e = .returned (.string (str (Lib.itoa n))) ∧ Below w.heap.size w w' := by
  refine (Tryz.strconv_Itoa n h0 h1 w hE.tab.here).mono ?_
  rintro e w' ⟨he, k, os, rfl⟩
  exact ⟨he, below_grow _ w k os (Nat.le_refl _)⟩
end Go.Proofs.YtgbhnjkigjecmaaGreatDoor.Ad
