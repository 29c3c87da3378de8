/-
  Contracts of package ascii's digits, Number and Hex.
-/
import Derived.Test.YtdofipjjodijcaaGreatDoorAscDig
namespace Go.Proofs.YtdofipjjodijcaaGreatDoor.Asc
open Go.RowKit Go.Proofs.YtdofipjjodijcaaGreatDoor.Wd

/-- a number, or none, as both results -/
def dTup : Option Int → Value
  | none => .tuple #[.int .i64 0, .bool false]
  | some n => .tuple #[.int .i64 n, .bool true]
theorem ret_no {o : Option Int} (h : o = none) : Ending.returned (.tuple #[.int .i64 0, .bool false]) = .returned (dTup o) := by rw [h]; rfl
theorem ret_yes {o : Option Int} {n : Int} (h : o = some n) : Ending.returned (.tuple #[.int .i64 n, .bool true]) = .returned (dTup o) := by rw [h]; rfl

theorem fold_none (B : Int) (s : ByteArray) (pos : Nat) (n : Int) (h : pos < s.size) (hc : hexI ((s[pos]'h).toNat : Int) = none) : foldv B ((bs s).drop pos) n = none := by
  rw [bs_drop s pos h, foldv, hc]
theorem fold_big (B : Int) (s : ByteArray) (pos : Nat) (n d : Int) (h : pos < s.size) (hc : hexI ((s[pos]'h).toNat : Int) = some d) (hd : ¬ d < B) : foldv B ((bs s).drop pos) n = none := by
  rw [bs_drop s pos h, foldv, hc]; simp only [if_neg hd]
theorem fold_on (B : Int) (s : ByteArray) (pos : Nat) (n d : Int) (h : pos < s.size) (hc : hexI ((s[pos]'h).toNat : Int) = some d) (hd : d < B) : foldv B ((bs s).drop pos) n = foldv B ((bs s).drop (pos + 1)) (n * B + d) := by
  rw [bs_drop s pos h, foldv, hc]; simp only [if_pos hd]
theorem digits_in (B : Int) (M : Nat) (s : ByteArray) (h0 : 0 < s.size) (hM : s.size ≤ M) : digitsS B M (bs s) = foldv B (bs s) 0 := by
  rw [digitsS, bs_length, if_neg (by omega)]

def DigIn (B : Nat) (Bi : Int) (s : ByteArray) (w : World) (x : Value) (w' : World) : Prop :=
  ∃ (pos : Nat) (n : Int), w' = w.iter s pos ∧ x = .int .i64 n ∧ pos ≤ s.size ∧ 0 ≤ n ∧ n < ((B ^ pos : Nat) : Int) ∧ foldv Bi ((bs s).drop pos) n = foldv Bi (bs s) 0

theorem pow_bd10 (pos : Nat) (h : pos < 18) : (((10 : Nat) ^ pos : Nat) : Int) ≤ 100000000000000000 := by
  have h1 : (10 : Nat) ^ pos ≤ 10 ^ 17 := Nat.pow_le_pow_right (by omega) (by omega)
  have h2 : (10 : Nat) ^ 17 = 100000000000000000 := by decide
  omega
set_option maxHeartbeats 1000000 in
theorem digits10_in (s : ByteArray) (w : World) (h0 : 0 < s.size) (hM : s.size ≤ 18) :
    Calls Tryz.prog 69 #[.string s, .int .i64 10, .int .i64 18] w fun e w' => e = .returned (dTup (digitsS 10 18 (bs s))) ∧ Below w.heap.size w w' := by
  have E := Lib.hid (digits_in 10 18 s h0 hM)
  have hne : s.toList.isEmpty = false := by
    rw [Lib.toList_data]
    have := bs_length s
    cases h : s.data.toList with
    | nil => rw [bs, h] at this; simp at this; omega
    | cons a l => rfl
  have hne2 : ¬ s.toList = [] := by
    intro h; rw [h] at hne; cases hne
  go_enter Tryz.func69, Tryz.ntmps69
  go_wp2
  clear hne hne2
  go_loopw [8] (fun x w' => DigIn 10 10 s w x w') (fun _ w' => s.size - w'.iterPos w.heap.size)
  case atStart => exact ⟨0, 0, rfl, rfl, Nat.zero_le _, Int.le_refl _, by simp, rfl⟩
  case round =>
    obtain ⟨pos, n, rfl, rfl, hle, hn0, hn1, hf⟩ := hrel
    have HF := Lib.hid hf
    clear hf
    by_cases hp : pos < s.size
    · obtain ⟨hr, h1⟩ := at_hex s pos hp
      have hpw := pow_bd10 pos (by omega)
      have hnx : ∀ ty, (Instr.next (.pointer (some ⟨w.heap.size, 0, none⟩)) true ty).run Tryz.prog (w.iter s pos) = _ := fun ty => run_next_any w s pos ty hp
      cases hc : hexI ((s[pos]'hp).toNat : Int) with
      | none =>
        have HC := Lib.hid hc
        rw [hc] at hr
        have HR := Lib.hid hr
        clear hr hc h1
        go_wp2_with (go_at_call 83; refine (digit_none _ _ HR.out).mono ?_; rintro e w' ⟨rfl, rfl⟩)
        go_ret2
        exact ⟨ret_no (by rw [E.out, ← HF.out]; exact fold_none _ s pos n hp HC.out), below_iter _ _ _⟩
      | some d =>
        have h1' := h1 d hc
        rw [h1'] at hnx
        have hb := hex_bd hc
        obtain ⟨hb0, hb1⟩ := hb
        have HC := Lib.hid hc
        rw [hc] at hr
        have HR := Lib.hid hr
        clear hr hc h1 h1'
        have hn2 : n ≤ 100000000000000000 - 1 := by omega
        by_cases hd : d < 10
        · have HN := Lib.hid (show n * 10 + d < (((10 : Nat) ^ (pos + 1) : Nat) : Int) by rw [Nat.pow_succ]; omega)
          clear hn1 hpw
          go_wp2_with (go_at_call 83; refine (digit_some _ _ _ HR.out).mono ?_; rintro e w' ⟨rfl, rfl⟩)
          go_roundw
          case rel => exact ⟨pos + 1, n * 10 + d, rfl, by go_num, hp, by omega, HN.out, by rw [← HF.out]; exact (fold_on _ s pos n d hp HC.out hd).symm⟩
          case measure => simp; omega
        · have hd' : 10 ≤ d := by omega
          clear hn1 hpw
          go_wp2_with (go_at_call 83; refine (digit_some _ _ _ HR.out).mono ?_; rintro e w' ⟨rfl, rfl⟩)
          go_ret2
          exact ⟨ret_no (by rw [E.out, ← HF.out]; exact fold_big _ s pos n d hp HC.out (by omega)), below_iter _ _ _⟩
    · have hnx := fun ty => run_next_end (P := Tryz.prog) w s pos ty hp
      clear hn1
      go_wp2
      go_ret2
      exact ⟨ret_yes (by rw [E.out, ← HF.out, bs_end s pos hp]; rfl), below_iter _ _ _⟩

theorem digits10_any (s : ByteArray) (w : World) (hs : s.size ≤ maxLen) :
    Calls Tryz.prog 69 #[.string s, .int .i64 10, .int .i64 18] w fun e w' => e = .returned (dTup (digitsS 10 18 (bs s))) ∧ Below w.heap.size w w' := by
  unfold maxLen at hs
  by_cases h0 : s.size = 0
  · have e : s = ⟨#[]⟩ := bs_inj (bs_nil s h0)
    subst e
    go_enter Tryz.func69, Tryz.ntmps69
    go_wp2
    go_ret2
    exact ⟨ret_no rfl, Below.refl _ _⟩
  · by_cases hM : s.size ≤ 18
    · exact digits10_in s w (by omega) hM
    · have hE := Lib.hid (show digitsS 10 18 (bs s) = none by rw [digitsS, bs_length, if_pos (by omega)])
      have hne2 : ¬ s.toList = [] := by
        rw [Lib.toList_data]
        intro h
        exact h0 (by rw [← bs_length, bs, h]; rfl)
      have hne : s.toList.isEmpty = false := by simpa using hne2
      have hgt : (18 : Int) < (s.size : Int) := by omega
      go_enter Tryz.func69, Tryz.ntmps69
      go_wp2
      go_ret2
      exact ⟨ret_no hE.out, Below.refl _ _⟩

theorem pow_bd16 (pos : Nat) (h : pos < 4) : (((16 : Nat) ^ pos : Nat) : Int) ≤ 4096 := by
  have h1 : (16 : Nat) ^ pos ≤ 16 ^ 3 := Nat.pow_le_pow_right (by omega) (by omega)
  have h2 : (16 : Nat) ^ 3 = 4096 := by decide
  omega
set_option maxHeartbeats 1000000 in
theorem digits16_in (s : ByteArray) (w : World) (h0 : 0 < s.size) (hM : s.size ≤ 4) :
    Calls Tryz.prog 69 #[.string s, .int .i64 16, .int .i64 4] w fun e w' => e = .returned (dTup (digitsS 16 4 (bs s))) ∧ Below w.heap.size w w' := by
  have E := Lib.hid (digits_in 16 4 s h0 hM)
  have hne : s.toList.isEmpty = false := by
    rw [Lib.toList_data]
    have := bs_length s
    cases h : s.data.toList with
    | nil => rw [bs, h] at this; simp at this; omega
    | cons a l => rfl
  have hne2 : ¬ s.toList = [] := by
    intro h; rw [h] at hne; cases hne
  go_enter Tryz.func69, Tryz.ntmps69
  go_wp2
  clear hne hne2
  go_loopw [8] (fun x w' => DigIn 16 16 s w x w') (fun _ w' => s.size - w'.iterPos w.heap.size)
  case atStart => exact ⟨0, 0, rfl, rfl, Nat.zero_le _, Int.le_refl _, by simp, rfl⟩
  case round =>
    obtain ⟨pos, n, rfl, rfl, hle, hn0, hn1, hf⟩ := hrel
    have HF := Lib.hid hf
    clear hf
    by_cases hp : pos < s.size
    · obtain ⟨hr, h1⟩ := at_hex s pos hp
      have hpw := pow_bd16 pos (by omega)
      have hnx : ∀ ty, (Instr.next (.pointer (some ⟨w.heap.size, 0, none⟩)) true ty).run Tryz.prog (w.iter s pos) = _ := fun ty => run_next_any w s pos ty hp
      cases hc : hexI ((s[pos]'hp).toNat : Int) with
      | none =>
        have HC := Lib.hid hc
        rw [hc] at hr
        have HR := Lib.hid hr
        clear hr hc h1
        go_wp2_with (go_at_call 83; refine (digit_none _ _ HR.out).mono ?_; rintro e w' ⟨rfl, rfl⟩)
        go_ret2
        exact ⟨ret_no (by rw [E.out, ← HF.out]; exact fold_none _ s pos n hp HC.out), below_iter _ _ _⟩
      | some d =>
        have h1' := h1 d hc
        rw [h1'] at hnx
        have hb := hex_bd hc
        obtain ⟨hb0, hb1⟩ := hb
        have HC := Lib.hid hc
        rw [hc] at hr
        have HR := Lib.hid hr
        clear hr hc h1 h1'
        have hn2 : n ≤ 4096 - 1 := by omega
        by_cases hd : d < 16
        · have HN := Lib.hid (show n * 16 + d < (((16 : Nat) ^ (pos + 1) : Nat) : Int) by rw [Nat.pow_succ]; omega)
          clear hn1 hpw
          go_wp2_with (go_at_call 83; refine (digit_some _ _ _ HR.out).mono ?_; rintro e w' ⟨rfl, rfl⟩)
          go_roundw
          case rel => exact ⟨pos + 1, n * 16 + d, rfl, by go_num, hp, by omega, HN.out, by rw [← HF.out]; exact (fold_on _ s pos n d hp HC.out hd).symm⟩
          case measure => simp; omega
        · have hd' : 16 ≤ d := by omega
          clear hn1 hpw
          go_wp2_with (go_at_call 83; refine (digit_some _ _ _ HR.out).mono ?_; rintro e w' ⟨rfl, rfl⟩)
          go_ret2
          exact ⟨ret_no (by rw [E.out, ← HF.out]; exact fold_big _ s pos n d hp HC.out (by omega)), below_iter _ _ _⟩
    · have hnx := fun ty => run_next_end (P := Tryz.prog) w s pos ty hp
      clear hn1
      go_wp2
      go_ret2
      exact ⟨ret_yes (by rw [E.out, ← HF.out, bs_end s pos hp]; rfl), below_iter _ _ _⟩

theorem digits16_any (s : ByteArray) (w : World) (hs : s.size ≤ maxLen) :
    Calls Tryz.prog 69 #[.string s, .int .i64 16, .int .i64 4] w fun e w' => e = .returned (dTup (digitsS 16 4 (bs s))) ∧ Below w.heap.size w w' := by
  unfold maxLen at hs
  by_cases h0 : s.size = 0
  · have e : s = ⟨#[]⟩ := bs_inj (bs_nil s h0)
    subst e
    go_enter Tryz.func69, Tryz.ntmps69
    go_wp2
    go_ret2
    exact ⟨ret_no rfl, Below.refl _ _⟩
  · by_cases hM : s.size ≤ 4
    · exact digits16_in s w (by omega) hM
    · have hE := Lib.hid (show digitsS 16 4 (bs s) = none by rw [digitsS, bs_length, if_pos (by omega)])
      have hne2 : ¬ s.toList = [] := by
        rw [Lib.toList_data]
        intro h
        exact h0 (by rw [← bs_length, bs, h]; rfl)
      have hne : s.toList.isEmpty = false := by simpa using hne2
      have hgt : (4 : Int) < (s.size : Int) := by omega
      go_enter Tryz.func69, Tryz.ntmps69
      go_wp2
      go_ret2
      exact ⟨ret_no hE.out, Below.refl _ _⟩

theorem hex_any (s : ByteArray) (w : World) (hs : s.size ≤ maxLen) :
    Calls Tryz.prog 82 #[.string s] w fun e w' => e = .returned (dTup (hexS (bs s))) ∧ Below w.heap.size w w' := by
  cases h : hexS (bs s) with
  | none =>
    have H := Lib.hid (show digitsS 16 4 (bs s) = none from h)
    clear h
    go_enter Tryz.func82, Tryz.ntmps82
    go_wp2_with (go_at_call 69; refine (digits16_any _ _ hs).mono ?_; rintro e w' ⟨rfl, hb⟩; rw [H.out, dTup])
    go_ret2
    exact ⟨rfl, hb⟩
  | some n =>
    have H := Lib.hid (show digitsS 16 4 (bs s) = some n from h)
    clear h
    go_enter Tryz.func82, Tryz.ntmps82
    go_wp2_with (go_at_call 69; refine (digits16_any _ _ hs).mono ?_; rintro e w' ⟨rfl, hb⟩; rw [H.out, dTup])
    go_ret2
    exact ⟨rfl, hb⟩

theorem num_zero (l : List UInt8) (most : Int) (h1 : 1 < l.length) (h2 : l[0]? = some 48) : numS l most = none := by rw [numS, if_pos ⟨h1, h2⟩]
theorem num_none (l : List UInt8) (most : Int) (h : digitsS 10 18 l = none) : numS l most = none := by
  rw [numS]; split
  · rfl
  · rw [h]
theorem num_big (l : List UInt8) (most n : Int) (h : digitsS 10 18 l = some n) (hm : most < n) : numS l most = none := by
  rw [numS]; split
  · rfl
  · rw [h]; simp only [if_pos hm]
theorem num_yes (l : List UInt8) (most n : Int) (h0 : ¬ (1 < l.length ∧ l[0]? = some 48)) (h : digitsS 10 18 l = some n) (hm : ¬ most < n) : numS l most = some n := by
  rw [numS, if_neg h0, h]; simp only [if_neg hm]

theorem first_is (s : ByteArray) (h : 0 < s.size) : (bs s)[0]? = some (s[0]'h) := by
  rw [List.getElem?_eq_getElem (by rw [bs_length]; exact h)]; rfl
theorem byte_ne {c : UInt8} {k : Nat} (hk : k < 256) (h : ¬ c = UInt8.ofNat k) : ((c.toNat : Int) == (k : Int)) = false := by
  have : ¬ c.toNat = k := fun e => h (by apply UInt8.toNat.inj; rw [e]; simp; omega)
  simp; omega

set_option maxHeartbeats 1000000 in
theorem number_any (s : ByteArray) (most : Int) (w : World) (hs : s.size ≤ maxLen) :
    Calls Tryz.prog 50 #[.string s, .int .i64 most] w fun e w' => e = .returned (dTup (numS (bs s) most)) ∧ Below w.heap.size w w' := by
  have hs' := hs
  unfold maxLen at hs
  by_cases hz : 1 < s.size ∧ (bs s)[0]? = some 48
  · obtain ⟨h1, h2⟩ := hz
    have h0 : 0 < s.size := by omega
    rw [first_is s h0] at h2
    injection h2 with h2
    have HN := Lib.hid (num_zero (bs s) most (by rw [bs_length]; exact h1) (by rw [first_is s h0, h2]))
    have hb : (((s[0]'h0).toNat : Int) == 48) = true := by rw [h2]; rfl
    clear h2
    go_enter Tryz.func50, Tryz.ntmps50
    go_wp2
    go_ret2
    exact ⟨ret_no HN.out, Below.refl _ _⟩
  · have HZ := Lib.hid hz
    clear hz
    by_cases h1 : 1 < s.size
    · have h0 : 0 < s.size := by omega
      have hb : (((s[0]'h0).toNat : Int) == 48) = false := byte_ne (k := 48) (by omega) (fun e => HZ.out ⟨h1, by rw [first_is s h0, e]; rfl⟩)
      cases h : digitsS 10 18 (bs s) with
      | none =>
        have H := Lib.hid h
        clear h
        go_enter Tryz.func50, Tryz.ntmps50
        go_wp2_with (go_at_call 69; refine (digits10_any _ _ hs').mono ?_; rintro e w' ⟨rfl, hbe⟩; rw [H.out, dTup])
        go_ret2
        exact ⟨ret_no (num_none _ _ H.out), hbe⟩
      | some n =>
        have H := Lib.hid h
        clear h
        by_cases hm : most < n
        · go_enter Tryz.func50, Tryz.ntmps50
          go_wp2_with (go_at_call 69; refine (digits10_any _ _ hs').mono ?_; rintro e w' ⟨rfl, hbe⟩; rw [H.out, dTup])
          go_ret2
          exact ⟨ret_no (num_big _ _ _ H.out hm), hbe⟩
        · go_enter Tryz.func50, Tryz.ntmps50
          go_wp2_with (go_at_call 69; refine (digits10_any _ _ hs').mono ?_; rintro e w' ⟨rfl, hbe⟩; rw [H.out, dTup])
          go_ret2
          exact ⟨ret_yes (num_yes _ _ _ HZ.out H.out (by omega)), hbe⟩
    · have h1' : ¬ (1 : Int) < (s.size : Int) := by omega
      cases h : digitsS 10 18 (bs s) with
      | none =>
        have H := Lib.hid h
        clear h
        go_enter Tryz.func50, Tryz.ntmps50
        go_wp2_with (go_at_call 69; refine (digits10_any _ _ hs').mono ?_; rintro e w' ⟨rfl, hbe⟩; rw [H.out, dTup])
        go_ret2
        exact ⟨ret_no (num_none _ _ H.out), hbe⟩
      | some n =>
        have H := Lib.hid h
        clear h
        by_cases hm : most < n
        · go_enter Tryz.func50, Tryz.ntmps50
          go_wp2_with (go_at_call 69; refine (digits10_any _ _ hs').mono ?_; rintro e w' ⟨rfl, hbe⟩; rw [H.out, dTup])
          go_ret2
          exact ⟨ret_no (num_big _ _ _ H.out hm), hbe⟩
        · go_enter Tryz.func50, Tryz.ntmps50
          go_wp2_with (go_at_call 69; refine (digits10_any _ _ hs').mono ?_; rintro e w' ⟨rfl, hbe⟩; rw [H.out, dTup])
          go_ret2
          exact ⟨ret_yes (num_yes _ _ _ HZ.out H.out (by omega)), hbe⟩
end Go.Proofs.YtdofipjjodijcaaGreatDoor.Asc
