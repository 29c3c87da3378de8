/-
  Contracts of package ascii's functions of one rune that Number and Hex reach: isDigit, digit.
-/
import Derived.Test.YtgpgkfbbpiialaaGreatDoorWords
import Derived.Test.YtgpgkfbbpiialaaGreatDoorAscPure
import Derived.Lib.Strings
import Derived.Laws.IdiomStrings
namespace Go.Proofs.YtgpgkfbbpiialaaGreatDoor.Asc
open Go.RowKit Go.Proofs.YtgpgkfbbpiialaaGreatDoor.Wd

theorem ret_b {a b : Bool} (h : a = b) : Ending.returned (.bool a) = .returned (.bool b) := by rw [h]

theorem isDigit_any (r : Int) (w : World) : Calls Tryz.prog 96 #[.int .i32 r] w fun e w' => e = .returned (.bool (digI r)) ∧ w = w' := by
  by_cases a1 : 48 ≤ r <;> by_cases a2 : r ≤ 57
  all_goals first
    | (exfalso; omega)
    | (go_enter Tryz.func96, Tryz.ntmps96
       go_wp2
       go_ret
       exact ⟨ret_b (by simp [digI] <;> omega), rfl⟩)

theorem digit_none (r : Int) (w : World) (h : hexI r = none) : Calls Tryz.prog 83 #[.int .i32 r] w fun e w' => e = .returned (.tuple #[.int .i64 0, .bool false]) ∧ w = w' := by
  have n1 : ¬ (48 ≤ r ∧ r ≤ 57) := fun k => by rw [hexI, if_pos k] at h; cases h
  have n2 : ¬ (97 ≤ r ∧ r ≤ 102) := fun k => by rw [hexI, if_neg n1, if_pos k] at h; cases h
  have n3 : ¬ (65 ≤ r ∧ r ≤ 70) := fun k => by rw [hexI, if_neg n1, if_neg n2, if_pos k] at h; cases h
  have D := Lib.hid (show digI r = false by simp [digI]; omega)
  clear h
  by_cases a1 : 97 ≤ r <;> by_cases a2 : r ≤ 102 <;> by_cases a3 : 65 ≤ r <;> by_cases a4 : r ≤ 70
  all_goals first
    | (exfalso; omega)
    | (clear n1 n2 n3
       go_enter Tryz.func83, Tryz.ntmps83
       go_wp2_with (go_at_call 96; refine (isDigit_any _ _).mono ?_; rintro e w' ⟨rfl, rfl⟩; rw [D.out])
       go_ret2
       exact ⟨rfl, rfl⟩)

theorem ret_nb {a b : Int} (h : a = b) : Ending.returned (.tuple #[.int .i64 a, .bool true]) = .returned (.tuple #[.int .i64 b, .bool true]) := by rw [h]

theorem digit_some (r d : Int) (w : World) (h : hexI r = some d) : Calls Tryz.prog 83 #[.int .i32 r] w fun e w' => e = .returned (.tuple #[.int .i64 d, .bool true]) ∧ w = w' := by
  by_cases n1 : 48 ≤ r ∧ r ≤ 57
  · have e : d = r - 48 := by rw [hexI, if_pos n1] at h; injection h; omega
    have D := Lib.hid (show digI r = true by simp [digI]; omega)
    obtain ⟨a1, a2⟩ := n1
    clear h
    subst e
    go_enter Tryz.func83, Tryz.ntmps83
    go_wp2_with (go_at_call 96; refine (isDigit_any _ _).mono ?_; rintro e w' ⟨rfl, rfl⟩; rw [D.out])
    go_ret2
    exact ⟨ret_nb (by omega), rfl⟩
  · have D := Lib.hid (show digI r = false by simp [digI]; omega)
    by_cases n2 : 97 ≤ r ∧ r ≤ 102
    · have e : d = r - 87 := by rw [hexI, if_neg n1, if_pos n2] at h; injection h; omega
      obtain ⟨a1, a2⟩ := n2
      clear h n1
      subst e
      go_enter Tryz.func83, Tryz.ntmps83
      go_wp2_with (go_at_call 96; refine (isDigit_any _ _).mono ?_; rintro e w' ⟨rfl, rfl⟩; rw [D.out])
      go_ret2
      exact ⟨ret_nb (by omega), rfl⟩
    · by_cases n3 : 65 ≤ r ∧ r ≤ 70
      · have e : d = r - 55 := by rw [hexI, if_neg n1, if_neg n2, if_pos n3] at h; injection h; omega
        obtain ⟨a1, a2⟩ := n3
        clear h n1 n2
        subst e
        have b : ¬ 97 ≤ r := by omega
        go_enter Tryz.func83, Tryz.ntmps83
        go_wp2_with (go_at_call 96; refine (isDigit_any _ _).mono ?_; rintro e w' ⟨rfl, rfl⟩; rw [D.out])
        go_ret2
        exact ⟨ret_nb (by omega), rfl⟩
      · rw [hexI, if_neg n1, if_neg n2, if_neg n3] at h
        cases h

theorem below_iter (w : World) (s : ByteArray) (pos : Nat) : Below w.heap.size w (w.iter s pos) := (Below.refl _ _).alloc (Nat.le_refl _) _
end Go.Proofs.YtgpgkfbbpiialaaGreatDoor.Asc

/-
  Contracts of package ascii's digits, Number and Hex.
-/
namespace Go.Proofs.YtgpgkfbbpiialaaGreatDoor.Asc
open Go.RowKit Go.Proofs.YtgpgkfbbpiialaaGreatDoor.Wd

/-- a number, or none, as both results -/
def dTup : Option Int → Value
  | none => .tuple #[.int .i64 0, .bool false]
  | some n => .tuple #[.int .i64 n, .bool true]
theorem ret_no {o : Option Int} (h : o = none) : Ending.returned (.tuple #[.int .i64 0, .bool false]) = .returned (dTup o) := by rw [h]; rfl
theorem ret_yes {o : Option Int} {n : Int} (h : o = some n) : Ending.returned (.tuple #[.int .i64 n, .bool true]) = .returned (dTup o) := by rw [h]; rfl

theorem fold_none (B : Int) (s : ByteArray) (pos : Nat) (n : Int) (h : pos < s.size) (hc : hexI ((s[pos]'h).toNat : Int) = none) : foldv B ((bs s).drop pos) n = none := by
  rw [bs_drop s pos h, foldv, hc]
theorem fold_big (B : Int) (s : ByteArray) (pos : Nat) (n d : Int) (h : pos < s.size) (hc : hexI ((s[pos]'h).toNat : Int) = some d) (hd : ¬ d < B) : foldv B ((bs s).drop pos) n = none := by
  rw [bs_drop s pos h, foldv, hc]; simp only [if_neg hd]
theorem fold_on (B : Int) (s : ByteArray) (pos : Nat) (n d : Int) (h : pos < s.size) (hc : hexI ((s[pos]'h).toNat : Int) = some d) (hd : d < B) : foldv B ((bs s).drop pos) n = foldv B ((bs s).drop (pos + 1)) (n * B + d) := by
  rw [bs_drop s pos h, foldv, hc]; simp only [if_pos hd]
theorem digits_in (B : Int) (M : Nat) (s : ByteArray) (h0 : 0 < s.size) (hM : s.size ≤ M) : digitsS B M (bs s) = foldv B (bs s) 0 := by
  rw [digitsS, bs_length, if_neg (by omega)]

def DigIn (B : Nat) (Bi : Int) (s : ByteArray) (w : World) (x : Value) (w' : World) : Prop :=
  ∃ (pos : Nat) (n : Int), w' = w.iter s pos ∧ x = .int .i64 n ∧ pos ≤ s.size ∧ 0 ≤ n ∧ n < ((B ^ pos : Nat) : Int) ∧ foldv Bi ((bs s).drop pos) n = foldv Bi (bs s) 0

theorem pow_bd10 (pos : Nat) (h : pos < 18) : (((10 : Nat) ^ pos : Nat) : Int) ≤ 100000000000000000 := by
  have h1 : (10 : Nat) ^ pos ≤ 10 ^ 17 := Nat.pow_le_pow_right (by omega) (by omega)
  have h2 : (10 : Nat) ^ 17 = 100000000000000000 := by decide
  omega
set_option maxHeartbeats 1000000 in
theorem digits10_in (s : ByteArray) (w : World) (h0 : 0 < s.size) (hM : s.size ≤ 18) :
    Calls Tryz.prog 57 #[.string s, .int .i64 10, .int .i64 18] w fun e w' => e = .returned (dTup (digitsS 10 18 (bs s))) ∧ Below w.heap.size w w' := by
  have E := Lib.hid (digits_in 10 18 s h0 hM)
  have hne : s.toList.isEmpty = false := by
    rw [Lib.toList_data]
    have := bs_length s
    cases h : s.data.toList with
    | nil => rw [bs, h] at this; simp at this; omega
    | cons a l => rfl
  have hne2 : ¬ s.toList = [] := by
    intro h; rw [h] at hne; cases hne
  go_enter Tryz.func57, Tryz.ntmps57
  go_wp2
  clear hne hne2
  go_loopw [8] (fun x w' => DigIn 10 10 s w x w') (fun _ w' => s.size - w'.iterPos w.heap.size)
  case atStart => exact ⟨0, 0, rfl, rfl, Nat.zero_le _, Int.le_refl _, by simp, rfl⟩
  case round =>
    obtain ⟨pos, n, rfl, rfl, hle, hn0, hn1, hf⟩ := hrel
    have HF := Lib.hid hf
    clear hf
    by_cases hp : pos < s.size
    · obtain ⟨hr, h1⟩ := at_hex s pos hp
      have hpw := pow_bd10 pos (by omega)
      have hnx : ∀ ty, (Instr.next (.pointer (some ⟨w.heap.size, 0, none⟩)) true ty).run Tryz.prog (w.iter s pos) = _ := fun ty => run_next_any w s pos ty hp
      cases hc : hexI ((s[pos]'hp).toNat : Int) with
      | none =>
        have HC := Lib.hid hc
        rw [hc] at hr
        have HR := Lib.hid hr
        clear hr hc h1
        go_wp2_with (go_at_call 83; refine (digit_none _ _ HR.out).mono ?_; rintro e w' ⟨rfl, rfl⟩)
        go_ret2
        exact ⟨ret_no (by rw [E.out, ← HF.out]; exact fold_none _ s pos n hp HC.out), below_iter _ _ _⟩
      | some d =>
        have h1' := h1 d hc
        rw [h1'] at hnx
        have hb := hex_bd hc
        obtain ⟨hb0, hb1⟩ := hb
        have HC := Lib.hid hc
        rw [hc] at hr
        have HR := Lib.hid hr
        clear hr hc h1 h1'
        have hn2 : n ≤ 100000000000000000 - 1 := by omega
        by_cases hd : d < 10
        · have HN := Lib.hid (show n * 10 + d < (((10 : Nat) ^ (pos + 1) : Nat) : Int) by rw [Nat.pow_succ]; omega)
          clear hn1 hpw
          go_wp2_with (go_at_call 83; refine (digit_some _ _ _ HR.out).mono ?_; rintro e w' ⟨rfl, rfl⟩)
          go_roundw
          case rel => exact ⟨pos + 1, n * 10 + d, rfl, by go_num, hp, by omega, HN.out, by rw [← HF.out]; exact (fold_on _ s pos n d hp HC.out hd).symm⟩
          case measure => simp; omega
        · have hd' : 10 ≤ d := by omega
          clear hn1 hpw
          go_wp2_with (go_at_call 83; refine (digit_some _ _ _ HR.out).mono ?_; rintro e w' ⟨rfl, rfl⟩)
          go_ret2
          exact ⟨ret_no (by rw [E.out, ← HF.out]; exact fold_big _ s pos n d hp HC.out (by omega)), below_iter _ _ _⟩
    · have hnx := fun ty => run_next_end (P := Tryz.prog) w s pos ty hp
      clear hn1
      go_wp2
      go_ret2
      exact ⟨ret_yes (by rw [E.out, ← HF.out, bs_end s pos hp]; rfl), below_iter _ _ _⟩

theorem digits10_any (s : ByteArray) (w : World) (hs : s.size ≤ maxLen) :
    Calls Tryz.prog 57 #[.string s, .int .i64 10, .int .i64 18] w fun e w' => e = .returned (dTup (digitsS 10 18 (bs s))) ∧ Below w.heap.size w w' := by
  unfold maxLen at hs
  by_cases h0 : s.size = 0
  · have e : s = ⟨#[]⟩ := bs_inj (bs_nil s h0)
    subst e
    go_enter Tryz.func57, Tryz.ntmps57
    go_wp2
    go_ret2
    exact ⟨ret_no rfl, Below.refl _ _⟩
  · by_cases hM : s.size ≤ 18
    · exact digits10_in s w (by omega) hM
    · have hE := Lib.hid (show digitsS 10 18 (bs s) = none by rw [digitsS, bs_length, if_pos (by omega)])
      have hne2 : ¬ s.toList = [] := by
        rw [Lib.toList_data]
        intro h
        exact h0 (by rw [← bs_length, bs, h]; rfl)
      have hne : s.toList.isEmpty = false := by simpa using hne2
      have hgt : (18 : Int) < (s.size : Int) := by omega
      go_enter Tryz.func57, Tryz.ntmps57
      go_wp2
      go_ret2
      exact ⟨ret_no hE.out, Below.refl _ _⟩

theorem pow_bd16 (pos : Nat) (h : pos < 4) : (((16 : Nat) ^ pos : Nat) : Int) ≤ 4096 := by
  have h1 : (16 : Nat) ^ pos ≤ 16 ^ 3 := Nat.pow_le_pow_right (by omega) (by omega)
  have h2 : (16 : Nat) ^ 3 = 4096 := by decide
  omega
set_option maxHeartbeats 1000000 in
theorem digits16_in (s : ByteArray) (w : World) (h0 : 0 < s.size) (hM : s.size ≤ 4) :
    Calls Tryz.prog 57 #[.string s, .int .i64 16, .int .i64 4] w fun e w' => e = .returned (dTup (digitsS 16 4 (bs s))) ∧ Below w.heap.size w w' := by
  have E := Lib.hid (digits_in 16 4 s h0 hM)
  have hne : s.toList.isEmpty = false := by
    rw [Lib.toList_data]
    have := bs_length s
    cases h : s.data.toList with
    | nil => rw [bs, h] at this; simp at this; omega
    | cons a l => rfl
  have hne2 : ¬ s.toList = [] := by
    intro h; rw [h] at hne; cases hne
  go_enter Tryz.func57, Tryz.ntmps57
  go_wp2
  clear hne hne2
  go_loopw [8] (fun x w' => DigIn 16 16 s w x w') (fun _ w' => s.size - w'.iterPos w.heap.size)
  case atStart => exact ⟨0, 0, rfl, rfl, Nat.zero_le _, Int.le_refl _, by simp, rfl⟩
  case round =>
    obtain ⟨pos, n, rfl, rfl, hle, hn0, hn1, hf⟩ := hrel
    have HF := Lib.hid hf
    clear hf
    by_cases hp : pos < s.size
    · obtain ⟨hr, h1⟩ := at_hex s pos hp
      have hpw := pow_bd16 pos (by omega)
      have hnx : ∀ ty, (Instr.next (.pointer (some ⟨w.heap.size, 0, none⟩)) true ty).run Tryz.prog (w.iter s pos) = _ := fun ty => run_next_any w s pos ty hp
      cases hc : hexI ((s[pos]'hp).toNat : Int) with
      | none =>
        have HC := Lib.hid hc
        rw [hc] at hr
        have HR := Lib.hid hr
        clear hr hc h1
        go_wp2_with (go_at_call 83; refine (digit_none _ _ HR.out).mono ?_; rintro e w' ⟨rfl, rfl⟩)
        go_ret2
        exact ⟨ret_no (by rw [E.out, ← HF.out]; exact fold_none _ s pos n hp HC.out), below_iter _ _ _⟩
      | some d =>
        have h1' := h1 d hc
        rw [h1'] at hnx
        have hb := hex_bd hc
        obtain ⟨hb0, hb1⟩ := hb
        have HC := Lib.hid hc
        rw [hc] at hr
        have HR := Lib.hid hr
        clear hr hc h1 h1'
        have hn2 : n ≤ 4096 - 1 := by omega
        by_cases hd : d < 16
        · have HN := Lib.hid (show n * 16 + d < (((16 : Nat) ^ (pos + 1) : Nat) : Int) by rw [Nat.pow_succ]; omega)
          clear hn1 hpw
          go_wp2_with (go_at_call 83; refine (digit_some _ _ _ HR.out).mono ?_; rintro e w' ⟨rfl, rfl⟩)
          go_roundw
          case rel => exact ⟨pos + 1, n * 16 + d, rfl, by go_num, hp, by omega, HN.out, by rw [← HF.out]; exact (fold_on _ s pos n d hp HC.out hd).symm⟩
          case measure => simp; omega
        · have hd' : 16 ≤ d := by omega
          clear hn1 hpw
          go_wp2_with (go_at_call 83; refine (digit_some _ _ _ HR.out).mono ?_; rintro e w' ⟨rfl, rfl⟩)
          go_ret2
          exact ⟨ret_no (by rw [E.out, ← HF.out]; exact fold_big _ s pos n d hp HC.out (by omega)), below_iter _ _ _⟩
    · have hnx := fun ty => run_next_end (P := Tryz.prog) w s pos ty hp
      clear hn1
      go_wp2
      go_ret2
      exact ⟨ret_yes (by rw [E.out, ← HF.out, bs_end s pos hp]; rfl), below_iter _ _ _⟩

theorem digits16_any (s : ByteArray) (w : World) (hs : s.size ≤ maxLen) :
    Calls Tryz.prog 57 #[.string s, .int .i64 16, .int .i64 4] w fun e w' => e = .returned (dTup (digitsS 16 4 (bs s))) ∧ Below w.heap.size w w' := by
  unfold maxLen at hs
  by_cases h0 : s.size = 0
  · have e : s = ⟨#[]⟩ := bs_inj (bs_nil s h0)
    subst e
    go_enter Tryz.func57, Tryz.ntmps57
    go_wp2
    go_ret2
    exact ⟨ret_no rfl, Below.refl _ _⟩
  · by_cases hM : s.size ≤ 4
    · exact digits16_in s w (by omega) hM
    · have hE := Lib.hid (show digitsS 16 4 (bs s) = none by rw [digitsS, bs_length, if_pos (by omega)])
      have hne2 : ¬ s.toList = [] := by
        rw [Lib.toList_data]
        intro h
        exact h0 (by rw [← bs_length, bs, h]; rfl)
      have hne : s.toList.isEmpty = false := by simpa using hne2
      have hgt : (4 : Int) < (s.size : Int) := by omega
      go_enter Tryz.func57, Tryz.ntmps57
      go_wp2
      go_ret2
      exact ⟨ret_no hE.out, Below.refl _ _⟩

theorem hex_any (s : ByteArray) (w : World) (hs : s.size ≤ maxLen) :
    Calls Tryz.prog 101 #[.string s] w fun e w' => e = .returned (dTup (hexS (bs s))) ∧ Below w.heap.size w w' := by
  cases h : hexS (bs s) with
  | none =>
    have H := Lib.hid (show digitsS 16 4 (bs s) = none from h)
    clear h
    go_enter Tryz.func101, Tryz.ntmps101
    go_wp2_with (go_at_call 57; refine (digits16_any _ _ hs).mono ?_; rintro e w' ⟨rfl, hb⟩; rw [H.out, dTup])
    go_ret2
    exact ⟨rfl, hb⟩
  | some n =>
    have H := Lib.hid (show digitsS 16 4 (bs s) = some n from h)
    clear h
    go_enter Tryz.func101, Tryz.ntmps101
    go_wp2_with (go_at_call 57; refine (digits16_any _ _ hs).mono ?_; rintro e w' ⟨rfl, hb⟩; rw [H.out, dTup])
    go_ret2
    exact ⟨rfl, hb⟩

theorem num_zero (l : List UInt8) (most : Int) (h1 : 1 < l.length) (h2 : l[0]? = some 48) : numS l most = none := by rw [numS, if_pos ⟨h1, h2⟩]
theorem num_none (l : List UInt8) (most : Int) (h : digitsS 10 18 l = none) : numS l most = none := by
  rw [numS]; split
  · rfl
  · rw [h]
theorem num_big (l : List UInt8) (most n : Int) (h : digitsS 10 18 l = some n) (hm : most < n) : numS l most = none := by
  rw [numS]; split
  · rfl
  · rw [h]; simp only [if_pos hm]
theorem num_yes (l : List UInt8) (most n : Int) (h0 : ¬ (1 < l.length ∧ l[0]? = some 48)) (h : digitsS 10 18 l = some n) (hm : ¬ most < n) : numS l most = some n := by
  rw [numS, if_neg h0, h]; simp only [if_neg hm]

theorem first_is (s : ByteArray) (h : 0 < s.size) : (bs s)[0]? = some (s[0]'h) := by
  rw [List.getElem?_eq_getElem (by rw [bs_length]; exact h)]; rfl
theorem byte_ne {c : UInt8} {k : Nat} (hk : k < 256) (h : ¬ c = UInt8.ofNat k) : ((c.toNat : Int) == (k : Int)) = false := by
  have : ¬ c.toNat = k := fun e => h (by apply UInt8.toNat.inj; rw [e]; simp; omega)
  simp; omega

set_option maxHeartbeats 1000000 in
theorem number_any (s : ByteArray) (most : Int) (w : World) (hs : s.size ≤ maxLen) :
    Calls Tryz.prog 41 #[.string s, .int .i64 most] w fun e w' => e = .returned (dTup (numS (bs s) most)) ∧ Below w.heap.size w w' := by
  have hs' := hs
  unfold maxLen at hs
  by_cases hz : 1 < s.size ∧ (bs s)[0]? = some 48
  · obtain ⟨h1, h2⟩ := hz
    have h0 : 0 < s.size := by omega
    rw [first_is s h0] at h2
    injection h2 with h2
    have HN := Lib.hid (num_zero (bs s) most (by rw [bs_length]; exact h1) (by rw [first_is s h0, h2]))
    have hb : (((s[0]'h0).toNat : Int) == 48) = true := by rw [h2]; rfl
    clear h2
    go_enter Tryz.func41, Tryz.ntmps41
    go_wp2
    go_ret2
    exact ⟨ret_no HN.out, Below.refl _ _⟩
  · have HZ := Lib.hid hz
    clear hz
    by_cases h1 : 1 < s.size
    · have h0 : 0 < s.size := by omega
      have hb : (((s[0]'h0).toNat : Int) == 48) = false := byte_ne (k := 48) (by omega) (fun e => HZ.out ⟨h1, by rw [first_is s h0, e]; rfl⟩)
      cases h : digitsS 10 18 (bs s) with
      | none =>
        have H := Lib.hid h
        clear h
        go_enter Tryz.func41, Tryz.ntmps41
        go_wp2_with (go_at_call 57; refine (digits10_any _ _ hs').mono ?_; rintro e w' ⟨rfl, hbe⟩; rw [H.out, dTup])
        go_ret2
        exact ⟨ret_no (num_none _ _ H.out), hbe⟩
      | some n =>
        have H := Lib.hid h
        clear h
        by_cases hm : most < n
        · go_enter Tryz.func41, Tryz.ntmps41
          go_wp2_with (go_at_call 57; refine (digits10_any _ _ hs').mono ?_; rintro e w' ⟨rfl, hbe⟩; rw [H.out, dTup])
          go_ret2
          exact ⟨ret_no (num_big _ _ _ H.out hm), hbe⟩
        · go_enter Tryz.func41, Tryz.ntmps41
          go_wp2_with (go_at_call 57; refine (digits10_any _ _ hs').mono ?_; rintro e w' ⟨rfl, hbe⟩; rw [H.out, dTup])
          go_ret2
          exact ⟨ret_yes (num_yes _ _ _ HZ.out H.out (by omega)), hbe⟩
    · have h1' : ¬ (1 : Int) < (s.size : Int) := by omega
      cases h : digitsS 10 18 (bs s) with
      | none =>
        have H := Lib.hid h
        clear h
        go_enter Tryz.func41, Tryz.ntmps41
        go_wp2_with (go_at_call 57; refine (digits10_any _ _ hs').mono ?_; rintro e w' ⟨rfl, hbe⟩; rw [H.out, dTup])
        go_ret2
        exact ⟨ret_no (num_none _ _ H.out), hbe⟩
      | some n =>
        have H := Lib.hid h
        clear h
        by_cases hm : most < n
        · go_enter Tryz.func41, Tryz.ntmps41
          go_wp2_with (go_at_call 57; refine (digits10_any _ _ hs').mono ?_; rintro e w' ⟨rfl, hbe⟩; rw [H.out, dTup])
          go_ret2
          exact ⟨ret_no (num_big _ _ _ H.out hm), hbe⟩
        · go_enter Tryz.func41, Tryz.ntmps41
          go_wp2_with (go_at_call 57; refine (digits10_any _ _ hs').mono ?_; rintro e w' ⟨rfl, hbe⟩; rw [H.out, dTup])
          go_ret2
          exact ⟨ret_yes (num_yes _ _ _ HZ.out H.out (by omega)), hbe⟩
end Go.Proofs.YtgpgkfbbpiialaaGreatDoor.Asc

/-
  Contracts of package ascii's functions of one rune: isLetter, isDigit, isSign, isToken, isVisible, isBlank, digit.
-/
namespace Go.Proofs.YtgpgkfbbpiialaaGreatDoor.Asc
open Go.RowKit Go.Proofs.YtgpgkfbbpiialaaGreatDoor.Wd


theorem isVisible_any (r : Int) (w : World) : Calls Tryz.prog 37 #[.int .i32 r] w fun e w' => e = .returned (.bool (visI r)) ∧ w = w' := by
  by_cases a1 : 33 ≤ r <;> by_cases a2 : r ≤ 126
  all_goals first
    | (exfalso; omega)
    | (go_enter Tryz.func37, Tryz.ntmps37
       go_wp2
       go_ret
       exact ⟨ret_b (by simp [visI] <;> omega), rfl⟩)




end Go.Proofs.YtgpgkfbbpiialaaGreatDoor.Asc

/-
  Contracts of package ascii's all, Token and Visible.
-/
namespace Go.Proofs.YtgpgkfbbpiialaaGreatDoor.Asc
open Go.RowKit Go.Proofs.YtgpgkfbbpiialaaGreatDoor.Wd

theorem allS_nil (p : Int → Bool) (s : ByteArray) (pos : Nat) (h : ¬ pos < s.size) (hle : pos ≤ s.size) (ht : ((bs s).take pos).all (fun c => p (c.toNat : Int)) = true) :
    (!s.toList.isEmpty) = allS p (bs s) := by
  have e : (bs s).take pos = bs s := List.take_of_length_le (by rw [bs_length]; omega)
  rw [e] at ht
  rw [allS, ht, Bool.and_true]
  rw [Lib.toList_data]
  rfl

theorem allS_no (p : Int → Bool) (s : ByteArray) (pos : Nat) (h : pos < s.size) (hc : p ((s[pos]'h).toNat : Int) = false) : allS p (bs s) = false := by
  rw [allS, Bool.and_eq_false_iff]
  right
  rw [List.all_eq_false]
  exact ⟨s[pos]'h, List.getElem_mem (by rw [bs_length]; exact h), by rw [hc]; simp⟩

theorem take_all (p : Int → Bool) (s : ByteArray) (pos : Nat) (h : pos < s.size) (ht : ((bs s).take pos).all (fun c => p (c.toNat : Int)) = true) (hc : p ((s[pos]'h).toNat : Int) = true) :
    ((bs s).take (pos + 1)).all (fun c => p (c.toNat : Int)) = true := by
  rw [bs_take s pos h, List.all_append, ht]
  simpa using hc

def AllIn (p : Int → Bool) (s : ByteArray) (w w' : World) : Prop := ∃ pos, w' = w.iter s pos ∧ pos ≤ s.size ∧ ((bs s).take pos).all (fun c => p (c.toNat : Int)) = true


set_option maxHeartbeats 1000000 in
theorem all_vis (s : ByteArray) (w : World) :
    Calls Tryz.prog 36 #[.string s, .func (.func 37) #[] #[]] w fun e w' => e = .returned (.bool (allS visI (bs s))) ∧ Below w.heap.size w w' := by
  go_enter Tryz.func36, Tryz.ntmps36
  go_wp2
  go_loopw [6] (fun _ w' => AllIn visI s w w') (fun _ w' => s.size - w'.iterPos w.heap.size)
  case atStart => exact ⟨0, rfl, Nat.zero_le _, rfl⟩
  case round =>
    obtain ⟨pos, rfl, hle, ht⟩ := hrel
    have HT := Lib.hid ht
    clear ht
    by_cases hp : pos < s.size
    · obtain ⟨hr, h1⟩ := at_rune vis_low s pos hp
      have hnx : ∀ ty, (Instr.next (.pointer (some ⟨w.heap.size, 0, none⟩)) true ty).run Tryz.prog (w.iter s pos) = _ := fun ty => run_next_any w s pos ty hp
      cases hc : visI ((s[pos]'hp).toNat : Int)
      · have HC := Lib.hid hc
        rw [hc] at hr
        have HR := Lib.hid hr
        clear hr hc h1
        go_wp2_with (go_at_call 37; refine (isVisible_any _ _).mono ?_; rintro e w' ⟨rfl, rfl⟩; rw [HR.out])
        go_ret
        exact ⟨ret_b (allS_no visI s pos hp HC.out).symm, below_iter _ _ _⟩
      · have h1' := h1 hc
        rw [h1'] at hnx
        have HC := Lib.hid hc
        rw [hc] at hr
        have HR := Lib.hid hr
        clear hr hc h1 h1'
        go_wp2_with (go_at_call 37; refine (isVisible_any _ _).mono ?_; rintro e w' ⟨rfl, rfl⟩; rw [HR.out])
        go_roundw
        case rel => exact ⟨pos + 1, rfl, hp, take_all visI s pos hp HT.out HC.out⟩
        case measure => simp; omega
    · have hnx := fun ty => run_next_end (P := Tryz.prog) w s pos ty hp
      go_wp2
      go_ret
      exact ⟨ret_b (allS_nil visI s pos hp hle HT.out), below_iter _ _ _⟩

theorem visible_any (s : ByteArray) (w : World) :
    Calls Tryz.prog 23 #[.string s] w fun e w' => e = .returned (.bool (allS visI (bs s))) ∧ Below w.heap.size w w' := by
  go_enter Tryz.func23, Tryz.ntmps23
  go_wp2_with (go_at_call 36; refine (all_vis _ _).mono ?_; rintro e w' ⟨rfl, hb⟩)
  go_ret
  exact ⟨rfl, hb⟩
end Go.Proofs.YtgpgkfbbpiialaaGreatDoor.Asc

/-
  Words for memory: a block whose cells begin with known bytes, none of them frozen (what '[]byte(s)' lays), and a range over a string beside it. Plain lemmas, no condition.
-/
namespace Go.Proofs.YtgpgkfbbpiialaaGreatDoor.Asc
open Go.RowKit Go.Proofs.YtgpgkfbbpiialaaGreatDoor.Wd

def Row (w : World) (g : Nat) (l : List UInt8) : Prop :=
  ∃ cs fr, w.heap[g]? = some (.cells cs 5 fr) ∧ cs.size ≤ fr.1 ∧ l.length ≤ cs.size ∧ ∀ (j : Nat) (c : UInt8), l[j]? = some c → cs[j]? = some (b8 c)
section
variable {w w' : World} {g : Nat} {l : List UInt8}
theorem Row.lt (h : Row w g l) : g < w.heap.size := by
  obtain ⟨cs, fr, h, _⟩ := h
  rcases Nat.lt_or_ge g w.heap.size with hlt | hge
  · exact hlt
  · rw [Array.getElem?_eq_none hge] at h; cases h
theorem Row.cell (h : Row w g l) {j : Nat} {c : UInt8} (hj : l[j]? = some c) : w.cell? ⟨g, j, none⟩ = some (b8 c) := by
  obtain ⟨cs, fr, h, _, _, hc⟩ := h
  rw [cell_of_row w g j cs _ fr h]
  exact hc j c hj
theorem Row.frozen (h : Row w g l) {j : Nat} (hj : j < l.length) : w.frozen? ⟨g, j, none⟩ = false := by
  obtain ⟨cs, fr, h, h1, h2, _⟩ := h
  simp only [World.frozen?, h]
  simp
  omega
theorem Row.of_heap (h : Row w g l) (e : w'.heap[g]? = w.heap[g]?) : Row w' g l := by
  obtain ⟨cs, fr, h, r⟩ := h
  exact ⟨cs, fr, e.trans h, r⟩
theorem Row.alloc (h : Row w g l) (o : Obj) : Row (w.alloc o) g l := h.of_heap (Below.heap_alloc w o g h.lt)
theorem Row.below {B : Nat} (h : Row w g l) (hb : Below B w w') (hg : g < B) : Row w' g l := h.of_heap (hb.block g hg)
theorem Row.set_ (h : Row w g l) (i : Nat) (u : UInt8) : Row (w.setCell ⟨g, i, none⟩ (b8 u)) g (l.set i u) := by
  obtain ⟨cs, fr, h, h1, h2, hc⟩ := h
  refine ⟨cs.setIfInBounds i (b8 u), fr, by simp [World.setCell, Array.getElem?_modify, h], by simpa using h1, by simpa using h2, fun j c hj => ?_⟩
  rw [List.getElem?_set] at hj
  rw [Array.getElem?_setIfInBounds]
  split at hj
  · rename_i e
    subst e
    split at hj
    · rename_i hl
      injection hj with hj
      subst hj
      rw [if_pos rfl, if_pos (by omega)]
    · cases hj
  · rename_i e
    rw [if_neg e]
    exact hc j c hj
theorem Row.src (h : Row w g l) : Src w (some ⟨g, 0, none⟩) l.length l :=
  ⟨rfl, fun _ => ⟨_, rfl, h.lt, fun j c hj => by rw [add_none, Nat.zero_add]; exact h.cell hj⟩⟩
end

/-- []byte(s) -/
theorem bytes_of (w : World) (s : ByteArray) : ∃ c w0, (convert 9 57 (.string s)).run Tryz.prog w = .ok (.slice (some ⟨w.heap.size, 0, none⟩) s.size c) w0 ∧
    w0.heap.size = w.heap.size + 1 ∧ Row w0 w.heap.size (bs s) ∧ Below w.heap.size w w0 ∧ s.size ≤ c := by
  refine ⟨_, _, run_bytes_of_string w 9 57 5 s Tryz.underlying9 Tryz.underlying57 Tryz.underlying5, by simp, ?_, ((Below.refl _ _).drew).alloc (Nat.le_refl _) _, grownCap_ge _ _ _ _⟩
  refine ⟨_, _, heap_alloc_new w.drew _, Nat.le_refl _, ?_, fun j c hj => ?_⟩
  · rw [bs_length]
    simp only [bytesRow, Array.size_append, Array.size_map]
    exact Nat.le_add_right _ _
  · have hlt : j < s.data.size := by
      have := (List.getElem?_eq_some_iff.1 hj).1
      simpa [bs] using this
    rw [bytesRow_at s _ j hlt]
    have : s.data[j] = c := by
      have h2 := (List.getElem?_eq_some_iff.1 hj).2
      simpa [bs] using h2
    rw [this]
    rfl

theorem iter_setCell (w : World) (s : ByteArray) (pos : Nat) (p : Addr) (v : Value) (hp : p.block < w.heap.size) : (w.iter s pos).setCell p v = (w.setCell p v).iter s pos := by
  simp only [World.iter, World.alloc, World.setCell]
  congr 1
  apply Array.ext_getElem?
  intro i
  simp only [Array.getElem?_modify, Array.getElem?_push, Array.size_modify]
  by_cases h1 : i = w.heap.size
  · subst h1
    rw [if_pos rfl, if_pos rfl, if_neg (by omega)]
  · rw [if_neg h1, if_neg h1]
theorem iterPos_of {w1 : World} {N : Nat} (h : w1.heap.size = N) (s : ByteArray) (p : Nat) : (w1.iter s p).iterPos N = p := by subst h; simp
theorem size_set (w : World) (p : Addr) (v : Value) : (w.setCell p v).heap.size = w.heap.size := by simp [World.setCell]

/-- small up to k -/
def lowPre (l : List UInt8) (k : Nat) : List UInt8 := (l.take k).map lowB ++ l.drop k
theorem lowPre_length (l : List UInt8) (k : Nat) : (lowPre l k).length = l.length := by
  simp only [lowPre, List.length_append, List.length_map, List.length_take, List.length_drop]; omega
theorem lowPre_at (l : List UInt8) (k : Nat) (h : k < l.length) : (lowPre l k)[k]? = some l[k] := by
  rw [lowPre, List.getElem?_append_right (by simp; omega)]
  simp only [List.length_map, List.length_take, Nat.min_eq_left (Nat.le_of_lt h), Nat.sub_self, List.getElem?_drop, Nat.add_zero]
  exact List.getElem?_eq_getElem h
theorem lowPre_next (l : List UInt8) (k : Nat) (h : k < l.length) : lowPre l (k + 1) = (lowPre l k).set k (lowB l[k]) := by
  have hl : ((l.take k).map lowB).length = k := by simp; omega
  rw [lowPre, lowPre, List.take_succ_eq_append_getElem h, List.map_append, List.set_append, if_neg (by omega), hl, Nat.sub_self, List.drop_eq_getElem_cons h, List.set_cons_zero, List.append_assoc]
  rfl
theorem lowPre_same (l : List UInt8) (k : Nat) (h : k < l.length) (hc : lowB l[k] = l[k]) : lowPre l (k + 1) = lowPre l k := by
  rw [lowPre_next l k h, hc]
  have e := lowPre_at l k h
  apply List.ext_getElem?
  intro i
  rw [List.getElem?_set]
  split
  · rename_i hi
    subst hi
    rw [e, if_pos (by rw [lowPre_length]; exact h)]
  · rfl
theorem lowPre_skip (l : List UInt8) (k : Nat) : ∀ d, k + d ≤ l.length → (∀ j (h : j < l.length), k ≤ j → j < k + d → lowB l[j] = l[j]) → lowPre l (k + d) = lowPre l k
  | 0, _, _ => rfl
  | d + 1, h, hc => by
    rw [← Nat.add_assoc, lowPre_same l (k + d) (by omega) (hc _ _ (by omega) (by omega))]
    exact lowPre_skip l k d (by omega) (fun j hj h1 h2 => hc j hj h1 (by omega))
theorem lowPre_all (l : List UInt8) (k : Nat) (h : l.length ≤ k) : lowPre l k = l.map lowB := by
  rw [lowPre, List.take_of_length_le h, List.drop_of_length_le h, List.append_nil]
theorem lowB_high (c : UInt8) (h : ¬ (65 ≤ c.toNat ∧ c.toNat ≤ 90)) : lowB c = c := by
  rw [lowB, if_neg]
  rintro ⟨h1, h2⟩
  rw [UInt8.le_iff_toNat_le] at h1 h2
  exact h ⟨h1, h2⟩
theorem lowB_great (c : UInt8) (h1 : 65 ≤ c.toNat) (h2 : c.toNat ≤ 90) : (lowB c).toNat = c.toNat + 32 := by
  rw [lowB, if_pos ⟨by rw [UInt8.le_iff_toNat_le]; exact h1, by rw [UInt8.le_iff_toNat_le]; exact h2⟩]
  rw [UInt8.toNat_add]
  show (c.toNat + 32) % 256 = _
  omega
def lowS (s : ByteArray) : ByteArray := ⟨((bs s).map lowB).toArray⟩
theorem bs_low (s : ByteArray) : bs (lowS s) = (bs s).map lowB := rfl
theorem low_size (s : ByteArray) : (lowS s).size = s.size := by rw [← bs_length, bs_low, List.length_map, bs_length]
end Go.Proofs.YtgpgkfbbpiialaaGreatDoor.Asc

/-
  Contracts of package ascii's Lower and Same.
-/
namespace Go.Proofs.YtgpgkfbbpiialaaGreatDoor.Asc
open Go.RowKit Go.Proofs.YtgpgkfbbpiialaaGreatDoor.Wd

def LowIn (s : ByteArray) (w : World) (N : Nat) (w' : World) : Prop :=
  ∃ pos w1, w' = w1.iter s pos ∧ w1.heap.size = N ∧ Row w1 w.heap.size (lowPre (bs s) pos) ∧ pos ≤ s.size ∧ Below w.heap.size w w1

theorem conv {w : World} {A : Option Addr} {n c : Nat} {xs : List UInt8} (h : Src w A n xs) : (convert 57 9 (.slice A n c)).run Tryz.prog w = .ok (.string ⟨xs.toArray⟩) w :=
  conv_src h Tryz.underlying57 Tryz.underlying5 Tryz.underlying9

set_option maxHeartbeats 1000000 in
theorem lower_any (s : ByteArray) (w : World) :
    Calls Tryz.prog 31 #[.string s] w fun e w' => e = .returned (.string (lowS s)) ∧ Below w.heap.size w w' := by
  obtain ⟨cap, w0, hcv, hsz, hrow, hbel, hcap⟩ := bytes_of w s
  have HZ := Lib.hid hsz
  have hgN : w.heap.size < w0.heap.size := by omega
  clear hsz
  go_enter Tryz.func31, Tryz.ntmps31
  go_wp2
  clear hcv
  go_loopw [4] (fun _ w' => LowIn s w w0.heap.size w') (fun _ w' => s.size - w'.iterPos w0.heap.size)
  case atStart => exact ⟨0, w0, rfl, rfl, hrow, Nat.zero_le _, hbel⟩
  case round =>
    obtain ⟨pos, w1, rfl, hz1, hrow1, hle, hbel1⟩ := hrel
    have HZ1 := Lib.hid hz1
    clear hz1
    by_cases hp : pos < s.size
    · by_cases ha : (s[pos]'hp).toNat < 128
      · have hnx : ∀ ty, (Instr.next (.pointer (some ⟨w0.heap.size, 0, none⟩)) true ty).run Tryz.prog (w1.iter s pos) = .ok (.tuple #[.bool true, .int .i64 pos, .int .i32 (s[pos]'hp).toNat]) (w1.iter s (pos + 1)) := fun ty => by
          have := run_next_ascii (P := Tryz.prog) w1 s pos ty hp ha
          rw [HZ1.out] at this; exact this
        by_cases hc : 65 ≤ (s[pos]'hp).toNat ∧ (s[pos]'hp).toNat ≤ 90
        · obtain ⟨hc1, hc2⟩ := hc
          have hi1 : (65 : Int) ≤ ((s[pos]'hp).toNat : Int) := by omega
          have hi2 : ((s[pos]'hp).toNat : Int) ≤ 90 := by omega
          have hcell : (w1.iter s (pos + 1)).cell? ⟨w.heap.size, pos, none⟩ = some (.int .u8 ((s[pos]'hp).toNat : Int)) := (hrow1.alloc _).cell (lowPre_at (bs s) pos hp)
          have hfr : (w1.iter s (pos + 1)).frozen? ⟨w.heap.size, pos, none⟩ = false := (hrow1.alloc _).frozen (by rw [lowPre_length]; exact hp)
          go_wp2
          go_roundw
          case rel =>
            refine ⟨pos + 1, w1.setCell ⟨w.heap.size, pos, none⟩ (b8 (lowB (s[pos]'hp))), ?_, by rw [size_set]; exact HZ1.out, ?_, hp, hbel1.setCell (Nat.le_refl _) _⟩
            · rw [← iter_setCell w1 s (pos + 1) _ _ hrow1.lt, b8, lowB_great _ hc1 hc2]
              rfl
            · rw [lowPre_next (bs s) pos hp]
              exact hrow1.set_ pos _
          case measure =>
            rw [iter_setCell _ _ _ _ _ hrow1.lt, iterPos_of (by rw [size_set]; exact HZ1.out), iterPos_of HZ1.out]
            omega
        · have hsame := Lib.hid (lowPre_same (bs s) pos hp (lowB_high _ hc))
          by_cases hc1 : 65 ≤ (s[pos]'hp).toNat
          · have hi1 : (65 : Int) ≤ ((s[pos]'hp).toNat : Int) := by omega
            have hi2 : ¬ ((s[pos]'hp).toNat : Int) ≤ 90 := by omega
            clear hc
            go_wp2
            go_roundw
            case rel => exact ⟨pos + 1, w1, rfl, HZ1.out, by rw [hsame.out]; exact hrow1, hp, hbel1⟩
            case measure => rw [iterPos_of HZ1.out, iterPos_of HZ1.out]; omega
          · have hi1 : ¬ (65 : Int) ≤ ((s[pos]'hp).toNat : Int) := by omega
            clear hc
            go_wp2
            go_roundw
            case rel => exact ⟨pos + 1, w1, rfl, HZ1.out, by rw [hsame.out]; exact hrow1, hp, hbel1⟩
            case measure => rw [iterPos_of HZ1.out, iterPos_of HZ1.out]; omega
      · have hnx : ∀ ty, (Instr.next (.pointer (some ⟨w0.heap.size, 0, none⟩)) true ty).run Tryz.prog (w1.iter s pos) = .ok (.tuple #[.bool true, .int .i64 pos, .int .i32 (Utf8.decode s pos).1]) (w1.iter s (pos + (Utf8.decode s pos).2)) := fun ty => by
          have := run_next_any (P := Tryz.prog) w1 s pos ty hp
          rw [HZ1.out] at this; exact this
        obtain ⟨hd1, hd2⟩ := decode_high s pos hp (by omega)
        obtain ⟨hw1, hw2⟩ := wide_high s pos hp (by omega)
        have hsame := Lib.hid (lowPre_skip (bs s) pos (Utf8.decode s pos).2 (by rw [bs_length]; exact hw1) (fun j hj h1 h2 => lowB_high _ (by
          have h3 := hw2 (j - pos) (by omega)
          rw [show pos + (j - pos) = j by omega, get_eq s j hj] at h3
          show ¬ (65 ≤ (s[j]'hj).toNat ∧ (s[j]'hj).toNat ≤ 90)
          omega)))
        have hi1 : (65 : Int) ≤ ((Utf8.decode s pos).1 : Int) := by omega
        have hi2 : ¬ ((Utf8.decode s pos).1 : Int) ≤ 90 := by omega
        clear hw2
        go_wp2
        go_roundw
        case rel => exact ⟨_, w1, rfl, HZ1.out, by rw [hsame.out]; exact hrow1, hw1, hbel1⟩
        case measure => rw [iterPos_of HZ1.out, iterPos_of HZ1.out]; omega
    · have hnx : ∀ ty, (Instr.next (.pointer (some ⟨w0.heap.size, 0, none⟩)) true ty).run Tryz.prog (w1.iter s pos) = .ok (.tuple #[.bool false]) (w1.iter s pos) := fun ty => by
        have := run_next_end (P := Tryz.prog) w1 s pos ty hp
        rw [HZ1.out] at this; exact this
      have kc : (convert 57 9 (.slice (some ⟨w.heap.size, 0, none⟩) s.size cap)).run Tryz.prog (w1.iter s pos) = .ok (.string (lowS s)) (w1.iter s pos) := by
        have h := conv (c := cap) ((hrow1.alloc (.stringIter s pos)).src)
        rw [lowPre_length, bs_length, lowPre_all _ _ (by rw [bs_length]; omega)] at h
        exact h
      go_wp2
      go_ret
      exact ⟨rfl, hbel1.alloc hbel1.size _⟩

def sameS (a b : ByteArray) : Bool := (bs a).map lowB == (bs b).map lowB
theorem same_any (a b : ByteArray) (w : World) :
    Calls Tryz.prog 32 #[.string a, .string b] w fun e w' => e = .returned (.bool (sameS a b)) ∧ Below w.heap.size w w' := by
  go_enter Tryz.func32, Tryz.ntmps32
  go_wp2_with fail
  refine (lower_any a w).mono ?_
  rintro e w1 ⟨rfl, hb1⟩
  go_wp2_with fail
  refine (lower_any b w1).mono ?_
  rintro e w2 ⟨rfl, hb2⟩
  go_wp2_with fail
  go_ret
  exact ⟨ret_b (by rw [Lib.toList_data, Lib.toList_data]; rfl), hb1.trans (hb2.mono hb1.size)⟩
end Go.Proofs.YtgpgkfbbpiialaaGreatDoor.Asc
