/-
  Contracts of hagioscoperef02's lower, Visible, Number, Hex: what they answer is what the contracts of package ascii say.
-/
import Derived.Test.YtpeahbejmhmbjaaAscLaws
namespace Go.Proofs.Ytpeahbejmhmbjaa.Asc
open Go.RowKit Go.Proofs.Ytpeahbejmhmbjaa.Wd

theorem ret_u8 {a b : Int} (h : a = b) : Ending.returned (.int .u8 a) = .returned (.int .u8 b) := by rw [h]

theorem rlower_any (c : UInt8) (w : World) : Calls Try.prog 24 #[.int .u8 (c.toNat : Int)] w fun e w' => e = .returned (.int .u8 ((lowB c).toNat : Int)) ∧ w = w' := by
  have hlt := c.toNat_lt
  by_cases a1 : 65 ≤ c.toNat
  · have i1 : (65 : Int) ≤ (c.toNat : Int) := by omega
    by_cases a2 : c.toNat ≤ 90
    · have i2 : (c.toNat : Int) ≤ 90 := by omega
      have H := Lib.hid (lowB_great c a1 a2)
      go_enter Try.func24, Try.ntmps24
      go_wp2
      go_ret
      exact ⟨ret_u8 (by rw [H.out]; omega), rfl⟩
    · have i2 : ¬ (c.toNat : Int) ≤ 90 := by omega
      have H := Lib.hid (lowB_high c (by omega))
      go_enter Try.func24, Try.ntmps24
      go_wp2
      go_ret
      exact ⟨ret_u8 (by rw [H.out]), rfl⟩
  · have i1 : ¬ (65 : Int) ≤ (c.toNat : Int) := by omega
    have H := Lib.hid (lowB_high c (by omega))
    go_enter Try.func24, Try.ntmps24
    go_wp2
    go_ret
    exact ⟨ret_u8 (by rw [H.out]), rfl⟩

set_option maxHeartbeats 1000000 in
theorem rvisible_any (s : ByteArray) (w : World) (hs : s.size ≤ maxLen) :
    Calls Try.prog 16 #[.string s] w fun e w' => e = .returned (.bool (allS visI (bs s))) ∧ w = w' := by
  unfold maxLen at hs
  go_enter Try.func16, Try.ntmps16
  go_wp2
  go_loop [3] (fun x => ∃ k : Nat, x = .int .i64 k ∧ k ≤ s.size ∧ ((bs s).take k).all (fun c => visI (c.toNat : Int)) = true) (fun x => s.size - (intOf x).toNat)
  case atStart => exact ⟨0, rfl, Nat.zero_le _, rfl⟩
  case round =>
    obtain ⟨k, rfl, hk, ht⟩ := hrel
    have HT := Lib.hid ht
    clear ht
    by_cases hlt : k < s.size
    · by_cases c1 : ((s[k]'hlt).toNat : Int) < 33
      · go_wp2
        go_ret
        exact ⟨ret_b (allS_no visI s k hlt (by simp [visI]; omega)).symm, rfl⟩
      · by_cases c2 : 126 < ((s[k]'hlt).toNat : Int)
        · go_wp2
          go_ret
          exact ⟨ret_b (allS_no visI s k hlt (by simp [visI]; omega)).symm, rfl⟩
        · go_wp2
          go_round
          case rel => exact ⟨k + 1, by go_num, hlt, take_all visI s k hlt HT.out (by simp [visI]; omega)⟩
          case measure => simp [intOf]; omega
    · go_wp2
      go_ret
      exact ⟨ret_b (allS_nil visI s k hlt hk HT.out), rfl⟩

theorem fold_nodig (s : ByteArray) (pos : Nat) (n : Int) (h : pos < s.size) (hc : ¬ (48 ≤ ((s[pos]'h).toNat : Int) ∧ ((s[pos]'h).toNat : Int) ≤ 57)) : foldv 10 ((bs s).drop pos) n = none := by
  cases hx : hexI ((s[pos]'h).toNat : Int) with
  | none => exact fold_none _ s pos n h hx
  | some d =>
    refine fold_big _ s pos n d h hx ?_
    rw [hexI, if_neg hc] at hx
    split at hx
    · injection hx; omega
    · split at hx
      · injection hx; omega
      · cases hx
theorem fold_dig (s : ByteArray) (pos : Nat) (n : Int) (h : pos < s.size) (h1 : 48 ≤ ((s[pos]'h).toNat : Int)) (h2 : ((s[pos]'h).toNat : Int) ≤ 57) :
    foldv 10 ((bs s).drop pos) n = foldv 10 ((bs s).drop (pos + 1)) (n * 10 + (((s[pos]'h).toNat : Int) - 48)) :=
  fold_on _ s pos n _ h (by rw [hexI, if_pos ⟨h1, h2⟩]) (by omega)

def NumIn (s : ByteArray) (x y : Value) : Prop :=
  ∃ (k : Nat) (n : Int), y = .int .i64 k ∧ x = .int .i64 n ∧ k ≤ s.size ∧ 0 ≤ n ∧ n < ((10 ^ k : Nat) : Int) ∧ foldv 10 ((bs s).drop k) n = foldv 10 (bs s) 0

set_option maxHeartbeats 2000000 in
theorem rnumber_in (s : ByteArray) (most : Int) (w : World) (h0 : 0 < s.size) (hM : s.size ≤ 18) (hz : ¬ (1 < (bs s).length ∧ (bs s)[0]? = some 48)) :
    Calls Try.prog 20 #[.string s, .int .i64 most] w fun e w' => e = .returned (dTup (numS (bs s) most)) ∧ w = w' := by
  have E := Lib.hid (digits_in 10 18 s h0 hM)
  have HZ := Lib.hid hz
  clear hz
  have g1 : ¬ (s.size : Int) < 1 := by omega
  have g2 : ¬ (18 : Int) < (s.size : Int) := by omega
  have hb : (1 : Int) < (s.size : Int) → (((s[0]'h0).toNat : Int) == 48) = false := fun h => byte_ne (k := 48) (by omega) (fun e => HZ.out ⟨by rw [bs_length]; omega, by rw [first_is s h0, e]; rfl⟩)
  by_cases g3 : (1 : Int) < (s.size : Int)
  all_goals
    first
      | replace hb := hb g3
      | clear hb
    go_enter Try.func20, Try.ntmps20
    go_wp2
    go_loop [6, 7] (fun x y => NumIn s x y) (fun _ y => s.size - (intOf y).toNat)
    case atStart => exact ⟨0, 0, rfl, rfl, Nat.zero_le _, Int.le_refl _, by simp, rfl⟩
    case round =>
      obtain ⟨k, n, rfl, rfl, hle, hn0, hn1, hf⟩ := hrel
      have HF := Lib.hid hf
      clear hf
      by_cases hp : k < s.size
      · have hpw := pow_bd10 k (by omega)
        by_cases c1 : ((s[k]'hp).toNat : Int) < 48
        · clear hn1 hpw
          go_wp2
          go_ret2
          exact ⟨ret_no (num_none _ _ (by rw [E.out, ← HF.out]; exact fold_nodig s k n hp (by omega))), rfl⟩
        · by_cases c2 : 57 < ((s[k]'hp).toNat : Int)
          · clear hn1 hpw
            go_wp2
            go_ret2
            exact ⟨ret_no (num_none _ _ (by rw [E.out, ← HF.out]; exact fold_nodig s k n hp (by omega))), rfl⟩
          · have hn2 : n ≤ 100000000000000000 - 1 := by omega
            have HN := Lib.hid (show n * 10 + (((s[k]'hp).toNat : Int) - 48) < (((10 : Nat) ^ (k + 1) : Nat) : Int) by rw [Nat.pow_succ]; omega)
            have HS := Lib.hid (fold_dig s k n hp (by omega) (by omega))
            clear hn1 hpw
            go_wp2
            go_round
            case rel => exact ⟨k + 1, n * 10 + (((s[k]'hp).toNat : Int) - 48), by go_num, by go_num, hp, by omega, HN.out, by rw [← HF.out, HS.out]⟩
            case measure => simp [intOf]; omega
      · clear hn1
        have HY : Hid (digitsS 10 18 (bs s) = some n) := Lib.hid (by rw [E.out, ← HF.out, bs_end s k hp]; rfl)
        by_cases hm : most < n
        · go_wp2
          go_ret2
          exact ⟨ret_no (num_big _ _ _ HY.out hm), rfl⟩
        · go_wp2
          go_ret2
          exact ⟨ret_yes (num_yes _ _ _ HZ.out HY.out (by omega)), rfl⟩

theorem rnumber_any (s : ByteArray) (most : Int) (w : World) (hs : s.size ≤ maxLen) :
    Calls Try.prog 20 #[.string s, .int .i64 most] w fun e w' => e = .returned (dTup (numS (bs s) most)) ∧ w = w' := by
  unfold maxLen at hs
  by_cases h0 : s.size = 0
  · obtain rfl := empty_of s h0
    clear h0
    go_enter Try.func20, Try.ntmps20
    go_wp2
    go_ret2
    exact ⟨ret_no rfl, rfl⟩
  · by_cases hM : s.size ≤ 18
    · by_cases hz : 1 < (bs s).length ∧ (bs s)[0]? = some 48
      · obtain ⟨h1, h2⟩ := hz
        have HN := Lib.hid (num_zero (bs s) most h1 h2)
        rw [bs_length] at h1
        have hp : 0 < s.size := by omega
        rw [first_is s hp] at h2
        injection h2 with h2
        have hb : (((s[0]'hp).toNat : Int) == 48) = true := by rw [h2]; rfl
        clear h2
        have g1 : ¬ (s.size : Int) < 1 := by omega
        have g2 : ¬ (18 : Int) < (s.size : Int) := by omega
        have g3 : (1 : Int) < (s.size : Int) := by omega
        go_enter Try.func20, Try.ntmps20
        go_wp2
        go_ret2
        exact ⟨ret_no HN.out, rfl⟩
      · exact rnumber_in s most w (by omega) hM hz
    · have HN := Lib.hid (num_none (bs s) most (by rw [digitsS, bs_length, if_pos (by omega)]))
      have g1 : ¬ (s.size : Int) < 1 := by omega
      have g2 : (18 : Int) < (s.size : Int) := by omega
      go_enter Try.func20, Try.ntmps20
      go_wp2
      go_ret2
      exact ⟨ret_no HN.out, rfl⟩

theorem hex_of_low (c : UInt8) : hexI (c.toNat : Int) =
    if 48 ≤ ((lowB c).toNat : Int) ∧ ((lowB c).toNat : Int) ≤ 57 then some (((lowB c).toNat : Int) - 48) else if 97 ≤ ((lowB c).toNat : Int) ∧ ((lowB c).toNat : Int) ≤ 102 then some (((lowB c).toNat : Int) - 87) else none := by
  rw [hexI]
  by_cases h : 65 ≤ c.toNat ∧ c.toNat ≤ 90
  · rw [lowB_great c h.1 h.2]
    have n1 : ¬ (48 ≤ (c.toNat : Int) ∧ (c.toNat : Int) ≤ 57) := by omega
    have n2 : ¬ (97 ≤ (c.toNat : Int) ∧ (c.toNat : Int) ≤ 102) := by omega
    have n3 : ¬ (48 ≤ ((c.toNat + 32 : Nat) : Int) ∧ ((c.toNat + 32 : Nat) : Int) ≤ 57) := by omega
    rw [if_neg n1, if_neg n2, if_neg n3]
    by_cases h2 : c.toNat ≤ 70
    · have p1 : 65 ≤ (c.toNat : Int) ∧ (c.toNat : Int) ≤ 70 := by omega
      have p2 : 97 ≤ ((c.toNat + 32 : Nat) : Int) ∧ ((c.toNat + 32 : Nat) : Int) ≤ 102 := by omega
      rw [if_pos p1, if_pos p2]; congr 1; omega
    · have p1 : ¬ (65 ≤ (c.toNat : Int) ∧ (c.toNat : Int) ≤ 70) := by omega
      have p2 : ¬ (97 ≤ ((c.toNat + 32 : Nat) : Int) ∧ ((c.toNat + 32 : Nat) : Int) ≤ 102) := by omega
      rw [if_neg p1, if_neg p2]
  · rw [lowB_high c h]
    by_cases h1 : 48 ≤ (c.toNat : Int) ∧ (c.toNat : Int) ≤ 57
    · rw [if_pos h1, if_pos h1]
    · rw [if_neg h1, if_neg h1]
      by_cases h2 : 97 ≤ (c.toNat : Int) ∧ (c.toNat : Int) ≤ 102
      · rw [if_pos h2, if_pos h2]
      · rw [if_neg h2, if_neg h2, if_neg (by omega)]

def HexIn (s : ByteArray) (x y : Value) : Prop :=
  ∃ (k : Nat) (n : Int), y = .int .i64 k ∧ x = .int .i64 n ∧ k ≤ s.size ∧ 0 ≤ n ∧ n < ((16 ^ k : Nat) : Int) ∧ foldv 16 ((bs s).drop k) n = foldv 16 (bs s) 0

set_option maxHeartbeats 2000000 in
theorem rhex_in (s : ByteArray) (w : World) (h0 : 0 < s.size) (hM : s.size ≤ 4) :
    Calls Try.prog 22 #[.string s] w fun e w' => e = .returned (dTup (hexS (bs s))) ∧ w = w' := by
  have E : Hid (hexS (bs s) = foldv 16 (bs s) 0) := Lib.hid (digits_in 16 4 s h0 hM)
  have g1 : ¬ (s.size : Int) < 1 := by omega
  have g2 : ¬ (4 : Int) < (s.size : Int) := by omega
  go_enter Try.func22, Try.ntmps22
  go_wp2
  go_loop [4, 5] (fun x y => HexIn s x y) (fun _ y => s.size - (intOf y).toNat)
  case atStart => exact ⟨0, 0, rfl, rfl, Nat.zero_le _, Int.le_refl _, by simp, rfl⟩
  case round =>
    obtain ⟨k, n, rfl, rfl, hle, hn0, hn1, hf⟩ := hrel
    have HF := Lib.hid hf
    clear hf
    by_cases hp : k < s.size
    · have hpw := pow_bd16 k (by omega)
      have hn2 : n ≤ 4096 - 1 := by omega
      have hu := (lowB (s[k]'hp)).toNat_lt
      have HX := Lib.hid (hex_of_low (s[k]'hp))
      by_cases c1 : 48 ≤ ((lowB (s[k]'hp)).toNat : Int)
      · by_cases c2 : ((lowB (s[k]'hp)).toNat : Int) ≤ 57
        · have HN := Lib.hid (show n * 16 + (((lowB (s[k]'hp)).toNat : Int) - 48) < (((16 : Nat) ^ (k + 1) : Nat) : Int) by rw [Nat.pow_succ]; omega)
          have HS := Lib.hid (fold_on 16 s k n _ hp (by rw [HX.out, if_pos ⟨c1, c2⟩]) (by omega))
          clear hn1 hpw
          go_wp2_with (go_at_call 24; refine (rlower_any _ _).mono ?_; rintro e w' ⟨rfl, rfl⟩)
          go_round
          case rel => exact ⟨k + 1, n * 16 + (((lowB (s[k]'hp)).toNat : Int) - 48), by go_num, by go_num, hp, by omega, HN.out, by rw [← HF.out, HS.out]⟩
          case measure => simp [intOf]; omega
        · by_cases c3 : 97 ≤ ((lowB (s[k]'hp)).toNat : Int)
          · by_cases c4 : ((lowB (s[k]'hp)).toNat : Int) ≤ 102
            · have HN := Lib.hid (show n * 16 + (((lowB (s[k]'hp)).toNat : Int) - 87) < (((16 : Nat) ^ (k + 1) : Nat) : Int) by rw [Nat.pow_succ]; omega)
              have HS := Lib.hid (fold_on 16 s k n _ hp (by rw [HX.out, if_neg (by omega), if_pos ⟨c3, c4⟩]) (by omega))
              clear hn1 hpw
              go_wp2_with (go_at_call 24; refine (rlower_any _ _).mono ?_; rintro e w' ⟨rfl, rfl⟩)
              go_round
              case rel => exact ⟨k + 1, n * 16 + (((lowB (s[k]'hp)).toNat : Int) - 87), by go_num, by go_num, hp, by omega, HN.out, by rw [← HF.out, HS.out]⟩
              case measure => simp [intOf]; omega
            · have HS := Lib.hid (fold_none 16 s k n hp (by rw [HX.out, if_neg (by omega), if_neg (by omega)]))
              clear hn1 hpw
              go_wp2_with (go_at_call 24; refine (rlower_any _ _).mono ?_; rintro e w' ⟨rfl, rfl⟩)
              go_ret2
              exact ⟨ret_no (by rw [E.out, ← HF.out]; exact HS.out), rfl⟩
          · have HS := Lib.hid (fold_none 16 s k n hp (by rw [HX.out, if_neg (by omega), if_neg (by omega)]))
            clear hn1 hpw
            go_wp2_with (go_at_call 24; refine (rlower_any _ _).mono ?_; rintro e w' ⟨rfl, rfl⟩)
            go_ret2
            exact ⟨ret_no (by rw [E.out, ← HF.out]; exact HS.out), rfl⟩
      · have c3 : ¬ 97 ≤ ((lowB (s[k]'hp)).toNat : Int) := by omega
        have HS := Lib.hid (fold_none 16 s k n hp (by rw [HX.out, if_neg (by omega), if_neg (by omega)]))
        clear hn1 hpw
        go_wp2_with (go_at_call 24; refine (rlower_any _ _).mono ?_; rintro e w' ⟨rfl, rfl⟩)
        go_ret2
        exact ⟨ret_no (by rw [E.out, ← HF.out]; exact HS.out), rfl⟩
    · clear hn1
      have HY : Hid (hexS (bs s) = some n) := Lib.hid (by rw [E.out, ← HF.out, bs_end s k hp]; rfl)
      go_wp2
      go_ret2
      exact ⟨ret_yes HY.out, rfl⟩

theorem rhex_any (s : ByteArray) (w : World) (hs : s.size ≤ maxLen) :
    Calls Try.prog 22 #[.string s] w fun e w' => e = .returned (dTup (hexS (bs s))) ∧ w = w' := by
  unfold maxLen at hs
  by_cases h0 : s.size = 0
  · obtain rfl := empty_of s h0
    clear h0
    go_enter Try.func22, Try.ntmps22
    go_wp2
    go_ret2
    exact ⟨ret_no rfl, rfl⟩
  · by_cases hM : s.size ≤ 4
    · exact rhex_in s w (by omega) hM
    · have HN := Lib.hid (show hexS (bs s) = none by rw [hexS, digitsS, bs_length, if_pos (by omega)])
      have g1 : ¬ (s.size : Int) < 1 := by omega
      have g2 : (4 : Int) < (s.size : Int) := by omega
      go_enter Try.func22, Try.ntmps22
      go_wp2
      go_ret2
      exact ⟨ret_no HN.out, rfl⟩
end Go.Proofs.Ytpeahbejmhmbjaa.Asc
