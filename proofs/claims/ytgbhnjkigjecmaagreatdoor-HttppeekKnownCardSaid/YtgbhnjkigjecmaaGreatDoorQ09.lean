/-
  hagioscoperef02's Number, Hex and Text for seats that have package ascii's Lower, too (XRfAsc's, behind RfTok, where the rest of it stands).
-/
import Derived.Test.YtgbhnjkigjecmaaGreatDoorQ03
import Derived.Test.YtgbhnjkigjecmaaGreatDoorQ08
import Derived.Test.YtgbhnjkigjecmaaGreatDoorQ07
import Derived.Test.YtgbhnjkigjecmaaGreatDoorQ01
namespace Go.Proofs.YtgbhnjkigjecmaaGreatDoor.Asc
open Go.RowKit Go.Proofs.YtgbhnjkigjecmaaGreatDoor.Wd

theorem fold_nodig (s : ByteArray) (pos : Nat) (n : Int) (h : pos < s.size) (hc : ¬ (48 ≤ ((s[pos]'h).toNat : Int) ∧ ((s[pos]'h).toNat : Int) ≤ 57)) : foldv 10 ((bs s).drop pos) n = none := by
  cases hx : hexI ((s[pos]'h).toNat : Int) with
  | none => exact fold_none _ s pos n h hx
  | some d =>
    refine fold_big _ s pos n d h hx ?_
    rw [hexI, if_neg hc] at hx
    split at hx
    · injection hx; omega
    · split at hx
      · injection hx; omega
      · cases hx
theorem fold_dig (s : ByteArray) (pos : Nat) (n : Int) (h : pos < s.size) (h1 : 48 ≤ ((s[pos]'h).toNat : Int)) (h2 : ((s[pos]'h).toNat : Int) ≤ 57) :
    foldv 10 ((bs s).drop pos) n = foldv 10 ((bs s).drop (pos + 1)) (n * 10 + (((s[pos]'h).toNat : Int) - 48)) :=
  fold_on _ s pos n _ h (by rw [hexI, if_pos ⟨h1, h2⟩]) (by omega)

def NumIn (s : ByteArray) (x y : Value) : Prop :=
  ∃ (k : Nat) (n : Int), y = .int .i64 k ∧ x = .int .i64 n ∧ k ≤ s.size ∧ 0 ≤ n ∧ n < ((10 ^ k : Nat) : Int) ∧ foldv 10 ((bs s).drop k) n = foldv 10 (bs s) 0

set_option maxHeartbeats 2000000 in
theorem rnumber_in (s : ByteArray) (most : Int) (w : World) (h0 : 0 < s.size) (hM : s.size ≤ 18) (hz : ¬ (1 < (bs s).length ∧ (bs s)[0]? = some 48)) :
    Calls Tryz.prog 121 #[.string s, .int .i64 most] w fun e w' => e = .returned (dTup (numS (bs s) most)) ∧ w = w' := by
  have E := Lib.hid (digits_in 10 18 s h0 hM)
  have HZ := Lib.hid hz
  clear hz
  have g1 : ¬ (s.size : Int) < 1 := by omega
  have g2 : ¬ (18 : Int) < (s.size : Int) := by omega
  have hb : (1 : Int) < (s.size : Int) → (((s[0]'h0).toNat : Int) == 48) = false := fun h => byte_ne (k := 48) (by omega) (fun e => HZ.out ⟨by rw [bs_length]; omega, by rw [first_is s h0, e]; rfl⟩)
  by_cases g3 : (1 : Int) < (s.size : Int)
  all_goals
    first
      | replace hb := hb g3
      | clear hb
    go_enter Tryz.func121, Tryz.ntmps121
    go_wp2
    go_loop [6, 7] (fun x y => NumIn s x y) (fun _ y => s.size - (intOf y).toNat)
    case atStart => exact ⟨0, 0, rfl, rfl, Nat.zero_le _, Int.le_refl _, by simp, rfl⟩
    case round =>
      obtain ⟨k, n, rfl, rfl, hle, hn0, hn1, hf⟩ := hrel
      have HF := Lib.hid hf
      clear hf
      by_cases hp : k < s.size
      · have hpw := pow_bd10 k (by omega)
        by_cases c1 : ((s[k]'hp).toNat : Int) < 48
        · clear hn1 hpw
          go_wp2
          go_ret2
          exact ⟨ret_no (num_none _ _ (by rw [E.out, ← HF.out]; exact fold_nodig s k n hp (by omega))), rfl⟩
        · by_cases c2 : 57 < ((s[k]'hp).toNat : Int)
          · clear hn1 hpw
            go_wp2
            go_ret2
            exact ⟨ret_no (num_none _ _ (by rw [E.out, ← HF.out]; exact fold_nodig s k n hp (by omega))), rfl⟩
          · have hn2 : n ≤ 100000000000000000 - 1 := by omega
            have HN := Lib.hid (show n * 10 + (((s[k]'hp).toNat : Int) - 48) < (((10 : Nat) ^ (k + 1) : Nat) : Int) by rw [Nat.pow_succ]; omega)
            have HS := Lib.hid (fold_dig s k n hp (by omega) (by omega))
            clear hn1 hpw
            go_wp2
            go_round
            case rel => exact ⟨k + 1, n * 10 + (((s[k]'hp).toNat : Int) - 48), by go_num, by go_num, hp, by omega, HN.out, by rw [← HF.out, HS.out]⟩
            case measure => simp [intOf]; omega
      · clear hn1
        have HY : Hid (digitsS 10 18 (bs s) = some n) := Lib.hid (by rw [E.out, ← HF.out, bs_end s k hp]; rfl)
        by_cases hm : most < n
        · go_wp2
          go_ret2
          exact ⟨ret_no (num_big _ _ _ HY.out hm), rfl⟩
        · go_wp2
          go_ret2
          exact ⟨ret_yes (num_yes _ _ _ HZ.out HY.out (by omega)), rfl⟩

theorem rnumber_any (s : ByteArray) (most : Int) (w : World) (hs : s.size ≤ maxLen) :
    Calls Tryz.prog 121 #[.string s, .int .i64 most] w fun e w' => e = .returned (dTup (numS (bs s) most)) ∧ w = w' := by
  unfold maxLen at hs
  by_cases h0 : s.size = 0
  · obtain rfl := empty_of s h0
    clear h0
    go_enter Tryz.func121, Tryz.ntmps121
    go_wp2
    go_ret2
    exact ⟨ret_no rfl, rfl⟩
  · by_cases hM : s.size ≤ 18
    · by_cases hz : 1 < (bs s).length ∧ (bs s)[0]? = some 48
      · obtain ⟨h1, h2⟩ := hz
        have HN := Lib.hid (num_zero (bs s) most h1 h2)
        rw [bs_length] at h1
        have hp : 0 < s.size := by omega
        rw [first_is s hp] at h2
        injection h2 with h2
        have hb : (((s[0]'hp).toNat : Int) == 48) = true := by rw [h2]; rfl
        clear h2
        have g1 : ¬ (s.size : Int) < 1 := by omega
        have g2 : ¬ (18 : Int) < (s.size : Int) := by omega
        have g3 : (1 : Int) < (s.size : Int) := by omega
        go_enter Tryz.func121, Tryz.ntmps121
        go_wp2
        go_ret2
        exact ⟨ret_no HN.out, rfl⟩
      · exact rnumber_in s most w (by omega) hM hz
    · have HN := Lib.hid (num_none (bs s) most (by rw [digitsS, bs_length, if_pos (by omega)]))
      have g1 : ¬ (s.size : Int) < 1 := by omega
      have g2 : (18 : Int) < (s.size : Int) := by omega
      go_enter Tryz.func121, Tryz.ntmps121
      go_wp2
      go_ret2
      exact ⟨ret_no HN.out, rfl⟩

theorem hex_of_low (c : UInt8) : hexI (c.toNat : Int) =
    if 48 ≤ ((lowB c).toNat : Int) ∧ ((lowB c).toNat : Int) ≤ 57 then some (((lowB c).toNat : Int) - 48) else if 97 ≤ ((lowB c).toNat : Int) ∧ ((lowB c).toNat : Int) ≤ 102 then some (((lowB c).toNat : Int) - 87) else none := by
  rw [hexI]
  by_cases h : 65 ≤ c.toNat ∧ c.toNat ≤ 90
  · rw [lowB_great c h.1 h.2]
    have n1 : ¬ (48 ≤ (c.toNat : Int) ∧ (c.toNat : Int) ≤ 57) := by omega
    have n2 : ¬ (97 ≤ (c.toNat : Int) ∧ (c.toNat : Int) ≤ 102) := by omega
    have n3 : ¬ (48 ≤ ((c.toNat + 32 : Nat) : Int) ∧ ((c.toNat + 32 : Nat) : Int) ≤ 57) := by omega
    rw [if_neg n1, if_neg n2, if_neg n3]
    by_cases h2 : c.toNat ≤ 70
    · have p1 : 65 ≤ (c.toNat : Int) ∧ (c.toNat : Int) ≤ 70 := by omega
      have p2 : 97 ≤ ((c.toNat + 32 : Nat) : Int) ∧ ((c.toNat + 32 : Nat) : Int) ≤ 102 := by omega
      rw [if_pos p1, if_pos p2]; congr 1; omega
    · have p1 : ¬ (65 ≤ (c.toNat : Int) ∧ (c.toNat : Int) ≤ 70) := by omega
      have p2 : ¬ (97 ≤ ((c.toNat + 32 : Nat) : Int) ∧ ((c.toNat + 32 : Nat) : Int) ≤ 102) := by omega
      rw [if_neg p1, if_neg p2]
  · rw [lowB_high c h]
    by_cases h1 : 48 ≤ (c.toNat : Int) ∧ (c.toNat : Int) ≤ 57
    · rw [if_pos h1, if_pos h1]
    · rw [if_neg h1, if_neg h1]
      by_cases h2 : 97 ≤ (c.toNat : Int) ∧ (c.toNat : Int) ≤ 102
      · rw [if_pos h2, if_pos h2]
      · rw [if_neg h2, if_neg h2, if_neg (by omega)]

def HexIn (s : ByteArray) (x y : Value) : Prop :=
  ∃ (k : Nat) (n : Int), y = .int .i64 k ∧ x = .int .i64 n ∧ k ≤ s.size ∧ 0 ≤ n ∧ n < ((16 ^ k : Nat) : Int) ∧ foldv 16 ((bs s).drop k) n = foldv 16 (bs s) 0

set_option maxHeartbeats 2000000 in
theorem rhex_in (s : ByteArray) (w : World) (h0 : 0 < s.size) (hM : s.size ≤ 4) :
    Calls Tryz.prog 153 #[.string s] w fun e w' => e = .returned (dTup (hexS (bs s))) ∧ w = w' := by
  have E : Hid (hexS (bs s) = foldv 16 (bs s) 0) := Lib.hid (digits_in 16 4 s h0 hM)
  have g1 : ¬ (s.size : Int) < 1 := by omega
  have g2 : ¬ (4 : Int) < (s.size : Int) := by omega
  go_enter Tryz.func153, Tryz.ntmps153
  go_wp2
  go_loop [4, 5] (fun x y => HexIn s x y) (fun _ y => s.size - (intOf y).toNat)
  case atStart => exact ⟨0, 0, rfl, rfl, Nat.zero_le _, Int.le_refl _, by simp, rfl⟩
  case round =>
    obtain ⟨k, n, rfl, rfl, hle, hn0, hn1, hf⟩ := hrel
    have HF := Lib.hid hf
    clear hf
    by_cases hp : k < s.size
    · have hpw := pow_bd16 k (by omega)
      have hn2 : n ≤ 4096 - 1 := by omega
      have hu := (lowB (s[k]'hp)).toNat_lt
      have HX := Lib.hid (hex_of_low (s[k]'hp))
      by_cases c1 : 48 ≤ ((lowB (s[k]'hp)).toNat : Int)
      · by_cases c2 : ((lowB (s[k]'hp)).toNat : Int) ≤ 57
        · have HN := Lib.hid (show n * 16 + (((lowB (s[k]'hp)).toNat : Int) - 48) < (((16 : Nat) ^ (k + 1) : Nat) : Int) by rw [Nat.pow_succ]; omega)
          have HS := Lib.hid (fold_on 16 s k n _ hp (by rw [HX.out, if_pos ⟨c1, c2⟩]) (by omega))
          clear hn1 hpw
          go_wp2_with (go_at_call 87; refine (rlower_any _ _).mono ?_; rintro e w' ⟨rfl, rfl⟩)
          go_round
          case rel => exact ⟨k + 1, n * 16 + (((lowB (s[k]'hp)).toNat : Int) - 48), by go_num, by go_num, hp, by omega, HN.out, by rw [← HF.out, HS.out]⟩
          case measure => simp [intOf]; omega
        · by_cases c3 : 97 ≤ ((lowB (s[k]'hp)).toNat : Int)
          · by_cases c4 : ((lowB (s[k]'hp)).toNat : Int) ≤ 102
            · have HN := Lib.hid (show n * 16 + (((lowB (s[k]'hp)).toNat : Int) - 87) < (((16 : Nat) ^ (k + 1) : Nat) : Int) by rw [Nat.pow_succ]; omega)
              have HS := Lib.hid (fold_on 16 s k n _ hp (by rw [HX.out, if_neg (by omega), if_pos ⟨c3, c4⟩]) (by omega))
              clear hn1 hpw
              go_wp2_with (go_at_call 87; refine (rlower_any _ _).mono ?_; rintro e w' ⟨rfl, rfl⟩)
              go_round
              case rel => exact ⟨k + 1, n * 16 + (((lowB (s[k]'hp)).toNat : Int) - 87), by go_num, by go_num, hp, by omega, HN.out, by rw [← HF.out, HS.out]⟩
              case measure => simp [intOf]; omega
            · have HS := Lib.hid (fold_none 16 s k n hp (by rw [HX.out, if_neg (by omega), if_neg (by omega)]))
              clear hn1 hpw
              go_wp2_with (go_at_call 87; refine (rlower_any _ _).mono ?_; rintro e w' ⟨rfl, rfl⟩)
              go_ret2
              exact ⟨ret_no (by rw [E.out, ← HF.out]; exact HS.out), rfl⟩
          · have HS := Lib.hid (fold_none 16 s k n hp (by rw [HX.out, if_neg (by omega), if_neg (by omega)]))
            clear hn1 hpw
            go_wp2_with (go_at_call 87; refine (rlower_any _ _).mono ?_; rintro e w' ⟨rfl, rfl⟩)
            go_ret2
            exact ⟨ret_no (by rw [E.out, ← HF.out]; exact HS.out), rfl⟩
      · have c3 : ¬ 97 ≤ ((lowB (s[k]'hp)).toNat : Int) := by omega
        have HS := Lib.hid (fold_none 16 s k n hp (by rw [HX.out, if_neg (by omega), if_neg (by omega)]))
        clear hn1 hpw
        go_wp2_with (go_at_call 87; refine (rlower_any _ _).mono ?_; rintro e w' ⟨rfl, rfl⟩)
        go_ret2
        exact ⟨ret_no (by rw [E.out, ← HF.out]; exact HS.out), rfl⟩
    · clear hn1
      have HY : Hid (hexS (bs s) = some n) := Lib.hid (by rw [E.out, ← HF.out, bs_end s k hp]; rfl)
      go_wp2
      go_ret2
      exact ⟨ret_yes HY.out, rfl⟩

theorem rhex_any (s : ByteArray) (w : World) (hs : s.size ≤ maxLen) :
    Calls Tryz.prog 153 #[.string s] w fun e w' => e = .returned (dTup (hexS (bs s))) ∧ w = w' := by
  unfold maxLen at hs
  by_cases h0 : s.size = 0
  · obtain rfl := empty_of s h0
    clear h0
    go_enter Tryz.func153, Tryz.ntmps153
    go_wp2
    go_ret2
    exact ⟨ret_no rfl, rfl⟩
  · by_cases hM : s.size ≤ 4
    · exact rhex_in s w (by omega) hM
    · have HN := Lib.hid (show hexS (bs s) = none by rw [hexS, digitsS, bs_length, if_pos (by omega)])
      have g1 : ¬ (s.size : Int) < 1 := by omega
      have g2 : (4 : Int) < (s.size : Int) := by omega
      go_enter Tryz.func153, Tryz.ntmps153
      go_wp2
      go_ret2
      exact ⟨ret_no HN.out, rfl⟩
def dgt (d : Nat) : UInt8 := UInt8.ofNat (48 + d)
/-- a number's digits -/
def txtL (n : Nat) : List UInt8 := if n < 10 then [dgt n] else txtL (n / 10) ++ [dgt (n % 10)]
termination_by n
def txtS (n : Nat) : ByteArray := ⟨(txtL n).toArray⟩
theorem txt_one (n : Nat) (h : n < 10) : txtL n = [dgt n] := by rw [txtL, if_pos h]
theorem txt_more (n : Nat) (h : ¬ n < 10) : txtL n = txtL (n / 10) ++ [dgt (n % 10)] := by rw [txtL, if_neg h]
theorem bs_txt (n : Nat) : bs (txtS n) = txtL n := rfl
theorem txt_long (n : Nat) : (txtL n).length ≤ n + 1 := by
  induction n using Nat.strongRecOn with
  | _ n ih =>
    by_cases h : n < 10
    · rw [txt_one n h]; simp
    · rw [txt_more n h, List.length_append]
      have := ih (n / 10) (by omega)
      simp only [List.length_cons, List.length_nil]
      omega
theorem txt_pos (n : Nat) : 0 < (txtL n).length := by
  by_cases h : n < 10
  · rw [txt_one n h]; simp
  · rw [txt_more n h]; simp
theorem txt_short : ∀ (k n : Nat), n < 10 ^ (k + 1) → (txtL n).length ≤ k + 1
  | 0, n, h => by rw [txt_one n (by simpa using h)]; simp
  | k + 1, n, h => by
    by_cases h1 : n < 10
    · rw [txt_one n h1]; simp
    · rw [txt_more n h1, List.length_append]
      have := txt_short k (n / 10) (by rw [Nat.pow_succ] at h; omega)
      simp only [List.length_cons, List.length_nil]
      omega
theorem txtS_size (n : Nat) : (txtS n).size ≤ n + 1 := by rw [← bs_length, bs_txt]; exact txt_long n

theorem dgt_hex : ∀ d : Fin 10, hexI ((dgt d.1).toNat : Int) = some (d.1 : Int) := by decide
theorem dgt_is (d : Nat) (h : d < 10) : hexI ((dgt d).toNat : Int) = some (d : Int) := dgt_hex ⟨d, h⟩
theorem of_dgt (c : UInt8) (d : Int) (h : hexI (c.toNat : Int) = some d) (hd : d < 10) : ∃ k : Nat, k < 10 ∧ d = (k : Int) ∧ c = dgt k := by
  have hb := hex_bd h
  refine ⟨d.toNat, by omega, by omega, ?_⟩
  apply UInt8.toNat.inj
  unfold hexI at h
  split at h
  · injection h with h
    rw [dgt, UInt8.toNat_ofNat']
    have := c.toNat_lt
    omega
  · split at h
    · injection h; omega
    · split at h
      · injection h; omega
      · cases h
theorem fold_add (B : Int) : ∀ (l : List UInt8) (c : UInt8) (a : Int), foldv B (l ++ [c]) a = (foldv B l a).bind fun v => foldv B [c] v
  | [], c, a => rfl
  | x :: l, c, a => by
    rw [List.cons_append, foldv, foldv]
    cases hexI (x.toNat : Int) with
    | none => rfl
    | some d =>
      simp only
      split
      · exact fold_add B l c _
      · rfl
theorem fold_dgt (v : Int) (d : Nat) (h : d < 10) : foldv 10 [dgt d] v = some (v * 10 + d) := by
  rw [foldv, dgt_is d h]; simp only; rw [if_pos (by omega), foldv]
theorem txt_fold (n : Nat) : foldv 10 (txtL n) 0 = some (n : Int) := by
  induction n using Nat.strongRecOn with
  | _ n ih =>
    by_cases h : n < 10
    · rw [txt_one n h, fold_dgt 0 n h]; congr 1; omega
    · rw [txt_more n h, fold_add, ih (n / 10) (by omega)]
      show foldv 10 [dgt (n % 10)] ((n / 10 : Nat) : Int) = _
      rw [fold_dgt _ _ (Nat.mod_lt _ (by omega))]
      congr 1
      omega
theorem dgt_ne : ∀ d : Fin 10, d.1 ≠ 0 → dgt d.1 ≠ 48 := by decide
theorem txt_first (n : Nat) (h0 : 1 ≤ n) : (txtL n)[0]? ≠ some 48 := by
  induction n using Nat.strongRecOn with
  | _ n ih =>
    by_cases h : n < 10
    · rw [txt_one n h]
      intro e
      simp only [List.getElem?_cons_zero, Option.some.injEq] at e
      exact dgt_ne ⟨n, h⟩ (by simp; omega) e
    · rw [txt_more n h, List.getElem?_append_left (txt_pos _)]
      exact ih (n / 10) (by omega) (by omega)
theorem txt_lead (n : Nat) : ¬ (1 < (txtL n).length ∧ (txtL n)[0]? = some 48) := by
  rintro ⟨h1, h2⟩
  by_cases h : n < 10
  · rw [txt_one n h] at h1; simp at h1
  · exact txt_first n (by omega) h2
theorem txt_dig (n : Nat) (h : n ≤ 999999999999999999) : digitsS 10 18 (txtL n) = some (n : Int) := by
  have h1 := txt_short 17 n (by have : (10 : Nat) ^ 18 = 1000000000000000000 := by decide
                                omega)
  have h2 := txt_pos n
  rw [digitsS, if_neg (by omega), txt_fold]
theorem txt_num (n : Nat) (h : n ≤ 999999999999999999) : numS (txtL n) (n : Int) = some (n : Int) := num_yes _ _ _ (txt_lead n) (txt_dig n h) (by omega)
theorem txt_less (n : Nat) (h : n ≤ 999999999999999999) : numS (txtL n) ((n : Int) - 1) = none := num_big _ _ _ (txt_dig n h) (by omega)

theorem one_text : ∀ (k : Nat) (l : List UInt8) (m : Int), l.length = k + 1 → ¬ (1 < l.length ∧ l[0]? = some 48) → foldv 10 l 0 = some m → ∃ n : Nat, m = (n : Int) ∧ txtL n = l
  | 0, l, m, hl, _, hf => by
    obtain ⟨c, rfl⟩ := List.length_eq_one_iff.1 hl
    rw [foldv] at hf
    cases hc : hexI (c.toNat : Int) with
    | none => rw [hc] at hf; cases hf
    | some d =>
      rw [hc] at hf
      simp only at hf
      split at hf
      · rename_i hd
        obtain ⟨q, hq, rfl, rfl⟩ := of_dgt c d hc hd
        rw [foldv] at hf
        injection hf with hf
        exact ⟨q, by omega, txt_one q hq⟩
      · cases hf
  | k + 1, l, m, hl, hz, hf => by
    rcases List.eq_nil_or_concat l with rfl | ⟨r, c, e⟩
    · simp at hl
    · rw [List.concat_eq_append] at e
      subst e
      have hr : r.length = k + 1 := by simpa using hl
      have h0 : (r ++ [c])[0]? = r[0]? := List.getElem?_append_left (by omega)
      have hne : ¬ r[0]? = some 48 := fun h => hz ⟨by omega, by rw [h0]; exact h⟩
      rw [fold_add] at hf
      cases hv : foldv 10 r 0 with
      | none => rw [hv] at hf; cases hf
      | some v =>
        rw [hv] at hf
        have hf2 : foldv 10 [c] v = some m := hf
        obtain ⟨n, rfl, hn⟩ := one_text k r v hr (fun h => hne h.2) hv
        rw [foldv] at hf2
        cases hc : hexI (c.toNat : Int) with
        | none => rw [hc] at hf2; cases hf2
        | some d =>
          rw [hc] at hf2
          simp only at hf2
          split at hf2
          · rename_i hd
            obtain ⟨q, hq, rfl, rfl⟩ := of_dgt c d hc hd
            rw [foldv] at hf2
            injection hf2 with hf2
            have hn1 : 1 ≤ n := by
              rcases Nat.eq_zero_or_pos n with rfl | h
              · exfalso
                apply hne
                rw [← hn, txt_one 0 (by omega)]
                rfl
              · exact h
            refine ⟨n * 10 + q, by omega, ?_⟩
            rw [txt_more _ (by omega), show (n * 10 + q) / 10 = n by omega, show (n * 10 + q) % 10 = q by omega, hn]
          · cases hf2
theorem num_text (l : List UInt8) (most m : Int) (h : numS l most = some m) : ∃ n : Nat, m = (n : Int) ∧ (n : Int) ≤ most ∧ txtL n = l := by
  rw [numS] at h
  split at h
  · cases h
  · rename_i hz
    cases hd : digitsS 10 18 l with
    | none => rw [hd] at h; cases h
    | some v =>
      rw [hd] at h
      simp only at h
      split at h
      · cases h
      · injection h with h
        subst h
        rw [digitsS] at hd
        split at hd
        · cases hd
        · obtain ⟨n, rfl, hn⟩ := one_text (l.length - 1) l v (by omega) hz hd
          exact ⟨n, rfl, by omega, hn⟩

theorem ten_at : ∀ d : Fin 10, ((bs ⟨#[48, 49, 50, 51, 52, 53, 54, 55, 56, 57]⟩).drop d.1).take 1 = [dgt d.1] := by decide
theorem ten_ext (n : Nat) (h : n < 10) : (⟨#[48, 49, 50, 51, 52, 53, 54, 55, 56, 57]⟩ : ByteArray).extract n (n + 1) = txtS n := by
  apply bs_inj
  rw [bs_extract, bs_txt, txt_one n h, Nat.add_sub_cancel_left]
  exact ten_at ⟨n, h⟩
theorem txtS_add (n : Nat) (h : ¬ n < 10) : txtS (n / 10) ++ txtS (n % 10) = txtS n := by
  apply bs_inj
  rw [bs_add, bs_txt, bs_txt, bs_txt, txt_more n h, txt_one (n % 10) (Nat.mod_lt _ (by omega))]

set_option maxHeartbeats 1000000 in
theorem text_any (n : Nat) : ∀ (m : Int) (w : World), m = (n : Int) → n ≤ 9223372036854775807 →
    Calls Tryz.prog 126 #[.int .i64 m] w fun e w' => e = .returned (.string (txtS n)) ∧ w = w' := by
  induction n using Nat.strongRecOn with
  | _ n ih =>
    intro m w hm hn
    subst hm
    by_cases h : n < 10
    · have HE := Lib.hid (ten_ext n h)
      have h' : (n : Int) < 10 := by omega
      clear ih
      go_enter Tryz.func126, Tryz.ntmps126
      go_wp2
      go_ret
      exact ⟨ret_s (by rw [← HE.out]), rfl⟩
    · have h' : ¬ (n : Int) < 10 := by omega
      have HA := Lib.hid (txtS_add n h)
      have I1 := Lib.hid (ih (n / 10) (by omega))
      have I2 := Lib.hid (ih (n % 10) (by omega))
      have z1 := txtS_size (n / 10)
      have z2 := txtS_size (n % 10)
      clear ih
      go_enter Tryz.func126, Tryz.ntmps126
      go_wp2_with fail
      refine (I1.out _ _ (by omega) (by omega)).mono ?_
      rintro e w' ⟨rfl, rfl⟩
      go_wp2_with fail
      refine (I2.out _ _ (by omega) (by omega)).mono ?_
      rintro e w' ⟨rfl, rfl⟩
      go_wp2_with fail
      go_ret
      exact ⟨ret_s HA.out, rfl⟩
end Go.Proofs.YtgbhnjkigjecmaaGreatDoor.Asc

/-
  Hosts and ports in plain words: what is parsed, printed, and which host a request is for. No condition.
-/
namespace Go.Proofs.YtgbhnjkigjecmaaGreatDoor.Au
open Go Go.Proofs.YtgbhnjkigjecmaaGreatDoor.Asc

/-- what Parse answers: a host, a port, why not -/
abbrev Res := List UInt8 × Int × Int
/-- the text of an address in brackets, and what is behind it; then the host -/
def bracketS (m : List UInt8) : (List UInt8 × List UInt8) × Int :=
  if (93 : UInt8) ∈ m then
    match Ad.parseS (m.takeWhile (· != 93)) with
    | some a => if (58 : UInt8) ∈ m.takeWhile (· != 93) then ((Ad.ctext a, (m.dropWhile (· != 93)).drop 1), 0) else (([], []), 3)
    | none => (([], []), 3)
  else (([], []), 3)
def hostS (l : List UInt8) : (List UInt8 × List UInt8) × Int :=
  if l = [] ∨ l.head? = some 58 then (([], []), 8)
  else if allS visI l = false ∨ (64 : UInt8) ∈ l then (([], []), 3)
  else if l.head? = some 91 then bracketS (l.drop 1)
  else ((l.takeWhile (· != 58), l.dropWhile (· != 58)), 0)
def portS : List UInt8 → Int × Int
  | [] => (0, 0)
  | c :: d => if c ≠ 58 then (0, 3) else match numS d 65535 with
    | none => (0, 10)
    | some n => if n = 0 then (0, 10) else (n, 0)
def parseS (l : List UInt8) : Res :=
  if (hostS l).2 ≠ 0 then ([], 0, (hostS l).2)
  else if (portS (hostS l).1.2).2 ≠ 0 then ([], 0, (portS (hostS l).1.2).2)
  else ((hostS l).1.1, (portS (hostS l).1.2).1, 0)
def bodyS (h : List UInt8) : List UInt8 := if (58 : UInt8) ∈ h then 91 :: (h ++ [93]) else h
def tailS (p : Int) : List UInt8 := if p = 0 then [] else 58 :: txtL p.toNat
def lineS (h : List UInt8) (p : Int) : List UInt8 := bodyS h ++ tailS p
def printS (h : List UInt8) (p : Int) : Option (List UInt8) := if 0 ≤ p ∧ parseS (lineS h p) = (h, p, 0) then some (lineS h p) else none
def hostN : List UInt8 := [104, 111, 115, 116]
def ofS (r : Rl.Rq) (l : List Fd.Fld) : Res :=
  if Rl.formS r = 4 then ([], 0, 11) else if Rl.formS r = 0 then ([], 0, 3) else if 1 < (Fd.findS hostN l).2 then ([], 0, 7)
  else if Rl.formS r = 2 then parseS ((Rl.authS r.targ).getD []) else if (Fd.findS hostN l).2 = 0 then ([], 0, 8) else parseS (Fd.findS hostN l).1

/-! cuts -/
theorem while_at {c : UInt8} : ∀ {a b : List UInt8}, c ∉ a → (a ++ c :: b).takeWhile (· != c) = a ∧ (a ++ c :: b).dropWhile (· != c) = c :: b
  | [], b, _ => by simp
  | x :: a, b, h => by
    have hx : (x != c) = true := by rw [bne_iff_ne]; rintro rfl; exact h (by simp)
    obtain ⟨h1, h2⟩ := while_at (c := c) (a := a) (b := b) (fun hm => h (List.mem_cons_of_mem _ hm))
    rw [List.cons_append, List.takeWhile_cons, List.dropWhile_cons, if_pos hx, if_pos hx, h1, h2]
    exact ⟨rfl, rfl⟩
theorem while_free {c : UInt8} : ∀ {a : List UInt8}, c ∉ a → a.takeWhile (· != c) = a ∧ a.dropWhile (· != c) = []
  | [], _ => ⟨rfl, rfl⟩
  | x :: a, h => by
    have hx : (x != c) = true := by rw [bne_iff_ne]; rintro rfl; exact h (by simp)
    obtain ⟨h1, h2⟩ := while_free (c := c) (a := a) (fun hm => h (List.mem_cons_of_mem _ hm))
    rw [List.takeWhile_cons, List.dropWhile_cons, if_pos hx, if_pos hx, h1, h2]
    exact ⟨rfl, rfl⟩

/-! bytes of texts -/
/-- a byte of an address's text -/
def txtB (c : UInt8) : Bool := [48, 49, 50, 51, 52, 53, 54, 55, 56, 57, 97, 98, 99, 100, 101, 102, 46, 58].contains c
theorem txtB_hex : ∀ d : Fin 16, txtB (Ad.hdg d.1) = true := by decide
theorem txtB_itoa : ∀ c : Fin 256, (Lib.itoa (c.1 : Int)).all txtB = true ∧ Lib.itoa (c.1 : Int) ≠ [] := by decide +kernel
theorem txtB_vis_all : ∀ c : Fin 256, txtB (UInt8.ofNat c.1) = true → visI (c.1 : Int) = true ∧ UInt8.ofNat c.1 ≠ 64 ∧ UInt8.ofNat c.1 ≠ 91 ∧ UInt8.ofNat c.1 ≠ 93 := by decide +kernel
theorem txtB_vis {c : UInt8} (h : txtB c = true) : visI (c.toNat : Int) = true ∧ c ≠ 64 ∧ c ≠ 91 ∧ c ≠ 93 := by
  have h1 := txtB_vis_all ⟨c.toNat, c.toNat_lt⟩
  simp only [UInt8.ofNat_toNat] at h1
  exact h1 h
theorem txtB_dgt : ∀ d : Fin 10, txtB (dgt d.1) = true ∧ dgt d.1 ≠ 58 := by decide
theorem txt_ok (n : Nat) : (txtL n).all txtB = true ∧ (58 : UInt8) ∉ txtL n := by
  induction n using Nat.strongRecOn with
  | _ n ih =>
    by_cases h : n < 10
    · rw [txt_one n h]
      have := txtB_dgt ⟨n, h⟩
      exact ⟨by simpa using this.1, by simpa using this.2.symm⟩
    · obtain ⟨h1, h2⟩ := ih (n / 10) (by omega)
      have := txtB_dgt ⟨n % 10, by omega⟩
      rw [txt_more n h, List.all_append, h1]
      exact ⟨by simpa using this.1, by simpa using ⟨h2, this.2.symm⟩⟩
theorem hexT_ok {n : Nat} (h : n < 65536) : (Ad.hexT n).all txtB = true := List.all_eq_true.2 fun c hc => by
  obtain ⟨d, rfl⟩ := Ad.hexT_mem h hc
  exact txtB_hex d
theorem join_ok : ∀ (row : List Nat), (∀ n ∈ row, n < 65536) → (Ad.joinS row).all txtB = true
  | [], _ => rfl
  | [n], h => hexT_ok (h n (by simp))
  | n :: m :: r, h => by
    rw [Ad.joinS, List.all_append, List.all_cons, hexT_ok (h n (by simp)), join_ok (m :: r) (fun x hx => h x (by simp at hx ⊢; exact .inr hx))]
    decide
theorem textG_ok (a : List UInt8) (ha : a.length = 16) : (Ad.textG a).all txtB = true := by
  have hp := (Ad.pairs_bytes 8 a ha).2.2
  unfold Ad.textG
  split
  · exact join_ok _ hp
  · rw [List.all_append, List.all_append, join_ok _ (fun n hn => hp n (List.mem_of_mem_take hn)), join_ok _ (fun n hn => hp n (List.mem_of_mem_drop hn))]
    decide
theorem itoa_ok (c : UInt8) : (Lib.itoa (c.toNat : Int)).all txtB = true ∧ Lib.itoa (c.toNat : Int) ≠ [] := txtB_itoa ⟨c.toNat, c.toNat_lt⟩
theorem text4_ok (a : List UInt8) (ha : a.length = 16) : (Ad.text4 a).all txtB = true ∧ Ad.text4 a ≠ [] := by
  obtain ⟨b0, b1, b2, b3, hb⟩ := Ad.four_parts (Ad.lastS_len ha)
  rw [Ad.text4_is hb]
  constructor
  · simp only [List.all_append, List.all_cons, (itoa_ok b0).1, (itoa_ok b1).1, (itoa_ok b2).1, (itoa_ok b3).1, Bool.true_and, Bool.and_true]
    decide
  · simp
/-- an address's text: its bytes, its colon; what is told of it -/
theorem ctext_ok (a : List UInt8) (ha : a.length = 16) : (Ad.ctext a).all txtB = true ∧ Ad.ctext a ≠ [] := by
  unfold Ad.ctext
  split
  · exact text4_ok a ha
  · refine ⟨textG_ok a ha, fun e => ?_⟩
    have := (Ad.parse_text a ha).2.2
    rw [e] at this
    revert this
    decide
theorem ctext_tells (a : List UInt8) (ha : a.length = 16) : Ad.parseS (Ad.ctext a) = some a := by
  unfold Ad.ctext
  split
  · rename_i hf
    exact (Ad.parse_four a ha hf).1
  · exact (Ad.parse_text a ha).1
theorem vis_all {l : List UInt8} : allS visI l = true ↔ l ≠ [] ∧ ∀ c ∈ l, visI (c.toNat : Int) = true := by
  unfold allS
  rw [Bool.and_eq_true, List.all_eq_true]
  cases l <;> simp

/-! ports -/
theorem numS_txt (n : Nat) (h : n ≤ 999999999999999999) (most : Int) : numS (txtL n) most = if most < n then none else some (n : Int) := by
  split
  · rename_i h1; exact num_big _ _ _ (txt_dig n h) h1
  · rename_i h1; exact num_yes _ _ _ (txt_lead n) (txt_dig n h) h1
theorem portS_cons (c : UInt8) (d : List UInt8) : portS (c :: d) = if c ≠ 58 then ((0, 3) : Int × Int) else match numS d 65535 with
    | none => (0, 10)
    | some n => if n = 0 then (0, 10) else (n, 0) := rfl
theorem port_txt {n : Nat} (h1 : 1 ≤ n) (h2 : n ≤ 65535) : portS (58 :: txtL n) = ((n : Int), 0) := by
  rw [portS_cons, if_neg (by simp), numS_txt n (by omega), if_neg (by omega)]
  dsimp only
  rw [if_neg (by omega)]
theorem port_bad {n : Nat} (h : n = 0 ∨ 65535 < n) (h2 : n ≤ 999999999999999999) : portS (58 :: txtL n) = (0, 10) := by
  rw [portS_cons, if_neg (by simp), numS_txt n h2]
  rcases h with rfl | h
  · rfl
  · rw [if_pos (by omega)]
theorem port_is {r : List UInt8} {p : Int} (h : portS r = (p, 0)) : (r = [] ∧ p = 0) ∨ ∃ n : Nat, 1 ≤ n ∧ n ≤ 65535 ∧ p = (n : Int) ∧ r = 58 :: txtL n := by
  cases r with
  | nil => exact .inl ⟨rfl, by injection h with h; exact h.symm⟩
  | cons c d =>
    rw [portS_cons] at h
    split at h
    · cases h
    · rename_i hc
      split at h
      · cases h
      · rename_i n hn
        split at h
        · cases h
        · rename_i h0
          injection h with h _
          obtain ⟨k, rfl, hk, hd⟩ := num_text d 65535 n hn
          refine .inr ⟨k, by omega, by omega, h.symm, ?_⟩
          rw [hd]
          simpa using hc
theorem port_none {r : List UInt8} (h : (portS r).2 ≠ 0) : (portS r).1 = 0 := by
  cases r with
  | nil => exact absurd rfl h
  | cons c d =>
    rw [portS_cons] at h ⊢
    split
    · rfl
    · rename_i hc
      rw [if_neg hc] at h
      split
      · rfl
      · rename_i n hn
        rw [hn] at h
        dsimp only at h
        split
        · rfl
        · rename_i h0
          rw [if_neg h0] at h
          exact absurd rfl h
theorem port_ge {r : List UInt8} {p e : Int} (h : portS r = (p, e)) : 0 ≤ p ∧ p ≤ 65535 := by
  by_cases he : e = 0
  · subst he
    rcases port_is h with ⟨_, rfl⟩ | ⟨n, _, h2, rfl, _⟩
    · decide
    · omega
  · have := port_none (r := r) (by rw [h]; exact he)
    rw [h] at this
    simp only at this
    omega
theorem tail_nil : tailS 0 = [] := rfl
theorem tail_nat {n : Nat} (h : 1 ≤ n) : tailS (n : Int) = 58 :: txtL n := by rw [tailS, if_neg (by omega)]; rfl

/-! hosts -/
/-- may stand in a text that is parsed -/
def Fine (l : List UInt8) : Prop := ∀ c ∈ l, visI (c.toNat : Int) = true ∧ c ≠ 64
theorem Fine.app {a b : List UInt8} (h : Fine a) (k : Fine b) : Fine (a ++ b) := fun c hc => (List.mem_append.1 hc).elim (h c) (k c)
theorem fine_txt {l : List UInt8} (h : l.all txtB = true) : Fine l := fun c hc => by
  have := txtB_vis (List.all_eq_true.1 h c hc)
  exact ⟨this.1, this.2.1⟩
theorem fine_tail (p : Int) : Fine (tailS p) := by
  unfold tailS
  split
  · exact fun c hc => absurd hc List.not_mem_nil
  · refine fine_txt ?_
    rw [List.all_cons, (txt_ok _).1]
    decide
theorem fine_not {l : List UInt8} (h : Fine l) (hl : l ≠ []) : ¬ (allS visI l = false ∨ (64 : UInt8) ∈ l) := by
  rintro (h1 | h1)
  · rw [vis_all.2 ⟨hl, fun c hc => (h c hc).1⟩] at h1; cases h1
  · exact (h 64 h1).2 rfl
theorem of_fine {l : List UInt8} (h : ¬ (allS visI l = false ∨ (64 : UInt8) ∈ l)) : Fine l := fun c hc => by
  simp only [not_or, Bool.not_eq_false] at h
  exact ⟨(vis_all.1 h.1).2 c hc, fun e => h.2 (e ▸ hc)⟩
theorem host_plain {h r : List UInt8} (h0 : h ≠ []) (h1 : (58 : UInt8) ∉ h) (h2 : h.head? ≠ some 91) (hf : Fine (h ++ r)) (hr : r = [] ∨ r.head? = some 58) : hostS (h ++ r) = ((h, r), 0) := by
  obtain ⟨x, t, rfl⟩ : ∃ x t, h = x :: t := by cases h with
    | nil => exact absurd rfl h0
    | cons x t => exact ⟨x, t, rfl⟩
  have hx : x ≠ 58 := fun e => h1 (by simp [e])
  have hx2 : x ≠ 91 := fun e => h2 (by simp [e])
  unfold hostS
  rw [if_neg (by simpa using hx), if_neg (fine_not hf (by simp)), if_neg (by simpa using hx2)]
  rcases hr with rfl | hr
  · rw [List.append_nil, (while_free h1).1, (while_free h1).2]
  · obtain ⟨d, rfl⟩ : ∃ d, r = 58 :: d := by cases r with
      | nil => cases hr
      | cons y d => simp at hr; exact ⟨d, by rw [hr]⟩
    rw [(while_at h1).1, (while_at h1).2]
theorem host_brack {i r a : List UInt8} (h1 : (93 : UInt8) ∉ i) (h2 : (58 : UInt8) ∈ i) (h3 : Ad.parseS i = some a) (hf : Fine (91 :: (i ++ 93 :: r))) : hostS (91 :: (i ++ 93 :: r)) = ((Ad.ctext a, r), 0) := by
  unfold hostS
  rw [if_neg (by simp), if_neg (fine_not hf (by simp)), if_pos (show (91 :: (i ++ 93 :: r)).head? = some (91 : UInt8) from rfl)]
  show bracketS (i ++ 93 :: r) = _
  unfold bracketS
  rw [if_pos (by simp), (while_at h1).1, (while_at h1).2, h3]
  dsimp only
  rw [if_pos h2]
  rfl
theorem host_is {l h r : List UInt8} (hh : hostS l = ((h, r), 0)) : Fine l ∧
    ((l = h ++ r ∧ h ≠ [] ∧ (58 : UInt8) ∉ h ∧ h.head? ≠ some 91 ∧ (r = [] ∨ r.head? = some 58)) ∨
     ∃ i a, l = 91 :: (i ++ 93 :: r) ∧ (93 : UInt8) ∉ i ∧ (58 : UInt8) ∈ i ∧ Ad.parseS i = some a ∧ h = Ad.ctext a) := by
  unfold hostS at hh
  split at hh
  · cases hh
  · rename_i c1
    split at hh
    · cases hh
    · rename_i c2
      refine ⟨of_fine c2, ?_⟩
      split at hh
      · rename_i c3
        right
        obtain ⟨m, rfl⟩ : ∃ m, l = 91 :: m := by cases l with
          | nil => cases c3
          | cons y d => simp at c3; exact ⟨d, by rw [c3]⟩
        simp only [List.drop_succ_cons, List.drop_zero] at hh
        unfold bracketS at hh
        split at hh
        · rename_i c4
          rcases Tx.first_of (c := 93) m with h5 | ⟨i, s, rfl, h5⟩
          · exact absurd c4 h5
          · rw [(while_at h5).1, (while_at h5).2] at hh
            split at hh
            · rename_i a ha
              split at hh
              · rename_i c6
                simp only [List.drop_succ_cons, List.drop_zero] at hh
                injection hh with hh _
                injection hh with e1 e2
                subst e1 e2
                exact ⟨i, a, rfl, h5, c6, ha, rfl⟩
              · cases hh
            · cases hh
        · cases hh
      · rename_i c3
        left
        injection hh with hh _
        injection hh with e1 e2
        subst e1 e2
        rcases Tx.first_of (c := 58) l with h5 | ⟨a, b, rfl, h5⟩
        · rw [(while_free h5).1, (while_free h5).2]
          exact ⟨(List.append_nil _).symm, fun e => c1 (.inl e), h5, c3, .inl rfl⟩
        · rw [(while_at h5).1, (while_at h5).2]
          refine ⟨rfl, fun e => ?_, h5, fun e => ?_, .inr rfl⟩
          · subst e; exact c1 (.inr rfl)
          · cases a with
            | nil => cases e
            | cons x t => exact c3 (by simpa using e)
theorem host_none {l : List UInt8} (h : (hostS l).2 ≠ 0) : (hostS l).1 = ([], []) := by
  unfold hostS bracketS at h ⊢
  split
  · rfl
  · rename_i c1
    rw [if_neg c1] at h
    split
    · rfl
    · rename_i c2
      rw [if_neg c2] at h
      split
      · rename_i c3
        rw [if_pos c3] at h
        split
        · rename_i c4
          rw [if_pos c4] at h
          split
          · rename_i a ha
            rw [ha] at h
            dsimp only at h
            split
            · rename_i c5
              rw [if_pos c5] at h
              exact absurd rfl h
            · rfl
          · rfl
        · rfl
      · rename_i c3
        rw [if_neg c3] at h
        exact absurd rfl h
/-- a parse in its parts -/
theorem parse_parts {l h r : List UInt8} {p : Int} (h1 : hostS l = ((h, r), 0)) (h2 : portS r = (p, 0)) : parseS l = (h, p, 0) := by
  unfold parseS
  rw [h1]
  simp [h2]
theorem parse_port {l h r : List UInt8} {p e : Int} (h1 : hostS l = ((h, r), 0)) (h2 : portS r = (p, e)) (he : e ≠ 0) : parseS l = ([], 0, e) := by
  unfold parseS
  rw [h1]
  simp [h2, he]
theorem parse_is {l h : List UInt8} {p : Int} (hp : parseS l = (h, p, 0)) : ∃ r, hostS l = ((h, r), 0) ∧ portS r = (p, 0) := by
  unfold parseS at hp
  split at hp
  · rename_i c; injection hp with _ hp; injection hp with _ hp; exact absurd hp c
  · rename_i c1
    split at hp
    · rename_i c; injection hp with _ hp; injection hp with _ hp; exact absurd hp c
    · rename_i c2
      injection hp with e1 hp
      injection hp with e2 _
      subst e1 e2
      refine ⟨(hostS l).1.2, ?_, ?_⟩
      · have : (hostS l).2 = 0 := by simpa using c1
        exact Prod.ext rfl this
      · have : (portS (hostS l).1.2).2 = 0 := by simpa using c2
        exact Prod.ext rfl this
theorem parse_none {l : List UInt8} {h : List UInt8} {p e : Int} (hp : parseS l = (h, p, e)) (he : e ≠ 0) : h = [] ∧ p = 0 := by
  unfold parseS at hp
  split at hp
  · injection hp with e1 hp; injection hp with e2 _; exact ⟨e1.symm, e2.symm⟩
  · split at hp
    · injection hp with e1 hp; injection hp with e2 _; exact ⟨e1.symm, e2.symm⟩
    · injection hp with _ hp; injection hp with _ hp; exact absurd hp.symm he
theorem parse_port_le {l h : List UInt8} {p e : Int} (hp : parseS l = (h, p, e)) : 0 ≤ p ∧ p ≤ 65535 := by
  by_cases he : e = 0
  · subst he
    obtain ⟨r, _, h2⟩ := parse_is hp
    exact port_ge h2
  · rw [(parse_none hp he).2]; decide
theorem tail_of {r : List UInt8} {p : Int} (h : portS r = (p, 0)) : tailS p = r := by
  rcases port_is h with ⟨rfl, rfl⟩ | ⟨n, h1, _, rfl, rfl⟩
  · rfl
  · exact tail_nat h1
theorem tail_head (p : Int) : tailS p = [] ∨ (tailS p).head? = some 58 := by
  unfold tailS
  split
  · exact .inl rfl
  · exact .inr rfl
/-- what is parsed can be printed, and is parsed the same -/
theorem parse_ok {l h : List UInt8} {p : Int} (hp : parseS l = (h, p, 0)) : parseS (lineS h p) = (h, p, 0) ∧ h ≠ [] ∧ 0 ≤ p ∧ p ≤ 65535 := by
  obtain ⟨r, h1, h2⟩ := parse_is hp
  have hb := port_ge h2
  have ht := tail_of h2
  obtain ⟨hf, ⟨rfl, c0, c1, c2, c3⟩ | ⟨i, a, rfl, c1, c2, c3, rfl⟩⟩ := host_is h1
  · refine ⟨?_, c0, hb.1, hb.2⟩
    rw [lineS, bodyS, if_neg c1, ht]
    exact hp
  · have ha := Ad.parseS_len c3
    obtain ⟨t1, t2⟩ := ctext_ok a ha
    refine ⟨?_, t2, hb.1, hb.2⟩
    have hft : Fine (tailS p) := fine_tail p
    rw [lineS, bodyS]
    split
    · rename_i hc
      have e : 91 :: (Ad.ctext a ++ [93]) ++ tailS p = 91 :: (Ad.ctext a ++ 93 :: tailS p) := by simp
      rw [e]
      refine parse_parts (host_brack (fun hm => ?_) hc (ctext_tells a ha) ?_) (by rw [ht]; exact h2)
      · exact (txtB_vis (List.all_eq_true.1 t1 93 hm)).2.2.2 rfl
      · intro c hc'
        simp only [List.mem_cons, List.mem_append] at hc'
        rcases hc' with rfl | hc' | rfl | hc'
        · decide
        · exact fine_txt t1 c hc'
        · decide
        · exact hft c hc'
    · rename_i hc
      refine parse_parts (host_plain t2 hc (fun e => ?_) ((fine_txt t1).app hft) (tail_head p)) (by rw [ht]; exact h2)
      have hm : (91 : UInt8) ∈ Ad.ctext a := List.mem_of_mem_head? e
      exact (txtB_vis (List.all_eq_true.1 t1 91 hm)).2.2.1 rfl
theorem print_yes {h : List UInt8} {p : Int} (h0 : 0 ≤ p) (h1 : parseS (lineS h p) = (h, p, 0)) : printS h p = some (lineS h p) := if_pos ⟨h0, h1⟩
theorem print_no {h : List UInt8} {p : Int} (h1 : p < 0 ∨ parseS (lineS h p) ≠ (h, p, 0)) : printS h p = none := if_neg fun ⟨a, b⟩ => by
  rcases h1 with h1 | h1
  · omega
  · exact h1 b
theorem print_is {h l : List UInt8} {p : Int} (hp : printS h p = some l) : l = lineS h p ∧ 0 ≤ p ∧ parseS l = (h, p, 0) := by
  unfold printS at hp
  split at hp
  · rename_i c
    injection hp with hp
    subst hp
    exact ⟨rfl, c.1, c.2⟩
  · cases hp
/-- each port may stand behind a host, and no other number -/
theorem more_port {l h : List UInt8} (hp : parseS l = (h, 0, 0)) (n : Nat) (hn : n ≤ 1000000) : parseS (l ++ 58 :: txtL n) = if 1 ≤ n ∧ n ≤ 65535 then (h, (n : Int), 0) else ([], 0, 10) := by
  obtain ⟨r, h1, h2⟩ := parse_is hp
  obtain rfl : r = [] := by
    rcases port_is h2 with ⟨h, _⟩ | ⟨k, hk, _, e, _⟩
    · exact h
    · omega
  have hft : Fine (58 :: txtL n) := fine_txt (by rw [List.all_cons, (txt_ok n).1]; decide)
  have hh : hostS (l ++ 58 :: txtL n) = ((h, 58 :: txtL n), 0) := by
    obtain ⟨hf, ⟨e, c0, c1, c2, _⟩ | ⟨i, a, rfl, c1, c2, c3, rfl⟩⟩ := host_is h1
    · rw [List.append_nil] at e
      subst e
      exact host_plain c0 c1 c2 (hf.app hft) (.inr rfl)
    · have e : 91 :: (i ++ [93]) ++ 58 :: txtL n = 91 :: (i ++ 93 :: (58 :: txtL n)) := by simp
      rw [e]
      refine host_brack c1 c2 c3 ?_
      rw [← e]
      exact hf.app hft
  split
  · rename_i c
    exact parse_parts hh (port_txt c.1 c.2)
  · rename_i c
    exact parse_port hh (port_bad (by omega) (by omega)) (by decide)
theorem ctext_le (a : List UInt8) (ha : a.length = 16) : (Ad.ctext a).length ≤ 64 := Ad.ctext_len a ha
/-- a host is no longer than the text, or an address's text -/
theorem parse_len {l h : List UInt8} {p e : Int} (hp : parseS l = (h, p, e)) : h.length ≤ l.length + 64 := by
  by_cases he : e = 0
  · subst he
    obtain ⟨r, h1, _⟩ := parse_is hp
    obtain ⟨_, ⟨rfl, _⟩ | ⟨i, a, rfl, _, _, c3, rfl⟩⟩ := host_is h1
    · simp; omega
    · have := Ad.ctext_len a (Ad.parseS_len c3); omega
  · rw [(parse_none hp he).1]; exact Nat.zero_le _
end Go.Proofs.YtgbhnjkigjecmaaGreatDoor.Au
