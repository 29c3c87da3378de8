/-
  hagioscoperef02's Number, Hex and Text for seats that have package ascii's Lower, too (XRfAsc's, behind RfTok, where the rest of it stands).
-/
import Derived.Test.YtlpondbcnfaggaaGreatDoorQ04
import Derived.Test.YtlpondbcnfaggaaGreatDoorQ13
import Derived.Test.YtlpondbcnfaggaaGreatDoorQ08
import Derived.Test.YtlpondbcnfaggaaGreatDoorQ06
import Derived.Test.YtlpondbcnfaggaaGreatDoorQ11
namespace Go.Proofs.YtlpondbcnfaggaaGreatDoor.Asc
open Go.RowKit Go.Proofs.YtlpondbcnfaggaaGreatDoor.Wd

theorem fold_nodig (s : ByteArray) (pos : Nat) (n : Int) (h : pos < s.size) (hc : ¬ (48 ≤ ((s[pos]'h).toNat : Int) ∧ ((s[pos]'h).toNat : Int) ≤ 57)) : foldv 10 ((bs s).drop pos) n = none := by
  cases hx : hexI ((s[pos]'h).toNat : Int) with
  | none => exact fold_none _ s pos n h hx
  | some d =>
    refine fold_big _ s pos n d h hx ?_
    rw [hexI, if_neg hc] at hx
    split at hx
    · injection hx; omega
    · split at hx
      · injection hx; omega
      · cases hx
theorem fold_dig (s : ByteArray) (pos : Nat) (n : Int) (h : pos < s.size) (h1 : 48 ≤ ((s[pos]'h).toNat : Int)) (h2 : ((s[pos]'h).toNat : Int) ≤ 57) :
    foldv 10 ((bs s).drop pos) n = foldv 10 ((bs s).drop (pos + 1)) (n * 10 + (((s[pos]'h).toNat : Int) - 48)) :=
  fold_on _ s pos n _ h (by rw [hexI, if_pos ⟨h1, h2⟩]) (by omega)

def NumIn (s : ByteArray) (x y : Value) : Prop :=
  ∃ (k : Nat) (n : Int), y = .int .i64 k ∧ x = .int .i64 n ∧ k ≤ s.size ∧ 0 ≤ n ∧ n < ((10 ^ k : Nat) : Int) ∧ foldv 10 ((bs s).drop k) n = foldv 10 (bs s) 0

set_option maxHeartbeats 2000000 in
theorem rnumber_in (s : ByteArray) (most : Int) (w : World) (h0 : 0 < s.size) (hM : s.size ≤ 18) (hz : ¬ (1 < (bs s).length ∧ (bs s)[0]? = some 48)) :
    Calls Tryz.prog 150 #[.string s, .int .i64 most] w fun e w' => e = .returned (dTup (numS (bs s) most)) ∧ w = w' := by
  have E := Lib.hid (digits_in 10 18 s h0 hM)
  have HZ := Lib.hid hz
  clear hz
  have g1 : ¬ (s.size : Int) < 1 := by omega
  have g2 : ¬ (18 : Int) < (s.size : Int) := by omega
  have hb : (1 : Int) < (s.size : Int) → (((s[0]'h0).toNat : Int) == 48) = false := fun h => byte_ne (k := 48) (by omega) (fun e => HZ.out ⟨by rw [bs_length]; omega, by rw [first_is s h0, e]; rfl⟩)
  by_cases g3 : (1 : Int) < (s.size : Int)
  all_goals
    first
      | replace hb := hb g3
      | clear hb
    go_enter Tryz.func150, Tryz.ntmps150
    go_wp2
    go_loop [6, 7] (fun x y => NumIn s x y) (fun _ y => s.size - (intOf y).toNat)
    case atStart => exact ⟨0, 0, rfl, rfl, Nat.zero_le _, Int.le_refl _, by simp, rfl⟩
    case round =>
      obtain ⟨k, n, rfl, rfl, hle, hn0, hn1, hf⟩ := hrel
      have HF := Lib.hid hf
      clear hf
      by_cases hp : k < s.size
      · have hpw := pow_bd10 k (by omega)
        by_cases c1 : ((s[k]'hp).toNat : Int) < 48
        · clear hn1 hpw
          go_wp2
          go_ret2
          exact ⟨ret_no (num_none _ _ (by rw [E.out, ← HF.out]; exact fold_nodig s k n hp (by omega))), rfl⟩
        · by_cases c2 : 57 < ((s[k]'hp).toNat : Int)
          · clear hn1 hpw
            go_wp2
            go_ret2
            exact ⟨ret_no (num_none _ _ (by rw [E.out, ← HF.out]; exact fold_nodig s k n hp (by omega))), rfl⟩
          · have hn2 : n ≤ 100000000000000000 - 1 := by omega
            have HN := Lib.hid (show n * 10 + (((s[k]'hp).toNat : Int) - 48) < (((10 : Nat) ^ (k + 1) : Nat) : Int) by rw [Nat.pow_succ]; omega)
            have HS := Lib.hid (fold_dig s k n hp (by omega) (by omega))
            clear hn1 hpw
            go_wp2
            go_round
            case rel => exact ⟨k + 1, n * 10 + (((s[k]'hp).toNat : Int) - 48), by go_num, by go_num, hp, by omega, HN.out, by rw [← HF.out, HS.out]⟩
            case measure => simp [intOf]; omega
      · clear hn1
        have HY : Hid (digitsS 10 18 (bs s) = some n) := Lib.hid (by rw [E.out, ← HF.out, bs_end s k hp]; rfl)
        by_cases hm : most < n
        · go_wp2
          go_ret2
          exact ⟨ret_no (num_big _ _ _ HY.out hm), rfl⟩
        · go_wp2
          go_ret2
          exact ⟨ret_yes (num_yes _ _ _ HZ.out HY.out (by omega)), rfl⟩

theorem rnumber_any (s : ByteArray) (most : Int) (w : World) (hs : s.size ≤ maxLen) :
    Calls Tryz.prog 150 #[.string s, .int .i64 most] w fun e w' => e = .returned (dTup (numS (bs s) most)) ∧ w = w' := by
  unfold maxLen at hs
  by_cases h0 : s.size = 0
  · obtain rfl := empty_of s h0
    clear h0
    go_enter Tryz.func150, Tryz.ntmps150
    go_wp2
    go_ret2
    exact ⟨ret_no rfl, rfl⟩
  · by_cases hM : s.size ≤ 18
    · by_cases hz : 1 < (bs s).length ∧ (bs s)[0]? = some 48
      · obtain ⟨h1, h2⟩ := hz
        have HN := Lib.hid (num_zero (bs s) most h1 h2)
        rw [bs_length] at h1
        have hp : 0 < s.size := by omega
        rw [first_is s hp] at h2
        injection h2 with h2
        have hb : (((s[0]'hp).toNat : Int) == 48) = true := by rw [h2]; rfl
        clear h2
        have g1 : ¬ (s.size : Int) < 1 := by omega
        have g2 : ¬ (18 : Int) < (s.size : Int) := by omega
        have g3 : (1 : Int) < (s.size : Int) := by omega
        go_enter Tryz.func150, Tryz.ntmps150
        go_wp2
        go_ret2
        exact ⟨ret_no HN.out, rfl⟩
      · exact rnumber_in s most w (by omega) hM hz
    · have HN := Lib.hid (num_none (bs s) most (by rw [digitsS, bs_length, if_pos (by omega)]))
      have g1 : ¬ (s.size : Int) < 1 := by omega
      have g2 : (18 : Int) < (s.size : Int) := by omega
      go_enter Tryz.func150, Tryz.ntmps150
      go_wp2
      go_ret2
      exact ⟨ret_no HN.out, rfl⟩

theorem hex_of_low (c : UInt8) : hexI (c.toNat : Int) =
    if 48 ≤ ((lowB c).toNat : Int) ∧ ((lowB c).toNat : Int) ≤ 57 then some (((lowB c).toNat : Int) - 48) else if 97 ≤ ((lowB c).toNat : Int) ∧ ((lowB c).toNat : Int) ≤ 102 then some (((lowB c).toNat : Int) - 87) else none := by
  rw [hexI]
  by_cases h : 65 ≤ c.toNat ∧ c.toNat ≤ 90
  · rw [lowB_great c h.1 h.2]
    have n1 : ¬ (48 ≤ (c.toNat : Int) ∧ (c.toNat : Int) ≤ 57) := by omega
    have n2 : ¬ (97 ≤ (c.toNat : Int) ∧ (c.toNat : Int) ≤ 102) := by omega
    have n3 : ¬ (48 ≤ ((c.toNat + 32 : Nat) : Int) ∧ ((c.toNat + 32 : Nat) : Int) ≤ 57) := by omega
    rw [if_neg n1, if_neg n2, if_neg n3]
    by_cases h2 : c.toNat ≤ 70
    · have p1 : 65 ≤ (c.toNat : Int) ∧ (c.toNat : Int) ≤ 70 := by omega
      have p2 : 97 ≤ ((c.toNat + 32 : Nat) : Int) ∧ ((c.toNat + 32 : Nat) : Int) ≤ 102 := by omega
      rw [if_pos p1, if_pos p2]; congr 1; omega
    · have p1 : ¬ (65 ≤ (c.toNat : Int) ∧ (c.toNat : Int) ≤ 70) := by omega
      have p2 : ¬ (97 ≤ ((c.toNat + 32 : Nat) : Int) ∧ ((c.toNat + 32 : Nat) : Int) ≤ 102) := by omega
      rw [if_neg p1, if_neg p2]
  · rw [lowB_high c h]
    by_cases h1 : 48 ≤ (c.toNat : Int) ∧ (c.toNat : Int) ≤ 57
    · rw [if_pos h1, if_pos h1]
    · rw [if_neg h1, if_neg h1]
      by_cases h2 : 97 ≤ (c.toNat : Int) ∧ (c.toNat : Int) ≤ 102
      · rw [if_pos h2, if_pos h2]
      · rw [if_neg h2, if_neg h2, if_neg (by omega)]

def HexIn (s : ByteArray) (x y : Value) : Prop :=
  ∃ (k : Nat) (n : Int), y = .int .i64 k ∧ x = .int .i64 n ∧ k ≤ s.size ∧ 0 ≤ n ∧ n < ((16 ^ k : Nat) : Int) ∧ foldv 16 ((bs s).drop k) n = foldv 16 (bs s) 0

set_option maxHeartbeats 2000000 in
theorem rhex_in (s : ByteArray) (w : World) (h0 : 0 < s.size) (hM : s.size ≤ 4) :
    Calls Tryz.prog 151 #[.string s] w fun e w' => e = .returned (dTup (hexS (bs s))) ∧ w = w' := by
  have E : Hid (hexS (bs s) = foldv 16 (bs s) 0) := Lib.hid (digits_in 16 4 s h0 hM)
  have g1 : ¬ (s.size : Int) < 1 := by omega
  have g2 : ¬ (4 : Int) < (s.size : Int) := by omega
  go_enter Tryz.func151, Tryz.ntmps151
  go_wp2
  go_loop [4, 5] (fun x y => HexIn s x y) (fun _ y => s.size - (intOf y).toNat)
  case atStart => exact ⟨0, 0, rfl, rfl, Nat.zero_le _, Int.le_refl _, by simp, rfl⟩
  case round =>
    obtain ⟨k, n, rfl, rfl, hle, hn0, hn1, hf⟩ := hrel
    have HF := Lib.hid hf
    clear hf
    by_cases hp : k < s.size
    · have hpw := pow_bd16 k (by omega)
      have hn2 : n ≤ 4096 - 1 := by omega
      have hu := (lowB (s[k]'hp)).toNat_lt
      have HX := Lib.hid (hex_of_low (s[k]'hp))
      by_cases c1 : 48 ≤ ((lowB (s[k]'hp)).toNat : Int)
      · by_cases c2 : ((lowB (s[k]'hp)).toNat : Int) ≤ 57
        · have HN := Lib.hid (show n * 16 + (((lowB (s[k]'hp)).toNat : Int) - 48) < (((16 : Nat) ^ (k + 1) : Nat) : Int) by rw [Nat.pow_succ]; omega)
          have HS := Lib.hid (fold_on 16 s k n _ hp (by rw [HX.out, if_pos ⟨c1, c2⟩]) (by omega))
          clear hn1 hpw
          go_wp2_with (go_at_call 176; refine (rlower_any _ _).mono ?_; rintro e w' ⟨rfl, rfl⟩)
          go_round
          case rel => exact ⟨k + 1, n * 16 + (((lowB (s[k]'hp)).toNat : Int) - 48), by go_num, by go_num, hp, by omega, HN.out, by rw [← HF.out, HS.out]⟩
          case measure => simp [intOf]; omega
        · by_cases c3 : 97 ≤ ((lowB (s[k]'hp)).toNat : Int)
          · by_cases c4 : ((lowB (s[k]'hp)).toNat : Int) ≤ 102
            · have HN := Lib.hid (show n * 16 + (((lowB (s[k]'hp)).toNat : Int) - 87) < (((16 : Nat) ^ (k + 1) : Nat) : Int) by rw [Nat.pow_succ]; omega)
              have HS := Lib.hid (fold_on 16 s k n _ hp (by rw [HX.out, if_neg (by omega), if_pos ⟨c3, c4⟩]) (by omega))
              clear hn1 hpw
              go_wp2_with (go_at_call 176; refine (rlower_any _ _).mono ?_; rintro e w' ⟨rfl, rfl⟩)
              go_round
              case rel => exact ⟨k + 1, n * 16 + (((lowB (s[k]'hp)).toNat : Int) - 87), by go_num, by go_num, hp, by omega, HN.out, by rw [← HF.out, HS.out]⟩
              case measure => simp [intOf]; omega
            · have HS := Lib.hid (fold_none 16 s k n hp (by rw [HX.out, if_neg (by omega), if_neg (by omega)]))
              clear hn1 hpw
              go_wp2_with (go_at_call 176; refine (rlower_any _ _).mono ?_; rintro e w' ⟨rfl, rfl⟩)
              go_ret2
              exact ⟨ret_no (by rw [E.out, ← HF.out]; exact HS.out), rfl⟩
          · have HS := Lib.hid (fold_none 16 s k n hp (by rw [HX.out, if_neg (by omega), if_neg (by omega)]))
            clear hn1 hpw
            go_wp2_with (go_at_call 176; refine (rlower_any _ _).mono ?_; rintro e w' ⟨rfl, rfl⟩)
            go_ret2
            exact ⟨ret_no (by rw [E.out, ← HF.out]; exact HS.out), rfl⟩
      · have c3 : ¬ 97 ≤ ((lowB (s[k]'hp)).toNat : Int) := by omega
        have HS := Lib.hid (fold_none 16 s k n hp (by rw [HX.out, if_neg (by omega), if_neg (by omega)]))
        clear hn1 hpw
        go_wp2_with (go_at_call 176; refine (rlower_any _ _).mono ?_; rintro e w' ⟨rfl, rfl⟩)
        go_ret2
        exact ⟨ret_no (by rw [E.out, ← HF.out]; exact HS.out), rfl⟩
    · clear hn1
      have HY : Hid (hexS (bs s) = some n) := Lib.hid (by rw [E.out, ← HF.out, bs_end s k hp]; rfl)
      go_wp2
      go_ret2
      exact ⟨ret_yes HY.out, rfl⟩

theorem rhex_any (s : ByteArray) (w : World) (hs : s.size ≤ maxLen) :
    Calls Tryz.prog 151 #[.string s] w fun e w' => e = .returned (dTup (hexS (bs s))) ∧ w = w' := by
  unfold maxLen at hs
  by_cases h0 : s.size = 0
  · obtain rfl := empty_of s h0
    clear h0
    go_enter Tryz.func151, Tryz.ntmps151
    go_wp2
    go_ret2
    exact ⟨ret_no rfl, rfl⟩
  · by_cases hM : s.size ≤ 4
    · exact rhex_in s w (by omega) hM
    · have HN := Lib.hid (show hexS (bs s) = none by rw [hexS, digitsS, bs_length, if_pos (by omega)])
      have g1 : ¬ (s.size : Int) < 1 := by omega
      have g2 : (4 : Int) < (s.size : Int) := by omega
      go_enter Tryz.func151, Tryz.ntmps151
      go_wp2
      go_ret2
      exact ⟨ret_no HN.out, rfl⟩
def dgt (d : Nat) : UInt8 := UInt8.ofNat (48 + d)
/-- a number's digits -/
def txtL (n : Nat) : List UInt8 := if n < 10 then [dgt n] else txtL (n / 10) ++ [dgt (n % 10)]
termination_by n
def txtS (n : Nat) : ByteArray := ⟨(txtL n).toArray⟩
theorem txt_one (n : Nat) (h : n < 10) : txtL n = [dgt n] := by rw [txtL, if_pos h]
theorem txt_more (n : Nat) (h : ¬ n < 10) : txtL n = txtL (n / 10) ++ [dgt (n % 10)] := by rw [txtL, if_neg h]
theorem bs_txt (n : Nat) : bs (txtS n) = txtL n := rfl
theorem txt_long (n : Nat) : (txtL n).length ≤ n + 1 := by
  induction n using Nat.strongRecOn with
  | _ n ih =>
    by_cases h : n < 10
    · rw [txt_one n h]; simp
    · rw [txt_more n h, List.length_append]
      have := ih (n / 10) (by omega)
      simp only [List.length_cons, List.length_nil]
      omega
theorem txt_pos (n : Nat) : 0 < (txtL n).length := by
  by_cases h : n < 10
  · rw [txt_one n h]; simp
  · rw [txt_more n h]; simp
theorem txt_short : ∀ (k n : Nat), n < 10 ^ (k + 1) → (txtL n).length ≤ k + 1
  | 0, n, h => by rw [txt_one n (by simpa using h)]; simp
  | k + 1, n, h => by
    by_cases h1 : n < 10
    · rw [txt_one n h1]; simp
    · rw [txt_more n h1, List.length_append]
      have := txt_short k (n / 10) (by rw [Nat.pow_succ] at h; omega)
      simp only [List.length_cons, List.length_nil]
      omega
theorem txtS_size (n : Nat) : (txtS n).size ≤ n + 1 := by rw [← bs_length, bs_txt]; exact txt_long n

theorem dgt_hex : ∀ d : Fin 10, hexI ((dgt d.1).toNat : Int) = some (d.1 : Int) := by decide
theorem dgt_is (d : Nat) (h : d < 10) : hexI ((dgt d).toNat : Int) = some (d : Int) := dgt_hex ⟨d, h⟩
theorem of_dgt (c : UInt8) (d : Int) (h : hexI (c.toNat : Int) = some d) (hd : d < 10) : ∃ k : Nat, k < 10 ∧ d = (k : Int) ∧ c = dgt k := by
  have hb := hex_bd h
  refine ⟨d.toNat, by omega, by omega, ?_⟩
  apply UInt8.toNat.inj
  unfold hexI at h
  split at h
  · injection h with h
    rw [dgt, UInt8.toNat_ofNat']
    have := c.toNat_lt
    omega
  · split at h
    · injection h; omega
    · split at h
      · injection h; omega
      · cases h
theorem fold_add (B : Int) : ∀ (l : List UInt8) (c : UInt8) (a : Int), foldv B (l ++ [c]) a = (foldv B l a).bind fun v => foldv B [c] v
  | [], c, a => rfl
  | x :: l, c, a => by
    rw [List.cons_append, foldv, foldv]
    cases hexI (x.toNat : Int) with
    | none => rfl
    | some d =>
      simp only
      split
      · exact fold_add B l c _
      · rfl
theorem fold_dgt (v : Int) (d : Nat) (h : d < 10) : foldv 10 [dgt d] v = some (v * 10 + d) := by
  rw [foldv, dgt_is d h]; simp only; rw [if_pos (by omega), foldv]
theorem txt_fold (n : Nat) : foldv 10 (txtL n) 0 = some (n : Int) := by
  induction n using Nat.strongRecOn with
  | _ n ih =>
    by_cases h : n < 10
    · rw [txt_one n h, fold_dgt 0 n h]; congr 1; omega
    · rw [txt_more n h, fold_add, ih (n / 10) (by omega)]
      show foldv 10 [dgt (n % 10)] ((n / 10 : Nat) : Int) = _
      rw [fold_dgt _ _ (Nat.mod_lt _ (by omega))]
      congr 1
      omega
theorem dgt_ne : ∀ d : Fin 10, d.1 ≠ 0 → dgt d.1 ≠ 48 := by decide
theorem txt_first (n : Nat) (h0 : 1 ≤ n) : (txtL n)[0]? ≠ some 48 := by
  induction n using Nat.strongRecOn with
  | _ n ih =>
    by_cases h : n < 10
    · rw [txt_one n h]
      intro e
      simp only [List.getElem?_cons_zero, Option.some.injEq] at e
      exact dgt_ne ⟨n, h⟩ (by simp; omega) e
    · rw [txt_more n h, List.getElem?_append_left (txt_pos _)]
      exact ih (n / 10) (by omega) (by omega)
theorem txt_lead (n : Nat) : ¬ (1 < (txtL n).length ∧ (txtL n)[0]? = some 48) := by
  rintro ⟨h1, h2⟩
  by_cases h : n < 10
  · rw [txt_one n h] at h1; simp at h1
  · exact txt_first n (by omega) h2
theorem txt_dig (n : Nat) (h : n ≤ 999999999999999999) : digitsS 10 18 (txtL n) = some (n : Int) := by
  have h1 := txt_short 17 n (by have : (10 : Nat) ^ 18 = 1000000000000000000 := by decide
                                omega)
  have h2 := txt_pos n
  rw [digitsS, if_neg (by omega), txt_fold]
theorem txt_num (n : Nat) (h : n ≤ 999999999999999999) : numS (txtL n) (n : Int) = some (n : Int) := num_yes _ _ _ (txt_lead n) (txt_dig n h) (by omega)
theorem txt_less (n : Nat) (h : n ≤ 999999999999999999) : numS (txtL n) ((n : Int) - 1) = none := num_big _ _ _ (txt_dig n h) (by omega)

theorem one_text : ∀ (k : Nat) (l : List UInt8) (m : Int), l.length = k + 1 → ¬ (1 < l.length ∧ l[0]? = some 48) → foldv 10 l 0 = some m → ∃ n : Nat, m = (n : Int) ∧ txtL n = l
  | 0, l, m, hl, _, hf => by
    obtain ⟨c, rfl⟩ := List.length_eq_one_iff.1 hl
    rw [foldv] at hf
    cases hc : hexI (c.toNat : Int) with
    | none => rw [hc] at hf; cases hf
    | some d =>
      rw [hc] at hf
      simp only at hf
      split at hf
      · rename_i hd
        obtain ⟨q, hq, rfl, rfl⟩ := of_dgt c d hc hd
        rw [foldv] at hf
        injection hf with hf
        exact ⟨q, by omega, txt_one q hq⟩
      · cases hf
  | k + 1, l, m, hl, hz, hf => by
    rcases List.eq_nil_or_concat l with rfl | ⟨r, c, e⟩
    · simp at hl
    · rw [List.concat_eq_append] at e
      subst e
      have hr : r.length = k + 1 := by simpa using hl
      have h0 : (r ++ [c])[0]? = r[0]? := List.getElem?_append_left (by omega)
      have hne : ¬ r[0]? = some 48 := fun h => hz ⟨by omega, by rw [h0]; exact h⟩
      rw [fold_add] at hf
      cases hv : foldv 10 r 0 with
      | none => rw [hv] at hf; cases hf
      | some v =>
        rw [hv] at hf
        have hf2 : foldv 10 [c] v = some m := hf
        obtain ⟨n, rfl, hn⟩ := one_text k r v hr (fun h => hne h.2) hv
        rw [foldv] at hf2
        cases hc : hexI (c.toNat : Int) with
        | none => rw [hc] at hf2; cases hf2
        | some d =>
          rw [hc] at hf2
          simp only at hf2
          split at hf2
          · rename_i hd
            obtain ⟨q, hq, rfl, rfl⟩ := of_dgt c d hc hd
            rw [foldv] at hf2
            injection hf2 with hf2
            have hn1 : 1 ≤ n := by
              rcases Nat.eq_zero_or_pos n with rfl | h
              · exfalso
                apply hne
                rw [← hn, txt_one 0 (by omega)]
                rfl
              · exact h
            refine ⟨n * 10 + q, by omega, ?_⟩
            rw [txt_more _ (by omega), show (n * 10 + q) / 10 = n by omega, show (n * 10 + q) % 10 = q by omega, hn]
          · cases hf2
theorem num_text (l : List UInt8) (most m : Int) (h : numS l most = some m) : ∃ n : Nat, m = (n : Int) ∧ (n : Int) ≤ most ∧ txtL n = l := by
  rw [numS] at h
  split at h
  · cases h
  · rename_i hz
    cases hd : digitsS 10 18 l with
    | none => rw [hd] at h; cases h
    | some v =>
      rw [hd] at h
      simp only at h
      split at h
      · cases h
      · injection h with h
        subst h
        rw [digitsS] at hd
        split at hd
        · cases hd
        · obtain ⟨n, rfl, hn⟩ := one_text (l.length - 1) l v (by omega) hz hd
          exact ⟨n, rfl, by omega, hn⟩

theorem ten_at : ∀ d : Fin 10, ((bs ⟨#[48, 49, 50, 51, 52, 53, 54, 55, 56, 57]⟩).drop d.1).take 1 = [dgt d.1] := by decide
theorem ten_ext (n : Nat) (h : n < 10) : (⟨#[48, 49, 50, 51, 52, 53, 54, 55, 56, 57]⟩ : ByteArray).extract n (n + 1) = txtS n := by
  apply bs_inj
  rw [bs_extract, bs_txt, txt_one n h, Nat.add_sub_cancel_left]
  exact ten_at ⟨n, h⟩
theorem txtS_add (n : Nat) (h : ¬ n < 10) : txtS (n / 10) ++ txtS (n % 10) = txtS n := by
  apply bs_inj
  rw [bs_add, bs_txt, bs_txt, bs_txt, txt_more n h, txt_one (n % 10) (Nat.mod_lt _ (by omega))]

set_option maxHeartbeats 1000000 in
theorem text_any (n : Nat) : ∀ (m : Int) (w : World), m = (n : Int) → n ≤ 9223372036854775807 →
    Calls Tryz.prog 178 #[.int .i64 m] w fun e w' => e = .returned (.string (txtS n)) ∧ w = w' := by
  induction n using Nat.strongRecOn with
  | _ n ih =>
    intro m w hm hn
    subst hm
    by_cases h : n < 10
    · have HE := Lib.hid (ten_ext n h)
      have h' : (n : Int) < 10 := by omega
      clear ih
      go_enter Tryz.func178, Tryz.ntmps178
      go_wp2
      go_ret
      exact ⟨ret_s (by rw [← HE.out]), rfl⟩
    · have h' : ¬ (n : Int) < 10 := by omega
      have HA := Lib.hid (txtS_add n h)
      have I1 := Lib.hid (ih (n / 10) (by omega))
      have I2 := Lib.hid (ih (n % 10) (by omega))
      have z1 := txtS_size (n / 10)
      have z2 := txtS_size (n % 10)
      clear ih
      go_enter Tryz.func178, Tryz.ntmps178
      go_wp2_with fail
      refine (I1.out _ _ (by omega) (by omega)).mono ?_
      rintro e w' ⟨rfl, rfl⟩
      go_wp2_with fail
      refine (I2.out _ _ (by omega) (by omega)).mono ?_
      rintro e w' ⟨rfl, rfl⟩
      go_wp2_with fail
      go_ret
      exact ⟨ret_s HA.out, rfl⟩
end Go.Proofs.YtlpondbcnfaggaaGreatDoor.Asc

/-
  Rows of strings of the call's own, and the contract of hagioscoperef03.Cut.
-/
namespace Go.Proofs.YtlpondbcnfaggaaGreatDoor.Ad
open Go.RowKit Go.Proofs.YtlpondbcnfaggaaGreatDoor.Wd Go.Proofs.YtlpondbcnfaggaaGreatDoor.Asc

theorem infS : (Tryz.prog.info? 9).map (fun i => (i.zero, i.size, i.bytes)) = some (some (.string ⟨#[]⟩), 1, 16) := by kernel_rfl
abbrev strsOf (L : List (List UInt8)) : List Value := L.map fun l => Value.string (str l)
/-- the slice v owns the strings L, in blocks from B on -/
def OwnR (w : World) (B : Nat) (v : Value) (L : List (List UInt8)) : Prop := w.ownsRow B 9 1 v L.length (strsOf L)
theorem OwnR.one {w : World} {B : Nat} (hB : B ≤ w.heap.size) (l : List UInt8) : OwnR (w.alloc (.cells #[.string (str l)] 9)) B (.slice (some ⟨w.heap.size, 0, none⟩) 1 1) [l] :=
  ⟨rfl, .inr ⟨w.heap.size, 1, #[.string (str l)], rfl, hB, heap_alloc_new w _, Nat.le_refl _, by unfold maxLen; omega, rfl, rfl⟩⟩
theorem OwnR.below {w w' : World} {B B' : Nat} {v : Value} {L : List (List UInt8)} (h : OwnR w B v L) (hb : Below B' w w') (hB : w.heap.size ≤ B') : OwnR w' B v L := by
  obtain ⟨hl, h0 | ⟨g, cap, cur, hv, hg, hh, r⟩⟩ := h
  · exact ⟨hl, .inl h0⟩
  · exact ⟨hl, .inr ⟨g, cap, cur, hv, hg, (hb.block g (by have := Blk.lt (t := 9) (cs := cur) hh; omega)).trans hh, r⟩⟩
theorem OwnR.form {w : World} {B : Nat} {v : Value} {L : List (List UInt8)} (h : OwnR w B v L) (hn : L ≠ []) :
    ∃ g cap, v = .slice (some ⟨g, 0, none⟩) L.length cap ∧ B ≤ g ∧ g < w.heap.size ∧ L.length ≤ cap ∧ ∀ k l, L[k]? = some l → w.cell? ⟨g, k, none⟩ = some (.string (str l)) := by
  obtain ⟨hl, h0 | ⟨g, cap, cur, hv, hg, hh, hc, _, _, ht⟩⟩ := h
  · exact absurd (List.eq_nil_of_length_eq_zero h0.2) hn
  · refine ⟨g, cap, hv, hg, Blk.lt (t := 9) (cs := cur) hh, hc, fun k l hk => ?_⟩
    rw [Blk.cell (t := 9) (cs := cur) hh, ← Array.getElem?_toList]
    have h2 : (strsOf L)[k]? = some (.string (str l)) := by simp [hk]
    rw [← ht, Nat.mul_one, List.getElem?_take] at h2
    split at h2
    · exact h2
    · cases h2
theorem OwnR.last {w : World} {B : Nat} {v : Value} {I : List (List UInt8)} {x : List UInt8} (h : OwnR w B v (I ++ [x])) :
    ∃ g cap cur, v = .slice (some ⟨g, 0, none⟩) (I.length + 1) cap ∧ B ≤ g ∧ Blk w g 9 cur ∧ I.length + 1 ≤ cap ∧ cur[I.length]? = some (.string (str x)) ∧
      ∀ (y : List UInt8) (w2 : World), Blk w2 g 9 (cur.setIfInBounds I.length (.string (str y))) → OwnR w2 B v (I ++ [y]) := by
  obtain ⟨hl, h0 | ⟨g, cap, cur, hv, hg, hh, hc, hm, hz, ht⟩⟩ := h
  · exact absurd h0.2 (by simp)
  · rw [List.length_append, List.length_cons, List.length_nil] at hv hc ht
    have hat : cur[I.length]? = some (.string (str x)) := by
      rw [← Array.getElem?_toList]
      have h2 : (strsOf (I ++ [x]))[I.length]? = some (.string (str x)) := by simp
      rw [← ht, Nat.mul_one, List.getElem?_take] at h2
      split at h2
      · exact h2
      · cases h2
    refine ⟨g, cap, cur, hv, hg, hh, hc, hat, fun y w2 h2 => ⟨by simp, .inr ⟨g, cap, _, by rw [hv]; simp, hg, h2, by simpa using hc, hm, by simpa using hz, ?_⟩⟩⟩
    have e : (I ++ [y]).length * 1 = I.length + 1 := by simp
    rw [e, Array.toList_setIfInBounds, List.take_set]
    rw [Nat.mul_one] at ht
    rw [ht]
    simp [strsOf]

section
variable {w : World}
theorem wpList_appR {ops : Array Oper} {rest : List Oper} {o : Oper} {a : Act} {Q : Exit → Act → World → Prop} (hgd : o.guard = none) (s x : Operand)
    (ho : o.op = .call { callee := .builtin .append, args := #[s, x], argTypes := #[30, 30] })
    (B : Nat) (v : Value) (L : List (List UInt8)) (hs : a.eval s = v) (hown : OwnR w B v L) (g c : Nat) (l : List UInt8) (hx : a.eval x = .slice (some ⟨g, 0, none⟩) 1 c) (hsrc : w.cell? ⟨g, 0, none⟩ = some (.string (str l)))
    (hlen : L.length + 1 ≤ 4294967296) (hB : B ≤ w.heap.size)
    (h : ∀ v' w', Hid (OwnR w' B v' (L ++ [l])) → Hid (Below B w w') → wpList Tryz.prog ops Q rest (a.put o.dst v') w') : wpList Tryz.prog ops Q (o :: rest) a w := by
  obtain ⟨i0, hi, hz0, hz1, hz2⟩ := info_parts infS
  obtain ⟨v', w', hrun, h2, h3, _, _⟩ := run_append_own_at (P := Tryz.prog) w B 30 o.type 9 i0 (.string ⟨#[]⟩) 1 16 Tryz.underlying30 hi hz0 hz1 hz2 rfl (by omega) v L.length (strsOf L) hown ⟨g, 0, none⟩ 1 c [.string (str l)] rfl
    (fun j u hu => by
      cases j with
      | zero => simp at hu; subst hu; exact hsrc
      | succ j => simp at hu) (by simp [Value.oneCell']) (by unfold maxLen; omega) (by omega) hB
  have e1 : OwnR w' B v' (L ++ [l]) := by
    unfold OwnR
    rw [List.length_append, strsOf, List.map_append]
    exact h2
  have e2 : Below B w w' := (Below.refl _ _).grown h3 hB (fun k hk => by
    obtain ⟨_, ⟨rfl, _⟩ | ⟨g, cap, cur, rfl, hg, _⟩⟩ := hown
    · simp [Value.ownBlock] at hk
    · simp [Value.ownBlock] at hk; omega)
  refine wpList_plain hgd fun K hK => ?_
  unfold Oper.wp execOp
  simp only [ho, resolve, invoke, builtin, Sem.run_bind, Sem.run_pure, Result.andThen_ok, List.map_toArray, List.map_cons, List.map_nil, hs, hx, hrun]
  exact hK _ _ (h v' w' (Lib.hid e1) (Lib.hid e2))
end

theorem splitS_len (c : UInt8) : ∀ l, (splitS c l).length ≤ l.length + 1
  | [] => by simp [splitS]
  | x :: l => by
    have ih := splitS_len c l
    have hne := List.length_pos_iff.2 (splitS_ne c l)
    unfold splitS
    split
    · simp; omega
    · simp; omega
theorem split_last (c : UInt8) (l : List UInt8) : splitS c l = (splitS c l).dropLast ++ [(splitS c l).getLastD []] := by
  have hne := splitS_ne c l
  generalize splitS c l = L at *
  cases h : L.getLast? with
  | none => exact absurd (List.getLast?_eq_none_iff.1 h) hne
  | some x =>
    obtain ⟨I, rfl⟩ := List.getLast?_eq_some_iff.1 h
    simp

theorem splitS_mem (c : UInt8) : ∀ (l p : List UInt8), p ∈ splitS c l → p.length ≤ l.length
  | [], p, h => by simp [splitS] at h; subst h; simp
  | x :: l, p, h => by
    have hne := splitS_ne c l
    have ih := splitS_mem c l
    unfold splitS at h
    cases hs : splitS c l with
    | nil => exact absurd hs hne
    | cons q r =>
      rw [hs] at h ih
      split at h
      · rcases List.mem_cons.1 h with rfl | h
        · simp
        · have := ih p h; simp; omega
      · rcases List.mem_cons.1 h with rfl | h
        · have := ih q (by simp); simpa using this
        · have := ih p (List.mem_cons_of_mem _ (by simpa using h)); simp; omega

theorem split_last_le (c : UInt8) (l : List UInt8) : ((splitS c l).getLastD []).length ≤ l.length := by
  refine splitS_mem c l _ ?_
  have h := split_last c l
  generalize (splitS c l).getLastD [] = x at *
  rw [h]
  simp

def CutAt (s : ByteArray) (c : UInt8) (w : World) (v i : Value) (w' : World) : Prop :=
  ∃ k : Nat, k ≤ s.size ∧ i = .int .i64 k ∧ OwnR w' w.heap.size v (splitS c ((bs s).take k)) ∧ Below w.heap.size w w'
set_option maxRecDepth 100000 in
set_option maxHeartbeats 2000000 in
theorem rcut_any (s : ByteArray) (c : UInt8) (w : World) (hs : s.size ≤ 4294967290) :
    Calls Tryz.prog 149 #[.string s, .int .u8 c.toNat] w fun e w' => ∃ v, e = .returned v ∧ OwnR w' w.heap.size v (splitS c (bs s)) ∧ Below w.heap.size w w' := by
  go_enter Tryz.func149, Tryz.ntmps149
  go_wp2_with fail
  go_loopw [5, 6] (fun v i w' => CutAt s c w v i w') (fun _ i _ => s.size - (intOf i).toNat)
  case atStart => exact ⟨0, Nat.zero_le _, rfl, OwnR.one (Nat.le_refl _) [], (Below.refl _ _).alloc (Nat.le_refl _) _⟩
  case round =>
    obtain ⟨k, hk, rfl, hown, hbel⟩ := hrel
    have HO := Lib.hid hown
    have HL := Lib.hid hbel
    have hsz := hbel.size
    clear hown hbel
    by_cases hlt : k < s.size
    · have HT := Lib.hid (splitS_snoc c ((bs s).take k) (s[k]'hlt))
      rw [← bs_take s k hlt] at HT
      have hle := splitS_len c ((bs s).take k)
      rw [List.length_take, bs_length] at hle
      by_cases hc : s[k]'hlt = c
      · rw [if_pos hc] at HT
        have hc1 : (((s[k]'hlt).toNat : Int) == (c.toNat : Int)) = true := by rw [hc]; simp
        clear hc
        have HA := Lib.hid (HO.out.below ((Below.refl wr.heap.size wr).alloc (Nat.le_refl _) (.cells #[Value.string (str [])] 9)) (Nat.le_refl _))
        go_wp2_with (refine wpList_appR rfl _ _ rfl w.heap.size _ _ rfl (by exact HA.out) _ _ [] rfl (by simp) (by omega) (by simp; omega) ?_; intro v2 w2 ho2 hb2)
        go_roundw
        case rel => exact ⟨k + 1, by omega, by go_num, by rw [HT.out]; exact ho2.out, HL.out.trans (((Below.refl _ _).alloc (Nat.le_refl _) _).mono hsz |>.trans hb2.out)⟩
        case measure => simp [intOf]; omega
      · rw [if_neg hc] at HT
        have hc1 : (((s[k]'hlt).toNat : Int) == (c.toNat : Int)) = false := by
          rw [beq_eq_false_iff_ne]
          intro e
          exact hc (UInt8.toNat.inj (by omega))
        have HX := Lib.hid (show str ((splitS c ((bs s).take k)).getLastD []) ++ s.extract k (k + 1) = str ((splitS c ((bs s).take k)).getLastD [] ++ [s[k]'hlt]) by
          apply bs_inj
          rw [bs_add, bs_extract, bs_drop s k hlt, Nat.add_sub_cancel_left]
          rfl)
        have hIl : (splitS c ((bs s).take k)).dropLast.length ≤ 4294967295 := by rw [List.length_dropLast]; omega
        have hxs := split_last_le c ((bs s).take k)
        rw [List.length_take] at hxs
        have hes : (s.extract k (k + 1)).size = 1 := by rw [← bs_length, bs_extract, List.length_take, List.length_drop, bs_length]; omega
        clear hle
        rw [split_last] at HO
        generalize (splitS c ((bs s).take k)).dropLast = I at *
        generalize (splitS c ((bs s).take k)).getLastD [] = x at *
        obtain ⟨g, cap, cur, rfl, hg, hb, hcap, hcur, hset⟩ := HO.out.last
        have hcell : wr.cell? ⟨g, I.length, none⟩ = some (.string (str x)) := by rw [hb.cell]; exact hcur
        have hfr := hb.frozen I.length
        have hxz : (str x).size ≤ 4294967290 := by rw [str_size]; omega
        have hI : (I.length : Int) + 1 - 1 = I.length := by omega
        have HB := Lib.hid hb
        have HS := Lib.hid hset
        have HG := Lib.hid hg
        clear hc hb hset hcur HO
        go_wp2_with fail
        go_region
        all_goals go_wp2_with fail
        all_goals (
          rw [HX.out]
          go_roundw
          case rel => exact ⟨k + 1, by omega, by go_num, by rw [HT.out]; exact HS.out _ _ (HB.out.set_ _ _), (HL.out.setCell (p := ⟨g, I.length, none⟩) HG.out _).drew⟩
          case measure => simp [intOf]; omega)
    · obtain rfl : k = s.size := by omega
      go_wp2
      go_ret
      rw [show (bs s).take s.size = bs s from List.take_of_length_le (by rw [bs_length]; omega)] at HO
      exact ⟨_, rfl, HO.out, HL.out⟩
end Go.Proofs.YtlpondbcnfaggaaGreatDoor.Ad

/-
  Contract of hagioscoperef03's dotted.
-/
namespace Go.Proofs.YtlpondbcnfaggaaGreatDoor.Ad
open Go.RowKit Go.Proofs.YtlpondbcnfaggaaGreatDoor.Wd Go.Proofs.YtlpondbcnfaggaaGreatDoor.Asc

theorem OwnR.lower {w : World} {B B' : Nat} {v : Value} {L : List (List UInt8)} (h : OwnR w B v L) (hB : B' ≤ B) : OwnR w B' v L := by
  obtain ⟨hl, h0 | ⟨g, cap, cur, hv, hg, r⟩⟩ := h
  · exact ⟨hl, .inl h0⟩
  · exact ⟨hl, .inr ⟨g, cap, cur, hv, Nat.le_trans hB hg, r⟩⟩
/-- a block that begins with strings -/
structure RowS (w : World) (g n : Nat) (L : List (List UInt8)) : Prop where
  len : L.length = n
  blk : ∃ cur, Blk w g 9 cur ∧ ∀ (k : Nat) (l : List UInt8), L[k]? = some l → cur[k]? = some (Value.string (str l))
theorem RowS.but {S : List Nat} {w w' : World} {g n : Nat} {L : List (List UInt8)} (h : RowS w g n L) (k : But S w w') (hg : g ∉ S) : RowS w' g n L :=
  ⟨h.len, by obtain ⟨cur, hb, hc⟩ := h.blk; exact ⟨cur, hb.but k hg, hc⟩⟩
theorem RowS.below {B : Nat} {w w' : World} {g n : Nat} {L : List (List UInt8)} (h : RowS w g n L) (k : Below B w w') (hg : w.heap.size ≤ B) : RowS w' g n L :=
  ⟨h.len, by obtain ⟨cur, hb, hc⟩ := h.blk; exact ⟨cur, hb.below k (by have := hb.lt; omega), hc⟩⟩
theorem RowS.cell {w : World} {g n : Nat} {L : List (List UInt8)} (h : RowS w g n L) {k : Nat} {l : List UInt8} (hk : L[k]? = some l) : w.cell? ⟨g, k, none⟩ = some (.string (str l)) := by
  obtain ⟨cur, hb, hc⟩ := h.blk
  rw [hb.cell]
  exact hc k l hk
theorem RowS.ne {w : World} {g n : Nat} {L : List (List UInt8)} (h : RowS w g n L) {p : Option Nat} {c : Nat} {bs : List UInt8} (ha : At w p c bs) : g ∉ p.toList := by
  obtain ⟨cur, hb, _⟩ := h.blk
  have h1 := ha.ne hb (by decide)
  cases p with
  | none => simp
  | some b =>
    intro hm
    simp at hm
    exact h1 (by rw [hm])
theorem OwnR.row {w : World} {B : Nat} {v : Value} {L : List (List UInt8)} (h : OwnR w B v L) (hn : L ≠ []) : ∃ g cap, v = .slice (some ⟨g, 0, none⟩) L.length cap ∧ B ≤ g ∧ L.length ≤ cap ∧ RowS w g L.length L := by
  obtain ⟨hl, h0 | ⟨g, cap, cur, hv, hg, hh, hc, _, _, ht⟩⟩ := h
  · exact absurd (List.eq_nil_of_length_eq_zero h0.2) hn
  · refine ⟨g, cap, hv, hg, hc, ⟨rfl, cur, hh, fun k l hk => ?_⟩⟩
    rw [← Array.getElem?_toList]
    have h2 : (strsOf L)[k]? = some (.string (str l)) := by simp [hk]
    rw [← ht, Nat.mul_one, List.getElem?_take] at h2
    split at h2
    · exact h2
    · cases h2
theorem at_own {w : World} {B : Nat} {p : Option Nat} {c : Nat} {xs : List UInt8} (h : At w p c xs) (hp : ∀ b, p = some b → B ≤ b) : Own w B (.slice (ad p) xs.length c) xs := by
  obtain ⟨hl, h0 | ⟨g, cap, cur, hv, hg, r⟩⟩ := h.own
  · exact ⟨hl, .inl h0⟩
  · cases p with
    | none => cases hv
    | some b =>
      have e : b = g := by injection hv with hv _ _; injection hv with hv; injection hv
      subst e
      exact ⟨hl, .inr ⟨b, cap, cur, hv, hp b rfl, r⟩⟩
theorem wpList_app_at {P : Program} {w : World} {ops : Array Oper} {rest : List Oper} {o : Oper} {a : Act} {Q : Exit → Act → World → Prop} (hgd : o.guard = none) (s x : Operand) (t : TypeId)
    (ho : o.op = .call { callee := .builtin .append, args := #[s, x], argTypes := #[t, t] }) (ht : P.underlying t = some (.slice 5)) (hinfo : (P.info? 5).map (fun i => (i.zero, i.size, i.bytes)) = some (some (.int .u8 0), 1, 1))
    (p : Option Nat) (n c : Nat) (xs : List UInt8) (hs : a.eval s = .slice (ad p) n c) (hn : n = xs.length) (hat : At w p c xs) (A2 : Option Addr) (m c2 : Nat) (ys : List UInt8) (hx : a.eval x = .slice A2 m c2) (hsrc : Src w A2 m ys)
    (hlen : n + m ≤ 140737488355328)
    (h : ∀ p' c' w', Hid (At w' p' c' (xs ++ ys)) → Hid (p' = p ∨ p' = some w.heap.size) → Hid (But p.toList w w') → wpList P ops Q rest (a.put o.dst (.slice (ad p') (n + m) c')) w') : wpList P ops Q (o :: rest) a w := by
  subst hn
  obtain ⟨i0, hi, hz0, hz1, hz2⟩ := info_parts hinfo
  obtain ⟨p', c', w', hrun, h2, h3, h4⟩ := run_app_at (ty := o.type) ht hi hz0 hz1 hz2 hat (c2 := c2) hsrc hlen
  refine wpList_plain hgd fun K hK => ?_
  unfold Oper.wp execOp
  simp only [ho, resolve, invoke, builtin, Sem.run_bind, Sem.run_pure, Result.andThen_ok, List.map_toArray, List.map_cons, List.map_nil, hs, hx, hrun]
  exact hK _ _ (h p' c' w' (Lib.hid h2) (Lib.hid h3) (Lib.hid h4))
theorem but_below {B : Nat} {S : List Nat} {w w' : World} (h : But S w w') (hB : B ≤ w.heap.size) (hS : ∀ i ∈ S, B ≤ i) : Below B w w' :=
  ⟨h.os, h.tape, h.output, h.size, fun i hi => h.block i (by omega) (fun hm => by have := hS i hm; omega)⟩
theorem numsS_snoc : ∀ (L : List (List UInt8)) (p : List UInt8), numsS (L ++ [p]) = (numsS L).bind fun x => (numS p 255).map fun n => x ++ [UInt8.ofNat n.toNat]
  | [], p => by
    simp only [List.nil_append, numsS]
    cases numS p 255 <;> rfl
  | q :: L, p => by
    rw [List.cons_append, numsS, numsS]
    cases numS q 255 with
    | none => rfl
    | some n =>
      rw [numsS_snoc L p]
      cases numsS L with
      | none => rfl
      | some x => cases numS p 255 <;> rfl
theorem numsS_none : ∀ (L R : List (List UInt8)), numsS L = none → numsS (L ++ R) = none
  | [], R, h => by simp [numsS] at h
  | q :: L, R, h => by
    rw [List.cons_append, numsS]
    rw [numsS] at h
    cases hq : numS q 255 with
    | none => rfl
    | some n =>
      rw [hq] at h
      have h1 : numsS L = none := by simpa using h
      rw [numsS_none L R h1]
      rfl
theorem numsS_len : ∀ (L : List (List UInt8)) (x : List UInt8), numsS L = some x → x.length = L.length
  | [], x, h => by simp [numsS] at h; subst h; rfl
  | q :: L, x, h => by
    rw [numsS] at h
    cases hq : numS q 255 with
    | none => rw [hq] at h; cases h
    | some n =>
      rw [hq] at h
      simp only [Option.map_eq_some_iff] at h
      obtain ⟨y, hy, rfl⟩ := h
      simp [numsS_len L y hy]

def RDotAt (s : ByteArray) (w : World) (v i : Value) (w' : World) (g : Nat) : Prop :=
  ∃ (k : Nat) (x : List UInt8) (p : Option Nat) (c : Nat), k ≤ 4 ∧ i = .int .i64 k ∧ numsS ((splitS 46 (bs s)).take k) = some x ∧ v = .slice (ad p) x.length c ∧ At w' p c x ∧ (∀ b, p = some b → w.heap.size ≤ b) ∧ RowS w' g 4 (splitS 46 (bs s)) ∧ Below w.heap.size w w'
def RDotPost (s : ByteArray) (w : World) (e : Ending) (w' : World) : Prop :=
  ∃ v, e = .returned (.tuple #[v, .bool (dotR (bs s)).isSome]) ∧ Own w' w.heap.size v ((dotR (bs s)).getD []) ∧ Below w.heap.size w w'
set_option maxRecDepth 100000 in
set_option maxHeartbeats 2000000 in
theorem rdotted_any (s : ByteArray) (w : World) (hs : s.size ≤ 4294967290) : Calls Tryz.prog 115 #[.string s] w (RDotPost s w) := by
  go_enter Tryz.func115, Tryz.ntmps115
  go_wp2_with fail
  refine (rcut_any s 46 _ hs).mono ?_
  rintro e w1 ⟨v, rfl, hown, hb1⟩
  obtain ⟨g, cap, rfl, hg, hcap, hrow⟩ := hown.row (splitS_ne _ _)
  have hln := splitS_len 46 (bs s)
  rw [bs_length] at hln
  have HD := Lib.hid (show dotR (bs s) = if (splitS 46 (bs s)).length = 4 then numsS (splitS 46 (bs s)) else none from rfl)
  have HR := Lib.hid hrow
  have HL := Lib.hid hb1
  clear hown hb1 hrow
  generalize hn : (splitS 46 (bs s)).length = n at *
  by_cases h4 : n = 4
  · subst h4
    rw [if_pos rfl] at HD
    go_wp2_with fail
    go_loopw [5, 6] (fun v i w' => RDotAt s w v i w' g) (fun _ i _ => 4 - (intOf i).toNat)
    case atStart => exact ⟨0, [], none, 0, by omega, rfl, rfl, rfl, At.nil _, fun b hb => (by cases hb), HR.out, HL.out⟩
    case round =>
      obtain ⟨k, x, p, c0, hk, rfl, hx, rfl, hown, hpb, hrow, hbel⟩ := hrel
      have HX := Lib.hid hx
      have HO := Lib.hid hown
      have HPB := Lib.hid hpb
      clear hpb
      have HR1 := Lib.hid hrow
      have HL1 := Lib.hid hbel
      have hsz := hbel.size
      have hxl := numsS_len _ _ hx
      rw [List.length_take, hn] at hxl
      have HXL := Lib.hid hxl
      clear hx hown hbel hxl
      by_cases hlt : k < 4
      · have hp : (splitS 46 (bs s))[k]? = some ((splitS 46 (bs s))[k]'(by omega)) := List.getElem?_eq_getElem (by omega)
        have hcell := hrow.cell hp
        have hT : (splitS 46 (bs s)).take (k + 1) = (splitS 46 (bs s)).take k ++ [(splitS 46 (bs s))[k]'(by omega)] := by rw [List.take_add_one, hp]; rfl
        have hpl := splitS_mem 46 (bs s) _ (List.mem_of_getElem? hp)
        generalize (splitS 46 (bs s))[k]'(by omega) = q at *
        have HT := Lib.hid hT
        have hps : (str q).size ≤ maxLen := by rw [str_size]; rw [bs_length] at hpl; unfold maxLen; omega
        have HPS := Lib.hid hps
        clear hp hT hps hrow
        go_wp2_with fail
        refine (rnumber_any (str q) 255 _ HPS.out).mono ?_
        rintro e w2 ⟨rfl, rfl⟩
        rw [show bs (str q) = q from rfl]
        cases hnum : numS q 255 with
        | none =>
          have HZ := Lib.hid (show dotR (bs s) = none by
            rw [HD.out, ← List.take_append_drop (k + 1) (splitS 46 (bs s))]
            exact numsS_none _ _ (by rw [HT.out, numsS_snoc, HX.out, hnum]; rfl))
          rw [dTup]
          clear hnum
          go_wp2
          go_ret2
          exact ⟨_, by rw [HZ.out]; rfl, by rw [HZ.out]; exact ⟨rfl, .inl ⟨rfl, rfl⟩⟩, HL1.out⟩
        | some m =>
          obtain ⟨m0, m1⟩ := numS_bd hnum
          have HZ := Lib.hid (show numsS ((splitS 46 (bs s)).take (k + 1)) = some (x ++ [UInt8.ofNat m.toNat]) by rw [HT.out, numsS_snoc, HX.out, hnum]; rfl)
          rw [dTup]
          clear hnum
          obtain ⟨c, rfl⟩ : ∃ c : UInt8, m = (c.toNat : Int) := ⟨UInt8.ofNat m.toNat, by rw [UInt8.toNat_ofNat']; omega⟩
          rw [show UInt8.ofNat ((c.toNat : Int)).toNat = c by simp] at HZ
          have HA := Lib.hid (HO.out.but (S := []) ((But.refl _ wr).alloc (.cells #[Value.int .u8 (c.toNat : Int)] 5)) (fun _ _ => by simp))
          have HSR := Lib.hid (show Src (wr.alloc (.cells #[Value.int .u8 (c.toNat : Int)] 5)) (some ⟨wr.heap.size, 0, none⟩) 1 [c] from src_all (a := [c]) (Blk.new wr _ _))
          go_wp2_with (refine wpList_app_at rfl _ _ _ rfl und8 inf8 p _ _ _ rfl rfl (by exact HA.out) _ _ _ [c] rfl (by exact HSR.out) (by have := HXL.out; omega) ?_; intro p3 c3 w3 hat3 hp3 hb3)
          go_roundw
          case rel =>
            have hb0 : But p.toList wr w3 := ((But.refl _ wr).alloc _).trans hb3.out
            exact ⟨k + 1, x ++ [c], p3, c3, by omega, by go_num, HZ.out, by simp, hat3.out, fun b hb => (by
              rcases hp3.out with h | h
              · exact HPB.out b (by rw [← h]; exact hb)
              · rw [h] at hb; injection hb with hb; subst hb; simp; omega), HR1.out.but hb0 (HR1.out.ne HO.out), HL1.out.trans (but_below hb0 hsz (fun i hi => HPB.out i (by simpa using hi)))⟩
          case measure => simp [intOf]; omega
      · obtain rfl : k = 4 := by omega
        rw [List.take_of_length_le (by omega)] at HX
        go_wp2
        go_ret2
        exact ⟨_, by rw [HD.out, HX.out]; rfl, by rw [HD.out, HX.out]; exact at_own HO.out HPB.out, HL1.out⟩
  · rw [if_neg h4] at HD
    go_wp2
    go_ret2
    exact ⟨_, by rw [HD.out]; rfl, by rw [HD.out]; exact ⟨rfl, .inl ⟨rfl, rfl⟩⟩, HL.out⟩
end Go.Proofs.YtlpondbcnfaggaaGreatDoor.Ad
