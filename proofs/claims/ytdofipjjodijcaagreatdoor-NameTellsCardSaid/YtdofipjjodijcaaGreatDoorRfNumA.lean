/-
  hagioscoperef02's Number, Hex and Text for seats that have package ascii's Lower, too (XRfAsc's, behind RfTok, where the rest of it stands).
-/
import Derived.Test.YtdofipjjodijcaaGreatDoorAscNum
import Derived.Test.YtdofipjjodijcaaGreatDoorRfTok
namespace Go.Proofs.YtdofipjjodijcaaGreatDoor.Asc
open Go.RowKit Go.Proofs.YtdofipjjodijcaaGreatDoor.Wd

theorem fold_nodig (s : ByteArray) (pos : Nat) (n : Int) (h : pos < s.size) (hc : ¬ (48 ≤ ((s[pos]'h).toNat : Int) ∧ ((s[pos]'h).toNat : Int) ≤ 57)) : foldv 10 ((bs s).drop pos) n = none := by
  cases hx : hexI ((s[pos]'h).toNat : Int) with
  | none => exact fold_none _ s pos n h hx
  | some d =>
    refine fold_big _ s pos n d h hx ?_
    rw [hexI, if_neg hc] at hx
    split at hx
    · injection hx; omega
    · split at hx
      · injection hx; omega
      · cases hx
theorem fold_dig (s : ByteArray) (pos : Nat) (n : Int) (h : pos < s.size) (h1 : 48 ≤ ((s[pos]'h).toNat : Int)) (h2 : ((s[pos]'h).toNat : Int) ≤ 57) :
    foldv 10 ((bs s).drop pos) n = foldv 10 ((bs s).drop (pos + 1)) (n * 10 + (((s[pos]'h).toNat : Int) - 48)) :=
  fold_on _ s pos n _ h (by rw [hexI, if_pos ⟨h1, h2⟩]) (by omega)

def NumIn (s : ByteArray) (x y : Value) : Prop :=
  ∃ (k : Nat) (n : Int), y = .int .i64 k ∧ x = .int .i64 n ∧ k ≤ s.size ∧ 0 ≤ n ∧ n < ((10 ^ k : Nat) : Int) ∧ foldv 10 ((bs s).drop k) n = foldv 10 (bs s) 0

set_option maxHeartbeats 2000000 in
theorem rnumber_in (s : ByteArray) (most : Int) (w : World) (h0 : 0 < s.size) (hM : s.size ≤ 18) (hz : ¬ (1 < (bs s).length ∧ (bs s)[0]? = some 48)) :
    Calls Tryz.prog 63 #[.string s, .int .i64 most] w fun e w' => e = .returned (dTup (numS (bs s) most)) ∧ w = w' := by
  have E := Lib.hid (digits_in 10 18 s h0 hM)
  have HZ := Lib.hid hz
  clear hz
  have g1 : ¬ (s.size : Int) < 1 := by omega
  have g2 : ¬ (18 : Int) < (s.size : Int) := by omega
  have hb : (1 : Int) < (s.size : Int) → (((s[0]'h0).toNat : Int) == 48) = false := fun h => byte_ne (k := 48) (by omega) (fun e => HZ.out ⟨by rw [bs_length]; omega, by rw [first_is s h0, e]; rfl⟩)
  by_cases g3 : (1 : Int) < (s.size : Int)
  all_goals
    first
      | replace hb := hb g3
      | clear hb
    go_enter Tryz.func63, Tryz.ntmps63
    go_wp2
    go_loop [6, 7] (fun x y => NumIn s x y) (fun _ y => s.size - (intOf y).toNat)
    case atStart => exact ⟨0, 0, rfl, rfl, Nat.zero_le _, Int.le_refl _, by simp, rfl⟩
    case round =>
      obtain ⟨k, n, rfl, rfl, hle, hn0, hn1, hf⟩ := hrel
      have HF := Lib.hid hf
      clear hf
      by_cases hp : k < s.size
      · have hpw := pow_bd10 k (by omega)
        by_cases c1 : ((s[k]'hp).toNat : Int) < 48
        · clear hn1 hpw
          go_wp2
          go_ret2
          exact ⟨ret_no (num_none _ _ (by rw [E.out, ← HF.out]; exact fold_nodig s k n hp (by omega))), rfl⟩
        · by_cases c2 : 57 < ((s[k]'hp).toNat : Int)
          · clear hn1 hpw
            go_wp2
            go_ret2
            exact ⟨ret_no (num_none _ _ (by rw [E.out, ← HF.out]; exact fold_nodig s k n hp (by omega))), rfl⟩
          · have hn2 : n ≤ 100000000000000000 - 1 := by omega
            have HN := Lib.hid (show n * 10 + (((s[k]'hp).toNat : Int) - 48) < (((10 : Nat) ^ (k + 1) : Nat) : Int) by rw [Nat.pow_succ]; omega)
            have HS := Lib.hid (fold_dig s k n hp (by omega) (by omega))
            clear hn1 hpw
            go_wp2
            go_round
            case rel => exact ⟨k + 1, n * 10 + (((s[k]'hp).toNat : Int) - 48), by go_num, by go_num, hp, by omega, HN.out, by rw [← HF.out, HS.out]⟩
            case measure => simp [intOf]; omega
      · clear hn1
        have HY : Hid (digitsS 10 18 (bs s) = some n) := Lib.hid (by rw [E.out, ← HF.out, bs_end s k hp]; rfl)
        by_cases hm : most < n
        · go_wp2
          go_ret2
          exact ⟨ret_no (num_big _ _ _ HY.out hm), rfl⟩
        · go_wp2
          go_ret2
          exact ⟨ret_yes (num_yes _ _ _ HZ.out HY.out (by omega)), rfl⟩

theorem rnumber_any (s : ByteArray) (most : Int) (w : World) (hs : s.size ≤ maxLen) :
    Calls Tryz.prog 63 #[.string s, .int .i64 most] w fun e w' => e = .returned (dTup (numS (bs s) most)) ∧ w = w' := by
  unfold maxLen at hs
  by_cases h0 : s.size = 0
  · obtain rfl := empty_of s h0
    clear h0
    go_enter Tryz.func63, Tryz.ntmps63
    go_wp2
    go_ret2
    exact ⟨ret_no rfl, rfl⟩
  · by_cases hM : s.size ≤ 18
    · by_cases hz : 1 < (bs s).length ∧ (bs s)[0]? = some 48
      · obtain ⟨h1, h2⟩ := hz
        have HN := Lib.hid (num_zero (bs s) most h1 h2)
        rw [bs_length] at h1
        have hp : 0 < s.size := by omega
        rw [first_is s hp] at h2
        injection h2 with h2
        have hb : (((s[0]'hp).toNat : Int) == 48) = true := by rw [h2]; rfl
        clear h2
        have g1 : ¬ (s.size : Int) < 1 := by omega
        have g2 : ¬ (18 : Int) < (s.size : Int) := by omega
        have g3 : (1 : Int) < (s.size : Int) := by omega
        go_enter Tryz.func63, Tryz.ntmps63
        go_wp2
        go_ret2
        exact ⟨ret_no HN.out, rfl⟩
      · exact rnumber_in s most w (by omega) hM hz
    · have HN := Lib.hid (num_none (bs s) most (by rw [digitsS, bs_length, if_pos (by omega)]))
      have g1 : ¬ (s.size : Int) < 1 := by omega
      have g2 : (18 : Int) < (s.size : Int) := by omega
      go_enter Tryz.func63, Tryz.ntmps63
      go_wp2
      go_ret2
      exact ⟨ret_no HN.out, rfl⟩

theorem hex_of_low (c : UInt8) : hexI (c.toNat : Int) =
    if 48 ≤ ((lowB c).toNat : Int) ∧ ((lowB c).toNat : Int) ≤ 57 then some (((lowB c).toNat : Int) - 48) else if 97 ≤ ((lowB c).toNat : Int) ∧ ((lowB c).toNat : Int) ≤ 102 then some (((lowB c).toNat : Int) - 87) else none := by
  rw [hexI]
  by_cases h : 65 ≤ c.toNat ∧ c.toNat ≤ 90
  · rw [lowB_great c h.1 h.2]
    have n1 : ¬ (48 ≤ (c.toNat : Int) ∧ (c.toNat : Int) ≤ 57) := by omega
    have n2 : ¬ (97 ≤ (c.toNat : Int) ∧ (c.toNat : Int) ≤ 102) := by omega
    have n3 : ¬ (48 ≤ ((c.toNat + 32 : Nat) : Int) ∧ ((c.toNat + 32 : Nat) : Int) ≤ 57) := by omega
    rw [if_neg n1, if_neg n2, if_neg n3]
    by_cases h2 : c.toNat ≤ 70
    · have p1 : 65 ≤ (c.toNat : Int) ∧ (c.toNat : Int) ≤ 70 := by omega
      have p2 : 97 ≤ ((c.toNat + 32 : Nat) : Int) ∧ ((c.toNat + 32 : Nat) : Int) ≤ 102 := by omega
      rw [if_pos p1, if_pos p2]; congr 1; omega
    · have p1 : ¬ (65 ≤ (c.toNat : Int) ∧ (c.toNat : Int) ≤ 70) := by omega
      have p2 : ¬ (97 ≤ ((c.toNat + 32 : Nat) : Int) ∧ ((c.toNat + 32 : Nat) : Int) ≤ 102) := by omega
      rw [if_neg p1, if_neg p2]
  · rw [lowB_high c h]
    by_cases h1 : 48 ≤ (c.toNat : Int) ∧ (c.toNat : Int) ≤ 57
    · rw [if_pos h1, if_pos h1]
    · rw [if_neg h1, if_neg h1]
      by_cases h2 : 97 ≤ (c.toNat : Int) ∧ (c.toNat : Int) ≤ 102
      · rw [if_pos h2, if_pos h2]
      · rw [if_neg h2, if_neg h2, if_neg (by omega)]

def HexIn (s : ByteArray) (x y : Value) : Prop :=
  ∃ (k : Nat) (n : Int), y = .int .i64 k ∧ x = .int .i64 n ∧ k ≤ s.size ∧ 0 ≤ n ∧ n < ((16 ^ k : Nat) : Int) ∧ foldv 16 ((bs s).drop k) n = foldv 16 (bs s) 0

set_option maxHeartbeats 2000000 in
theorem rhex_in (s : ByteArray) (w : World) (h0 : 0 < s.size) (hM : s.size ≤ 4) :
    Calls Tryz.prog 64 #[.string s] w fun e w' => e = .returned (dTup (hexS (bs s))) ∧ w = w' := by
  have E : Hid (hexS (bs s) = foldv 16 (bs s) 0) := Lib.hid (digits_in 16 4 s h0 hM)
  have g1 : ¬ (s.size : Int) < 1 := by omega
  have g2 : ¬ (4 : Int) < (s.size : Int) := by omega
  go_enter Tryz.func64, Tryz.ntmps64
  go_wp2
  go_loop [4, 5] (fun x y => HexIn s x y) (fun _ y => s.size - (intOf y).toNat)
  case atStart => exact ⟨0, 0, rfl, rfl, Nat.zero_le _, Int.le_refl _, by simp, rfl⟩
  case round =>
    obtain ⟨k, n, rfl, rfl, hle, hn0, hn1, hf⟩ := hrel
    have HF := Lib.hid hf
    clear hf
    by_cases hp : k < s.size
    · have hpw := pow_bd16 k (by omega)
      have hn2 : n ≤ 4096 - 1 := by omega
      have hu := (lowB (s[k]'hp)).toNat_lt
      have HX := Lib.hid (hex_of_low (s[k]'hp))
      by_cases c1 : 48 ≤ ((lowB (s[k]'hp)).toNat : Int)
      · by_cases c2 : ((lowB (s[k]'hp)).toNat : Int) ≤ 57
        · have HN := Lib.hid (show n * 16 + (((lowB (s[k]'hp)).toNat : Int) - 48) < (((16 : Nat) ^ (k + 1) : Nat) : Int) by rw [Nat.pow_succ]; omega)
          have HS := Lib.hid (fold_on 16 s k n _ hp (by rw [HX.out, if_pos ⟨c1, c2⟩]) (by omega))
          clear hn1 hpw
          go_wp2_with (go_at_call 43; refine (rlower_any _ _).mono ?_; rintro e w' ⟨rfl, rfl⟩)
          go_round
          case rel => exact ⟨k + 1, n * 16 + (((lowB (s[k]'hp)).toNat : Int) - 48), by go_num, by go_num, hp, by omega, HN.out, by rw [← HF.out, HS.out]⟩
          case measure => simp [intOf]; omega
        · by_cases c3 : 97 ≤ ((lowB (s[k]'hp)).toNat : Int)
          · by_cases c4 : ((lowB (s[k]'hp)).toNat : Int) ≤ 102
            · have HN := Lib.hid (show n * 16 + (((lowB (s[k]'hp)).toNat : Int) - 87) < (((16 : Nat) ^ (k + 1) : Nat) : Int) by rw [Nat.pow_succ]; omega)
              have HS := Lib.hid (fold_on 16 s k n _ hp (by rw [HX.out, if_neg (by omega), if_pos ⟨c3, c4⟩]) (by omega))
              clear hn1 hpw
              go_wp2_with (go_at_call 43; refine (rlower_any _ _).mono ?_; rintro e w' ⟨rfl, rfl⟩)
              go_round
              case rel => exact ⟨k + 1, n * 16 + (((lowB (s[k]'hp)).toNat : Int) - 87), by go_num, by go_num, hp, by omega, HN.out, by rw [← HF.out, HS.out]⟩
              case measure => simp [intOf]; omega
            · have HS := Lib.hid (fold_none 16 s k n hp (by rw [HX.out, if_neg (by omega), if_neg (by omega)]))
              clear hn1 hpw
              go_wp2_with (go_at_call 43; refine (rlower_any _ _).mono ?_; rintro e w' ⟨rfl, rfl⟩)
              go_ret2
              exact ⟨ret_no (by rw [E.out, ← HF.out]; exact HS.out), rfl⟩
          · have HS := Lib.hid (fold_none 16 s k n hp (by rw [HX.out, if_neg (by omega), if_neg (by omega)]))
            clear hn1 hpw
            go_wp2_with (go_at_call 43; refine (rlower_any _ _).mono ?_; rintro e w' ⟨rfl, rfl⟩)
            go_ret2
            exact ⟨ret_no (by rw [E.out, ← HF.out]; exact HS.out), rfl⟩
      · have c3 : ¬ 97 ≤ ((lowB (s[k]'hp)).toNat : Int) := by omega
        have HS := Lib.hid (fold_none 16 s k n hp (by rw [HX.out, if_neg (by omega), if_neg (by omega)]))
        clear hn1 hpw
        go_wp2_with (go_at_call 43; refine (rlower_any _ _).mono ?_; rintro e w' ⟨rfl, rfl⟩)
        go_ret2
        exact ⟨ret_no (by rw [E.out, ← HF.out]; exact HS.out), rfl⟩
    · clear hn1
      have HY : Hid (hexS (bs s) = some n) := Lib.hid (by rw [E.out, ← HF.out, bs_end s k hp]; rfl)
      go_wp2
      go_ret2
      exact ⟨ret_yes HY.out, rfl⟩

theorem rhex_any (s : ByteArray) (w : World) (hs : s.size ≤ maxLen) :
    Calls Tryz.prog 64 #[.string s] w fun e w' => e = .returned (dTup (hexS (bs s))) ∧ w = w' := by
  unfold maxLen at hs
  by_cases h0 : s.size = 0
  · obtain rfl := empty_of s h0
    clear h0
    go_enter Tryz.func64, Tryz.ntmps64
    go_wp2
    go_ret2
    exact ⟨ret_no rfl, rfl⟩
  · by_cases hM : s.size ≤ 4
    · exact rhex_in s w (by omega) hM
    · have HN := Lib.hid (show hexS (bs s) = none by rw [hexS, digitsS, bs_length, if_pos (by omega)])
      have g1 : ¬ (s.size : Int) < 1 := by omega
      have g2 : (4 : Int) < (s.size : Int) := by omega
      go_enter Tryz.func64, Tryz.ntmps64
      go_wp2
      go_ret2
      exact ⟨ret_no HN.out, rfl⟩
def dgt (d : Nat) : UInt8 := UInt8.ofNat (48 + d)
/-- a number's digits -/
def txtL (n : Nat) : List UInt8 := if n < 10 then [dgt n] else txtL (n / 10) ++ [dgt (n % 10)]
termination_by n
def txtS (n : Nat) : ByteArray := ⟨(txtL n).toArray⟩
theorem txt_one (n : Nat) (h : n < 10) : txtL n = [dgt n] := by rw [txtL, if_pos h]
theorem txt_more (n : Nat) (h : ¬ n < 10) : txtL n = txtL (n / 10) ++ [dgt (n % 10)] := by rw [txtL, if_neg h]
theorem bs_txt (n : Nat) : bs (txtS n) = txtL n := rfl
theorem txt_long (n : Nat) : (txtL n).length ≤ n + 1 := by
  induction n using Nat.strongRecOn with
  | _ n ih =>
    by_cases h : n < 10
    · rw [txt_one n h]; simp
    · rw [txt_more n h, List.length_append]
      have := ih (n / 10) (by omega)
      simp only [List.length_cons, List.length_nil]
      omega
theorem txt_pos (n : Nat) : 0 < (txtL n).length := by
  by_cases h : n < 10
  · rw [txt_one n h]; simp
  · rw [txt_more n h]; simp
theorem txt_short : ∀ (k n : Nat), n < 10 ^ (k + 1) → (txtL n).length ≤ k + 1
  | 0, n, h => by rw [txt_one n (by simpa using h)]; simp
  | k + 1, n, h => by
    by_cases h1 : n < 10
    · rw [txt_one n h1]; simp
    · rw [txt_more n h1, List.length_append]
      have := txt_short k (n / 10) (by rw [Nat.pow_succ] at h; omega)
      simp only [List.length_cons, List.length_nil]
      omega
theorem txtS_size (n : Nat) : (txtS n).size ≤ n + 1 := by rw [← bs_length, bs_txt]; exact txt_long n

theorem dgt_hex : ∀ d : Fin 10, hexI ((dgt d.1).toNat : Int) = some (d.1 : Int) := by decide
theorem dgt_is (d : Nat) (h : d < 10) : hexI ((dgt d).toNat : Int) = some (d : Int) := dgt_hex ⟨d, h⟩
theorem of_dgt (c : UInt8) (d : Int) (h : hexI (c.toNat : Int) = some d) (hd : d < 10) : ∃ k : Nat, k < 10 ∧ d = (k : Int) ∧ c = dgt k := by
  have hb := hex_bd h
  refine ⟨d.toNat, by omega, by omega, ?_⟩
  apply UInt8.toNat.inj
  unfold hexI at h
  split at h
  · injection h with h
    rw [dgt, UInt8.toNat_ofNat']
    have := c.toNat_lt
    omega
  · split at h
    · injection h; omega
    · split at h
      · injection h; omega
      · cases h
theorem fold_add (B : Int) : ∀ (l : List UInt8) (c : UInt8) (a : Int), foldv B (l ++ [c]) a = (foldv B l a).bind fun v => foldv B [c] v
  | [], c, a => rfl
  | x :: l, c, a => by
    rw [List.cons_append, foldv, foldv]
    cases hexI (x.toNat : Int) with
    | none => rfl
    | some d =>
      simp only
      split
      · exact fold_add B l c _
      · rfl
theorem fold_dgt (v : Int) (d : Nat) (h : d < 10) : foldv 10 [dgt d] v = some (v * 10 + d) := by
  rw [foldv, dgt_is d h]; simp only; rw [if_pos (by omega), foldv]
theorem txt_fold (n : Nat) : foldv 10 (txtL n) 0 = some (n : Int) := by
  induction n using Nat.strongRecOn with
  | _ n ih =>
    by_cases h : n < 10
    · rw [txt_one n h, fold_dgt 0 n h]; congr 1; omega
    · rw [txt_more n h, fold_add, ih (n / 10) (by omega)]
      show foldv 10 [dgt (n % 10)] ((n / 10 : Nat) : Int) = _
      rw [fold_dgt _ _ (Nat.mod_lt _ (by omega))]
      congr 1
      omega
theorem dgt_ne : ∀ d : Fin 10, d.1 ≠ 0 → dgt d.1 ≠ 48 := by decide
theorem txt_first (n : Nat) (h0 : 1 ≤ n) : (txtL n)[0]? ≠ some 48 := by
  induction n using Nat.strongRecOn with
  | _ n ih =>
    by_cases h : n < 10
    · rw [txt_one n h]
      intro e
      simp only [List.getElem?_cons_zero, Option.some.injEq] at e
      exact dgt_ne ⟨n, h⟩ (by simp; omega) e
    · rw [txt_more n h, List.getElem?_append_left (txt_pos _)]
      exact ih (n / 10) (by omega) (by omega)
theorem txt_lead (n : Nat) : ¬ (1 < (txtL n).length ∧ (txtL n)[0]? = some 48) := by
  rintro ⟨h1, h2⟩
  by_cases h : n < 10
  · rw [txt_one n h] at h1; simp at h1
  · exact txt_first n (by omega) h2
theorem txt_dig (n : Nat) (h : n ≤ 999999999999999999) : digitsS 10 18 (txtL n) = some (n : Int) := by
  have h1 := txt_short 17 n (by have : (10 : Nat) ^ 18 = 1000000000000000000 := by decide
                                omega)
  have h2 := txt_pos n
  rw [digitsS, if_neg (by omega), txt_fold]
theorem txt_num (n : Nat) (h : n ≤ 999999999999999999) : numS (txtL n) (n : Int) = some (n : Int) := num_yes _ _ _ (txt_lead n) (txt_dig n h) (by omega)
theorem txt_less (n : Nat) (h : n ≤ 999999999999999999) : numS (txtL n) ((n : Int) - 1) = none := num_big _ _ _ (txt_dig n h) (by omega)

theorem one_text : ∀ (k : Nat) (l : List UInt8) (m : Int), l.length = k + 1 → ¬ (1 < l.length ∧ l[0]? = some 48) → foldv 10 l 0 = some m → ∃ n : Nat, m = (n : Int) ∧ txtL n = l
  | 0, l, m, hl, _, hf => by
    obtain ⟨c, rfl⟩ := List.length_eq_one_iff.1 hl
    rw [foldv] at hf
    cases hc : hexI (c.toNat : Int) with
    | none => rw [hc] at hf; cases hf
    | some d =>
      rw [hc] at hf
      simp only at hf
      split at hf
      · rename_i hd
        obtain ⟨q, hq, rfl, rfl⟩ := of_dgt c d hc hd
        rw [foldv] at hf
        injection hf with hf
        exact ⟨q, by omega, txt_one q hq⟩
      · cases hf
  | k + 1, l, m, hl, hz, hf => by
    rcases List.eq_nil_or_concat l with rfl | ⟨r, c, e⟩
    · simp at hl
    · rw [List.concat_eq_append] at e
      subst e
      have hr : r.length = k + 1 := by simpa using hl
      have h0 : (r ++ [c])[0]? = r[0]? := List.getElem?_append_left (by omega)
      have hne : ¬ r[0]? = some 48 := fun h => hz ⟨by omega, by rw [h0]; exact h⟩
      rw [fold_add] at hf
      cases hv : foldv 10 r 0 with
      | none => rw [hv] at hf; cases hf
      | some v =>
        rw [hv] at hf
        have hf2 : foldv 10 [c] v = some m := hf
        obtain ⟨n, rfl, hn⟩ := one_text k r v hr (fun h => hne h.2) hv
        rw [foldv] at hf2
        cases hc : hexI (c.toNat : Int) with
        | none => rw [hc] at hf2; cases hf2
        | some d =>
          rw [hc] at hf2
          simp only at hf2
          split at hf2
          · rename_i hd
            obtain ⟨q, hq, rfl, rfl⟩ := of_dgt c d hc hd
            rw [foldv] at hf2
            injection hf2 with hf2
            have hn1 : 1 ≤ n := by
              rcases Nat.eq_zero_or_pos n with rfl | h
              · exfalso
                apply hne
                rw [← hn, txt_one 0 (by omega)]
                rfl
              · exact h
            refine ⟨n * 10 + q, by omega, ?_⟩
            rw [txt_more _ (by omega), show (n * 10 + q) / 10 = n by omega, show (n * 10 + q) % 10 = q by omega, hn]
          · cases hf2
theorem num_text (l : List UInt8) (most m : Int) (h : numS l most = some m) : ∃ n : Nat, m = (n : Int) ∧ (n : Int) ≤ most ∧ txtL n = l := by
  rw [numS] at h
  split at h
  · cases h
  · rename_i hz
    cases hd : digitsS 10 18 l with
    | none => rw [hd] at h; cases h
    | some v =>
      rw [hd] at h
      simp only at h
      split at h
      · cases h
      · injection h with h
        subst h
        rw [digitsS] at hd
        split at hd
        · cases hd
        · obtain ⟨n, rfl, hn⟩ := one_text (l.length - 1) l v (by omega) hz hd
          exact ⟨n, rfl, by omega, hn⟩

theorem ten_at : ∀ d : Fin 10, ((bs ⟨#[48, 49, 50, 51, 52, 53, 54, 55, 56, 57]⟩).drop d.1).take 1 = [dgt d.1] := by decide
theorem ten_ext (n : Nat) (h : n < 10) : (⟨#[48, 49, 50, 51, 52, 53, 54, 55, 56, 57]⟩ : ByteArray).extract n (n + 1) = txtS n := by
  apply bs_inj
  rw [bs_extract, bs_txt, txt_one n h, Nat.add_sub_cancel_left]
  exact ten_at ⟨n, h⟩
theorem txtS_add (n : Nat) (h : ¬ n < 10) : txtS (n / 10) ++ txtS (n % 10) = txtS n := by
  apply bs_inj
  rw [bs_add, bs_txt, bs_txt, bs_txt, txt_more n h, txt_one (n % 10) (Nat.mod_lt _ (by omega))]

set_option maxHeartbeats 1000000 in
theorem text_any (n : Nat) : ∀ (m : Int) (w : World), m = (n : Int) → n ≤ 9223372036854775807 →
    Calls Tryz.prog 40 #[.int .i64 m] w fun e w' => e = .returned (.string (txtS n)) ∧ w = w' := by
  induction n using Nat.strongRecOn with
  | _ n ih =>
    intro m w hm hn
    subst hm
    by_cases h : n < 10
    · have HE := Lib.hid (ten_ext n h)
      have h' : (n : Int) < 10 := by omega
      clear ih
      go_enter Tryz.func40, Tryz.ntmps40
      go_wp2
      go_ret
      exact ⟨ret_s (by rw [← HE.out]), rfl⟩
    · have h' : ¬ (n : Int) < 10 := by omega
      have HA := Lib.hid (txtS_add n h)
      have I1 := Lib.hid (ih (n / 10) (by omega))
      have I2 := Lib.hid (ih (n % 10) (by omega))
      have z1 := txtS_size (n / 10)
      have z2 := txtS_size (n % 10)
      clear ih
      go_enter Tryz.func40, Tryz.ntmps40
      go_wp2_with fail
      refine (I1.out _ _ (by omega) (by omega)).mono ?_
      rintro e w' ⟨rfl, rfl⟩
      go_wp2_with fail
      refine (I2.out _ _ (by omega) (by omega)).mono ?_
      rintro e w' ⟨rfl, rfl⟩
      go_wp2_with fail
      go_ret
      exact ⟨ret_s HA.out, rfl⟩
end Go.Proofs.YtdofipjjodijcaaGreatDoor.Asc
