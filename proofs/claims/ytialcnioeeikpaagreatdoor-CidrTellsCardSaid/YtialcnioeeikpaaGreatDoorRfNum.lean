/-
  Contracts of hagioscoperef03's hex and group, and of hagioscoperef04's Text.
-/
import Derived.Test.YtialcnioeeikpaaGreatDoorRfCidr
import Derived.Test.YtialcnioeeikpaaGreatDoorRfAsc
import Derived.Test.YtialcnioeeikpaaGreatDoorAdRound
namespace Go.Proofs.YtialcnioeeikpaaGreatDoor.Ad
open Go.RowKit Go.Proofs.YtialcnioeeikpaaGreatDoor.Wd Go.Proofs.YtialcnioeeikpaaGreatDoor.Asc

theorem hex_at : ∀ d : Fin 16, ((bs ⟨#[48, 49, 50, 51, 52, 53, 54, 55, 56, 57, 97, 98, 99, 100, 101, 102]⟩).drop d.1).take 1 = [hdg d.1] := by decide
theorem hex_ext (n : Nat) (h : n < 16) : (⟨#[48, 49, 50, 51, 52, 53, 54, 55, 56, 57, 97, 98, 99, 100, 101, 102]⟩ : ByteArray).extract n (n + 1) = str (hexT n) := by
  apply bs_inj
  rw [bs_extract, Nat.add_sub_cancel_left, show bs (str (hexT n)) = hexT n from rfl, hexT, if_pos h]
  exact hex_at ⟨n, h⟩
theorem hexT_add (n : Nat) (h : ¬ n < 16) (h2 : n < 65536) : str (hexT (n / 16)) ++ str (hexT (n % 16)) = str (hexT n) := by
  apply bs_inj
  rw [bs_add]
  show hexT (n / 16) ++ hexT (n % 16) = hexT n
  have e1 : hexT (n % 16) = [hdg (n % 16)] := by rw [hexT, if_pos (Nat.mod_lt _ (by omega))]
  rw [e1]
  have h1 : ¬ n < 16 := h
  conv => rhs; unfold hexT
  rw [if_neg h1]
  by_cases g2 : n < 256
  · rw [if_pos g2, hexT, if_pos (by omega)]; rfl
  · rw [if_neg g2]
    by_cases g3 : n < 4096
    · rw [if_pos g3, hexT, if_neg (by omega), if_pos (by omega), Nat.div_div_eq_div_mul]; rfl
    · rw [if_neg g3, hexT, if_neg (by omega), if_neg (by omega), if_pos (by omega), Nat.div_div_eq_div_mul, Nat.div_div_eq_div_mul]; rfl
set_option maxHeartbeats 1000000 in
theorem rhex_text (n : Nat) : ∀ (m : Int) (w : World), m = (n : Int) → n < 65536 →
    Calls Tryz.prog 56 #[.int .i64 m] w fun e w' => e = .returned (.string (str (hexT n))) ∧ w = w' := by
  induction n using Nat.strongRecOn with
  | _ n ih =>
    intro m w hm hn
    subst hm
    by_cases h : n < 16
    · have HE := Lib.hid (hex_ext n h)
      have h' : (n : Int) < 16 := by omega
      clear ih
      go_enter Tryz.func56, Tryz.ntmps56
      go_wp2
      go_ret
      exact ⟨ret_s (by rw [← HE.out]), rfl⟩
    · have h' : ¬ (n : Int) < 16 := by omega
      have HA := Lib.hid (hexT_add n h hn)
      have I1 := Lib.hid (ih (n / 16) (by omega))
      have I2 := Lib.hid (ih (n % 16) (by omega))
      have z1 : (str (hexT (n / 16))).size ≤ 4 := by rw [str_size]; exact (hexT_len _).2
      have z2 : (str (hexT (n % 16))).size ≤ 4 := by rw [str_size]; exact (hexT_len _).2
      clear ih
      go_enter Tryz.func56, Tryz.ntmps56
      go_wp2_with fail
      refine (I1.out _ _ (by omega) (by omega)).mono ?_
      rintro e w' ⟨rfl, rfl⟩
      go_wp2_with fail
      refine (I2.out _ _ (by omega) (by omega)).mono ?_
      rintro e w' ⟨rfl, rfl⟩
      go_wp2_with fail
      go_ret
      exact ⟨ret_s HA.out, rfl⟩

theorem rpairs_get : ∀ (a : List UInt8) (k : Nat) (x y : UInt8), a[2 * k]? = some x → a[2 * k + 1]? = some y → (pairs a)[k]? = some (x.toNat * 256 + y.toNat)
  | [], k, x, y, h, _ => by simp at h
  | [c], k, x, y, _, h => by simp at h
  | c :: d :: r, 0, x, y, h1, h2 => by
    simp at h1 h2
    subst h1 h2
    rfl
  | c :: d :: r, k + 1, x, y, h1, h2 => by
    rw [show 2 * (k + 1) = 2 * k + 1 + 1 by omega] at h1 h2
    rw [pairs]
    exact rpairs_get r k x y (by simpa using h1) (by simpa using h2)
set_option maxRecDepth 100000 in
set_option maxHeartbeats 1000000 in
theorem rgroup_any (a : List UInt8) (ha : a.length = 16) (k : Nat) (hk : k < 8) (w : World) :
    Calls Tryz.prog 55 #[.agg (cA a), .int .i64 k] w fun e w' => e = .returned (.int .i64 (((pairs a).getD k 0 : Nat) : Int)) ∧ Below w.heap.size w w' := by
  have h1 : a[2 * k]? = some (a[2 * k]'(by omega)) := List.getElem?_eq_getElem (by omega)
  have h2 : a[2 * k + 1]? = some (a[2 * k + 1]'(by omega)) := List.getElem?_eq_getElem (by omega)
  generalize a[2 * k]'(by omega) = x at *
  generalize a[2 * k + 1]'(by omega) = y at *
  have HP := Lib.hid (show (pairs a).getD k 0 = x.toNat * 256 + y.toNat by rw [List.getD_eq_getElem?_getD, rpairs_get a k x y h1 h2]; rfl)
  have hx := x.toNat_lt
  have hy := y.toNat_lt
  go_enter Tryz.func55, Tryz.ntmps55
  go_wp2_with fail
  have b0 := Blk.new w 23 (cA a)
  have hbel : Below w.heap.size w (w.alloc (.cells (cA a) 23)) := (Below.refl _ _).alloc (Nat.le_refl _) _
  generalize w.alloc (.cells (cA a) 23) = w1 at *
  have c1 : w1.cell? ⟨w.heap.size, 2 * k, none⟩ = some (.int .u8 (x.toNat : Int)) := by rw [cell_a b0 (2 * k), h1]; rfl
  have c2 : w1.cell? ⟨w.heap.size, 2 * k + 1, none⟩ = some (.int .u8 (y.toNat : Int)) := by rw [cell_a b0 (2 * k + 1), h2]; rfl
  have HL := Lib.hid hbel
  clear b0 hbel h1 h2
  go_quiet (fail)
  all_goals (
    go_wp2_with fail
    go_ret
    refine ⟨?_, ?_⟩
    · rw [HP.out]
      first | rfl | (congr 2; omega)
    · exact HL.out.trans ((below_drewN' _ _).mono HL.out.size))

theorem txt_dec (n : Nat) : txtL n = Lib.decDigits n := by
  induction n using Nat.strongRecOn with
  | _ n ih =>
    by_cases h : n < 10
    · rw [txt_one n h, Lib.decDigits_one h]; rfl
    · rw [txt_more n h, ih (n / 10) (by omega)]
      conv => rhs; rw [Lib.decDigits, dif_neg h]
      rfl
def negS (m : Nat) : ByteArray := str (45 :: txtL m)
theorem negS_add (m : Nat) (h : ¬ m < 10) : negS (m / 10) ++ txtS (m % 10) = negS m := by
  apply bs_inj
  rw [bs_add]
  show 45 :: txtL (m / 10) ++ txtL (m % 10) = 45 :: txtL m
  rw [txt_more m h, txt_one (m % 10) (Nat.mod_lt _ (by omega))]
  rfl
theorem neg_one (m : Nat) : (⟨#[45]⟩ : ByteArray) ++ txtS m = negS m := by
  apply bs_inj
  rw [bs_add]
  rfl
theorem rtext_pos (n : Nat) (h : n ≤ 9223372036854775807) (w : World) : Calls Tryz.prog 36 #[.int .i64 (n : Int)] w fun e w' => e = .returned (.string (txtS n)) ∧ w = w' := by
  go_enter Tryz.func36, Tryz.ntmps36
  go_wp2_with fail
  refine (text_any n _ _ rfl h).mono ?_
  rintro e w' ⟨rfl, rfl⟩
  go_wp2
  go_ret
  exact ⟨rfl, rfl⟩
set_option maxHeartbeats 1000000 in
theorem rtext_neg (m : Nat) : ∀ (w : World), 0 < m → m ≤ 9223372036854775808 → Calls Tryz.prog 36 #[.int .i64 (-(m : Int))] w fun e w' => e = .returned (.string (negS m)) ∧ w = w' := by
  induction m using Nat.strongRecOn with
  | _ m ih =>
    intro w h0 hm
    by_cases h : 1000 < m
    · have h1 : -(m : Int) < 0 := by omega
      have h2 : -(m : Int) < -1000 := by omega
      have hi1 := fun w => ih (m / 10) (by omega) w (by omega) (by omega)
      have hi2 := fun w => rtext_pos (m % 10) (by omega) w
      rw [show ((m / 10 : Nat) : Int) = (m : Int) / 10 by omega] at hi1
      rw [show ((m % 10 : Nat) : Int) = (m : Int) % 10 by omega] at hi2
      have I1 := Lib.hid hi1
      have I2 := Lib.hid hi2
      have HA := Lib.hid (negS_add m (by omega))
      have z1 : (negS (m / 10)).size ≤ 64 := by
        rw [negS, str_size, List.length_cons]
        have := txt_short 18 (m / 10) (by have : (10 : Nat) ^ 19 = 10000000000000000000 := by decide
                                          omega)
        omega
      have z2 := txtS_size (m % 10)
      have z3 : (txtS (m % 10)).size ≤ 64 := by omega
      clear ih hi1 hi2
      go_enter Tryz.func36, Tryz.ntmps36
      go_wp2_with fail
      refine (I1.out _).mono ?_
      rintro e w' ⟨rfl, rfl⟩
      go_wp2_with fail
      refine (I2.out _).mono ?_
      rintro e w' ⟨rfl, rfl⟩
      go_wp2_with fail
      go_ret
      exact ⟨ret_s HA.out, rfl⟩
    · have h1 : -(m : Int) < 0 := by omega
      have h2 : ¬ -(m : Int) < -1000 := by omega
      have HA := Lib.hid (neg_one m)
      have hz := txtS_size m
      clear ih
      go_enter Tryz.func36, Tryz.ntmps36
      go_wp2_with fail
      refine (text_any m _ _ (by omega) (by omega)).mono ?_
      rintro e w' ⟨rfl, rfl⟩
      go_wp2_with fail
      go_ret
      exact ⟨ret_s HA.out, rfl⟩
theorem itoa_txt (n : Int) (h1 : n ≤ 9223372036854775807) (h0 : -9223372036854775808 ≤ n) (w : World) : Calls Tryz.prog 36 #[.int .i64 n] w fun e w' => e = .returned (.string (str (Lib.itoa n))) ∧ w = w' := by
  by_cases h : n < 0
  · obtain ⟨m, rfl⟩ : ∃ m : Nat, n = -(m : Int) := ⟨n.natAbs, by omega⟩
    rw [Lib.itoa_neg m (by omega), ← txt_dec]
    exact rtext_neg m w (by omega) (by omega)
  · obtain ⟨m, rfl⟩ : ∃ m : Nat, n = (m : Int) := ⟨n.toNat, by omega⟩
    rw [Lib.itoa_nonneg, ← txt_dec]
    exact rtext_pos m (by omega) w
end Go.Proofs.YtialcnioeeikpaaGreatDoor.Ad
