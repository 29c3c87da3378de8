/-
  Contracts of hagioscoperef03's hex and group, and of hagioscoperef04's Text.
-/
import Derived.Test.YtgpgkfbbpiialaaGreatDoorMRfA
import Derived.Test.YtgpgkfbbpiialaaGreatDoorRfNumA
import Derived.Test.YtgpgkfbbpiialaaGreatDoorMAdD
namespace Go.Proofs.YtgpgkfbbpiialaaGreatDoor.Ad
open Go.RowKit Go.Proofs.YtgpgkfbbpiialaaGreatDoor.Wd Go.Proofs.YtgpgkfbbpiialaaGreatDoor.Asc

theorem hex_at : ∀ d : Fin 16, ((bs ⟨#[48, 49, 50, 51, 52, 53, 54, 55, 56, 57, 97, 98, 99, 100, 101, 102]⟩).drop d.1).take 1 = [hdg d.1] := by decide
theorem hex_ext (n : Nat) (h : n < 16) : (⟨#[48, 49, 50, 51, 52, 53, 54, 55, 56, 57, 97, 98, 99, 100, 101, 102]⟩ : ByteArray).extract n (n + 1) = str (hexT n) := by
  apply bs_inj
  rw [bs_extract, Nat.add_sub_cancel_left, show bs (str (hexT n)) = hexT n from rfl, hexT, if_pos h]
  exact hex_at ⟨n, h⟩
theorem hexT_add (n : Nat) (h : ¬ n < 16) (h2 : n < 65536) : str (hexT (n / 16)) ++ str (hexT (n % 16)) = str (hexT n) := by
  apply bs_inj
  rw [bs_add]
  show hexT (n / 16) ++ hexT (n % 16) = hexT n
  have e1 : hexT (n % 16) = [hdg (n % 16)] := by rw [hexT, if_pos (Nat.mod_lt _ (by omega))]
  rw [e1]
  have h1 : ¬ n < 16 := h
  conv => rhs; unfold hexT
  rw [if_neg h1]
  by_cases g2 : n < 256
  · rw [if_pos g2, hexT, if_pos (by omega)]; rfl
  · rw [if_neg g2]
    by_cases g3 : n < 4096
    · rw [if_pos g3, hexT, if_neg (by omega), if_pos (by omega), Nat.div_div_eq_div_mul]; rfl
    · rw [if_neg g3, hexT, if_neg (by omega), if_neg (by omega), if_pos (by omega), Nat.div_div_eq_div_mul, Nat.div_div_eq_div_mul]; rfl
set_option maxHeartbeats 1000000 in
theorem rhex_text (n : Nat) : ∀ (m : Int) (w : World), m = (n : Int) → n < 65536 →
    Calls Tryz.prog 71 #[.int .i64 m] w fun e w' => e = .returned (.string (str (hexT n))) ∧ w = w' := by
  induction n using Nat.strongRecOn with
  | _ n ih =>
    intro m w hm hn
    subst hm
    by_cases h : n < 16
    · have HE := Lib.hid (hex_ext n h)
      have h' : (n : Int) < 16 := by omega
      clear ih
      go_enter Tryz.func71, Tryz.ntmps71
      go_wp2
      go_ret
      exact ⟨ret_s (by rw [← HE.out]), rfl⟩
    · have h' : ¬ (n : Int) < 16 := by omega
      have HA := Lib.hid (hexT_add n h hn)
      have I1 := Lib.hid (ih (n / 16) (by omega))
      have I2 := Lib.hid (ih (n % 16) (by omega))
      have z1 : (str (hexT (n / 16))).size ≤ 4 := by rw [str_size]; exact (hexT_len _).2
      have z2 : (str (hexT (n % 16))).size ≤ 4 := by rw [str_size]; exact (hexT_len _).2
      clear ih
      go_enter Tryz.func71, Tryz.ntmps71
      go_wp2_with fail
      refine (I1.out _ _ (by omega) (by omega)).mono ?_
      rintro e w' ⟨rfl, rfl⟩
      go_wp2_with fail
      refine (I2.out _ _ (by omega) (by omega)).mono ?_
      rintro e w' ⟨rfl, rfl⟩
      go_wp2_with fail
      go_ret
      exact ⟨ret_s HA.out, rfl⟩

theorem rpairs_get : ∀ (a : List UInt8) (k : Nat) (x y : UInt8), a[2 * k]? = some x → a[2 * k + 1]? = some y → (pairs a)[k]? = some (x.toNat * 256 + y.toNat)
  | [], k, x, y, h, _ => by simp at h
  | [c], k, x, y, _, h => by simp at h
  | c :: d :: r, 0, x, y, h1, h2 => by
    simp at h1 h2
    subst h1 h2
    rfl
  | c :: d :: r, k + 1, x, y, h1, h2 => by
    rw [show 2 * (k + 1) = 2 * k + 1 + 1 by omega] at h1 h2
    rw [pairs]
    exact rpairs_get r k x y (by simpa using h1) (by simpa using h2)
set_option maxRecDepth 100000 in
set_option maxHeartbeats 1000000 in
theorem rgroup_any (a : List UInt8) (ha : a.length = 16) (k : Nat) (hk : k < 8) (w : World) :
    Calls Tryz.prog 70 #[.agg (cA a), .int .i64 k] w fun e w' => e = .returned (.int .i64 (((pairs a).getD k 0 : Nat) : Int)) ∧ Below w.heap.size w w' := by
  have h1 : a[2 * k]? = some (a[2 * k]'(by omega)) := List.getElem?_eq_getElem (by omega)
  have h2 : a[2 * k + 1]? = some (a[2 * k + 1]'(by omega)) := List.getElem?_eq_getElem (by omega)
  generalize a[2 * k]'(by omega) = x at *
  generalize a[2 * k + 1]'(by omega) = y at *
  have HP := Lib.hid (show (pairs a).getD k 0 = x.toNat * 256 + y.toNat by rw [List.getD_eq_getElem?_getD, rpairs_get a k x y h1 h2]; rfl)
  have hx := x.toNat_lt
  have hy := y.toNat_lt
  go_enter Tryz.func70, Tryz.ntmps70
  go_wp2_with fail
  have b0 := Blk.new w 63 (cA a)
  have hbel : Below w.heap.size w (w.alloc (.cells (cA a) 63)) := (Below.refl _ _).alloc (Nat.le_refl _) _
  generalize w.alloc (.cells (cA a) 63) = w1 at *
  have c1 : w1.cell? ⟨w.heap.size, 2 * k, none⟩ = some (.int .u8 (x.toNat : Int)) := by rw [cell_a b0 (2 * k), h1]; rfl
  have c2 : w1.cell? ⟨w.heap.size, 2 * k + 1, none⟩ = some (.int .u8 (y.toNat : Int)) := by rw [cell_a b0 (2 * k + 1), h2]; rfl
  have HL := Lib.hid hbel
  clear b0 hbel h1 h2
  go_quiet (fail)
  all_goals (
    go_wp2_with fail
    go_ret
    refine ⟨?_, ?_⟩
    · rw [HP.out]
      first | rfl | (congr 2; omega)
    · exact HL.out.trans ((below_drewN' _ _).mono HL.out.size))

theorem txt_dec (n : Nat) : txtL n = Lib.decDigits n := by
  induction n using Nat.strongRecOn with
  | _ n ih =>
    by_cases h : n < 10
    · rw [txt_one n h, Lib.decDigits_one h]; rfl
    · rw [txt_more n h, ih (n / 10) (by omega)]
      conv => rhs; rw [Lib.decDigits, dif_neg h]
      rfl
def negS (m : Nat) : ByteArray := str (45 :: txtL m)
theorem negS_add (m : Nat) (h : ¬ m < 10) : negS (m / 10) ++ txtS (m % 10) = negS m := by
  apply bs_inj
  rw [bs_add]
  show 45 :: txtL (m / 10) ++ txtL (m % 10) = 45 :: txtL m
  rw [txt_more m h, txt_one (m % 10) (Nat.mod_lt _ (by omega))]
  rfl
theorem neg_one (m : Nat) : (⟨#[45]⟩ : ByteArray) ++ txtS m = negS m := by
  apply bs_inj
  rw [bs_add]
  rfl
end Go.Proofs.YtgpgkfbbpiialaaGreatDoor.Ad
