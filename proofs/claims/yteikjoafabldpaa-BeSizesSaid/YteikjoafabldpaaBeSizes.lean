/-
  The law BeSizes holds: whatever the number and the size, the call returns true and leaves what was there as it was. No condition.
-/
import Derived.Test.YteikjoafabldpaaBeSmall
import Derived.Test.YteikjoafabldpaaLift
namespace Go.Proofs.Yteikjoafabldpaa.beSizes
open Go.ChangeShapes Go.WideShapes Go.ChangeAt Go.RowKit
open Go.ChangeMaps (open_string shut_string)
open Go.Proofs.Yteikjoafabldpaa.Wd Go.Proofs.Yteikjoafabldpaa.Be Go.Proofs.Yteikjoafabldpaa.Lift

theorem natOf_bytesOf (n : Int) (k : Nat) : (natOf (bytesOf n k) : Int) = n % 256 ^ k := by
  induction k generalizing n with
  | zero => simp [bytesOf, natOf, Int.emod_one]
  | succ k ih =>
    rw [bytesOf, natOf_snoc]
    have h1 : (((Go.Proofs.Yteikjoafabldpaa.Be.byteOf n).toNat : Nat) : Int) = n % 256 := by
      unfold Go.Proofs.Yteikjoafabldpaa.Be.byteOf
      simp only [UInt8.toNat_ofNat']
      omega
    rw [Int.natCast_add, Int.natCast_mul, ih, h1, Int.pow_succ]
    have hP : (0 : Int) < 256 ^ k := Int.pow_pos (by omega)
    generalize (256 : Int) ^ k = P at *
    have hX := Int.mul_ediv_add_emod (n / 256) P
    have hX0 := Int.emod_nonneg (n / 256) (show P ≠ 0 by omega)
    have hX1 := Int.emod_lt_of_pos (n / 256) hP
    refine ((Int.ediv_emod_unique (a := n) (b := P * 256) (r := n / 256 % P * (256 : Nat) + n % 256) (q := n / 256 / P) (by omega)).2 ⟨?_, by omega, by omega⟩).2.symm
    have e : P * 256 * (n / 256 / P) = 256 * (P * (n / 256 / P)) := by rw [Int.mul_comm P 256, Int.mul_assoc]
    rw [e]
    omega

theorem want_neg (n M : Int) (hM : 0 < M) (h : n.tmod M < 0) : n.tmod M + M = n % M := by
  have h1 := Int.tmod_add_mul_tdiv n M
  have h2 := Int.lt_tmod_of_pos n hM
  have h3 : n % M = (n.tmod M + M * (n.tdiv M)) % M := by rw [h1]
  rw [h3, Int.add_mul_emod_self_left]
  rw [← Int.add_emod_right, Int.emod_eq_of_lt (by omega) (by omega)]
theorem want_pos (n M : Int) (hM : 0 < M) (h : ¬ n.tmod M < 0) : n.tmod M = n % M := by
  have h1 := Int.tmod_add_mul_tdiv n M
  have h2 := Int.tmod_lt_of_pos n hM
  have h3 : n % M = (n.tmod M + M * (n.tdiv M)) % M := by rw [h1]
  rw [h3, Int.add_mul_emod_self_left, Int.emod_eq_of_lt (by omega) h2]

theorem numS_all (xs : List UInt8) (size : Int) (k : Nat) (hl : xs.length = k) (hk : clampI size = k) : numS (some xs) size = (natOf xs, some []) := by
  have e : takeS (some xs) (clampI size) = (xs, some []) := by
    show (if 0 ≤ clampI size ∧ clampI size ≤ xs.length then (xs.take (clampI size).toNat, some (xs.drop (clampI size).toNat)) else ([], none)) = _
    rw [hk, Int.toNat_natCast, if_pos (by omega), ← hl, List.take_length, List.drop_length]
  unfold numS
  rw [e]
theorem src_put {w : World} {g : Nat} {n : Int} {k : Nat} (h : Blk w g 5 (cellsOf ([] ++ bytesOf n k)).toArray) : Src w (some ⟨g, 0, none⟩) k (bytesOf n k) := by
  have h2 := src_of (xs := bytesOf n k) h
  rwa [bytesOf_length] at h2

theorem eq1 (n : Int) : (natOf (bytesOf n 1) : Int) = n % 256 := by
  rw [natOf_bytesOf, show (256 : Int) ^ 1 = 256 from by simp]
theorem eqn1 (n : Int) (h : n.tmod 256 < 0) : ((natOf (bytesOf n 1) : Int) == n.tmod 256 + 256) = true := by
  rw [beq_iff_eq, eq1, want_neg n 256 (by omega) h]
theorem eqp1 (n : Int) (h : ¬ n.tmod 256 < 0) : ((natOf (bytesOf n 1) : Int) == n.tmod 256) = true := by
  rw [beq_iff_eq, eq1, want_pos n 256 (by omega) h]
set_option maxHeartbeats 1000000 in
theorem walk1 (n : Int) (w : World) :
    Calls Try.prog 6 #[.int .i64 n, .int .i64 1] w fun e w' => e = .returned (.bool true) ∧ Below w.heap.size w w' := by
  have t1 := Int.lt_tmod_of_pos n (b := 256) (by omega)
  have t2 := Int.tmod_lt_of_pos n (b := 256) (by omega)
  by_cases hneg : n.tmod 256 < 0
  · have hd : decide (n.tmod 256 < 0) = true := by simpa using hneg
    have HE := Lib.hid (eqn1 n hneg)
    go_enter Try.func6, Try.ntmps6
    go_wp2_with fail
    refine (small_any w).mono ?_
    rintro e w1 ⟨rfl, hb1⟩
    go_wp2_with fail
    refine (put_any none 0 0 1 n 1 [] w1 (Src.nil w1) (by omega) (by decide)).mono ?_
    rintro e w2 ⟨rfl, hb2, hbel2⟩
    have HS2 := Lib.hid (src_put hb2)
    have hbw2 : Below w.heap.size w w2 := hb1.trans (hbel2.mono hb1.size)
    clear hb2 hbel2 hb1
    go_wp2_with fail
    refine (read_any _ 1 1 (bytesOf n 1) w2 HS2.out (by omega)).mono ?_
    rintro e w3 ⟨r, rfl, hr, hrd, hb3⟩
    have HRD := Lib.hid hrd
    have hbw3 : Below w.heap.size w w3 := hbw2.trans (hb3.mono hbw2.size)
    have hrw : w.heap.size ≤ r := Nat.le_trans hbw2.size hr
    clear hrd hb3 hbw2 hr
    go_wp2_with fail
    refine (num_any r 1 _ w3 HRD.out (fun rest h => by injection h with h; subst h; rw [bytesOf_length]; omega)).mono ?_
    rw [numS_all (bytesOf n 1) 1 1 (bytesOf_length _ _) (by decide)]
    rintro e w4 ⟨rfl, hr4, hg4⟩
    have HR4 := Lib.hid hr4
    have hbw4 : Below w.heap.size w w4 := below_of_only hbw3 hg4 hbw3.size hrw
    clear hr4 hg4 hbw3
    have he := HE.out
    show _
    go_wp2_with fail
    refine (done_any r _ w4 HR4.out).mono ?_
    rintro e w5 ⟨rfl, rfl⟩
    rw [show doneS (some []) = true from rfl]
    go_wp2_with fail
    go_ret
    exact ⟨rfl, hbw4⟩
  · have hd : decide (n.tmod 256 < 0) = false := by simpa using hneg
    have HE := Lib.hid (eqp1 n hneg)
    go_enter Try.func6, Try.ntmps6
    go_wp2_with fail
    refine (small_any w).mono ?_
    rintro e w1 ⟨rfl, hb1⟩
    go_wp2_with fail
    refine (put_any none 0 0 1 n 1 [] w1 (Src.nil w1) (by omega) (by decide)).mono ?_
    rintro e w2 ⟨rfl, hb2, hbel2⟩
    have HS2 := Lib.hid (src_put hb2)
    have hbw2 : Below w.heap.size w w2 := hb1.trans (hbel2.mono hb1.size)
    clear hb2 hbel2 hb1
    go_wp2_with fail
    refine (read_any _ 1 1 (bytesOf n 1) w2 HS2.out (by omega)).mono ?_
    rintro e w3 ⟨r, rfl, hr, hrd, hb3⟩
    have HRD := Lib.hid hrd
    have hbw3 : Below w.heap.size w w3 := hbw2.trans (hb3.mono hbw2.size)
    have hrw : w.heap.size ≤ r := Nat.le_trans hbw2.size hr
    clear hrd hb3 hbw2 hr
    go_wp2_with fail
    refine (num_any r 1 _ w3 HRD.out (fun rest h => by injection h with h; subst h; rw [bytesOf_length]; omega)).mono ?_
    rw [numS_all (bytesOf n 1) 1 1 (bytesOf_length _ _) (by decide)]
    rintro e w4 ⟨rfl, hr4, hg4⟩
    have HR4 := Lib.hid hr4
    have hbw4 : Below w.heap.size w w4 := below_of_only hbw3 hg4 hbw3.size hrw
    clear hr4 hg4 hbw3
    have he := HE.out
    go_wp2_with fail
    refine (done_any r _ w4 HR4.out).mono ?_
    rintro e w5 ⟨rfl, rfl⟩
    rw [show doneS (some []) = true from rfl]
    go_wp2_with fail
    go_ret
    exact ⟨rfl, hbw4⟩

theorem eq2 (n : Int) : (natOf (bytesOf n 2) : Int) = n % 65536 := by
  rw [natOf_bytesOf, show (256 : Int) ^ 2 = 65536 from by simp]
theorem eqn2 (n : Int) (h : n.tmod 65536 < 0) : ((natOf (bytesOf n 2) : Int) == n.tmod 65536 + 65536) = true := by
  rw [beq_iff_eq, eq2, want_neg n 65536 (by omega) h]
theorem eqp2 (n : Int) (h : ¬ n.tmod 65536 < 0) : ((natOf (bytesOf n 2) : Int) == n.tmod 65536) = true := by
  rw [beq_iff_eq, eq2, want_pos n 65536 (by omega) h]
set_option maxHeartbeats 1000000 in
theorem walk2 (n : Int) (w : World) :
    Calls Try.prog 6 #[.int .i64 n, .int .i64 2] w fun e w' => e = .returned (.bool true) ∧ Below w.heap.size w w' := by
  have t1 := Int.lt_tmod_of_pos n (b := 65536) (by omega)
  have t2 := Int.tmod_lt_of_pos n (b := 65536) (by omega)
  by_cases hneg : n.tmod 65536 < 0
  · have hd : decide (n.tmod 65536 < 0) = true := by simpa using hneg
    have HE := Lib.hid (eqn2 n hneg)
    go_enter Try.func6, Try.ntmps6
    go_wp2_with fail
    refine (small_any w).mono ?_
    rintro e w1 ⟨rfl, hb1⟩
    go_wp2_with fail
    refine (put_any none 0 0 2 n 2 [] w1 (Src.nil w1) (by omega) (by decide)).mono ?_
    rintro e w2 ⟨rfl, hb2, hbel2⟩
    have HS2 := Lib.hid (src_put hb2)
    have hbw2 : Below w.heap.size w w2 := hb1.trans (hbel2.mono hb1.size)
    clear hb2 hbel2 hb1
    go_wp2_with fail
    refine (read_any _ 2 2 (bytesOf n 2) w2 HS2.out (by omega)).mono ?_
    rintro e w3 ⟨r, rfl, hr, hrd, hb3⟩
    have HRD := Lib.hid hrd
    have hbw3 : Below w.heap.size w w3 := hbw2.trans (hb3.mono hbw2.size)
    have hrw : w.heap.size ≤ r := Nat.le_trans hbw2.size hr
    clear hrd hb3 hbw2 hr
    go_wp2_with fail
    refine (num_any r 2 _ w3 HRD.out (fun rest h => by injection h with h; subst h; rw [bytesOf_length]; omega)).mono ?_
    rw [numS_all (bytesOf n 2) 2 2 (bytesOf_length _ _) (by decide)]
    rintro e w4 ⟨rfl, hr4, hg4⟩
    have HR4 := Lib.hid hr4
    have hbw4 : Below w.heap.size w w4 := below_of_only hbw3 hg4 hbw3.size hrw
    clear hr4 hg4 hbw3
    have he := HE.out
    show _
    go_wp2_with fail
    refine (done_any r _ w4 HR4.out).mono ?_
    rintro e w5 ⟨rfl, rfl⟩
    rw [show doneS (some []) = true from rfl]
    go_wp2_with fail
    go_ret
    exact ⟨rfl, hbw4⟩
  · have hd : decide (n.tmod 65536 < 0) = false := by simpa using hneg
    have HE := Lib.hid (eqp2 n hneg)
    go_enter Try.func6, Try.ntmps6
    go_wp2_with fail
    refine (small_any w).mono ?_
    rintro e w1 ⟨rfl, hb1⟩
    go_wp2_with fail
    refine (put_any none 0 0 2 n 2 [] w1 (Src.nil w1) (by omega) (by decide)).mono ?_
    rintro e w2 ⟨rfl, hb2, hbel2⟩
    have HS2 := Lib.hid (src_put hb2)
    have hbw2 : Below w.heap.size w w2 := hb1.trans (hbel2.mono hb1.size)
    clear hb2 hbel2 hb1
    go_wp2_with fail
    refine (read_any _ 2 2 (bytesOf n 2) w2 HS2.out (by omega)).mono ?_
    rintro e w3 ⟨r, rfl, hr, hrd, hb3⟩
    have HRD := Lib.hid hrd
    have hbw3 : Below w.heap.size w w3 := hbw2.trans (hb3.mono hbw2.size)
    have hrw : w.heap.size ≤ r := Nat.le_trans hbw2.size hr
    clear hrd hb3 hbw2 hr
    go_wp2_with fail
    refine (num_any r 2 _ w3 HRD.out (fun rest h => by injection h with h; subst h; rw [bytesOf_length]; omega)).mono ?_
    rw [numS_all (bytesOf n 2) 2 2 (bytesOf_length _ _) (by decide)]
    rintro e w4 ⟨rfl, hr4, hg4⟩
    have HR4 := Lib.hid hr4
    have hbw4 : Below w.heap.size w w4 := below_of_only hbw3 hg4 hbw3.size hrw
    clear hr4 hg4 hbw3
    have he := HE.out
    go_wp2_with fail
    refine (done_any r _ w4 HR4.out).mono ?_
    rintro e w5 ⟨rfl, rfl⟩
    rw [show doneS (some []) = true from rfl]
    go_wp2_with fail
    go_ret
    exact ⟨rfl, hbw4⟩

theorem eq3 (n : Int) : (natOf (bytesOf n 3) : Int) = n % 16777216 := by
  rw [natOf_bytesOf, show (256 : Int) ^ 3 = 16777216 from by simp]
theorem eqn3 (n : Int) (h : n.tmod 16777216 < 0) : ((natOf (bytesOf n 3) : Int) == n.tmod 16777216 + 16777216) = true := by
  rw [beq_iff_eq, eq3, want_neg n 16777216 (by omega) h]
theorem eqp3 (n : Int) (h : ¬ n.tmod 16777216 < 0) : ((natOf (bytesOf n 3) : Int) == n.tmod 16777216) = true := by
  rw [beq_iff_eq, eq3, want_pos n 16777216 (by omega) h]
set_option maxHeartbeats 1000000 in
theorem walk3 (n : Int) (w : World) :
    Calls Try.prog 6 #[.int .i64 n, .int .i64 3] w fun e w' => e = .returned (.bool true) ∧ Below w.heap.size w w' := by
  have t1 := Int.lt_tmod_of_pos n (b := 16777216) (by omega)
  have t2 := Int.tmod_lt_of_pos n (b := 16777216) (by omega)
  by_cases hneg : n.tmod 16777216 < 0
  · have hd : decide (n.tmod 16777216 < 0) = true := by simpa using hneg
    have HE := Lib.hid (eqn3 n hneg)
    go_enter Try.func6, Try.ntmps6
    go_wp2_with fail
    refine (small_any w).mono ?_
    rintro e w1 ⟨rfl, hb1⟩
    go_wp2_with fail
    refine (put_any none 0 0 3 n 3 [] w1 (Src.nil w1) (by omega) (by decide)).mono ?_
    rintro e w2 ⟨rfl, hb2, hbel2⟩
    have HS2 := Lib.hid (src_put hb2)
    have hbw2 : Below w.heap.size w w2 := hb1.trans (hbel2.mono hb1.size)
    clear hb2 hbel2 hb1
    go_wp2_with fail
    refine (read_any _ 3 3 (bytesOf n 3) w2 HS2.out (by omega)).mono ?_
    rintro e w3 ⟨r, rfl, hr, hrd, hb3⟩
    have HRD := Lib.hid hrd
    have hbw3 : Below w.heap.size w w3 := hbw2.trans (hb3.mono hbw2.size)
    have hrw : w.heap.size ≤ r := Nat.le_trans hbw2.size hr
    clear hrd hb3 hbw2 hr
    go_wp2_with fail
    refine (num_any r 3 _ w3 HRD.out (fun rest h => by injection h with h; subst h; rw [bytesOf_length]; omega)).mono ?_
    rw [numS_all (bytesOf n 3) 3 3 (bytesOf_length _ _) (by decide)]
    rintro e w4 ⟨rfl, hr4, hg4⟩
    have HR4 := Lib.hid hr4
    have hbw4 : Below w.heap.size w w4 := below_of_only hbw3 hg4 hbw3.size hrw
    clear hr4 hg4 hbw3
    have he := HE.out
    show _
    go_wp2_with fail
    refine (done_any r _ w4 HR4.out).mono ?_
    rintro e w5 ⟨rfl, rfl⟩
    rw [show doneS (some []) = true from rfl]
    go_wp2_with fail
    go_ret
    exact ⟨rfl, hbw4⟩
  · have hd : decide (n.tmod 16777216 < 0) = false := by simpa using hneg
    have HE := Lib.hid (eqp3 n hneg)
    go_enter Try.func6, Try.ntmps6
    go_wp2_with fail
    refine (small_any w).mono ?_
    rintro e w1 ⟨rfl, hb1⟩
    go_wp2_with fail
    refine (put_any none 0 0 3 n 3 [] w1 (Src.nil w1) (by omega) (by decide)).mono ?_
    rintro e w2 ⟨rfl, hb2, hbel2⟩
    have HS2 := Lib.hid (src_put hb2)
    have hbw2 : Below w.heap.size w w2 := hb1.trans (hbel2.mono hb1.size)
    clear hb2 hbel2 hb1
    go_wp2_with fail
    refine (read_any _ 3 3 (bytesOf n 3) w2 HS2.out (by omega)).mono ?_
    rintro e w3 ⟨r, rfl, hr, hrd, hb3⟩
    have HRD := Lib.hid hrd
    have hbw3 : Below w.heap.size w w3 := hbw2.trans (hb3.mono hbw2.size)
    have hrw : w.heap.size ≤ r := Nat.le_trans hbw2.size hr
    clear hrd hb3 hbw2 hr
    go_wp2_with fail
    refine (num_any r 3 _ w3 HRD.out (fun rest h => by injection h with h; subst h; rw [bytesOf_length]; omega)).mono ?_
    rw [numS_all (bytesOf n 3) 3 3 (bytesOf_length _ _) (by decide)]
    rintro e w4 ⟨rfl, hr4, hg4⟩
    have HR4 := Lib.hid hr4
    have hbw4 : Below w.heap.size w w4 := below_of_only hbw3 hg4 hbw3.size hrw
    clear hr4 hg4 hbw3
    have he := HE.out
    go_wp2_with fail
    refine (done_any r _ w4 HR4.out).mono ?_
    rintro e w5 ⟨rfl, rfl⟩
    rw [show doneS (some []) = true from rfl]
    go_wp2_with fail
    go_ret
    exact ⟨rfl, hbw4⟩

theorem eq4 (n : Int) : (natOf (bytesOf n 4) : Int) = n % 4294967296 := by
  rw [natOf_bytesOf, show (256 : Int) ^ 4 = 4294967296 from by simp]
theorem eqn4 (n : Int) (h : n.tmod 4294967296 < 0) : ((natOf (bytesOf n 4) : Int) == n.tmod 4294967296 + 4294967296) = true := by
  rw [beq_iff_eq, eq4, want_neg n 4294967296 (by omega) h]
theorem eqp4 (n : Int) (h : ¬ n.tmod 4294967296 < 0) : ((natOf (bytesOf n 4) : Int) == n.tmod 4294967296) = true := by
  rw [beq_iff_eq, eq4, want_pos n 4294967296 (by omega) h]
set_option maxHeartbeats 1000000 in
theorem walk4 (n : Int) (w : World) :
    Calls Try.prog 6 #[.int .i64 n, .int .i64 4] w fun e w' => e = .returned (.bool true) ∧ Below w.heap.size w w' := by
  have t1 := Int.lt_tmod_of_pos n (b := 4294967296) (by omega)
  have t2 := Int.tmod_lt_of_pos n (b := 4294967296) (by omega)
  by_cases hneg : n.tmod 4294967296 < 0
  · have hd : decide (n.tmod 4294967296 < 0) = true := by simpa using hneg
    have HE := Lib.hid (eqn4 n hneg)
    go_enter Try.func6, Try.ntmps6
    go_wp2_with fail
    refine (small_any w).mono ?_
    rintro e w1 ⟨rfl, hb1⟩
    go_wp2_with fail
    refine (put_any none 0 0 4 n 4 [] w1 (Src.nil w1) (by omega) (by decide)).mono ?_
    rintro e w2 ⟨rfl, hb2, hbel2⟩
    have HS2 := Lib.hid (src_put hb2)
    have hbw2 : Below w.heap.size w w2 := hb1.trans (hbel2.mono hb1.size)
    clear hb2 hbel2 hb1
    go_wp2_with fail
    refine (read_any _ 4 4 (bytesOf n 4) w2 HS2.out (by omega)).mono ?_
    rintro e w3 ⟨r, rfl, hr, hrd, hb3⟩
    have HRD := Lib.hid hrd
    have hbw3 : Below w.heap.size w w3 := hbw2.trans (hb3.mono hbw2.size)
    have hrw : w.heap.size ≤ r := Nat.le_trans hbw2.size hr
    clear hrd hb3 hbw2 hr
    go_wp2_with fail
    refine (num_any r 4 _ w3 HRD.out (fun rest h => by injection h with h; subst h; rw [bytesOf_length]; omega)).mono ?_
    rw [numS_all (bytesOf n 4) 4 4 (bytesOf_length _ _) (by decide)]
    rintro e w4 ⟨rfl, hr4, hg4⟩
    have HR4 := Lib.hid hr4
    have hbw4 : Below w.heap.size w w4 := below_of_only hbw3 hg4 hbw3.size hrw
    clear hr4 hg4 hbw3
    have he := HE.out
    show _
    go_wp2_with fail
    refine (done_any r _ w4 HR4.out).mono ?_
    rintro e w5 ⟨rfl, rfl⟩
    rw [show doneS (some []) = true from rfl]
    go_wp2_with fail
    go_ret
    exact ⟨rfl, hbw4⟩
  · have hd : decide (n.tmod 4294967296 < 0) = false := by simpa using hneg
    have HE := Lib.hid (eqp4 n hneg)
    go_enter Try.func6, Try.ntmps6
    go_wp2_with fail
    refine (small_any w).mono ?_
    rintro e w1 ⟨rfl, hb1⟩
    go_wp2_with fail
    refine (put_any none 0 0 4 n 4 [] w1 (Src.nil w1) (by omega) (by decide)).mono ?_
    rintro e w2 ⟨rfl, hb2, hbel2⟩
    have HS2 := Lib.hid (src_put hb2)
    have hbw2 : Below w.heap.size w w2 := hb1.trans (hbel2.mono hb1.size)
    clear hb2 hbel2 hb1
    go_wp2_with fail
    refine (read_any _ 4 4 (bytesOf n 4) w2 HS2.out (by omega)).mono ?_
    rintro e w3 ⟨r, rfl, hr, hrd, hb3⟩
    have HRD := Lib.hid hrd
    have hbw3 : Below w.heap.size w w3 := hbw2.trans (hb3.mono hbw2.size)
    have hrw : w.heap.size ≤ r := Nat.le_trans hbw2.size hr
    clear hrd hb3 hbw2 hr
    go_wp2_with fail
    refine (num_any r 4 _ w3 HRD.out (fun rest h => by injection h with h; subst h; rw [bytesOf_length]; omega)).mono ?_
    rw [numS_all (bytesOf n 4) 4 4 (bytesOf_length _ _) (by decide)]
    rintro e w4 ⟨rfl, hr4, hg4⟩
    have HR4 := Lib.hid hr4
    have hbw4 : Below w.heap.size w w4 := below_of_only hbw3 hg4 hbw3.size hrw
    clear hr4 hg4 hbw3
    have he := HE.out
    go_wp2_with fail
    refine (done_any r _ w4 HR4.out).mono ?_
    rintro e w5 ⟨rfl, rfl⟩
    rw [show doneS (some []) = true from rfl]
    go_wp2_with fail
    go_ret
    exact ⟨rfl, hbw4⟩

set_option maxHeartbeats 1000000 in
theorem walk (n : Int) (_ : -9223372036854775808 ≤ n ∧ n ≤ 9223372036854775807) (size : Int) (_ : -9223372036854775808 ≤ size ∧ size ≤ 9223372036854775807) (w : World) :
    Calls Try.prog 6 #[.int .i64 n, .int .i64 size] w fun e w' => e = .returned (.bool true) ∧ Below w.heap.size w w' := by
  by_cases h1 : size < 1
  · have hd : decide (size < 1) = true := by simpa using h1
    go_enter Try.func6, Try.ntmps6
    go_wp2_with fail
    refine (small_any w).mono ?_
    rintro e w1 ⟨rfl, hb1⟩
    go_wp2_with fail
    go_ret
    exact ⟨rfl, hb1⟩
  · by_cases h4 : 4 < size
    · have hd : decide (size < 1) = false := by simpa using h1
      have hd4 : decide (4 < size) = true := by simpa using h4
      go_enter Try.func6, Try.ntmps6
      go_wp2_with fail
      refine (small_any w).mono ?_
      rintro e w1 ⟨rfl, hb1⟩
      go_wp2_with fail
      go_ret
      exact ⟨rfl, hb1⟩
    · obtain rfl | rfl | rfl | rfl : size = 1 ∨ size = 2 ∨ size = 3 ∨ size = 4 := by omega
      · exact walk1 n w
      · exact walk2 n w
      · exact walk3 n w
      · exact walk4 n w

set_option maxRecDepth 100000 in
set_option linter.unusedVariables false in
theorem lifted (os : Os) (started : os.Started) (H : Type) (enc : TypeId × Value → H) :
    ReturnsInHanded {} Try.checked os 6 .any (Rows.beSizesSpec.pre6 enc Try.prog Try.f6 Rows.beSizesRow.domain false) (Rows.beSizesSpec.post enc Try.prog Try.f6 false true false false) := by
  refine returnsInHanded_of_change (C := Try.checked) own started (by kernel_rfl) Try.func6
    (ChangeSpec.witness6 (enc := enc) (C := Try.checked) false ⟨#[], #[.int .i64 0, .int .i64 0], []⟩ 8 (by kernel_rfl) (by kernel_rfl) (by kernel_rfl) (by kernel_rfl)) ?_
  intro W base args ds gs before hval0 hW hcnd _
  have hval : ∀ (j : Nat) t v, Try.f6.params[j]? = some t → args[j]? = some v → Value.okWide Try.prog W .any base t v := hval0
  have hW' := hW
  obtain ⟨p, q, hA0, hV, rfl, hfz, hnd⟩ := hW
  have hA : DataW.TrodAll enc Try.prog W 0 (fun _ => true) true Try.f6.params.toList args.toList ds p := hA0
  rw [Try.params6] at hA hval
  obtain ⟨v0, vs0, d0, ds0, p0, q0, hargs, rfl, rfl, h0, r0⟩ := trodAll_cons hA
  obtain ⟨v1, vs1, d1, ds1, p1, q1, rfl, rfl, rfl, h1, r1⟩ := trodAll_cons r0
  obtain ⟨rfl, rfl, rfl⟩ := trodAll_nil r1
  obtain rfl : args = #[v0, v1] := by cases args; simp_all
  obtain ⟨rfl, rfl⟩ := trodVars_none hV
  have k0 := h0
  have lt0 : ∀ x ∈ p0, x.block < W.heap.size := by obtain ⟨m, hm⟩ := k0; exact DataW.trod_lt m _ _ _ hm
  obtain ⟨a0, rfl, rfl, rfl, w0⟩ := open_int Try.underlying3 (hval 0 3 v0 rfl rfl) h0
  have b0 := int_of w0
  have k1 := h1
  have lt1 : ∀ x ∈ p1, x.block < W.heap.size := by obtain ⟨m, hm⟩ := k1; exact DataW.trod_lt m _ _ _ hm
  obtain ⟨a1, rfl, rfl, rfl, w1⟩ := open_int Try.underlying3 (hval 1 3 v1 rfl rfl) h1
  have b1 := int_of w1
  clear hA0 hval0
  refine (walk a0 b0 a1 b1 W).mono fun e W' ⟨he, bel⟩ => ?_
  subst he
  exact ⟨_, rfl, _, _, _, [], _, [], hW', trodAll_mk1 (shut_bool Try.underlying4 _), (trodAll_cons_mk (Below.trod laidOut (by kernel_rfl) (of_decide_eq_true (by kernel_rfl)) k0 bel lt0) (trodAll_cons_mk (Below.trod laidOut (by kernel_rfl) (of_decide_eq_true (by kernel_rfl)) k1 bel lt1) trodAll_mk0)), rfl, bel.frame _, fun h => by cases h⟩

theorem over : Rows.beSizesRow.holds Try.pinned (OpenSpec.ofChange Rows.beSizesSpec) :=
  OpenClaim.holds_of_wide 6 Try.f6 rfl rfl rfl rfl rfl rfl rfl ⟨rfl, rfl, rfl, rfl, rfl⟩ rfl rfl rfl rfl rfl (by kernel_rfl) Try.func6 (by kernel_rfl)
    (of_decide_eq_true (by kernel_rfl)) (by unfold Func.isWrapper; first | (rw [if_pos (by decide +kernel)]; kernel_rfl) | (rw [if_neg (by decide +kernel)]; exact ⟨rfl, rfl⟩))
    (fun os started H enc _ => lifted os started H enc)

theorem proved : Rows.BeSizesSaid := over
#print axioms proved
end Go.Proofs.Yteikjoafabldpaa.beSizes
