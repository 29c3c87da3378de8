/-
  Contract of package shake's Wrap over this seat's translation; what is wrapped, taken byte by byte (plain).
-/
import Derived.Test.YtjbcdagkjonlfaaShTk
import Derived.Test.YtjbcdagkjonlfaaBePut
namespace Go.Proofs.Ytjbcdagkjonlfaa.Sh
open Go.RowKit Go.Proofs.Ytjbcdagkjonlfaa.Wd

def headS (n : Nat) : List UInt8 := [1, 0, UInt8.ofNat (n / 256), UInt8.ofNat (n % 256)]
def wrapS (xs : List UInt8) : List UInt8 := headS xs.length ++ xs
theorem wrapS_len (xs : List UInt8) : (wrapS xs).length = xs.length + 4 := by unfold wrapS headS; simp
theorem byte_nat (k : Nat) (h : k < 256) : (UInt8.ofNat k).toNat = k := by rw [UInt8.toNat_ofNat']; omega
theorem run_head (n : Nat) (h : n ≤ 16384) : runM M.st (headS n) = ⟨4, n, [], 0⟩ := by
  have e1 := byte_nat (n / 256) (by omega)
  have e2 := byte_nat (n % 256) (by omega)
  have s1 : stepM M.st 1 = ⟨1, 0, [], 0⟩ := rfl
  have s2 : stepM ⟨1, 0, [], 0⟩ 0 = ⟨2, 0, [], 0⟩ := by simp [stepM]
  have s3 : stepM ⟨2, 0, [], 0⟩ (UInt8.ofNat (n / 256)) = ⟨3, n / 256 * 256, [], 0⟩ := by
    unfold stepM
    simp only [e1]
    rw [if_neg (by simp), if_neg (by simp), if_neg (by simp), if_pos trivial, if_pos (by omega)]
  have s4 : stepM ⟨3, n / 256 * 256, [], 0⟩ (UInt8.ofNat (n % 256)) = ⟨4, n, [], 0⟩ := by
    unfold stepM
    simp only [e2]
    rw [show n / 256 * 256 + n % 256 = n from by omega, if_neg (by simp), if_neg (by simp), if_neg (by simp), if_neg (by simp), if_pos trivial, if_pos h]
  unfold headS
  rw [runM_cons, s1, runM_cons, s2, runM_cons, s3, runM_cons, s4, runM_nil]
theorem run_body (n : Nat) (b ys : List UInt8) (h : b.length + ys.length ≤ n) : runM ⟨4, n, b, 0⟩ ys = ⟨4, n, b ++ ys, 0⟩ := by
  induction ys generalizing b with
  | nil => rw [runM_nil, List.append_nil]
  | cons c cs ih =>
    rw [List.length_cons] at h
    rw [runM_cons, stepM_body rfl rfl (by show b.length < n; omega)]
    show runM ⟨4, n, b ++ [c], 0⟩ cs = _
    rw [ih (b ++ [c]) (by rw [List.length_append, List.length_cons, List.length_nil]; omega), List.append_assoc]
    rfl
theorem run_wrap (xs : List UInt8) (h : xs.length ≤ 16384) : runM M.st (wrapS xs) = ⟨4, xs.length, xs, 0⟩ := by
  unfold wrapS
  rw [runM_app, run_head _ h, run_body _ _ _ (by simp)]
  rfl
theorem run_ahead (xs : List UInt8) (h : xs.length ≤ 16384) (k : Nat) (hk : 4 ≤ k) : runM M.st ((wrapS xs).take k) = ⟨4, xs.length, xs.take (k - 4), 0⟩ := by
  unfold wrapS
  have e : (headS xs.length).length = 4 := rfl
  rw [List.take_append, List.take_of_length_le (by omega), e, runM_app, run_head _ h, run_body _ _ _ (by simp; omega)]
  rfl
theorem run_few (xs : List UInt8) (h : xs.length ≤ 16384) (k : Nat) (hk : k < 4) : (runM M.st ((wrapS xs).take k)).e = 0 ∧ (runM M.st ((wrapS xs).take k)).h = k := by
  have e : (wrapS xs).take k = (headS xs.length).take k := by
    unfold wrapS
    have e : (headS xs.length).length = 4 := rfl
    rw [List.take_append_of_le_length (by omega)]
  rw [e]
  have e1 := byte_nat (xs.length / 256) (by omega)
  obtain rfl | rfl | rfl | rfl : k = 0 ∨ k = 1 ∨ k = 2 ∨ k = 3 := by omega
  · exact ⟨rfl, rfl⟩
  · exact ⟨rfl, rfl⟩
  · exact ⟨rfl, rfl⟩
  · have s3 : stepM ⟨2, 0, [], 0⟩ (UInt8.ofNat (xs.length / 256)) = ⟨3, xs.length / 256 * 256, [], 0⟩ := by
      unfold stepM
      simp only [e1]
      rw [if_neg (by simp), if_neg (by simp), if_neg (by simp), if_pos trivial, if_pos (by omega)]
    show (stepM ⟨2, 0, [], 0⟩ (UInt8.ofNat (xs.length / 256))).e = 0 ∧ (stepM ⟨2, 0, [], 0⟩ (UInt8.ofNat (xs.length / 256))).h = 3
    rw [s3]
    exact ⟨rfl, rfl⟩
/-- what is wrapped, k bytes of it: no error; whole at the last one; no body ahead of that -/
theorem wrap_at (xs : List UInt8) (h : xs.length ≤ 16384) (k : Nat) (hk : k ≤ xs.length + 4) :
    (runM M.st ((wrapS xs).take k)).e = 0 ∧ wholeM (runM M.st ((wrapS xs).take k)) = decide (k = xs.length + 4) ∧ bodyM (runM M.st ((wrapS xs).take k)) = if k = xs.length + 4 then xs else [] := by
  have ok := runM_ok OkM.st ((wrapS xs).take k)
  have hw : wholeM (runM M.st ((wrapS xs).take k)) = decide (k = xs.length + 4) := by
    rw [Bool.eq_iff_iff, whole_iff ok, decide_eq_true_iff]
    by_cases h4 : 4 ≤ k
    · rw [run_ahead xs h k h4]
      simp only [List.length_take]
      constructor
      · rintro ⟨-, -, h3⟩; omega
      · intro h3; exact ⟨trivial, trivial, by omega⟩
    · obtain ⟨f1, f2⟩ := run_few xs h k (by omega)
      rw [f1, f2]
      constructor
      · rintro ⟨-, h2, -⟩; omega
      · intro h3; omega
  refine ⟨?_, hw, ?_⟩
  · by_cases h4 : 4 ≤ k
    · rw [run_ahead xs h k h4]
    · exact (run_few xs h k (by omega)).1
  · unfold bodyM
    rw [hw]
    by_cases hl : k = xs.length + 4
    · rw [if_pos (decide_eq_true hl), if_pos hl, run_ahead xs h k (by omega)]
      show xs.take (k - 4) = xs
      rw [List.take_of_length_le (by omega)]
    · rw [if_neg (by simp [hl]), if_neg hl]

theorem bytesOf_3 (n : Nat) (h : n ≤ 16384) : [1] ++ Be.bytesOf n 3 = headS n := by
  have e1 : Be.byteOf (n / 256 / 256) = 0 := by
    have : ((n : Int) / 256 / 256) % 256 = 0 := by omega
    unfold Be.byteOf
    rw [this]
    rfl
  have e2 : Be.byteOf (n / 256) = UInt8.ofNat (n / 256) := by
    unfold Be.byteOf
    congr 1
    omega
  have e3 : Be.byteOf n = UInt8.ofNat (n % 256) := by
    unfold Be.byteOf
    congr 1
  simp only [Be.bytesOf, e1, e2, e3]
  rfl

theorem wrap_no (A : Option Addr) (n c : Nat) (w : World) (hn : 16384 < n) (hm : n ≤ 9223372036854775807) : Calls Try.prog 17 #[.slice A n c] w fun e w' => e = .returned (.tuple #[.slice none 0 0, .bool false]) ∧ w = w' := by
  have hni : (16384 : Int) < (n : Int) := by omega
  clear hn
  go_enter Try.func17, Try.ntmps17
  go_wp2_with fail
  go_ret2
  exact ⟨rfl, rfl⟩
theorem wrap_yes (A : Option Addr) (n c : Nat) (xs : List UInt8) (w : World) (hs : Src w A n xs) (hn : n ≤ 16384) : Calls Try.prog 17 #[.slice A n c] w fun e w' =>
    ∃ q, e = .returned (.tuple #[.slice (some ⟨q, 0, none⟩) (n + 4) (n + 4), .bool true]) ∧ Blk w' q 5 (cellsOf (wrapS xs)).toArray ∧ w.heap.size ≤ q ∧ Below w.heap.size w w' := by
  have hni : (n : Int) ≤ 16384 := by omega
  have HV := Lib.hid (Be.vec_yes (some ⟨w.heap.size, 0, none⟩) 1 1 3 A n c 3 [1] xs (w.alloc (.cells #[.int .u8 1] 5)) (Src.marked w #[.int .u8 1] 5 (0, 0) [1] rfl) (hs.alloc _) (by omega) (by decide) (by simp; omega))
  rw [bytesOf_3 n hn, ← hs.1, show headS xs.length ++ xs = wrapS xs from rfl] at HV
  rw [← hs.1]
  rw [← hs.1] at hni
  have HB := Lib.hid (show Below w.heap.size w (w.alloc (.cells #[.int .u8 1] 5)) from (Below.refl _ _).alloc (Nat.le_refl _) _)
  rw [show 1 + (3 + xs.length) = xs.length + 4 from by omega] at HV
  clear hs
  generalize xs.length = n at *
  go_enter Try.func17, Try.ntmps17
  go_wp2_with fail
  generalize w.alloc (.cells #[.int .u8 1] 5) = w1 at *
  refine HV.out.mono ?_
  rintro e w2 ⟨rfl, hb, hl⟩
  have HQ := Lib.hid hb
  have HL := Lib.hid hl
  clear hb hl
  go_wp2_with fail
  go_ret2
  exact ⟨_, rfl, HQ.out, HB.out.size, HB.out.trans (HL.out.mono HB.out.size)⟩
end Go.Proofs.Ytjbcdagkjonlfaa.Sh
