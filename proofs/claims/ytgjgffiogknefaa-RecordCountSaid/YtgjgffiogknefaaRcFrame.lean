/-
  Contracts of package record's framed and Frame over this seat's translation.
-/
import Derived.Test.YtgjgffiogknefaaRcAll
import Derived.Test.YtgjgffiogknefaaBePut
namespace Go.Proofs.Ytgjgffiogknefaa.Rc
open Go.RowKit Go.Proofs.Ytgjgffiogknefaa.Wd Go.Proofs.Ytgjgffiogknefaa.Be

theorem own_of_blk {w : World} {g B : Nat} {xs : List UInt8} (h : Blk w g 5 (cellsOf xs).toArray) (hB : B ≤ g) (hl : xs.length ≤ 140737488355320) : Own w B (.slice (some ⟨g, 0, none⟩) xs.length xs.length) xs :=
  ⟨by rw [cellsOf_length, Nat.mul_one], .inr ⟨g, xs.length, _, rfl, hB, h, Nat.le_refl _, by unfold maxLen; omega, by simp [cellsOf_length], by rw [Nat.mul_one, ← cellsOf_length xs]; exact List.take_length⟩⟩
theorem hdrS_eq (n : Nat) (xs : List UInt8) : [22, 3, 1] ++ bytesOf n 2 ++ xs = hdrS n ++ xs := by
  have e : bytesOf (n : Int) 2 = [UInt8.ofNat (n / 256), UInt8.ofNat (n % 256)] := by
    show [] ++ [Go.Proofs.Ytgjgffiogknefaa.Be.byteOf ((n : Int) / 256)] ++ [Go.Proofs.Ytgjgffiogknefaa.Be.byteOf (n : Int)] = _
    unfold Go.Proofs.Ytgjgffiogknefaa.Be.byteOf
    rw [show ((n : Int) / 256 % 256).toNat = n / 256 % 256 from by omega, show ((n : Int) % 256).toNat = n % 256 from by omega]
    have h1 : (UInt8.ofNat (n / 256 % 256)) = UInt8.ofNat (n / 256) := by
      apply UInt8.toNat_inj.1
      rw [UInt8.toNat_ofNat', UInt8.toNat_ofNat']
      omega
    rw [h1]
    rfl
  rw [e]
  rfl
theorem framed_any (w : World) (A : Option Addr) (n c : Nat) (xs : List UInt8) (hs : Src w A n xs) (hn : n ≤ 16384) :
    Calls Try.prog 22 #[.slice A n c] w fun e w' => ∃ v, e = .returned v ∧ Own w' w.heap.size v (hdrS n ++ xs) ∧ Below w.heap.size w w' := by
  have HS := Lib.hid (hs.alloc (.cells #[.int .u8 22, .int .u8 3, .int .u8 1] 5))
  have H3 := Lib.hid (show Src (w.alloc (.cells #[.int .u8 22, .int .u8 3, .int .u8 1] 5)) (some ⟨w.heap.size, 0, none⟩) 3 [22, 3, 1] from Src.marked w _ _ _ [22, 3, 1] rfl)
  have HB := Lib.hid (show Below w.heap.size w (w.alloc (.cells #[.int .u8 22, .int .u8 3, .int .u8 1] 5)) from (Below.refl _ _).alloc (Nat.le_refl _) _)
  have hL := hs.1
  have HL := Lib.hid hL
  have HE := Lib.hid (hdrS_eq n xs)
  clear hs hL
  go_enter Try.func22, Try.ntmps22
  go_wp2_with fail
  refine (vec_yes (some ⟨w.heap.size, 0, none⟩) 3 3 2 A n c 2 [22, 3, 1] xs _ H3.out HS.out (by omega) (by decide) (by rw [show (256 : Int) ^ 2 = 65536 from by simp]; omega)).mono ?_
  rintro e w1 ⟨rfl, hb1, hbel1⟩
  have H1 := Lib.hid hb1
  have HB1 := Lib.hid (HB.out.trans (hbel1.mono HB.out.size))
  rw [HE.out] at H1
  have HO := Lib.hid (own_of_blk (B := w.heap.size) H1.out HB.out.size (by rw [List.length_append, hdrS_length, HL.out]; omega))
  rw [show (hdrS n ++ xs).length = 3 + (2 + n) from by rw [List.length_append, hdrS_length, HL.out]; omega] at HO
  clear hb1 hbel1 H1
  generalize (w.alloc (.cells #[.int .u8 22, .int .u8 3, .int .u8 1] 5)).heap.size = o at *
  go_wp2_with fail
  go_ret
  exact ⟨_, rfl, HO.out, HB1.out⟩

/-- how many bytes there are in each record, less one -/
def sizeK (size : Int) : Nat := (withI size 1 16384 - 1).toNat
theorem sizeK_eq (size : Int) : withI size 1 16384 = ((sizeK size + 1 : Nat) : Int) ∧ sizeK size + 1 ≤ 16384 := by
  unfold sizeK withI
  split
  · exact ⟨rfl, by decide⟩
  · split
    · exact ⟨rfl, by decide⟩
    · omega
theorem recsN_le (m : Nat) (x : List UInt8) : recsN m x ≤ x.length := by
  unfold recsN
  rcases Nat.eq_zero_or_pos x.length with h | h
  · rw [h, Nat.zero_add, Nat.div_eq_of_lt (by omega)]; exact Nat.le_refl _
  · rw [Nat.div_le_iff_le_mul_add_pred (by omega)]
    have : x.length + m ≤ (m + 1) * x.length + m := by
      rw [Nat.add_mul, Nat.one_mul]
      omega
    exact this
theorem frameS_len (m : Nat) (hm : m + 1 ≤ 16384) (x : List UInt8) : (frameS m x).length = x.length + 5 * recsN m x := (run_frame m hm x.length x 0 (Nat.le_refl _)).2.2
theorem frameS_le (m : Nat) (hm : m + 1 ≤ 16384) (x : List UInt8) : (frameS m x).length ≤ 6 * x.length := by
  have := recsN_le m x
  rw [frameS_len m hm x]
  omega
def lenV : Value → Nat
  | .slice _ n _ => n
  | _ => 0

set_option maxRecDepth 100000 in
set_option maxHeartbeats 1000000 in
theorem frame_any (w : World) (A : Option Addr) (n cap : Nat) (xs : List UInt8) (size : Int) (hs : Src w A n xs) (hc : n ≤ cap) (hn : n ≤ 1000000) :
    Calls Try.prog 17 #[.slice A n cap, .int .i64 size] w fun e w' => ∃ v, e = .returned v ∧ Own w' w.heap.size v (frameS (sizeK size) xs) ∧ Below w.heap.size w w' := by
  obtain ⟨hq1, hq2⟩ := sizeK_eq size
  have hnl := hs.1
  have HS := Lib.hid hs
  have HQ := Lib.hid hq1
  clear hs hq1
  generalize sizeK size = m at *
  have HF := Lib.hid (frameS_le m hq2 xs)
  go_enter Try.func17, Try.ntmps17
  go_wp2_with fail
  refine (with_any size 1 16384 _).mono ?_
  rintro e w1 ⟨rfl, rfl⟩
  rw [HQ.out]
  go_wp2_with fail
  go_loopw [0, 5] (fun x o wr => ∃ (A' : Option Addr) (k c' : Nat) (rest out : List UInt8), x = .slice A' k c' ∧ k ≤ c' ∧ k ≤ n ∧ Hid (Src w A' k rest) ∧ Hid (Own wr w.heap.size o out) ∧ Hid (frameS m xs = out ++ frameS m rest) ∧ Hid (Below w.heap.size w wr)) (fun x _ _ => lenV x)
  case atStart => exact ⟨A, n, cap, xs, [], rfl, hc, Nat.le_refl _, HS, ⟨rfl, .inl ⟨rfl, rfl⟩⟩, rfl, Below.refl _ _⟩
  case round =>
    clear HS
    obtain ⟨A', k, c', rest, out, rfl, hkc, hkn, HS, HO, HE, HB⟩ := hrel
    by_cases h0 : 0 < k
    · have hki : (0 : Int) < (k : Int) := by omega
      have HL := Lib.hid HS.out.1
      obtain ⟨j, hj⟩ : ∃ j, j = min k (m + 1) := ⟨_, rfl⟩
      have hj1 : 1 ≤ j ∧ j ≤ k ∧ j ≤ 16384 := by omega
      have hne : rest ≠ [] := by
        intro e
        have := HL.out
        rw [e, List.length_nil] at this
        omega
      have HC := Lib.hid (frameS_cons m rest hne)
      rw [HL.out, ← hj] at HC
      have ht : rest.take (m + 1) = rest.take j := by
        rcases Nat.le_total k (m + 1) with h | h
        · rw [hj, Nat.min_eq_left h, List.take_of_length_le (by rw [HL.out]; exact h), List.take_of_length_le (by rw [HL.out]; exact Nat.le_refl _)]
        · rw [hj, Nat.min_eq_right h]
      have hd : rest.drop (m + 1) = rest.drop j := by
        rcases Nat.le_total k (m + 1) with h | h
        · rw [hj, Nat.min_eq_left h, List.drop_eq_nil_of_le (by rw [HL.out]; exact h), List.drop_eq_nil_of_le (by rw [HL.out]; exact Nat.le_refl _)]
        · rw [hj, Nat.min_eq_right h]
      rw [ht, hd] at HC
      have HW := Lib.hid (show withI (k : Int) 0 ((m : Int) + 1) = (j : Int) from by rw [show (m : Int) + 1 = ((m + 1 : Nat) : Int) from rfl, clampK_eq, clampK_len, hj])
      have HT := Lib.hid (HS.out.take hj1.2.1)
      have HD := Lib.hid (show Src w (slid A' c' j) (k - j) (rest.drop j) from by
        have := HS.out.cut (m := c') (l := j) (hi := k) hj1.2.1 (Nat.le_refl _) hkc
        rwa [List.take_of_length_le (by rw [HL.out]; exact Nat.le_refl _)] at this)
      have hsl := fun w' => slice_to und8 siz8 A' k c' w' j (by omega)
      have hsf := fun w' => slice_from und8 siz8 A' k c' w' j (by omega)
      have hlo : Hid (out.length + (5 + j) ≤ 140737488355328) := by
        have h1 := HF.out
        rw [HE.out, HC.out, List.length_append, List.length_append, List.length_append, hdrS_length, List.length_take, HL.out] at h1
        show _ ≤ _
        omega
      clear ht hd hne hj
      go_wp2_with fail
      refine (with_any (k : Int) 0 _ _).mono ?_
      rintro e w2 ⟨rfl, rfl⟩
      rw [HW.out]
      go_wp2_with fail
      refine (framed_any wr A' j c' (rest.take j) (HT.out.below HB.out) hj1.2.2).mono ?_
      rintro e w3 ⟨v3, rfl, hO3, hb3⟩
      have hL3 : (hdrS j ++ rest.take j).length = 5 + j := by rw [List.length_append, hdrS_length, List.length_take, HL.out]; omega
      obtain ⟨A3, c3, rfl, -, hs3, -⟩ := hO3.cut_
      rw [hL3] at hs3
      rw [hL3]
      have HS3 := Lib.hid hs3
      have HO4 := Lib.hid (HO.out.below hb3 (Nat.le_refl _))
      have HB3 := Lib.hid (HB.out.trans (hb3.mono HB.out.size))
      clear hO3 hs3 hb3 HO HB
      go_wp2_with (at_builtin; refine wpList_app rfl (.tmp 16) (.tmp 20) 22 rfl und8 inf8 w.heap.size _ out rfl HO4.out A3 (5 + j) c3 _ rfl HS3.out hlo.out HB3.out.size ?_; intro v4 w4 HO5 hb4)
      go_roundw
      case rel => exact ⟨slid A' c' j, k - j, c' - j, rest.drop j, _, rfl, by omega, by omega, HD, HO5, Lib.hid (by rw [HE.out, HC.out]; simp), HB3.out.trans hb4⟩
      case measure => simp [lenV]; omega
    obtain rfl : k = 0 := by omega
    have hr : rest = [] := List.eq_nil_of_length_eq_zero HS.out.1
    subst hr
    have HE2 := Lib.hid (show frameS m xs = out from by rw [HE.out, frameS_nil, List.append_nil])
    clear HE HS
    go_wp2_with fail
    go_ret
    exact ⟨_, rfl, by rw [HE2.out]; exact HO.out, HB.out⟩
end Go.Proofs.Ytgjgffiogknefaa.Rc
