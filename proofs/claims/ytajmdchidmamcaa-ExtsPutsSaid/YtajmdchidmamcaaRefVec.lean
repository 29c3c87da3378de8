/-
  Contract of the document's own Vec of layer 1 (hagioscoperef01).
-/
import Derived.Test.YtajmdchidmamcaaRefBe
namespace Go.Proofs.Ytajmdchidmamcaa.RefBe
open Go.RowKit Go.Proofs.Ytajmdchidmamcaa.Wd Go.Proofs.Ytajmdchidmamcaa.Be

def VecPost (w : World) (xs : List UInt8) (ok : Bool) (e : Ending) (w' : World) : Prop :=
  ∃ v, e = .returned (.tuple #[v, .bool ok]) ∧ Own w' w.heap.size v xs ∧ Below w.heap.size w w'

set_option maxHeartbeats 1000000 in
theorem rvec_no (A : Option Addr) (n c k : Nat) (B : Option Addr) (m d : Nat) (size : Int) (xs : List UInt8) (w : World) (hs : Src w A n xs) (hn : n ≤ 100000) (hm : m ≤ 100000) (hk : clampI size = k) (hlong : ¬ (m : Int) < 256 ^ k) :
    Calls Try.prog 45 #[.slice A n c, .int .i64 size, .slice B m d] w (VecPost w xs false) := by
  have hbd := clampI_bd size
  have Hk := Lib.hid hk
  have hown0 := Lib.hid (Own.empty w w.heap.size (Nat.le_refl _))
  have hs0 := Lib.hid (hs.alloc (.cells #[] 5))
  have hinfo := Lib.hid info8
  obtain rfl | rfl | rfl | rfl : k = 1 ∨ k = 2 ∨ k = 3 ∨ k = 4 := by omega
  all_goals
    simp only [Int.reducePow] at hlong
    clear hk hbd hs
    go_enter Try.func45, Try.ntmps45
    go_wp2_with fail
    refine (rclamp_any _ _).mono ?_
    rintro e w2 ⟨rfl, rfl⟩
    rw [Hk.out]
    first
      | (exfalso; omega)
      | (go_wp2_with (at_builtin; refine wpList_app rfl (.tmp 16) (.tmp 17) 22 rfl Try.underlying22 hinfo.out w.heap.size _ [] rfl hown0.out A n c xs rfl hs0.out (by simp; omega) (by simp) ?_; intro v1 w1 HO1 hb1)
         go_ret2
         exact ⟨v1, rfl, by have h := HO1.out; rwa [List.nil_append] at h, ((Below.refl _ _).alloc (Nat.le_refl _) _).trans hb1⟩)

set_option maxHeartbeats 1000000 in
theorem rvec_yes1 (A : Option Addr) (n c : Nat) (B : Option Addr) (m d : Nat) (size : Int) (xs ys : List UInt8) (w : World) (hs : Src w A n xs) (ht : Src w B m ys) (hn : n ≤ 100000) (hm : m ≤ 100000) (hk : clampI size = 1) (_hlong : (m : Int) < 256) :
    Calls Try.prog 45 #[.slice A n c, .int .i64 size, .slice B m d] w (VecPost w (xs ++ bytesOf m 1 ++ ys) true) := by
  have Hk := Lib.hid hk
  have hinfo := Lib.hid info8
  have Hl := Lib.hid hs.1
  have HS := Lib.hid hs
  have HT := Lib.hid ht
  have hd1 : decide ((256 : Int) ≤ (m : Int)) = false := by rw [decide_eq_false_iff_not]; omega
  have Hlen : Hid ((xs ++ bytesOf (m : Int) 1).length + m ≤ 140737488355328) := by
    show _ ≤ _
    rw [List.length_append, bytesOf_length, Hl.out]
    omega
  clear hk hs ht _hlong
  go_enter Try.func45, Try.ntmps45
  go_wp2_with fail
  refine (rclamp_any _ _).mono ?_
  rintro e w2 ⟨rfl, rfl⟩
  rw [Hk.out]
  go_wp2_with fail
  refine (rput_any A n c 1 m size xs w HS.out hn Hk.out).mono ?_
  rintro e w1 ⟨v1, rfl, hown1, hb1⟩
  have HO := Lib.hid hown1
  have HT1 := Lib.hid (HT.out.below hb1)
  clear hown1
  go_wp2_with (at_builtin; refine wpList_app rfl (.tmp 23) (.tmp 24) 22 rfl Try.underlying22 hinfo.out w.heap.size _ _ rfl HO.out B m d ys rfl HT1.out Hlen.out hb1.size ?_; intro v2 w2 HO2 hb2)
  go_ret2
  exact ⟨v2, rfl, HO2.out, hb1.trans hb2⟩

set_option maxHeartbeats 1000000 in
theorem rvec_yes2 (A : Option Addr) (n c : Nat) (B : Option Addr) (m d : Nat) (size : Int) (xs ys : List UInt8) (w : World) (hs : Src w A n xs) (ht : Src w B m ys) (hn : n ≤ 100000) (hm : m ≤ 100000) (hk : clampI size = 2) (_hlong : (m : Int) < 65536) :
    Calls Try.prog 45 #[.slice A n c, .int .i64 size, .slice B m d] w (VecPost w (xs ++ bytesOf m 2 ++ ys) true) := by
  have Hk := Lib.hid hk
  have hinfo := Lib.hid info8
  have Hl := Lib.hid hs.1
  have HS := Lib.hid hs
  have HT := Lib.hid ht
  have hd1 : decide ((65536 : Int) ≤ (m : Int)) = false := by rw [decide_eq_false_iff_not]; omega
  have Hlen : Hid ((xs ++ bytesOf (m : Int) 2).length + m ≤ 140737488355328) := by
    show _ ≤ _
    rw [List.length_append, bytesOf_length, Hl.out]
    omega
  clear hk hs ht _hlong
  go_enter Try.func45, Try.ntmps45
  go_wp2_with fail
  refine (rclamp_any _ _).mono ?_
  rintro e w2 ⟨rfl, rfl⟩
  rw [Hk.out]
  go_wp2_with fail
  refine (rput_any A n c 2 m size xs w HS.out hn Hk.out).mono ?_
  rintro e w1 ⟨v1, rfl, hown1, hb1⟩
  have HO := Lib.hid hown1
  have HT1 := Lib.hid (HT.out.below hb1)
  clear hown1
  go_wp2_with (at_builtin; refine wpList_app rfl (.tmp 23) (.tmp 24) 22 rfl Try.underlying22 hinfo.out w.heap.size _ _ rfl HO.out B m d ys rfl HT1.out Hlen.out hb1.size ?_; intro v2 w2 HO2 hb2)
  go_ret2
  exact ⟨v2, rfl, HO2.out, hb1.trans hb2⟩

set_option maxHeartbeats 1000000 in
theorem rvec_yes3 (A : Option Addr) (n c : Nat) (B : Option Addr) (m d : Nat) (size : Int) (xs ys : List UInt8) (w : World) (hs : Src w A n xs) (ht : Src w B m ys) (hn : n ≤ 100000) (hm : m ≤ 100000) (hk : clampI size = 3) (_hlong : (m : Int) < 16777216) :
    Calls Try.prog 45 #[.slice A n c, .int .i64 size, .slice B m d] w (VecPost w (xs ++ bytesOf m 3 ++ ys) true) := by
  have Hk := Lib.hid hk
  have hinfo := Lib.hid info8
  have Hl := Lib.hid hs.1
  have HS := Lib.hid hs
  have HT := Lib.hid ht
  have hd1 : decide ((16777216 : Int) ≤ (m : Int)) = false := by rw [decide_eq_false_iff_not]; omega
  have Hlen : Hid ((xs ++ bytesOf (m : Int) 3).length + m ≤ 140737488355328) := by
    show _ ≤ _
    rw [List.length_append, bytesOf_length, Hl.out]
    omega
  clear hk hs ht _hlong
  go_enter Try.func45, Try.ntmps45
  go_wp2_with fail
  refine (rclamp_any _ _).mono ?_
  rintro e w2 ⟨rfl, rfl⟩
  rw [Hk.out]
  go_wp2_with fail
  refine (rput_any A n c 3 m size xs w HS.out hn Hk.out).mono ?_
  rintro e w1 ⟨v1, rfl, hown1, hb1⟩
  have HO := Lib.hid hown1
  have HT1 := Lib.hid (HT.out.below hb1)
  clear hown1
  go_wp2_with (at_builtin; refine wpList_app rfl (.tmp 23) (.tmp 24) 22 rfl Try.underlying22 hinfo.out w.heap.size _ _ rfl HO.out B m d ys rfl HT1.out Hlen.out hb1.size ?_; intro v2 w2 HO2 hb2)
  go_ret2
  exact ⟨v2, rfl, HO2.out, hb1.trans hb2⟩

set_option maxHeartbeats 1000000 in
theorem rvec_yes4 (A : Option Addr) (n c : Nat) (B : Option Addr) (m d : Nat) (size : Int) (xs ys : List UInt8) (w : World) (hs : Src w A n xs) (ht : Src w B m ys) (hn : n ≤ 100000) (hm : m ≤ 100000) (hk : clampI size = 4) (_hlong : (m : Int) < 4294967296) :
    Calls Try.prog 45 #[.slice A n c, .int .i64 size, .slice B m d] w (VecPost w (xs ++ bytesOf m 4 ++ ys) true) := by
  have Hk := Lib.hid hk
  have hinfo := Lib.hid info8
  have Hl := Lib.hid hs.1
  have HS := Lib.hid hs
  have HT := Lib.hid ht
  have hd1 : decide ((4294967296 : Int) ≤ (m : Int)) = false := by rw [decide_eq_false_iff_not]; omega
  have Hlen : Hid ((xs ++ bytesOf (m : Int) 4).length + m ≤ 140737488355328) := by
    show _ ≤ _
    rw [List.length_append, bytesOf_length, Hl.out]
    omega
  clear hk hs ht _hlong
  go_enter Try.func45, Try.ntmps45
  go_wp2_with fail
  refine (rclamp_any _ _).mono ?_
  rintro e w2 ⟨rfl, rfl⟩
  rw [Hk.out]
  go_wp2_with fail
  refine (rput_any A n c 4 m size xs w HS.out hn Hk.out).mono ?_
  rintro e w1 ⟨v1, rfl, hown1, hb1⟩
  have HO := Lib.hid hown1
  have HT1 := Lib.hid (HT.out.below hb1)
  clear hown1
  go_wp2_with (at_builtin; refine wpList_app rfl (.tmp 23) (.tmp 24) 22 rfl Try.underlying22 hinfo.out w.heap.size _ _ rfl HO.out B m d ys rfl HT1.out Hlen.out hb1.size ?_; intro v2 w2 HO2 hb2)
  go_ret2
  exact ⟨v2, rfl, HO2.out, hb1.trans hb2⟩

theorem rvec_yes (A : Option Addr) (n c k : Nat) (B : Option Addr) (m d : Nat) (size : Int) (xs ys : List UInt8) (w : World) (hs : Src w A n xs) (ht : Src w B m ys) (hn : n ≤ 100000) (hm : m ≤ 100000) (hk : clampI size = k) (hlong : (m : Int) < 256 ^ k) :
    Calls Try.prog 45 #[.slice A n c, .int .i64 size, .slice B m d] w (VecPost w (xs ++ bytesOf m k ++ ys) true) := by
  have hbd := clampI_bd size
  obtain rfl | rfl | rfl | rfl : k = 1 ∨ k = 2 ∨ k = 3 ∨ k = 4 := by omega
  · exact rvec_yes1 A n c B m d size xs ys w hs ht hn hm hk (by simpa using hlong)
  · exact rvec_yes2 A n c B m d size xs ys w hs ht hn hm hk (by simpa using hlong)
  · exact rvec_yes3 A n c B m d size xs ys w hs ht hn hm hk (by omega)
  · exact rvec_yes4 A n c B m d size xs ys w hs ht hn hm hk (by omega)
end Go.Proofs.Ytajmdchidmamcaa.RefBe
