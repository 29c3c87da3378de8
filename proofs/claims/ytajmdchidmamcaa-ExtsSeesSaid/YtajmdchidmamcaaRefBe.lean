/-
  Contracts of the document's own answers of layer 1 (hagioscoperef01): clamp, Put, Vec.
-/
import Derived.Test.YtajmdchidmamcaaBePure
import Derived.Test.YtajmdchidmamcaaApp
import Derived.Laws.BitsAllLaws
namespace Go.Proofs.Ytajmdchidmamcaa.RefBe
open Go.RowKit Go.Proofs.Ytajmdchidmamcaa.Wd Go.Proofs.Ytajmdchidmamcaa.Be

theorem rclamp_any (n : Int) (w : World) : Calls Try.prog 63 #[.int .i64 n] w fun e w' => e = .returned (.int .i64 (clampI n)) ∧ w = w' := by
  by_cases h1 : n < 1
  · have e : clampI n = 1 := by unfold clampI; rw [if_pos h1]
    rw [e]
    clear e
    go_enter Try.func63, Try.ntmps63
    go_wp2
    go_ret
    exact ⟨rfl, rfl⟩
  · by_cases h4 : 4 < n
    · have e : clampI n = 4 := by unfold clampI; rw [if_neg h1, if_pos h4]
      rw [e]
      clear e
      go_enter Try.func63, Try.ntmps63
      go_wp2
      go_ret
      exact ⟨rfl, rfl⟩
    · obtain rfl | rfl | rfl | rfl : n = 1 ∨ n = 2 ∨ n = 3 ∨ n = 4 := by omega
      all_goals
        go_enter Try.func63, Try.ntmps63
        go_wp2
        go_ret
        exact ⟨rfl, rfl⟩

theorem and255 (x : Nat) (hx : x < 18446744073709551616) : bits .and .u64 (x : Int) 255 % 256 = ((x % 256 : Nat) : Int) := by
  have h : bits .and .u64 (x : Int) ((255 : Nat) : Int) = ((x &&& 255 : Nat) : Int) := by
    show IntKind.u64.wrap ((BitVec.ofInt 64 (x : Int) &&& BitVec.ofInt 64 ((255 : Nat) : Int)).toNat : Int) = _
    rw [BitVec.toNat_and, BitVec.ofInt_natCast, BitVec.ofInt_natCast, BitVec.toNat_ofNat, BitVec.toNat_ofNat, Nat.mod_eq_of_lt (by omega : x < 2 ^ 64), Nat.mod_eq_of_lt (by omega : 255 < 2 ^ 64)]
    have : x &&& 255 ≤ 255 := Nat.and_le_right
    exact IntWalk.u64_in _ (by omega)
  have h2 : x &&& 255 = x % 256 := Nat.and_two_pow_sub_one_eq_mod x 8
  rw [show ((255 : Nat) : Int) = 255 from rfl] at h
  rw [h, h2]
  omega
theorem byteAt (m : Int) (d : Nat) (x : Int) (hx : x = IntKind.u64.wrap m / (d : Int)) (hd : d = 1 ∨ d = 256 ∨ d = 65536 ∨ d = 16777216) : bits .and .u64 x 255 % 256 = (((Go.Proofs.Ytajmdchidmamcaa.Be.byteOf (m / d)).toNat : Nat) : Int) := by
  rw [IntKind.wrap_u64] at hx
  have h0 : 0 ≤ x ∧ x < 18446744073709551616 := by
    obtain rfl | rfl | rfl | rfl := hd <;> omega
  obtain ⟨k, rfl⟩ := Int.eq_ofNat_of_zero_le h0.1
  rw [and255 k (by omega)]
  unfold Go.Proofs.Ytajmdchidmamcaa.Be.byteOf
  simp only [UInt8.toNat_ofNat']
  obtain rfl | rfl | rfl | rfl := hd <;> omega
theorem one_src (w : World) (X : Int) (c : UInt8) (h : X = (c.toNat : Int)) : Src (w.alloc (.cells #[.int .u8 X] 5)) (some ⟨w.heap.size, 0, none⟩) 1 [c] := by
  subst h
  exact Src.marked w _ _ _ [c] rfl
theorem take_next (m : Int) (k i : Nat) (h : i + 1 ≤ k) : (bytesOf m k).take (k - (i + 1)) ++ [Go.Proofs.Ytajmdchidmamcaa.Be.byteOf (m / 256 ^ i)] = (bytesOf m k).take (k - i) := by
  have hj : k - (i + 1) < (bytesOf m k).length := by rw [bytesOf_length]; omega
  have e : k - i = k - (i + 1) + 1 := by omega
  rw [e, List.take_add_one, List.getElem?_eq_getElem hj]
  congr 1
  have key : ∀ (q : Nat), q + i + 1 ≤ k → (bytesOf m (q + i + 1))[q]? = some (Go.Proofs.Ytajmdchidmamcaa.Be.byteOf (m / 256 ^ i)) := by
    intro q _
    have : ∀ (q : Nat), (bytesOf m (q + i + 1))[q]? = some (Go.Proofs.Ytajmdchidmamcaa.Be.byteOf (m / 256 ^ i)) := by
      intro q
      induction q with
      | zero => rw [Nat.zero_add, bytesOf_cons]; rfl
      | succ q ih => rw [show q + 1 + i + 1 = (q + i + 1) + 1 from by omega, bytesOf_cons, List.getElem?_cons_succ]; exact ih
    exact this q
  have hk := key (k - (i + 1)) (by omega)
  rw [show k - (i + 1) + i + 1 = k from by omega, List.getElem?_eq_getElem hj] at hk
  injection hk with hk
  rw [hk]
  rfl

set_option maxHeartbeats 1000000 in
theorem rput_any (A : Option Addr) (n c k : Nat) (m size : Int) (xs : List UInt8) (w : World) (hs : Src w A n xs) (hn : n ≤ 100000) (hk : clampI size = k) :
    Calls Try.prog 48 #[.slice A n c, .int .i64 m, .int .i64 size] w fun e w' => ∃ v, e = .returned v ∧ Own w' w.heap.size v (xs ++ bytesOf m k) ∧ Below w.heap.size w w' := by
  have hbd := clampI_bd size
  have hk1 : 1 ≤ k ∧ k ≤ 4 := by omega
  have Hk := Lib.hid hk
  clear hk hbd
  obtain ⟨hk1, hk4⟩ := hk1
  have hown0 := Lib.hid (Own.empty w w.heap.size (Nat.le_refl _))
  have hs0 := Lib.hid (hs.alloc (.cells #[] 5))
  have hinfo := Lib.hid info8
  have hl := Lib.hid hs.1
  clear hs
  go_enter Try.func48, Try.ntmps48
  go_wp2_with (at_builtin; refine wpList_app rfl (.tmp 9) (.tmp 10) 22 rfl Try.underlying22 hinfo.out w.heap.size _ [] rfl hown0.out A n c xs rfl hs0.out (by simp; omega) (by simp) ?_; intro v1 w1 HO1 hb1)
  refine (rclamp_any _ _).mono ?_
  rintro e w2 ⟨rfl, rfl⟩
  rw [Hk.out]
  have hbw1 : Below w.heap.size w w1 := ((Below.refl _ _).alloc (Nat.le_refl _) _).trans hb1
  clear hb1 hown0 hs0
  rw [List.nil_append] at HO1
  go_wp2_with fail
  go_loopw [7, 8] (fun v kv wr => ∃ i : Nat, i ≤ k ∧ kv = .int .i64 ((i : Int) - 1) ∧ Hid (Own wr w.heap.size v (xs ++ (bytesOf m k).take (k - i))) ∧ Below w.heap.size w wr) (fun _ kv _ => (intOf kv + 1).toNat)
  case atStart => exact ⟨k, Nat.le_refl _, rfl, by rw [Nat.sub_self, List.take_zero, List.append_nil]; exact HO1, hbw1⟩
  case round =>
    clear hbw1 HO1
    rename_i u7 u8
    obtain ⟨i, hi, rfl, HO, hbw⟩ := hrel
    by_cases h0 : i = 0
    · subst h0
      go_wp2_with fail
      go_ret
      refine ⟨_, rfl, ?_, hbw⟩
      have h := HO.out
      rw [Nat.sub_zero, List.take_of_length_le (by rw [bytesOf_length]; omega)] at h
      exact h
    · have Hlen : Hid ((xs ++ (bytesOf m k).take (k - i)).length + 1 ≤ 140737488355328) := by
        show _ ≤ _
        rw [List.length_append, List.length_take, bytesOf_length, hl.out]
        omega
      obtain rfl | rfl | rfl | rfl : i = 1 ∨ i = 2 ∨ i = 3 ∨ i = 4 := by omega
      · have HN := Lib.hid (take_next m k 0 (by omega))
        have HOa := Lib.hid (HO.out.alloc (.cells #[.int .u8 (bits .and .u64 (IntKind.u64.wrap m) 255 % 256)] 5))
        have HSa := Lib.hid (one_src wr (bits .and .u64 (IntKind.u64.wrap m) 255 % 256) _ (byteAt m 1 _ (by omega) (by omega)))
        go_wp2_with (at_builtin; refine wpList_app rfl (.tmp 19) (.tmp 28) 22 rfl Try.underlying22 hinfo.out w.heap.size _ _ rfl HOa.out _ 1 1 _ rfl HSa.out Hlen.out (by have := hbw.size; simp; omega) ?_; intro v2 w2 HO2 hb2)
        have hbw2 : Below w.heap.size w w2 := (hbw.alloc hbw.size _).trans hb2
        go_wp2_with fail
        go_roundw
        case rel =>
          refine ⟨0, by omega, by go_num, ?_, hbw2⟩
          have h := HO2.out
          rw [List.append_assoc] at h
          rw [← HN.out]
          exact h
        case measure => simp [intOf]
      · have HN := Lib.hid (take_next m k 1 (by omega))
        have HOa := Lib.hid (HO.out.alloc (.cells #[.int .u8 (bits .and .u64 (IntKind.u64.wrap m / 256) 255 % 256)] 5))
        have HSa := Lib.hid (one_src wr (bits .and .u64 (IntKind.u64.wrap m / 256) 255 % 256) _ (byteAt m 256 _ (by rfl) (by omega)))
        go_wp2_with (at_builtin; refine wpList_app rfl (.tmp 19) (.tmp 28) 22 rfl Try.underlying22 hinfo.out w.heap.size _ _ rfl HOa.out _ 1 1 _ rfl HSa.out Hlen.out (by have := hbw.size; simp; omega) ?_; intro v2 w2 HO2 hb2)
        have hbw2 : Below w.heap.size w w2 := (hbw.alloc hbw.size _).trans hb2
        go_wp2_with fail
        go_roundw
        case rel =>
          refine ⟨1, by omega, by go_num, ?_, hbw2⟩
          have h := HO2.out
          rw [List.append_assoc] at h
          rw [← HN.out]
          exact h
        case measure => simp [intOf]
      · have HN := Lib.hid (take_next m k 2 (by omega))
        have HOa := Lib.hid (HO.out.alloc (.cells #[.int .u8 (bits .and .u64 (IntKind.u64.wrap m / 65536) 255 % 256)] 5))
        have HSa := Lib.hid (one_src wr (bits .and .u64 (IntKind.u64.wrap m / 65536) 255 % 256) _ (byteAt m 65536 _ (by rfl) (by omega)))
        go_wp2_with (at_builtin; refine wpList_app rfl (.tmp 19) (.tmp 28) 22 rfl Try.underlying22 hinfo.out w.heap.size _ _ rfl HOa.out _ 1 1 _ rfl HSa.out Hlen.out (by have := hbw.size; simp; omega) ?_; intro v2 w2 HO2 hb2)
        have hbw2 : Below w.heap.size w w2 := (hbw.alloc hbw.size _).trans hb2
        go_wp2_with fail
        go_roundw
        case rel =>
          refine ⟨2, by omega, by go_num, ?_, hbw2⟩
          have h := HO2.out
          rw [List.append_assoc] at h
          rw [← HN.out]
          exact h
        case measure => simp [intOf]
      · have HN := Lib.hid (take_next m k 3 (by omega))
        have HOa := Lib.hid (HO.out.alloc (.cells #[.int .u8 (bits .and .u64 (IntKind.u64.wrap m / 16777216) 255 % 256)] 5))
        have HSa := Lib.hid (one_src wr (bits .and .u64 (IntKind.u64.wrap m / 16777216) 255 % 256) _ (byteAt m 16777216 _ (by rfl) (by omega)))
        go_wp2_with (at_builtin; refine wpList_app rfl (.tmp 19) (.tmp 28) 22 rfl Try.underlying22 hinfo.out w.heap.size _ _ rfl HOa.out _ 1 1 _ rfl HSa.out Hlen.out (by have := hbw.size; simp; omega) ?_; intro v2 w2 HO2 hb2)
        have hbw2 : Below w.heap.size w w2 := (hbw.alloc hbw.size _).trans hb2
        go_wp2_with fail
        go_roundw
        case rel =>
          refine ⟨3, by omega, by go_num, ?_, hbw2⟩
          have h := HO2.out
          rw [List.append_assoc] at h
          rw [← HN.out]
          exact h
        case measure => simp [intOf]
end Go.Proofs.Ytajmdchidmamcaa.RefBe
