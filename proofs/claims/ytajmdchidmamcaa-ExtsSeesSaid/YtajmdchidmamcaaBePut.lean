/-
  Contracts of be.Put and be.Vec over this seat's translation.
-/
import Derived.Test.YtajmdchidmamcaaBeLay
namespace Go.Proofs.Ytajmdchidmamcaa.Be
open Go.RowKit Go.Proofs.Ytajmdchidmamcaa.Wd

theorem splice_end (L X Z : List Value) (h : Z.length = X.length) : splice (L ++ Z) L.length X = L ++ X := by
  unfold splice
  rw [List.take_append_of_le_length (Nat.le_refl _), List.take_length, List.drop_eq_nil_of_le (by simp [h]), List.append_nil]

set_option maxHeartbeats 400000 in
theorem put_any (A : Option Addr) (n c k : Nat) (m size : Int) (xs : List UInt8) (w : World) (hs : Src w A n xs) (hn : n ≤ 140737488355320) (hk : (clampI size) = k) :
    Calls Try.prog 66 #[.slice A n c, .int .i64 m, .int .i64 size] w fun e w' => e = .returned (.slice (some ⟨w.heap.size, 0, none⟩) (n + k) (n + k)) ∧
      Blk w' w.heap.size 5 (cellsOf (xs ++ bytesOf m k)).toArray ∧ Below w.heap.size w w' := by
  have hbd := clampI_bd size
  have hk1 : 1 ≤ k ∧ k ≤ 4 := by omega
  have Hk := Lib.hid hk
  clear hk hbd
  obtain ⟨hk1, hk4⟩ := hk1
  go_enter Try.func66, Try.ntmps66
  go_wp2_with fail
  refine (clamp_any _ _).mono ?_
  rintro e w1 ⟨rfl, rfl⟩
  rw [Hk.out]
  go_wp2_with fail
  refine (grown_any A n c k xs w hs (by omega)).mono ?_
  rintro e w1 ⟨rfl, hb1, hbel1⟩
  have hsz := hb1.lt
  have H1 := Lib.hid hb1
  clear hb1
  go_wp2_with fail
  have hfit : n + k ≤ (cellsOf (xs ++ List.replicate k 0)).length := by rw [cellsOf_length, List.length_append, List.length_replicate, hs.1]; omega
  refine (lay_any w.heap.size n k k m _ w1 H1.out hfit hk4).mono ?_
  rintro e w2 ⟨rfl, hb2, hg2⟩
  have H2 := Lib.hid hb2
  clear hb2 hfit
  go_wp2_with fail
  go_ret
  refine ⟨rfl, ?_, below_of_only hbel1 hg2 hbel1.size (Nat.le_refl _)⟩
  have h := H2.out
  rw [cellsOf_append, ← hs.1, ← cellsOf_length xs, splice_end _ _ _ (by rw [cellsOf_length, cellsOf_length, bytesOf_length, List.length_replicate]), ← cellsOf_append] at h
  exact h

theorem vec_cells (n k m : Nat) (xs ys : List UInt8) (hx : xs.length = n) (hy : ys.length = m) (l : Int) :
    splice (splice (cellsOf (xs ++ List.replicate (k + m) 0)) n (cellsOf (bytesOf l k))) (n + k) (cellsOf ys) = cellsOf (xs ++ bytesOf l k ++ ys) := by
  subst hx hy
  have e2 : splice (cellsOf (xs ++ List.replicate (k + ys.length) 0)) xs.length (cellsOf (bytesOf l k)) = cellsOf (xs ++ bytesOf l k) ++ cellsOf (List.replicate ys.length (0 : UInt8)) := by
    unfold splice
    rw [cellsOf_length, bytesOf_length, cellsOf_append, cellsOf_append, List.take_append_of_le_length (by rw [cellsOf_length]; omega), List.take_of_length_le (by rw [cellsOf_length]; omega),
      List.drop_append, List.drop_eq_nil_of_le (by rw [cellsOf_length]; omega), cellsOf_zero, cellsOf_zero, List.drop_replicate, cellsOf_length, List.nil_append, List.append_assoc]
    congr 3
    omega
  have e3 : xs.length + k = (cellsOf (xs ++ bytesOf l k)).length := by rw [cellsOf_length, List.length_append, bytesOf_length]
  rw [e2, e3, splice_end _ _ _ (by rw [cellsOf_length, cellsOf_length, List.length_replicate]), ← cellsOf_append]

set_option maxHeartbeats 400000 in
theorem vec_no (A : Option Addr) (n c k : Nat) (B : Option Addr) (m d : Nat) (size : Int) (xs : List UInt8) (w : World) (hs : Src w A n xs) (hn : n ≤ 140737488355320) (hk : clampI size = k) (hm : m ≤ 9223372036854775807) (hlong : ¬ (m : Int) < 256 ^ k) :
    Calls Try.prog 65 #[.slice A n c, .int .i64 size, .slice B m d] w fun e w' => e = .returned (.tuple #[.slice (some ⟨w.heap.size, 0, none⟩) n n, .bool false]) ∧
      Blk w' w.heap.size 5 (cellsOf xs).toArray ∧ Below w.heap.size w w' := by
  have hbd := clampI_bd size
  have hk1 : 1 ≤ k ∧ k ≤ 4 := by omega
  have Hk := Lib.hid hk
  have hd : decide ((m : Int) < 256 ^ k) = false := by simpa using hlong
  have Hd := Lib.hid hd
  clear hk hbd hlong hd
  obtain ⟨hk1, hk4⟩ := hk1
  go_enter Try.func65, Try.ntmps65
  go_wp2_with fail
  refine (clamp_any _ _).mono ?_
  rintro e w1 ⟨rfl, rfl⟩
  rw [Hk.out]
  go_wp2_with fail
  refine (tells_any k m (by omega) (by omega) _).mono ?_
  rintro e w1 ⟨rfl, rfl⟩
  rw [Int.toNat_natCast, Hd.out]
  go_wp2_with fail
  refine (grown_any A n c 0 xs w hs (by omega)).mono ?_
  rintro e w1 ⟨rfl, hb1, hbel1⟩
  have H1 := Lib.hid hb1
  clear hb1
  go_wp2_with fail
  go_ret2
  refine ⟨rfl, ?_, hbel1⟩
  simpa using H1.out

set_option maxHeartbeats 400000 in
theorem vec_yes (A : Option Addr) (n c k : Nat) (B : Option Addr) (m d : Nat) (size : Int) (xs ys : List UInt8) (w : World) (hs : Src w A n xs) (ht : Src w B m ys) (hn : n + m ≤ 140737488355320) (hk : clampI size = k) (hlong : (m : Int) < 256 ^ k) :
    Calls Try.prog 65 #[.slice A n c, .int .i64 size, .slice B m d] w fun e w' => e = .returned (.tuple #[.slice (some ⟨w.heap.size, 0, none⟩) (n + (k + m)) (n + (k + m)), .bool true]) ∧
      Blk w' w.heap.size 5 (cellsOf (xs ++ bytesOf m k ++ ys)).toArray ∧ Below w.heap.size w w' := by
  have hbd := clampI_bd size
  have hk1 : 1 ≤ k ∧ k ≤ 4 := by omega
  have Hk := Lib.hid hk
  have hd : decide ((m : Int) < 256 ^ k) = true := by simpa using hlong
  have Hd := Lib.hid hd
  clear hk hbd hlong hd
  obtain ⟨hk1, hk4⟩ := hk1
  go_enter Try.func65, Try.ntmps65
  go_wp2_with fail
  refine (clamp_any _ _).mono ?_
  rintro e w1 ⟨rfl, rfl⟩
  rw [Hk.out]
  go_wp2_with fail
  refine (tells_any k m (by omega) (by omega) _).mono ?_
  rintro e w1 ⟨rfl, rfl⟩
  rw [Int.toNat_natCast, Hd.out]
  go_wp2_with fail
  rw [show ((k : Int) + (m : Int)) = ((k + m : Nat) : Int) from by omega]
  refine (grown_any A n c (k + m) xs w hs (by omega)).mono ?_
  rintro e w1 ⟨rfl, hb1, hbel1⟩
  have hsz := hb1.lt
  have H1 := Lib.hid hb1
  clear hb1
  go_wp2_with fail
  have hlen : (cellsOf (xs ++ List.replicate (k + m) 0)).length = n + (k + m) := by rw [cellsOf_length, List.length_append, List.length_replicate, hs.1]
  refine (lay_any w.heap.size n k (k + m) m _ w1 H1.out (by omega) hk4).mono ?_
  rintro e w2 ⟨rfl, hb2, hg2⟩
  have hbel2 : Below w.heap.size w w2 := below_of_only hbel1 hg2 hbel1.size (Nat.le_refl _)
  have hlen2 : (splice (cellsOf (xs ++ List.replicate (k + m) 0)) n (cellsOf (bytesOf m k))).length = n + (k + m) := by rw [length_splice _ _ _ (by rw [cellsOf_length, bytesOf_length]; omega), hlen]
  have hmin : (cellsOf ys).length = m := by rw [cellsOf_length, ht.1]
  have Hmin := Lib.hid hmin
  have Hfit : Hid (n + k + (cellsOf ys).length ≤ (splice (cellsOf (xs ++ List.replicate (k + m) 0)) n (cellsOf (bytesOf m k))).length) := by rw [hmin, hlen2]; exact Nat.le_of_eq (by omega)
  have Hpos : Hid (0 < (cellsOf ys).length → ∃ ad, B = some ad ∧ ∀ j v, (cellsOf ys)[j]? = some v → w2.cell? (ad.add j) = some v) := by
    intro h0
    rw [hmin] at h0
    obtain ⟨ad, e, hlt, hc⟩ := (ht.below hbel2).2 h0
    refine ⟨ad, e, fun j v hv => ?_⟩
    simp only [cellsOf, List.getElem?_map, Option.map_eq_some_iff] at hv
    obtain ⟨x, hx, rfl⟩ := hv
    exact hc j x hx
  have Hone := Lib.hid (cellsOf_one ys)
  have Hfin := Lib.hid (vec_cells n k m xs ys hs.1 ht.1 m)
  have H2 := Lib.hid hb2
  clear hb2 hlen hlen2 hmin
  generalize hX : splice (cellsOf (xs ++ List.replicate (k + m) 0)) n (cellsOf (bytesOf m k)) = X at *
  generalize hY : cellsOf ys = Y at *
  clear hX hY
  have Hmin2 : Hid (Y.length = Nat.min m (n + (k + m) - (n + k))) := by rw [Hmin.out, show n + (k + m) - (n + k) = m from by omega]; exact (Nat.min_self _).symm
  by_cases h0 : m = 0
  · subst h0
    go_wp2_with ((with_reducible refine wpList_copy_splice rfl (.tmp 40) (.tmp 41) 22 22 rfl 5 Try.underlying22 (by kernel_rfl) _ _ _ _ _ _ rfl rfl w.heap.size (n + k) X 5 H2.out.heap Y (Hmin.out.trans (Nat.zero_min _).symm) (fun h => absurd h (by have := Hmin.out; omega)) Hfit.out Hone.out w.heap.size w hbel2 (Nat.le_refl _) ?_); intro w3 HG3 hB3)
    go_ret2
    exact ⟨rfl, by have h := HG3.out; rw [Hfin.out] at h; exact h, hB3⟩
  · go_wp2_with ((with_reducible refine wpList_copy_splice rfl (.tmp 40) (.tmp 41) 22 22 rfl 5 Try.underlying22 (by kernel_rfl) _ _ _ _ _ _ rfl rfl w.heap.size (n + k) X 5 H2.out.heap Y Hmin2.out (fun h => ⟨rfl, Hpos.out h⟩) Hfit.out Hone.out w.heap.size w hbel2 (Nat.le_refl _) ?_); intro w3 HG3 hB3)
    go_ret2
    exact ⟨rfl, by have h := HG3.out; rw [Hfin.out] at h; exact h, hB3⟩
end Go.Proofs.Ytajmdchidmamcaa.Be
