/-
  The law BePuts holds: whatever the bytes, the number and the size, the call returns true and leaves what was there as it was. No condition.
-/
import Derived.Test.YteikjoafabldpaaRefVec
import Derived.Test.YteikjoafabldpaaLift
import Derived.Deep.RegionHeld
import Derived.Deep.DeepCutAuto
namespace Go.Proofs.Yteikjoafabldpaa.bePuts
open Go.ChangeShapes Go.WideShapes Go.ChangeAt Go.RowKit
open Go.ChangeMaps (open_string shut_string)
open Go.Proofs.Yteikjoafabldpaa.Wd Go.Proofs.Yteikjoafabldpaa.Be Go.Proofs.Yteikjoafabldpaa.Lift Go.Proofs.Yteikjoafabldpaa.RefBe

/-- be.Vec and the document's own answer, in one -/
theorem bvec (A : Option Addr) (n c : Nat) (B : Option Addr) (m d : Nat) (size : Int) (xs ys : List UInt8) (w : World) (hs : Src w A n xs) (ht : Src w B m ys) (hn : n + m ≤ 100000) (k : Nat) (hk : clampI size = k) :
    ∃ zs ok, (Calls Try.prog 11 #[.slice A n c, .int .i64 size, .slice B m d] w fun e w' => ∃ N, e = .returned (.tuple #[.slice (some ⟨w.heap.size, 0, none⟩) N N, .bool ok]) ∧ Src w' (some ⟨w.heap.size, 0, none⟩) N zs ∧ Below w.heap.size w w') ∧
      ∀ w1 : World, Below w.heap.size w w1 → Calls Try.prog 12 #[.slice A n c, .int .i64 size, .slice B m d] w1 (VecPost w1 zs ok) := by
  by_cases h : (m : Int) < 256 ^ k
  · refine ⟨_, true, (vec_yes A n c k B m d size xs ys w hs ht (by omega) hk h).mono ?_, fun w1 hb => rvec_yes A n c k B m d size xs ys w1 (hs.below hb) (ht.below hb) (by omega) (by omega) hk h⟩
    rintro e w' ⟨rfl, hb, hbel⟩
    refine ⟨_, rfl, ?_, hbel⟩
    have h := src_of hb
    rw [List.length_append, List.length_append, bytesOf_length, hs.1, ht.1, Nat.add_assoc] at h
    exact h
  · refine ⟨_, false, (vec_no A n c k B m d size xs w hs (by omega) hk (by omega) h).mono ?_, fun w1 hb => rvec_no A n c k B m d size xs w1 (hs.below hb) (by omega) (by omega) hk h⟩
    rintro e w' ⟨rfl, hb, hbel⟩
    refine ⟨_, rfl, ?_, hbel⟩
    have h := src_of hb
    rw [hs.1] at h
    exact h

def PutPost (w : World) (N : Nat) (xs : List UInt8) (e : Ending) (w' : World) : Prop := ∃ A c, e = .returned (.slice A N c) ∧ Src w' A N xs ∧ Below w.heap.size w w'
theorem rput_src (A : Option Addr) (n c k : Nat) (m size : Int) (xs : List UInt8) (w : World) (hs : Src w A n xs) (hn : n ≤ 100000) (hk : clampI size = k) :
    Calls Try.prog 13 #[.slice A n c, .int .i64 m, .int .i64 size] w (PutPost w (n + k) (xs ++ bytesOf m k)) := by
  refine (rput_any A n c k m size xs w hs hn hk).mono ?_
  rintro e w' ⟨v, rfl, ho, hb⟩
  obtain ⟨A', c', rfl, _, hs'⟩ := ho.src
  have e : (xs ++ bytesOf m k).length = n + k := by rw [List.length_append, bytesOf_length, hs.1]
  rw [e] at hs' ⊢
  exact ⟨A', c', rfl, hs', hb⟩

set_option maxHeartbeats 2000000 in
theorem walkInside (w : World) (A : Option Addr) (n c : Nat) (xs : List UInt8) (hs : Src w A n xs) (m size : Int) (B : Option Addr) (l d : Nat) (ys : List UInt8) (ht : Src w B l ys) (hn : n ≤ 3000) (hl : l ≤ 70000) :
    Calls Try.prog 3 #[.slice A n c, .int .i64 m, .int .i64 size, .slice B l d] w fun e w' => e = .returned (.bool true) ∧ Below w.heap.size w w' := by
  obtain ⟨k, hk⟩ := Int.eq_ofNat_of_zero_le (show 0 ≤ clampI size by have := clampI_bd size; omega)
  have hk4 : k ≤ 4 := by have := clampI_bd size; omega
  have Hk := Lib.hid hk
  have hd0 : decide ((3000 : Int) < (n : Int)) = false := by rw [decide_eq_false_iff_not]; omega
  have hd1 : decide ((70000 : Int) < (l : Int)) = false := by rw [decide_eq_false_iff_not]; omega
  clear hk
  go_enter Try.func3, Try.ntmps3
  go_wp2_with fail
  refine (small_any w).mono ?_
  rintro e w1 ⟨rfl, hb1⟩
  have HS := Lib.hid (hs.below hb1)
  have HT := Lib.hid (ht.below hb1)
  have kb := conv (c := c) (hs.below hb1)
  clear hs ht
  go_wp2_with fail
  clear kb
  refine (put_any A n c k m size xs w1 HS.out (by omega) Hk.out).mono ?_
  rintro e w2 ⟨rfl, hblk, hb2⟩
  have HP := Lib.hid (src_of hblk)
  have HB := Lib.hid hblk
  have HS2 := Lib.hid (HS.out.below hb2)
  have HT2 := Lib.hid (HT.out.below hb2)
  obtain ⟨zs, ok, c1, c2⟩ := bvec A n c B l d size xs ys w2 HS2.out HT2.out (by omega) k Hk.out
  have C1 := Lib.hid c1
  have C2 := Lib.hid c2
  clear hblk c1 c2
  go_wp2_with fail
  refine C1.out.mono ?_
  rintro e w3 ⟨N, rfl, hv3, hb3⟩
  have HV3 := Lib.hid hv3
  clear hv3
  go_wp2_with fail
  refine (C2.out w3 hb3).mono ?_
  rintro e w4 ⟨v4, rfl, hown4, hb4⟩
  obtain ⟨A4, c4, rfl, _, hs4⟩ := hown4.src
  have HV4 := Lib.hid hs4
  have HX := Lib.hid (hb2.trans ((hb3.mono hb2.size).trans (hb4.mono (Nat.le_trans hb2.size hb3.size))))
  have HP4 := Lib.hid ((HP.out.below hb3).below hb4)
  have HB4 := Lib.hid ((HB.out.below hb3 HB.out.lt).below hb4 (HB.out.below hb3 HB.out.lt).lt)
  have HV34 := Lib.hid (HV3.out.below hb4)
  clear hs4 hown4 C1 C2 HP HB HV3 hb2 hb3 hb4 HS2 HT2
  have HPl : Hid ((xs ++ bytesOf m k).length = n + k) := by show _ = _; rw [List.length_append, bytesOf_length, HS.out.1]
  have k11 : (convert 22 9 (.slice (some ⟨w1.heap.size, 0, none⟩) (n + k) (n + k))).run Try.prog w4.drew = .ok (.string ⟨(xs ++ bytesOf m k).toArray⟩) w4.drew := by
    have h := HP4.out; rw [HPl.out] at h; exact conv (w := w4.drew) h
  have k12 : (convert 22 9 (.slice (some ⟨w2.heap.size, 0, none⟩) N N)).run Try.prog w4.drew = .ok (.string ⟨zs.toArray⟩) w4.drew := conv (w := w4.drew) HV34.out
  have k14 : (convert 22 9 (.slice A4 zs.length c4)).run Try.prog w4.drew = .ok (.string ⟨zs.toArray⟩) w4.drew := conv (w := w4.drew) HV4.out
  have HSd : Hid (Src w4.drew A n xs) := HS.out.below HX.out.drew
  generalize hPs : (⟨(xs ++ bytesOf m k).toArray⟩ : ByteArray) = PS at k11
  have HPs := Lib.hid hPs
  generalize hZs : (⟨zs.toArray⟩ : ByteArray) = ZS at k12 k14
  have HZs := Lib.hid hZs
  clear hPs hZs
  go_upto_region 8 with fail
  go_cut [16] (fun s16 wx => s16 = .bool true ∧ Below w4.heap.size w4 wx)
  case first =>
    go_region_held (fun w' => (convert 22 9 (.slice (some ⟨w1.heap.size, 0, none⟩) (n + k) (n + k))).run Try.prog w' = .ok (.string PS) w' ∧ (convert 22 9 (.slice (some ⟨w2.heap.size, 0, none⟩) N N)).run Try.prog w' = .ok (.string ZS) w' ∧ (convert 22 9 (.slice A4 zs.length c4)).run Try.prog w' = .ok (.string ZS) w')
      (first | exact ⟨k11, k12, k14⟩ | exact ⟨k51, k52, k54⟩)
      (first
        | (go_at_call 13; refine (rput_src A n c k m size xs _ (by exact HSd.out) (by omega) Hk.out).mono ?_; rintro e w5 ⟨A5, c5, rfl, hs5, hb5⟩; have hb5' : Below w4.heap.size w4 w5 := (Below.refl _ _).drew.trans hb5; have k15 := conv (c := c5) hs5; rw [HPs.out] at k15; have HQ := Lib.hid (HP4.out.below hb5'); have k51 : (convert 22 9 (.slice (some ⟨w1.heap.size, 0, none⟩) (n + k) (n + k))).run Try.prog w5 = .ok (.string PS) w5 := (by have h := HQ.out; rw [HPl.out] at h; have h2 := conv (c := n + k) h; rwa [HPs.out] at h2); have k52 := conv (c := N) (HV34.out.below hb5'); rw [HZs.out] at k52; have k54 := conv (c := c4) (HV4.out.below hb5'); rw [HZs.out] at k54; clear hs5 hb5))
    all_goals (go_wp2_with fail; go_meet; exact ⟨rfl, hb5'⟩)
  case rest =>
    obtain ⟨rfl, hbc⟩ := hcut
    have hblk : Blk wc w1.heap.size 5 (cellsOf (xs ++ bytesOf m k)).toArray := HB4.out.below hbc HB4.out.lt
    have hbw : Below w1.heap.size w1 wc := HX.out.trans (hbc.mono HX.out.size)
    have hsz : (cellsOf (xs ++ bytesOf m k)).toArray.size = n + k := by rw [List.size_toArray, cellsOf_length]; exact HPl.out
    have HSZ := Lib.hid hsz
    have HBL := Lib.hid hblk
    clear hblk hbc hsz k11 k12 k14 HSd HPs HZs HV4 HV34 HP4 HB4 HX HT HPl
    go_wp2_with fail
    go_loopw [17] (fun iv wr => ∃ i : Nat, i ≤ n + k ∧ iv = .int .i64 (i : Int) ∧ (∃ cs, Blk wr w1.heap.size 5 cs ∧ cs.size = n + k) ∧ Below w1.heap.size w1 wr) (fun iv _ => n + k - (intOf iv).toNat)
    case atStart => exact ⟨0, Nat.zero_le _, rfl, ⟨_, HBL.out, HSZ.out⟩, hbw⟩
    case round =>
      clear hbw HBL HSZ
      obtain ⟨i, hi, rfl, ⟨cs, hblk, hcs⟩, hbw⟩ := hrel
      by_cases hlt : i < n + k
      · obtain ⟨v0, hv0⟩ : ∃ v, cs[i]? = some v := ⟨_, Array.getElem?_eq_getElem (by omega)⟩
        have hcell : wr.cell? ⟨w1.heap.size, i, none⟩ = some v0 := by rw [hblk.cell, hv0]
        have hfr := hblk.frozen i
        have HBL := Lib.hid hblk
        have HCS := Lib.hid hcs
        clear hblk hv0 hcs
        go_wp2_with fail
        go_roundw
        case rel => exact ⟨i + 1, by omega, by go_num, ⟨_, HBL.out.set_ i _, by rw [Array.size_setIfInBounds]; exact HCS.out⟩, hbw.setCell (p := ⟨w1.heap.size, i, none⟩) (Nat.le_refl _) _⟩
        case measure => simp [intOf]; omega
      · obtain rfl : i = n + k := by omega
        have kb := conv (c := c) (HS.out.below hbw)
        clear hblk hcs
        go_wp2_with fail
        go_ret
        exact ⟨rfl, hb1.trans (hbw.mono hb1.size)⟩

set_option maxHeartbeats 1000000 in
theorem walk (w : World) (A : Option Addr) (n c : Nat) (xs : List UInt8) (_ : n ≤ c) (_ : c ≤ maxLen) (hs : Src w A n xs) (m : Int) (_ : -9223372036854775808 ≤ m ∧ m ≤ 9223372036854775807) (size : Int) (_ : -9223372036854775808 ≤ size ∧ size ≤ 9223372036854775807)
    (B : Option Addr) (l d : Nat) (ys : List UInt8) (_ : l ≤ d) (_ : d ≤ maxLen) (ht : Src w B l ys) :
    Calls Try.prog 3 #[.slice A n c, .int .i64 m, .int .i64 size, .slice B l d] w fun e w' => e = .returned (.bool true) ∧ Below w.heap.size w w' := by
  by_cases hn : n ≤ 3000
  · by_cases hl : l ≤ 70000
    · exact walkInside w A n c xs hs m size B l d ys ht hn hl
    · have hd0 : decide ((3000 : Int) < (n : Int)) = false := by rw [decide_eq_false_iff_not]; omega
      have hd1 : decide ((70000 : Int) < (l : Int)) = true := by rw [decide_eq_true_iff]; omega
      go_enter Try.func3, Try.ntmps3
      go_wp2_with fail
      refine (small_any w).mono ?_
      rintro e w1 ⟨rfl, hb1⟩
      go_wp2_with fail
      go_ret
      exact ⟨rfl, hb1⟩
  · have hd0 : decide ((3000 : Int) < (n : Int)) = true := by rw [decide_eq_true_iff]; omega
    go_enter Try.func3, Try.ntmps3
    go_wp2_with fail
    refine (small_any w).mono ?_
    rintro e w1 ⟨rfl, hb1⟩
    go_wp2_with fail
    go_ret
    exact ⟨rfl, hb1⟩

set_option maxRecDepth 100000 in
set_option linter.unusedVariables false in
theorem lifted (os : Os) (started : os.Started) (H : Type) (enc : TypeId × Value → H) :
    ReturnsInHanded {} Try.checked os 3 .any (Rows.bePutsSpec.pre6 enc Try.prog Try.f3 Rows.bePutsRow.domain false) (Rows.bePutsSpec.post enc Try.prog Try.f3 false true false false) := by
  refine returnsInHanded_of_change (C := Try.checked) own started (by kernel_rfl) Try.func3
    (ChangeSpec.witness6 (enc := enc) (C := Try.checked) false ⟨#[], #[.slice none 0 0, .int .i64 0, .int .i64 0, .slice none 0 0], []⟩ 8 (by kernel_rfl) (by kernel_rfl) (by kernel_rfl) (by kernel_rfl)) ?_
  intro W base args ds gs before hval0 hW hcnd _
  have hval : ∀ (j : Nat) t v, Try.f3.params[j]? = some t → args[j]? = some v → Value.okWide Try.prog W .any base t v := hval0
  have hW' := hW
  obtain ⟨p, q, hA0, hV, rfl, hfz, hnd⟩ := hW
  have hA : DataW.TrodAll enc Try.prog W 0 (fun _ => true) true Try.f3.params.toList args.toList ds p := hA0
  rw [Try.params3] at hA hval
  obtain ⟨v0, vs0, d0, ds0, p0, q0, hargs, rfl, rfl, h0, r0⟩ := trodAll_cons hA
  obtain ⟨v1, vs1, d1, ds1, p1, q1, rfl, rfl, rfl, h1, r1⟩ := trodAll_cons r0
  obtain ⟨v2, vs2, d2, ds2, p2, q2, rfl, rfl, rfl, h2, r2⟩ := trodAll_cons r1
  obtain ⟨v3, vs3, d3, ds3, p3, q3, rfl, rfl, rfl, h3, r3⟩ := trodAll_cons r2
  obtain ⟨rfl, rfl, rfl⟩ := trodAll_nil r3
  obtain rfl : args = #[v0, v1, v2, v3] := by cases args; simp_all
  obtain ⟨rfl, rfl⟩ := trodVars_none hV
  have k0 := h0
  have lt0 : ∀ x ∈ p0, x.block < W.heap.size := by obtain ⟨m, hm⟩ := k0; exact DataW.trod_lt m _ _ _ hm
  obtain ⟨A0, n0, cap0, xs0, rfl, le0, mx0, src0⟩ := open_bytes (hval 0 22 v0 rfl rfl) h0
  have k1 := h1
  have lt1 : ∀ x ∈ p1, x.block < W.heap.size := by obtain ⟨m, hm⟩ := k1; exact DataW.trod_lt m _ _ _ hm
  obtain ⟨a1, rfl, rfl, rfl, w1⟩ := open_int Try.underlying3 (hval 1 3 v1 rfl rfl) h1
  have b1 := int_of w1
  have k2 := h2
  have lt2 : ∀ x ∈ p2, x.block < W.heap.size := by obtain ⟨m, hm⟩ := k2; exact DataW.trod_lt m _ _ _ hm
  obtain ⟨a2, rfl, rfl, rfl, w2⟩ := open_int Try.underlying3 (hval 2 3 v2 rfl rfl) h2
  have b2 := int_of w2
  have k3 := h3
  have lt3 : ∀ x ∈ p3, x.block < W.heap.size := by obtain ⟨m, hm⟩ := k3; exact DataW.trod_lt m _ _ _ hm
  obtain ⟨A3, n3, cap3, xs3, rfl, le3, mx3, src3⟩ := open_bytes (hval 3 22 v3 rfl rfl) h3
  clear hA0 hval0
  refine (walk W A0 n0 cap0 xs0 le0 mx0 src0 a1 b1 a2 b2 A3 n3 cap3 xs3 le3 mx3 src3).mono fun e W' ⟨he, bel⟩ => ?_
  subst he
  exact ⟨_, rfl, _, _, _, [], _, [], hW', trodAll_mk1 (shut_bool Try.underlying4 _), (trodAll_cons_mk (Below.trod laidOut (by kernel_rfl) (of_decide_eq_true (by kernel_rfl)) k0 bel lt0) (trodAll_cons_mk (Below.trod laidOut (by kernel_rfl) (of_decide_eq_true (by kernel_rfl)) k1 bel lt1) (trodAll_cons_mk (Below.trod laidOut (by kernel_rfl) (of_decide_eq_true (by kernel_rfl)) k2 bel lt2) (trodAll_cons_mk (Below.trod laidOut (by kernel_rfl) (of_decide_eq_true (by kernel_rfl)) k3 bel lt3) trodAll_mk0)))), rfl, bel.frame _, fun h => by cases h⟩

theorem over : Rows.bePutsRow.holds Try.pinned (OpenSpec.ofChange Rows.bePutsSpec) :=
  OpenClaim.holds_of_wide 3 Try.f3 rfl rfl rfl rfl rfl rfl rfl ⟨rfl, rfl, rfl, rfl, rfl⟩ rfl rfl rfl rfl rfl (by kernel_rfl) Try.func3 (by kernel_rfl)
    (of_decide_eq_true (by kernel_rfl)) (by unfold Func.isWrapper; first | (rw [if_pos (by decide +kernel)]; kernel_rfl) | (rw [if_neg (by decide +kernel)]; exact ⟨rfl, rfl⟩))
    (fun os started H enc _ => lifted os started H enc)

theorem proved : Rows.BePutsSaid := over
#print axioms proved
end Go.Proofs.Yteikjoafabldpaa.bePuts
