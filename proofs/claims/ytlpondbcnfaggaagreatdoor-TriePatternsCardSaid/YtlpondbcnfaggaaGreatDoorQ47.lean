/-
  The walk of TriePatterns over this seat's translation, over the contracts of package trie. No condition.
-/
import Derived.Test.YtlpondbcnfaggaaGreatDoorQ16
import Derived.Test.YtlpondbcnfaggaaGreatDoorQ26
namespace Go.Proofs.YtlpondbcnfaggaaGreatDoor.Tr
open Go.RowKit Go.Proofs.YtlpondbcnfaggaaGreatDoor.Wd Go.Proofs.YtlpondbcnfaggaaGreatDoor.Asc Go.Proofs.YtlpondbcnfaggaaGreatDoor.Tx Go.Proofs.YtlpondbcnfaggaaGreatDoor.St

theorem pt_str (S T : ByteArray) : (S.toList == T.toList) = decide (bs T = bs S) := by
  have h := str_beq (bs S) (bs T)
  rw [str_bs, str_bs] at h
  rw [h]
  simp [eq_comm]
theorem norm_some (s : ByteArray) : ∃ (X : ByteArray) (E : Int), Nm.normalS (bs s) = (bs X, E) ∧ X.size ≤ 253 := by
  refine ⟨str (Nm.normalS (bs s)).1, (Nm.normalS (bs s)).2, rfl, ?_⟩
  rw [str_size]
  by_cases h : (Nm.normalS (bs s)).2 = 0
  · exact (Nm.normal_len (show Nm.normalS (bs s) = ((Nm.normalS (bs s)).1, 0) by rw [← h])).2
  · rw [Nm.normal_no h]; exact Nat.zero_le _
theorem bs_dot (X Y : ByteArray) : bs (X ++ ⟨#[46]⟩ ++ Y) = bs X ++ 46 :: bs Y := by simp [bs]
theorem bs_star (Y : ByteArray) : bs (⟨#[42, 46]⟩ ++ Y) = 42 :: 46 :: bs Y := by simp [bs]
/-- what is called with Z = x.y -/
structure PtC (W : World) (X Y Z P Q : ByteArray) (b : Bool) : Prop where
  m1 : ∀ w', Below W.heap.size W w' → Calls Tryz.prog 16 #[.string X, .string Y] w' fun e w'' => e = .returned (.bool b) ∧ Below w'.heap.size w' w''
  m2 : ∀ w', Below W.heap.size W w' → Calls Tryz.prog 16 #[.string Y, .string Z] w' fun e w'' => e = .returned (.bool false) ∧ Below w'.heap.size w' w''
  m3 : ∀ w', Below W.heap.size W w' → Calls Tryz.prog 16 #[.string P, .string Z] w' fun e w'' => e = .returned (.bool true) ∧ Below w'.heap.size w' w''
  m4 : ∀ w', Below W.heap.size W w' → Calls Tryz.prog 16 #[.string P, .string Y] w' fun e w'' => e = .returned (.bool false) ∧ Below w'.heap.size w' w''
  m5 : ∀ w', Below W.heap.size W w' → Calls Tryz.prog 16 #[.string ⟨#[42]⟩, .string Z] w' fun e w'' => e = .returned (.bool true) ∧ Below w'.heap.size w' w''
  m6 : ∀ w', Below W.heap.size W w' → Calls Tryz.prog 16 #[.string Z, .string Z] w' fun e w'' => e = .returned (.bool true) ∧ Below w'.heap.size w' w''
  m7 : ∀ w', Below W.heap.size W w' → Calls Tryz.prog 14 #[.agg #[.bool false, .int .i64 0, .string Z, .int .i64 0, .string ⟨#[]⟩]] w' fun e w'' => e = .returned (.int .i64 0) ∧ Below w'.heap.size w' w''
  m8 : ∀ w', Below W.heap.size W w' → Calls Tryz.prog 14 #[.agg #[.bool false, .int .i64 0, .string Q, .int .i64 0, .string ⟨#[]⟩]] w' fun e w'' => e = .returned (.int .i64 0) ∧ Below w'.heap.size w' w''
theorem ptC {Tri : World → Nat → List Nat → List Ru → Prop} (C : TrC Tri) {W : World} (hE : Ad.Env W.heap.size W) {s1 s2 X Y Z P Q : ByteArray} (h1 : s1.size ≤ 100) (h2 : s2.size ≤ 100) (n1 : Nm.normalS (bs s1) = (bs X, 0)) (n2 : Nm.normalS (bs s2) = (bs Y, 0))
    (p1 : Ad.parseS (bs X) = none) (p2 : Ad.parseS (bs Y) = none) (z1 : X.size ≤ 253) (z2 : Y.size ≤ 253) (hZ : X ++ ⟨#[46]⟩ ++ Y = Z) (hP : ⟨#[42, 46]⟩ ++ Y = P) (hQ : ⟨#[42, 46]⟩ ++ Z = Q) {b : Bool} (hb : decide (bs Y = bs X) = b) : PtC W X Y Z P Q b := by
  obtain ⟨t1, t2, t3, t4, t5, t6, t7, t8⟩ := names_told (by rw [bs_length]; exact h1) (by rw [bs_length]; exact h2) n1 n2 p1 p2
  have eZ : bs Z = bs X ++ 46 :: bs Y := by rw [← hZ, bs_dot]
  have eP : bs P = 42 :: 46 :: bs Y := by rw [← hP, bs_star]
  have eQ : bs Q = 42 :: 46 :: (bs X ++ 46 :: bs Y) := by rw [← hQ, bs_star, eZ]
  have lZ : Z.size ≤ 1000 := by rw [← bs_length, eZ, List.length_append, List.length_cons, bs_length, bs_length]; omega
  have lP : P.size ≤ 1000 := by rw [← bs_length, eP, List.length_cons, List.length_cons, bs_length]; omega
  have lQ : Q.size ≤ 1000 := by rw [← bs_length, eQ, List.length_cons, List.length_cons, List.length_append, List.length_cons, bs_length, bs_length]; omega
  rw [← eZ] at t2 t3 t5 t6 t7
  rw [← eP] at t3 t4
  rw [← eQ] at t8
  rw [hb] at t1
  have K := fun (p h : ByteArray) (v : Bool) (hp : p.size ≤ 1000000) (hh : h.size ≤ 1000000) (hv : matchB (bs p) (bs h) = v) (w' : World) (hw : Below W.heap.size W w') => by
    have := C.matches_ (hE.below hw) p h hp hh
    rw [hv] at this
    exact this
  have R := fun (p : ByteArray) (hp : p.size ≤ 1000000) (hv : rightS ⟨false, 0, bs p, 0, []⟩ = 0) (w' : World) (hw : Below W.heap.size W w') => by
    have := C.right_ (hE.below hw) ⟨false, 0, bs p, 0, []⟩ (by show (bs p).length ≤ _; rw [bs_length]; exact hp) (Nat.zero_le _)
    rw [hv] at this
    have e : ruC ⟨false, 0, bs p, 0, []⟩ = #[.bool false, .int .i64 0, .string p, .int .i64 0, .string ⟨#[]⟩] := by
      show #[Value.bool false, .int .i64 0, .string (str (bs p)), .int .i64 0, .string (str [])] = _
      rw [str_bs]
    rw [e] at this
    exact this
  exact ⟨K X Y b (by omega) (by omega) t1, K Y Z false (by omega) (by omega) t2, K P Z true (by omega) (by omega) t3, K P Y false (by omega) (by omega) t4, K ⟨#[42]⟩ Z true (by decide) (by omega) t5, K Z Z true (by omega) (by omega) t6, R Z (by omega) (t7 false), R Q (by omega) (t8 false)⟩
set_option linter.unusedSimpArgs false in
set_option maxRecDepth 100000 in
set_option maxHeartbeats 16000000 in
theorem pats_walk {Tri : World → Nat → List Nat → List Ru → Prop} (C : TrC Tri) (hSm : SmallP) (W : World) (s1 s2 : ByteArray) (hE : Ad.Env W.heap.size W) (z1 : s1.size ≤ 9223372036854775807) (z2 : s2.size ≤ 9223372036854775807) :
    Calls Tryz.prog 8 #[.string s1, .string s2] W fun e w' => e = .returned (.bool true) ∧ Below W.heap.size W w' := by
  have HE := Lib.hid hE
  have HSm : Hid SmallP := hSm
  have HC := Lib.hid C
  clear hE hSm C
  go_enter Tryz.func8, Tryz.ntmps8
  go_wp2_with fail
  refine (HSm.out W HE.out).mono ?_
  rintro e w1 ⟨rfl, hb⟩
  have HB1 := Lib.hid hb
  clear hb HSm
  by_cases p1 : 100 < s1.size
  · have i1 : (100 : Int) < (s1.size : Int) := by omega
    clear p1
    go_wp2_with fail
    go_ret
    exact ⟨rfl, HB1.out⟩
  have i1 : ¬ (100 : Int) < (s1.size : Int) := by omega
  by_cases p2 : 100 < s2.size
  · have i2 : (100 : Int) < (s2.size : Int) := by omega
    clear p1 p2
    go_wp2_with fail
    go_ret
    exact ⟨rfl, HB1.out⟩
  have i2 : ¬ (100 : Int) < (s2.size : Int) := by omega
  have P1 := Lib.hid (show s1.size ≤ 100 by omega)
  have P2 := Lib.hid (show s2.size ≤ 100 by omega)
  clear p1 p2 z1 z2
  obtain ⟨X, E1, n1, x1⟩ := norm_some s1
  obtain ⟨Y, E2, n2, x2⟩ := norm_some s2
  have HN1 : Hid (∀ w, Below W.heap.size W w → Calls Tryz.prog 27 #[.string s1] w fun e w' => e = .returned (.tuple #[.string X, .int .i64 E1]) ∧ Below w.heap.size w w') := Lib.hid (fun w hw => by
    have h := Nm.norm_any s1 w (HE.out.below hw) (by have := P1.out; omega)
    rw [n1] at h
    have e : Nm.resN (bs X, E1) = .returned (.tuple #[.string X, .int .i64 E1]) := by show Ending.returned (.tuple #[.string (str (bs X)), .int .i64 E1]) = _; rw [str_bs]
    rw [e] at h
    exact h)
  have HN2 : Hid (∀ w, Below W.heap.size W w → Calls Tryz.prog 27 #[.string s2] w fun e w' => e = .returned (.tuple #[.string Y, .int .i64 E2]) ∧ Below w.heap.size w w') := Lib.hid (fun w hw => by
    have h := Nm.norm_any s2 w (HE.out.below hw) (by have := P2.out; omega)
    rw [n2] at h
    have e : Nm.resN (bs Y, E2) = .returned (.tuple #[.string Y, .int .i64 E2]) := by show Ending.returned (.tuple #[.string (str (bs Y)), .int .i64 E2]) = _; rw [str_bs]
    rw [e] at h
    exact h)
  obtain ⟨o1, ho1⟩ : ∃ o, Ad.parseS (bs X) = o := ⟨_, rfl⟩
  obtain ⟨o2, ho2⟩ : ∃ o, Ad.parseS (bs Y) = o := ⟨_, rfl⟩
  obtain ⟨V1, hV1, _, hP1⟩ := Nm.parse_at (B := W.heap.size) X (by omega) o1 ho1
  obtain ⟨V2, hV2, _, hP2⟩ := Nm.parse_at (B := W.heap.size) Y (by omega) o2 ho2
  obtain ⟨k1, hk1⟩ : ∃ k, o1.isSome = k := ⟨_, rfl⟩
  obtain ⟨k2, hk2⟩ : ∃ k, o2.isSome = k := ⟨_, rfl⟩
  rw [hk1] at hP1
  rw [hk2] at hP2
  have HP1 := Lib.hid hP1
  have HP2 := Lib.hid hP2
  have HO1 := Lib.hid (show k1 = false → Ad.parseS (bs X) = none from fun h => by rw [h] at hk1; rw [ho1]; cases o1 with | none => rfl | some a => cases hk1)
  have HO2 := Lib.hid (show k2 = false → Ad.parseS (bs Y) = none from fun h => by rw [h] at hk2; rw [ho2]; cases o2 with | none => rfl | some a => cases hk2)
  have N1 := Lib.hid n1
  have N2 := Lib.hid n2
  have HV1 := Lib.hid hV1
  have HV2 := Lib.hid hV2
  clear n1 n2 ho1 ho2 hP1 hP2 hk1 hk2 hV1 hV2
  go_wp2_with fail
  clear i1 i2
  refine (HN1.out _ HB1.out).mono ?_
  rintro e w2 ⟨rfl, hb⟩
  have HB2 := Lib.hid (HB1.out.trans (hb.mono HB1.out.size))
  clear hb HB1 HN1
  go_wp2_with fail
  refine (HN2.out _ HB2.out).mono ?_
  rintro e w3 ⟨rfl, hb⟩
  have HB3 := Lib.hid (HB2.out.trans (hb.mono HB2.out.size))
  clear hb HB2 HN2
  go_wp2_with fail
  refine (HP1.out _ (HE.out.below HB3.out)).mono ?_
  rintro e w4 ⟨rfl, hb⟩
  have HB4 := Lib.hid (HB3.out.trans (hb.mono HB3.out.size))
  clear hb HB3 HP1
  go_upto_region 7 with (refine St.go_st 48 (Blk.new _ _ _) Ad.info16 rfl (by rw [Ad.cA_size, HV1.out]) (Ad.cA_one _) rfl rfl rfl rfl ?_)
  obtain ⟨_, hbl⟩ := Nm.adr_new w4 V1
  have HB5 := Lib.hid (HB4.out.trans (hbl.mono HB4.out.size))
  clear hbl HB4
  generalize (w4.alloc (.cells #[Value.int .u8 0, Value.int .u8 0, Value.int .u8 0, Value.int .u8 0, Value.int .u8 0, Value.int .u8 0, Value.int .u8 0, Value.int .u8 0, Value.int .u8 0, Value.int .u8 0, Value.int .u8 0, Value.int .u8 0, Value.int .u8 0, Value.int .u8 0, Value.int .u8 0, Value.int .u8 0] 48)).setRow w4.heap.size (Ad.cA V1) = w5 at *
  go_wp2_with fail
  refine (HP2.out _ (HE.out.below HB5.out)).mono ?_
  rintro e w6 ⟨rfl, hb⟩
  have HB6 := Lib.hid (HB5.out.trans (hb.mono HB5.out.size))
  clear hb HB5 HP2
  go_upto_region 8 with (refine St.go_st 48 (Blk.new _ _ _) Ad.info16 rfl (by rw [Ad.cA_size, HV2.out]) (Ad.cA_one _) rfl rfl rfl rfl ?_)
  obtain ⟨_, hbl⟩ := Nm.adr_new w6 V2
  have HB7 := Lib.hid (HB6.out.trans (hbl.mono HB6.out.size))
  clear hbl HB6
  generalize (w6.alloc (.cells #[Value.int .u8 0, Value.int .u8 0, Value.int .u8 0, Value.int .u8 0, Value.int .u8 0, Value.int .u8 0, Value.int .u8 0, Value.int .u8 0, Value.int .u8 0, Value.int .u8 0, Value.int .u8 0, Value.int .u8 0, Value.int .u8 0, Value.int .u8 0, Value.int .u8 0, Value.int .u8 0] 48)).setRow w6.heap.size (Ad.cA V2) = w7 at *
  rcases Decidable.em (E1 ≠ 0) with he | he
  · have q1 : (E1 != 0) = true := by rw [bne_iff_ne]; exact he
    clear he
    go_wp2_with fail
    go_ret
    exact ⟨rfl, HB7.out⟩
  have e1 : E1 = 0 := Decidable.not_not.1 he
  subst e1
  clear he
  rcases Decidable.em (E2 ≠ 0) with he | he
  · have q1 : (E2 != 0) = true := by rw [bne_iff_ne]; exact he
    clear he
    go_wp2_with fail
    go_ret
    exact ⟨rfl, HB7.out⟩
  have e2 : E2 = 0 := Decidable.not_not.1 he
  subst e2
  clear he
  rcases k1.eq_false_or_eq_true with hk | hk
  · subst hk
    go_wp2_with fail
    go_ret
    exact ⟨rfl, HB7.out⟩
  have o1 := HO1.out hk
  subst hk
  rcases k2.eq_false_or_eq_true with hk | hk
  · subst hk
    go_wp2_with fail
    go_ret
    exact ⟨rfl, HB7.out⟩
  have o2 := HO2.out hk
  subst hk
  obtain ⟨b, hb⟩ : ∃ b, decide (bs Y = bs X) = b := ⟨_, rfl⟩
  have qb := pt_str X Y
  rw [hb] at qb
  have HT := Lib.hid (fun (Z P Q : ByteArray) (hZ : X ++ ⟨#[46]⟩ ++ Y = Z) (hP : ⟨#[42, 46]⟩ ++ Y = P) (hQ : ⟨#[42, 46]⟩ ++ Z = Q) => ptC HC.out HE.out P1.out P2.out N1.out N2.out o1 o2 x1 x2 hZ hP hQ hb)
  clear o1 o2 hb
  go_upto_region 11 with fail
  obtain ⟨Z, hZ⟩ : ∃ Z, X ++ ⟨#[46]⟩ ++ Y = Z := ⟨_, rfl⟩
  obtain ⟨P, hP⟩ : ∃ P, (⟨#[42, 46]⟩ : ByteArray) ++ Y = P := ⟨_, rfl⟩
  obtain ⟨Q, hQ⟩ : ∃ Q, (⟨#[42, 46]⟩ : ByteArray) ++ Z = Q := ⟨_, rfl⟩
  have x3 : Z.size ≤ 1000 := by rw [← bs_length, ← hZ, bs_dot, List.length_append, List.length_cons, bs_length, bs_length]; omega
  have HTt := Lib.hid (HT.out Z P Q hZ hP hQ)
  rw [hZ]
  clear HT hZ
  go_wp2_with fail
  refine (HTt.out.m1 _ HB7.out).mono ?_
  rintro e w8 ⟨rfl, hb⟩
  have HB8 := Lib.hid (HB7.out.trans (hb.mono HB7.out.size))
  clear hb HB7
  go_wp2_with fail
  refine (HTt.out.m2 _ HB8.out).mono ?_
  rintro e w9 ⟨rfl, hb⟩
  have HB9 := Lib.hid (HB8.out.trans (hb.mono HB8.out.size))
  clear hb HB8
  go_wp2_with fail
  refine (HTt.out.m3 _ HB9.out).mono ?_
  rintro e w10 ⟨rfl, hb⟩
  have HB10 := Lib.hid (HB9.out.trans (hb.mono HB9.out.size))
  clear hb HB9
  go_wp2_with fail
  refine (HTt.out.m4 _ HB10.out).mono ?_
  rintro e w11 ⟨rfl, hb⟩
  have HB11 := Lib.hid (HB10.out.trans (hb.mono HB10.out.size))
  clear hb HB10
  go_wp2_with fail
  refine (HTt.out.m5 _ HB11.out).mono ?_
  rintro e w12 ⟨rfl, hb⟩
  have HB12 := Lib.hid (HB11.out.trans (hb.mono HB11.out.size))
  clear hb HB11
  go_wp2_with fail
  refine (HTt.out.m6 _ HB12.out).mono ?_
  rintro e w13 ⟨rfl, hb⟩
  have HB13 := Lib.hid (HB12.out.trans (hb.mono HB12.out.size))
  clear hb HB12
  go_wp2_with fail
  refine (HTt.out.m7 _ HB13.out).mono ?_
  rintro e w14 ⟨rfl, hb⟩
  have HB14 := Lib.hid (HB13.out.trans (hb.mono HB13.out.size))
  clear hb HB13
  go_wp2_with fail
  refine (HTt.out.m8 _ HB14.out).mono ?_
  rintro e w15 ⟨rfl, hb⟩
  have HB15 := Lib.hid (HB14.out.trans (hb.mono HB14.out.size))
  clear hb HB14
  go_wp2_with fail
  go_ret
  exact ⟨rfl, HB15.out⟩
end Go.Proofs.YtlpondbcnfaggaaGreatDoor.Tr
