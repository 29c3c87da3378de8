/-
  ExtsBack: what is put is read as it was: any name, protocols, versions. No condition.
-/
import Derived.Test.YtajmdchidmamcaaExSmall
import Derived.Test.YtajmdchidmamcaaExPut
import Derived.Test.YtajmdchidmamcaaExBackP
import Derived.Test.YtajmdchidmamcaaExLift
import Derived.Test.YtajmdchidmamcaaErSame
namespace Go.Proofs.Ytajmdchidmamcaa.extsBack
open Go.ChangeMaps (open_string shut_string)
open Go.ChangeShapes Go.WideShapes Go.ChangeAt Go.RowKit Go.Proofs.Ytajmdchidmamcaa.Wd Go.Proofs.Ytajmdchidmamcaa.Be Go.Proofs.Ytajmdchidmamcaa.He Go.Proofs.Ytajmdchidmamcaa.Ro Go.Proofs.Ytajmdchidmamcaa.Ex Go.Proofs.Ytajmdchidmamcaa.Lift

set_option maxRecDepth 100000 in
set_option maxHeartbeats 4000000 in
theorem walk (w : World) (s : ByteArray) (_ : s.size ≤ maxLen) (A1 : Option Addr) (n1 k1 : Nat) (l : List (List UInt8)) (_ : n1 ≤ k1) (_ : k1 ≤ maxLen) (hl : SrcE w elS A1 l ∧ l.length = n1 ∧ ∀ x ∈ l, x.length ≤ 9223372036854775807)
    (A2 : Option Addr) (n2 k2 : Nat) (v : List Int) (_ : n2 ≤ k2) (_ : k2 ≤ maxLen) (hv : SrcE w elI A2 v ∧ v.length = n2) :
    Calls Try.prog 6 #[.string s, .slice A1 n1 k1, .slice A2 n2 k2] w fun e w' => e = .returned (.bool true) ∧ Below w.heap.size w w' := by
  obtain ⟨x, rfl⟩ : ∃ x, s = str8 x := ⟨lst s, (lst_inj (lst_str8 _)).symm⟩
  obtain ⟨N, hN⟩ : ∃ N, x.length = N := ⟨_, rfl⟩
  have hsz : (str8 x).size = N := hN
  have HX := Lib.hid hN
  obtain ⟨hl1, hl2, _⟩ := hl
  obtain ⟨hv1, hv2⟩ := hv
  have HS := Lib.hid hl1
  have HV := Lib.hid hv1
  have HLn := Lib.hid hl2
  have HVn := Lib.hid hv2
  obtain ⟨s, hs⟩ : ∃ s, str8 x = s := ⟨_, rfl⟩
  have HSt := Lib.hid hs
  rw [hs] at hsz ⊢
  clear hN hl1 hl2 hv1 hv2 hs
  by_cases hN : 1000 < N
  · have hd : decide ((1000 : Int) < (N : Int)) = true := decide_eq_true (by omega)
    go_enter Try.func6, Try.ntmps6
    go_wp2_with fail
    refine (small_any w).mono ?_
    rintro e w1 ⟨rfl, hb1⟩
    go_wp2_with fail
    go_ret
    exact ⟨rfl, hb1⟩
  have hdN : decide ((1000 : Int) < (N : Int)) = false := decide_eq_false (by omega)
  by_cases h1 : 50 < n1
  · have hd : decide ((50 : Int) < (n1 : Int)) = true := decide_eq_true (by omega)
    go_enter Try.func6, Try.ntmps6
    go_wp2_with fail
    refine (small_any w).mono ?_
    rintro e w1 ⟨rfl, hb1⟩
    go_wp2_with fail
    go_ret
    exact ⟨rfl, hb1⟩
  have hd1 : decide ((50 : Int) < (n1 : Int)) = false := decide_eq_false (by omega)
  by_cases h2 : 300 < n2
  · have hd : (300 : Int) < (n2 : Int) := by omega
    go_enter Try.func6, Try.ntmps6
    go_wp2_with fail
    refine (small_any w).mono ?_
    rintro e w1 ⟨rfl, hb1⟩
    go_wp2_with fail
    go_ret
    exact ⟨rfl, hb1⟩
  have hd2 : ¬ (300 : Int) < (n2 : Int) := by omega
  go_enter Try.func6, Try.ntmps6
  go_wp2_with fail
  refine (small_any w).mono ?_
  rintro e w1 ⟨rfl, hb1⟩
  have HB1 := Lib.hid hb1
  clear hb1
  go_wp2_with fail
  clear hdN hd1 hd2
  go_loopw [8] (fun i wr => ∃ k, k ≤ n1 ∧ i = .int .i64 (k : Int) ∧ Hid (∀ x ∈ l.take k, x.length ≤ 500) ∧ Hid (Below w.heap.size w wr)) (fun i _ => n1 - (intOf i).toNat)
  case atStart => exact ⟨0, Nat.zero_le _, rfl, Lib.hid (by simp), HB1⟩
  case round =>
    clear HB1
    obtain ⟨k, hk, rfl, HA, HB⟩ := hrel
    by_cases hlt : k < n1
    · have hki : (k : Int) < (n1 : Int) := by omega
      obtain ⟨y, hy⟩ : ∃ y, l[k]? = some y := ⟨_, List.getElem?_eq_getElem (by have := HLn.out; omega)⟩
      obtain ⟨g, o, hA, hg, hc⟩ := HS.out k y hy
      have hc0 : wr.cell? ⟨g, o + k, none⟩ = some (.string (str8 y)) := (HB.out.cell (p := ⟨g, _, none⟩) hg).trans (by have := hc 0 _ rfl; simpa [elS] using this)
      rw [hA]
      have HY := Lib.hid hy
      obtain ⟨m, hm⟩ : ∃ m, (str8 y).size = m := ⟨_, rfl⟩
      have HM := Lib.hid hm
      clear hA hc hy
      by_cases h5 : 500 < m
      · have h5i : (500 : Int) < (m : Int) := by omega
        go_wp2_with fail
        go_ret
        exact ⟨rfl, HB.out⟩
      · have h5i : ¬ (500 : Int) < (m : Int) := by omega
        go_wp2_with fail
        go_roundw
        case rel => exact ⟨k + 1, by omega, by go_num, Lib.hid (fun z hz => by
          rw [List.take_add_one, HY.out] at hz
          rcases List.mem_append.1 hz with hz | hz
          · exact HA.out z hz
          · simp at hz
            subst hz
            have h := HM.out
            have e : (str8 z).size = z.length := rfl
            omega), HB⟩
        case measure => simp [intOf]; omega
    · obtain rfl : k = n1 := by omega
      have HK := Lib.hid (show ∀ x ∈ l, x.length ≤ 500 from fun z hz => HA.out z (by rw [← HLn.out, List.take_length]; exact hz))
      have hki : ¬ (k : Int) < (k : Int) := by omega
      rw [← HSt.out]
      clear HA hsz
      go_wp2_with fail
      refine (pname_any x wr).mono ?_
      rintro e x1 ⟨B1, m1, c1, rfl, hs, hmc1, hb⟩
      have HB1 := Lib.hid (HB.out.trans (hb.mono HB.out.size))
      have hml1 : m1 ≤ 70000 := by
        have h1 := hs.1
        cases hq : layS putN 2 [x] with
        | none => rw [hq] at h1; rw [← h1]; exact Nat.zero_le _
        | some d => rw [hq] at h1; have h2 := lay_len hq; have e1 : (256 : Nat) ^ 2 = 65536 := rfl; have e2 : (256 : Nat) ^ 1 = 256 := rfl; rw [← h1]; show d.length ≤ _; omega
      have HT1 := Lib.hid (show (layS putN 2 [x]).isSome = true → nameS ((layS putN 2 [x]).getD []) = (x, 0) ∧ 0 < m1 from fun h => by
        cases hq : layS putN 2 [x] with
        | none => rw [hq] at h; cases h
        | some d => rw [hq] at hs; exact ⟨name_back hq, by rw [← hs.1]; exact (lay_len hq).1⟩)
      have HF1 := Lib.hid (show (layS putN 2 [x]).isSome = false → m1 = 0 from fun h => by
        cases hq : layS putN 2 [x] with
        | none => rw [hq] at hs; exact hs.1.symm
        | some d => rw [hq] at h; cases h)
      obtain ⟨b1, hbb⟩ : ∃ b, (layS putN 2 [x]).isSome = b := ⟨_, rfl⟩
      rw [hbb] at HT1 HF1 ⊢
      obtain ⟨d1, hdd⟩ : ∃ d, (layS putN 2 [x]).getD [] = d := ⟨_, rfl⟩
      rw [hdd] at HT1 hs
      have HS1_1 := Lib.hid hs
      clear hs hb hbb hdd
      go_wp2_with fail
      refine (pprotos_any A1 k k1 l x1 (HS.out.below HB1.out) HLn.out (by omega) (fun y hy => by have := HK.out y hy; omega)).mono ?_
      rintro e x2 ⟨B2, m2, c2, rfl, hs, hmc2, hb⟩
      have HB2 := Lib.hid (HB1.out.trans (hb.mono HB1.out.size))
      have HS1_2 := Lib.hid (HS1_1.out.below hb)
      clear HS1_1
      have hml2 : m2 ≤ 70000 := by
        have h1 := hs.1
        cases hq : layS putP 2 l with
        | none => rw [hq] at h1; rw [← h1]; exact Nat.zero_le _
        | some d => rw [hq] at h1; have h2 := lay_len hq; have e1 : (256 : Nat) ^ 2 = 65536 := rfl; have e2 : (256 : Nat) ^ 1 = 256 := rfl; rw [← h1]; show d.length ≤ _; omega
      have HT2 := Lib.hid (show (layS putP 2 l).isSome = true → protoS ((layS putP 2 l).getD []) = (l, 0) ∧ 0 < m2 from fun h => by
        cases hq : layS putP 2 l with
        | none => rw [hq] at h; cases h
        | some d => rw [hq] at hs; exact ⟨proto_back hq, by rw [← hs.1]; exact (lay_len hq).1⟩)
      have HF2 := Lib.hid (show (layS putP 2 l).isSome = false → m2 = 0 from fun h => by
        cases hq : layS putP 2 l with
        | none => rw [hq] at hs; exact hs.1.symm
        | some d => rw [hq] at h; cases h)
      obtain ⟨b2, hbb⟩ : ∃ b, (layS putP 2 l).isSome = b := ⟨_, rfl⟩
      rw [hbb] at HT2 HF2 ⊢
      obtain ⟨d2, hdd⟩ : ∃ d, (layS putP 2 l).getD [] = d := ⟨_, rfl⟩
      rw [hdd] at HT2 hs
      have HS2_2 := Lib.hid hs
      clear hs hb hbb hdd HB1
      go_wp2_with fail
      refine (pvers_any A2 n2 k2 v x2 (HV.out.below HB2.out) HVn.out (by omega)).mono ?_
      rintro e x3 ⟨B3, m3, c3, rfl, hs, hmc3, hb⟩
      have HB3 := Lib.hid (HB2.out.trans (hb.mono HB2.out.size))
      have HS1_3 := Lib.hid (HS1_2.out.below hb)
      have HS2_3 := Lib.hid (HS2_2.out.below hb)
      clear HS1_2 HS2_2
      have hml3 : m3 ≤ 70000 := by
        have h1 := hs.1
        cases hq : layS putV 1 v with
        | none => rw [hq] at h1; rw [← h1]; exact Nat.zero_le _
        | some d => rw [hq] at h1; have h2 := lay_len hq; have e1 : (256 : Nat) ^ 2 = 65536 := rfl; have e2 : (256 : Nat) ^ 1 = 256 := rfl; rw [← h1]; show d.length ≤ _; omega
      have HT3 := Lib.hid (show (layS putV 1 v).isSome = true → verS ((layS putV 1 v).getD []) = (v, 0) ∧ 0 < m3 from fun h => by
        cases hq : layS putV 1 v with
        | none => rw [hq] at h; cases h
        | some d => rw [hq] at hs; exact ⟨ver_back hq, by rw [← hs.1]; exact (lay_len hq).1⟩)
      have HF3 := Lib.hid (show (layS putV 1 v).isSome = false → m3 = 0 from fun h => by
        cases hq : layS putV 1 v with
        | none => rw [hq] at hs; exact hs.1.symm
        | some d => rw [hq] at h; cases h)
      obtain ⟨b3, hbb⟩ : ∃ b, (layS putV 1 v).isSome = b := ⟨_, rfl⟩
      rw [hbb] at HT3 HF3 ⊢
      obtain ⟨d3, hdd⟩ : ∃ d, (layS putV 1 v).getD [] = d := ⟨_, rfl⟩
      rw [hdd] at HT3 hs
      have HS3_3 := Lib.hid hs
      clear hs hb hbb hdd HB2
      go_wp2_with fail
      refine (name_any B1 m1 c1 d1 x3 HS1_3.out (by omega)).mono ?_
      rintro e x4 ⟨rfl, hb⟩
      have HB4 := Lib.hid (HB3.out.trans (hb.mono HB3.out.size))
      have HS2_4 := Lib.hid (HS2_3.out.below hb)
      have HS3_4 := Lib.hid (HS3_3.out.below hb)
      obtain ⟨r, hr⟩ : ∃ r, nameS d1 = r := ⟨_, rfl⟩
      rw [hr] at HT1 ⊢
      obtain ⟨s1, e1⟩ := r
      simp only at HT1 ⊢
      clear hb hr HB3 HS1_3 HS2_3 HS3_3
      go_wp2_with fail
      refine (protos_any B2 m2 c2 d2 x4 HS2_4.out (by omega)).mono ?_
      rintro e x5 ⟨v1, rfl, ho, hll, hb⟩
      have HB5 := Lib.hid (HB4.out.trans (hb.mono HB4.out.size))
      have HS3_5 := Lib.hid (HS3_4.out.below hb)
      obtain ⟨r, hr⟩ : ∃ r, protoS d2 = r := ⟨_, rfl⟩
      rw [hr] at HT2 ho hll ⊢
      obtain ⟨l2, e2⟩ := r
      simp only at HT2 ho hll ⊢
      obtain ⟨A3, c4, rfl, _, _, hs3⟩ := ho.src fineS
      have HR5 := Lib.hid hs3
      obtain ⟨n3, hn3⟩ : ∃ n, l2.length = n := ⟨_, rfl⟩
      rw [hn3] at hll ⊢
      have HN3 := Lib.hid hn3
      clear hb hr HB4 HS2_4 HS3_4 ho hs3 hn3
      go_wp2_with fail
      refine (vers_any B3 m3 c3 d3 x5 HS3_5.out (by omega)).mono ?_
      rintro e x6 ⟨v2, rfl, ho, hll2, hb⟩
      have HB6 := Lib.hid (HB5.out.trans (hb.mono HB5.out.size))
      have HR6 := Lib.hid (HR5.out.below hb)
      obtain ⟨r, hr⟩ : ∃ r, verS d3 = r := ⟨_, rfl⟩
      rw [hr] at HT3 ho hll2 ⊢
      obtain ⟨l3, e3⟩ := r
      simp only at HT3 ho hll2 ⊢
      obtain ⟨A4, c5, rfl, _, _, hs4⟩ := ho.src fineI
      have HQ6 := Lib.hid hs4
      obtain ⟨n4, hn4⟩ : ∃ n, l3.length = n := ⟨_, rfl⟩
      rw [hn4] at hll2 ⊢
      have HN4 := Lib.hid hn4
      have HS6 := Lib.hid (HS.out.below HB6.out)
      have HV6 := Lib.hid (HV.out.below HB6.out)
      clear hb hr HB5 HS3_5 HR5 ho hs4 hn4
      go_upto_region 15 with fail
      cases b1 with
      | false =>
        cases b2 with
        | false =>
          cases b3 with
          | false =>
            have hm1 := HF1.out rfl
            subst hm1
            have hm2 := HF2.out rfl
            subst hm2
            have hm3 := HF3.out rfl
            subst hm3
            go_wp2_with fail
            go_ret
            exact ⟨rfl, HB6.out⟩
          | true =>
            have hm1 := HF1.out rfl
            subst hm1
            have hm2 := HF2.out rfl
            subst hm2
            obtain ⟨hg, hm3⟩ := HT3.out rfl
            injection hg with hg1 hg2
            subst hg1 hg2
            have hn4 : n4 = n2 := by rw [← HN4.out]; exact HVn.out
            subst hn4
            have hz3 : ((m3 : Int) == 0) = false := beq_eq_false_iff_ne.2 (by omega)
            go_wp2_with fail
            refine (rints_any A4 A2 n4 c5 k2 l3 x6 HQ6.out HV6.out HN4.out (by omega)).mono ?_
            rintro e x8 ⟨rfl, hdr⟩
            have HB8 := Lib.hid (HB6.out.trans ((drewB hdr.out).mono HB6.out.size))
            clear hdr
            go_wp2_with fail
            go_ret
            exact ⟨rfl, HB8.out⟩
        | true =>
          cases b3 with
          | false =>
            have hm1 := HF1.out rfl
            subst hm1
            obtain ⟨hf, hm2⟩ := HT2.out rfl
            injection hf with hf1 hf2
            subst hf1 hf2
            have hn3 : n3 = k := by rw [← HN3.out]; exact HLn.out
            subst hn3
            have hz2 : ((m2 : Int) == 0) = false := beq_eq_false_iff_ne.2 (by omega)
            have hz2b : (0 : Int) < (m2 : Int) := by omega
            have hm3 := HF3.out rfl
            subst hm3
            go_wp2_with fail
            refine (rrows_any A3 A1 n3 c4 k1 l2 x6 HR6.out HS6.out HN3.out (by omega)).mono ?_
            rintro e x7 ⟨rfl, hdr⟩
            have hbd := drewB hdr.out
            have HB7 := Lib.hid (HB6.out.trans (hbd.mono HB6.out.size))
            have HQ7 := Lib.hid (HQ6.out.below hbd)
            have HV7 := Lib.hid (HV6.out.below hbd)
            clear hbd hdr
            go_wp2_with fail
            go_ret
            exact ⟨rfl, HB7.out⟩
          | true =>
            have hm1 := HF1.out rfl
            subst hm1
            obtain ⟨hf, hm2⟩ := HT2.out rfl
            injection hf with hf1 hf2
            subst hf1 hf2
            have hn3 : n3 = k := by rw [← HN3.out]; exact HLn.out
            subst hn3
            have hz2 : ((m2 : Int) == 0) = false := beq_eq_false_iff_ne.2 (by omega)
            have hz2b : (0 : Int) < (m2 : Int) := by omega
            obtain ⟨hg, hm3⟩ := HT3.out rfl
            injection hg with hg1 hg2
            subst hg1 hg2
            have hn4 : n4 = n2 := by rw [← HN4.out]; exact HVn.out
            subst hn4
            have hz3 : ((m3 : Int) == 0) = false := beq_eq_false_iff_ne.2 (by omega)
            go_wp2_with fail
            refine (rrows_any A3 A1 n3 c4 k1 l2 x6 HR6.out HS6.out HN3.out (by omega)).mono ?_
            rintro e x7 ⟨rfl, hdr⟩
            have hbd := drewB hdr.out
            have HB7 := Lib.hid (HB6.out.trans (hbd.mono HB6.out.size))
            have HQ7 := Lib.hid (HQ6.out.below hbd)
            have HV7 := Lib.hid (HV6.out.below hbd)
            clear hbd hdr
            go_wp2_with fail
            refine (rints_any A4 A2 n4 c5 k2 l3 x7 HQ7.out HV7.out HN4.out (by omega)).mono ?_
            rintro e x8 ⟨rfl, hdr⟩
            have HB8 := Lib.hid (HB7.out.trans ((drewB hdr.out).mono HB7.out.size))
            clear hdr
            go_wp2_with fail
            go_ret
            exact ⟨rfl, HB8.out⟩
      | true =>
        cases b2 with
        | false =>
          cases b3 with
          | false =>
            obtain ⟨he, hm1⟩ := HT1.out rfl
            injection he with he1 he2
            subst he1 he2
            have hz1 : ((m1 : Int) == 0) = false := beq_eq_false_iff_ne.2 (by omega)
            have hm2 := HF2.out rfl
            subst hm2
            have hm3 := HF3.out rfl
            subst hm3
            go_wp2_with fail
            go_ret
            exact ⟨rfl, HB6.out⟩
          | true =>
            obtain ⟨he, hm1⟩ := HT1.out rfl
            injection he with he1 he2
            subst he1 he2
            have hz1 : ((m1 : Int) == 0) = false := beq_eq_false_iff_ne.2 (by omega)
            have hm2 := HF2.out rfl
            subst hm2
            obtain ⟨hg, hm3⟩ := HT3.out rfl
            injection hg with hg1 hg2
            subst hg1 hg2
            have hn4 : n4 = n2 := by rw [← HN4.out]; exact HVn.out
            subst hn4
            have hz3 : ((m3 : Int) == 0) = false := beq_eq_false_iff_ne.2 (by omega)
            go_wp2_with fail
            refine (rints_any A4 A2 n4 c5 k2 l3 x6 HQ6.out HV6.out HN4.out (by omega)).mono ?_
            rintro e x8 ⟨rfl, hdr⟩
            have HB8 := Lib.hid (HB6.out.trans ((drewB hdr.out).mono HB6.out.size))
            clear hdr
            go_wp2_with fail
            go_ret
            exact ⟨rfl, HB8.out⟩
        | true =>
          cases b3 with
          | false =>
            obtain ⟨he, hm1⟩ := HT1.out rfl
            injection he with he1 he2
            subst he1 he2
            have hz1 : ((m1 : Int) == 0) = false := beq_eq_false_iff_ne.2 (by omega)
            obtain ⟨hf, hm2⟩ := HT2.out rfl
            injection hf with hf1 hf2
            subst hf1 hf2
            have hn3 : n3 = k := by rw [← HN3.out]; exact HLn.out
            subst hn3
            have hz2 : ((m2 : Int) == 0) = false := beq_eq_false_iff_ne.2 (by omega)
            have hz2b : (0 : Int) < (m2 : Int) := by omega
            have hm3 := HF3.out rfl
            subst hm3
            go_wp2_with fail
            refine (rrows_any A3 A1 n3 c4 k1 l2 x6 HR6.out HS6.out HN3.out (by omega)).mono ?_
            rintro e x7 ⟨rfl, hdr⟩
            have hbd := drewB hdr.out
            have HB7 := Lib.hid (HB6.out.trans (hbd.mono HB6.out.size))
            have HQ7 := Lib.hid (HQ6.out.below hbd)
            have HV7 := Lib.hid (HV6.out.below hbd)
            clear hbd hdr
            go_wp2_with fail
            go_ret
            exact ⟨rfl, HB7.out⟩
          | true =>
            obtain ⟨he, hm1⟩ := HT1.out rfl
            injection he with he1 he2
            subst he1 he2
            have hz1 : ((m1 : Int) == 0) = false := beq_eq_false_iff_ne.2 (by omega)
            obtain ⟨hf, hm2⟩ := HT2.out rfl
            injection hf with hf1 hf2
            subst hf1 hf2
            have hn3 : n3 = k := by rw [← HN3.out]; exact HLn.out
            subst hn3
            have hz2 : ((m2 : Int) == 0) = false := beq_eq_false_iff_ne.2 (by omega)
            have hz2b : (0 : Int) < (m2 : Int) := by omega
            obtain ⟨hg, hm3⟩ := HT3.out rfl
            injection hg with hg1 hg2
            subst hg1 hg2
            have hn4 : n4 = n2 := by rw [← HN4.out]; exact HVn.out
            subst hn4
            have hz3 : ((m3 : Int) == 0) = false := beq_eq_false_iff_ne.2 (by omega)
            go_wp2_with fail
            refine (rrows_any A3 A1 n3 c4 k1 l2 x6 HR6.out HS6.out HN3.out (by omega)).mono ?_
            rintro e x7 ⟨rfl, hdr⟩
            have hbd := drewB hdr.out
            have HB7 := Lib.hid (HB6.out.trans (hbd.mono HB6.out.size))
            have HQ7 := Lib.hid (HQ6.out.below hbd)
            have HV7 := Lib.hid (HV6.out.below hbd)
            clear hbd hdr
            go_wp2_with fail
            refine (rints_any A4 A2 n4 c5 k2 l3 x7 HQ7.out HV7.out HN4.out (by omega)).mono ?_
            rintro e x8 ⟨rfl, hdr⟩
            have HB8 := Lib.hid (HB7.out.trans ((drewB hdr.out).mono HB7.out.size))
            clear hdr
            go_wp2_with fail
            go_ret
            exact ⟨rfl, HB8.out⟩

set_option maxRecDepth 100000 in
set_option linter.unusedVariables false in
theorem lifted (os : Os) (started : os.Started) (H : Type) (enc : TypeId × Value → H) :
    ReturnsInHanded {} Try.checked os 6 .any (Rows.extsBackSpec.pre6 enc Try.prog Try.f6 Rows.extsBackRow.domain false) (Rows.extsBackSpec.post enc Try.prog Try.f6 false true false false) := by
  refine returnsInHanded_of_change (C := Try.checked) own started (by kernel_rfl) Try.func6
    (ChangeSpec.witness6 (enc := enc) (C := Try.checked) false ⟨#[], #[.string .empty, .slice none 0 0, .slice none 0 0], []⟩ 8 (by kernel_rfl) (by kernel_rfl) (by kernel_rfl) (by kernel_rfl)) ?_
  intro W base args ds gs before hval0 hW hcnd _
  have hval : ∀ (j : Nat) t v, Try.f6.params[j]? = some t → args[j]? = some v → Value.okWide Try.prog W .any base t v := hval0
  have hW' := hW
  obtain ⟨p, q, hA0, hV, rfl, hfz, hnd⟩ := hW
  have hA : DataW.TrodAll enc Try.prog W 0 (fun _ => true) true Try.f6.params.toList args.toList ds p := hA0
  rw [Try.params6] at hA hval
  obtain ⟨v0, vs0, d0, ds0, p0, q0, hargs, rfl, rfl, h0, r0⟩ := trodAll_cons hA
  obtain ⟨v1, vs1, d1, ds1, p1, q1, rfl, rfl, rfl, h1, r1⟩ := trodAll_cons r0
  obtain ⟨v2, vs2, d2, ds2, p2, q2, rfl, rfl, rfl, h2, r2⟩ := trodAll_cons r1
  obtain ⟨rfl, rfl, rfl⟩ := trodAll_nil r2
  obtain rfl : args = #[v0, v1, v2] := by cases args; simp_all
  obtain ⟨rfl, rfl⟩ := trodVars_none hV
  have k0 := h0
  have lt0 : ∀ x ∈ p0, x.block < W.heap.size := by obtain ⟨m, hm⟩ := k0; exact DataW.trod_lt m _ _ _ hm
  obtain ⟨s0, rfl, rfl, rfl, hs0⟩ := open_string Try.underlying9 (hval 0 9 v0 rfl rfl) h0
  have k1 := h1
  have lt1 : ∀ x ∈ p1, x.block < W.heap.size := by obtain ⟨m, hm⟩ := k1; exact DataW.trod_lt m _ _ _ hm
  obtain ⟨A1, n1, cap1, xs1, rfl, le1, mx1, src1⟩ := open_strE (hval 1 27 v1 rfl rfl) h1
  have k2 := h2
  have lt2 : ∀ x ∈ p2, x.block < W.heap.size := by obtain ⟨m, hm⟩ := k2; exact DataW.trod_lt m _ _ _ hm
  obtain ⟨A2, n2, cap2, xs2, rfl, le2, mx2, src2⟩ := open_intE (hval 2 30 v2 rfl rfl) h2
  clear hA0 hval0
  refine (walk W s0 hs0 A1 n1 cap1 xs1 le1 mx1 src1 A2 n2 cap2 xs2 le2 mx2 src2).mono fun e W' ⟨he, bel⟩ => ?_
  subst he
  exact ⟨_, rfl, _, _, _, [], _, [], hW', trodAll_mk1 (shut_bool Try.underlying4 _), (trodAll_cons_mk (Below.trod laidOut (by kernel_rfl) (of_decide_eq_true (by kernel_rfl)) k0 bel lt0) (trodAll_cons_mk (Below.trod laidOut (by kernel_rfl) (of_decide_eq_true (by kernel_rfl)) k1 bel lt1) (trodAll_cons_mk (Below.trod laidOut (by kernel_rfl) (of_decide_eq_true (by kernel_rfl)) k2 bel lt2) trodAll_mk0))), rfl, bel.frame _, fun h => by cases h⟩

theorem over : Rows.extsBackRow.holds Try.pinned (OpenSpec.ofChange Rows.extsBackSpec) :=
  OpenClaim.holds_of_wide 6 Try.f6 rfl rfl rfl rfl rfl rfl rfl ⟨rfl, rfl, rfl, rfl, rfl⟩ rfl rfl rfl rfl rfl (by kernel_rfl) Try.func6 (by kernel_rfl)
    (of_decide_eq_true (by kernel_rfl)) (by unfold Func.isWrapper; first | (rw [if_pos (by decide +kernel)]; kernel_rfl) | (rw [if_neg (by decide +kernel)]; exact ⟨rfl, rfl⟩))
    (fun os started H enc _ => lifted os started H enc)

theorem proved : Rows.ExtsBackSaid := over
#print axioms proved
end Go.Proofs.Ytajmdchidmamcaa.extsBack
