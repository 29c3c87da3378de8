/-
 Contract of hagioscoperef09's laid over this seat's translation.
-/
import Derived.Test.YthfknndjdfofgaaGreatDoorR21
import Derived.Test.YthfknndjdfofgaaGreatDoorR22
namespace Go.Proofs.YthfknndjdfofgaaGreatDoor.He
open Go.RowKit Go.Proofs.YthfknndjdfofgaaGreatDoor.Wd Go.Proofs.YthfknndjdfofgaaGreatDoor.Be

def RLaidPost (w : World) (xs : List UInt8) (e : Ending) (w' : World) : Prop :=
 ∃ H, e = .returned (.tuple #[.agg H.C, .bool (okS xs)]) ∧ HOwq w' H ∧ (okS xs = true → H.hel = helS xs) ∧ (okS xs = false → H = Hv.zero) ∧ Below w.heap.size w w'
theorem Sq.at_ {w : World} {ad : Addr} {n c i : Nat} {cs : List UInt8} {a : UInt8} (h : Sq w (.slice (some ad) n c) cs) (ha : cs[i]? = some a) : w.cell? (ad.add i) = some (.int .u8 (a.toNat : Int)) := by
 obtain ⟨h1, _, h3⟩ := h.nc
 have := (List.getElem?_eq_some_iff.1 ha).1
 obtain ⟨ad', e, _, hc⟩ := h3.2 (by omega)
 injection e with e
 subst e
 exact hc i a ha
theorem Sq.capd {w : World} {v : Value} {xs : List UInt8} (h : Sq w v xs) : ∃ A c, v = .slice A xs.length c ∧ xs.length ≤ c ∧ c ≤ 9223372036854775807 ∧ Src w A xs.length xs := by
 obtain ⟨A, c, rfl, h1, h2⟩ := Own.src h
 refine ⟨A, c, rfl, h1, ?_, h2⟩
 obtain ⟨_, ⟨e, _⟩ | ⟨g, cap, cur, e, _, _, _, hm, _⟩⟩ := h
 · injection e with _ _ e; omega
 · injection e with _ _ e; unfold maxLen at hm; omega
theorem rem_odd (n : Nat) (h : n % 2 = 0) : ((n : Int).tmod 2 == 1) = false := by
 rw [beq_eq_false_iff_ne, Int.tmod_eq_emod_of_nonneg (by omega)]; omega
theorem rem_even (n : Nat) (h : ¬ n % 2 = 0) : ((n : Int).tmod 2 == 1) = true := by
 rw [beq_iff_eq, Int.tmod_eq_emod_of_nonneg (by omega)]; omega

set_option linter.unusedSimpArgs false in
set_option maxRecDepth 100000 in
set_option maxHeartbeats 2000000 in
theorem rlaid_any (A : Option Addr) (n c : Nat) (xs : List UInt8) (w : World) (hs : Src w A n xs) (hn : n ≤ 100000) (hnc : n ≤ c) (hc : c ≤ 9223372036854775807) :
   Calls Tryz.prog 81 #[.slice A n c] w (RLaidPost w xs) := by
 have h1 : LdAt w (w.heap.size + 1 + 1) (w.heap.size + 1) Hv.zero (some xs) (((w.alloc (.cells Hv.zero.C 68)).alloc (.cells #[.slice A n c, .int .i64 0, .bool false] 160)).alloc (.cells Hv.zero.C 68)) := by
   have hr := Rq.new (B := w.heap.size + 1) (hs.alloc (.cells Hv.zero.C 68)) hn hnc hc (by rw [alloc_size])
   rw [alloc_size] at hr
   exact ⟨⟨blk_at _ _ _ _ _ (by rw [alloc_size, alloc_size]) rfl, HOwq.zero _⟩, hr.below ((Below.refl _ _).alloc (Nat.le_refl _) _), ((Blk.new w _ _).alloc _).alloc _, (((Below.refl _ _).alloc (Nat.le_refl _) _).alloc (by simp) _).alloc (by simp; omega) _, by omega, by omega⟩
 have H1 := Lib.hid h1
 clear h1 hs hn hnc hc
 go_enter Tryz.func81, Tryz.ntmps81
 go_upto_region 3 with fail
 rw [← zeroC]
 generalize ((w.alloc (.cells Hv.zero.C 68)).alloc (.cells #[.slice A n c, .int .i64 0, .bool false] 160)).alloc (.cells Hv.zero.C 68) = w1 at *
 obtain ⟨g, hg⟩ : ∃ g, g = w.heap.size + 1 + 1 := ⟨_, rfl⟩
 obtain ⟨y, hy⟩ : ∃ y, y = w.heap.size + 1 := ⟨_, rfl⟩
 rw [← hg, ← hy] at H1 ⊢
 clear hg hy
 -- Version
 go_wp2_with fail
 refine (qnum_any H1.out.rd 2).mono ?_
 rintro e w2 ⟨rfl, hrd2, hg2⟩
 have H2 := Lib.hid (H1.out.read hrd2 hg2)
 have hc := cell_ver H2.out.at_.blk
 have hf := H2.out.at_.blk.frozen 0
 have hsm := num_small (some xs)
 clear hrd2 hg2 H1
 have HV := Lib.hid (show sV xs = numS (some xs) 2 from rfl)
 generalize numS (some xs) 2 = p1 at *
 go_wp2_with fail
 have H3 := Lib.hid ((H2.out.set_ 0 _ (H2.out.at_.set_ver (p1.1 : Int) (by omega))).drew)
 clear H2 hc hf hsm
 generalize (w2.setCell ⟨g, 0, none⟩ (.int .i64 (p1.1 : Int))) = w3 at *
 have HT := Lib.hid (show sR xs = takeS p1.2 32 by rw [sR, HV.out])
 go_region_held_law (fun _ => True) (exact True.intro) (first
   | (go_simp; go_at_call 134; refine (qtake_any H3.out.rd 32).mono ?_; rintro e w4 ⟨v4, rfl, hsl4, hrd4, hg4⟩
      have H4 := Lib.hid (H3.out.read hrd4 hg4); have hlen4 := takeS_len p1.2 32 (by decide); generalize takeS p1.2 32 = p2 at *
      obtain ⟨A4, c4, hv4, _, hs4⟩ := hsl4.src; rw [hv4]; have HS4 := Lib.hid hs4; clear hrd4 hg4 hsl4 hv4 hs4)
   | (refine step_copy_rndq (some 21) rfl rfl (.tmp 18) (.tmp 20) rfl g 32 _ _ _ _ _ rfl rfl (by exact H4.out.at_) rfl (by exact HS4.out) (by exact hlen4) ?_; intro w5 N5 HH5 HG5))
 have H5 := Lib.hid (show LdAt w g y ⟨(p1.1 : Int), rowR p2.1, none, 0, [], none, 0, [], none, 0, [], false, none, 0, []⟩ p2.2 w5 from H4.out.turn HH5.out HG5.out)
 clear H3 H4 HH5 HG5 HS4 hlen4
 -- Session
 go_wp2_with fail
 refine (qvec_any H5.out.rd 1).mono ?_
 rintro e w6 ⟨v6, rfl, hsl6, hrd6, hg6⟩
 have H6 := Lib.hid (H5.out.read hrd6 hg6)
 have hsm := vec1_small p2.2
 have HV3 := Lib.hid (show sS xs = vecS p2.2 1 by rw [sS, HT.out])
 generalize vecS p2.2 1 = p3 at *
 obtain ⟨A6, c6, hv6⟩ := Sq.form hsl6
 rw [hv6] at hsl6 ⊢
 have H7 := Lib.hid (H6.out.set_ 33 _ (H6.out.at_.set_ses A6 c6 p3.1 hsl6 hsm))
 have hc := cell_ses H6.out.at_.blk H6.out.at_.own.rnd
 have hf := H6.out.at_.blk.frozen 33
 clear hsl6 hrd6 hg6 hv6 H5 hsm H6
 go_wp2_with fail
 generalize w6.setCell ⟨g, 33, none⟩ (.slice A6 p3.1.length c6) = w7 at *
 clear hc hf
 -- the ciphers' bytes
 refine (qvec_any H7.out.rd 2).mono ?_
 rintro e w8 ⟨v8, rfl, hsl8, hrd8, hg8⟩
 have H8 := Lib.hid (H7.out.read hrd8 hg8)
 have hsm4 := vec_small p3.2
 have HV4 := Lib.hid (show sC xs = vecS p3.2 2 by rw [sC, HV3.out])
 generalize vecS p3.2 2 = p4 at *
 obtain ⟨A8, c8, hv8, _, hs8⟩ := hsl8.src
 rw [hv8] at hsl8 ⊢
 have HQ8 := Lib.hid hsl8
 clear hsl8 hrd8 hg8 hv8 H7 hs8
 -- Methods
 go_wp2_with fail
 refine (qvec_any H8.out.rd 1).mono ?_
 rintro e w11 ⟨v11, rfl, hsl11, hrd11, hg11⟩
 have H11 := Lib.hid (H8.out.read hrd11 hg11)
 obtain ⟨cs8, hblk8⟩ := H8.out.rd.blk
 have HQ11 := Lib.hid (Sq.off (T := (· = 5)) HQ8.out hg11 (OffT.of_blk hblk8 (by decide)) rfl)
 have hsm := vec1_small p4.2
 have HV5 := Lib.hid (show sM xs = vecS p4.2 1 by rw [sM, HV4.out])
 generalize vecS p4.2 1 = p5 at *
 obtain ⟨A11, c11, hv11⟩ := Sq.form hsl11
 rw [hv11] at hsl11 ⊢
 have H12 := Lib.hid (H11.out.set_ 35 _ (H11.out.at_.set_met A11 c11 p5.1 hsl11 hsm))
 have HQ12 := Lib.hid (Sq.off (T := (· = 5)) HQ11.out (only_setCell (p := ⟨g, 35, none⟩) (only_refl w11 (some g)) (.inl rfl) (.slice A11 p5.1.length c11)) (OffT.of_blk H11.out.at_.blk (by decide)) rfl)
 have hc := cell_met H11.out.at_.blk H11.out.at_.own.rnd
 have hf := H11.out.at_.blk.frozen 35
 clear hsl11 hrd11 hg11 hv11 H8 hsm H11 HQ8 HQ11 hblk8
 go_upto_region 8 with fail
 generalize w11.setCell ⟨g, 35, none⟩ (.slice A11 p5.1.length c11) = w12 at *
 clear hc hf
 have HR := H12
 clear H12
 have hbad := HR.out.rd.bad
 have hm := cell_met HR.out.at_.blk HR.out.at_.own.rnd
 cases hnone : p5.2.isNone with
 | true =>
   rw [hnone] at hbad
   have HF := Lib.hid (ok_go1 (show go1 xs = false by unfold go1; rw [HV4.out, HV5.out, hnone]; rfl))
   go_wp2_with (first
     | (refine go_bd0 68 _ builtH rfl rfl ?_)
     | (refine go_st 68 HR.out.res infH (Hv.size rfl) (Hv.size rfl) (Hv.one _) rfl rfl rfl rfl ?_))
   exact ret_two Tryz.results81 (setRow_blk HR.out.res) undH rfl infH (Hv.size rfl) rfl rfl ⟨Hv.zero, by rw [HF.out]; rfl, HOwq.zero _, (fun h => by rw [HF.out] at h; cases h), fun _ => rfl, setRow_below HR.out.bel (Nat.le_refl _) _⟩ rfl
 | false =>
   rw [hnone] at hbad
   by_cases h2 : 2 ≤ p4.1.length
   case neg =>
     have HF := Lib.hid (ok_go1 (show go1 xs = false by unfold go1; rw [HV4.out, HV5.out, decide_eq_false h2, Bool.false_and, Bool.and_false]))
     go_wp2_with (first
       | (refine go_bd0 68 _ builtH rfl rfl ?_)
       | (refine go_st 68 HR.out.res infH (Hv.size rfl) (Hv.size rfl) (Hv.one _) rfl rfl rfl rfl ?_))
     exact ret_two Tryz.results81 (setRow_blk HR.out.res) undH rfl infH (Hv.size rfl) rfl rfl ⟨Hv.zero, by rw [HF.out]; rfl, HOwq.zero _, (fun h => by rw [HF.out] at h; cases h), fun _ => rfl, setRow_below HR.out.bel (Nat.le_refl _) _⟩ rfl
   by_cases hev : p4.1.length % 2 = 0
   case neg =>
     have hre := rem_even _ hev
     have HF := Lib.hid (ok_go1 (show go1 xs = false by unfold go1; rw [HV4.out, HV5.out, decide_eq_false hev, Bool.false_and, Bool.and_false, Bool.and_false]))
     go_wp2_with (first
       | (refine go_bd0 68 _ builtH rfl rfl ?_)
       | (refine go_st 68 HR.out.res infH (Hv.size rfl) (Hv.size rfl) (Hv.one _) rfl rfl rfl rfl ?_))
     exact ret_two Tryz.results81 (setRow_blk HR.out.res) undH rfl infH (Hv.size rfl) rfl rfl ⟨Hv.zero, by rw [HF.out]; rfl, HOwq.zero _, (fun h => by rw [HF.out] at h; cases h), fun _ => rfl, setRow_below HR.out.bel (Nat.le_refl _) _⟩ rfl
   have hro := rem_odd _ hev
   by_cases hme : 0 < p5.1.length
   case neg =>
     have hb5 : ((p5.1.length : Int) == 0) = true := by rw [beq_iff_eq]; omega
     have HF := Lib.hid (ok_go1 (show go1 xs = false by unfold go1; rw [HV4.out, HV5.out, decide_eq_false hme, Bool.and_false, Bool.and_false, Bool.and_false]))
     go_wp2_with (first
       | (refine go_bd0 68 _ builtH rfl rfl ?_)
       | (refine go_st 68 HR.out.res infH (Hv.size rfl) (Hv.size rfl) (Hv.one _) rfl rfl rfl rfl ?_))
     exact ret_two Tryz.results81 (setRow_blk HR.out.res) undH rfl infH (Hv.size rfl) rfl rfl ⟨Hv.zero, by rw [HF.out]; rfl, HOwq.zero _, (fun h => by rw [HF.out] at h; cases h), fun _ => rfl, setRow_below HR.out.bel (Nat.le_refl _) _⟩ rfl
   have hb5 : ((p5.1.length : Int) == 0) = false := by rw [beq_eq_false_iff_ne]; omega
   have HG1 := Lib.hid (show go1 xs = true by unfold go1; rw [HV4.out, HV5.out, hnone, decide_eq_true h2, decide_eq_true hev, decide_eq_true hme]; rfl)
   obtain ⟨l, e1, e2, e3, e4, e5⟩ := go1_nums HG1.out
   rw [HV4.out] at e1 e3 e5
   obtain ⟨HZ, hHZ⟩ : ∃ HZ, HZ = Hv.mk (p1.1 : Int) (rowR p2.1) A6 c6 p3.1 none 0 [] A11 c11 p5.1 false none 0 [] := ⟨_, rfl⟩
   have HC0 : Hid (LcAt w g y HZ p5.2 A8 p4.1.length c8 p4.1 none 0 [] w12) := by rw [hHZ]; exact LdAt.start HR.out ⟨rfl, rfl, rfl⟩ HQ12.out
   have HHZ := Lib.hid hHZ
   have HE1 := Lib.hid e1
   have HE2 := Lib.hid e2
   have HE5 := Lib.hid e5
   have hln : l.length < 32768 := by omega
   obtain ⟨nl, hnl⟩ : ∃ nl, nl = p4.1.length := ⟨_, rfl⟩
   rw [← hnl] at HC0 e3
   have HE3 := Lib.hid e3
   rw [← hnl] at h2 hro hsm4 hev
   rw [← hnl]
   have HNl := Lib.hid hnl
   have hmo : ¬ ((nl : Int) % 2 = 1) := by omega
   have hmo2 : ((nl : Int) % 2 == 1) = false := by rw [beq_eq_false_iff_ne]; omega
   clear hHZ e1 e2 e3 e4 e5 hnone hnl HQ12 HR
   go_wp2_with fail
   clear hbad hm hro h2 hb5 hev hmo hmo2
   go_loopw [7] (fun i wr => ∃ k A c, k ≤ l.length ∧ i = .int .i64 ((2 * k : Nat) : Int) ∧ Hid (LcAt w g y HZ p5.2 A8 nl c8 p4.1 A c (l.take k) wr)) (fun i _ => nl - (intOf i).toNat)
   case atStart => exact ⟨0, none, 0, Nat.zero_le _, rfl, by rw [List.take_zero]; exact HC0⟩
   case round =>
     clear HC0
     obtain ⟨k, A, c, hk, rfl, HC⟩ := hrel
     by_cases hlt : k < l.length
     · have hki : ((2 * k : Nat) : Int) < (nl : Int) := by have := HE3.out; omega
       obtain ⟨a, ha⟩ : ∃ a, p4.1[2 * k]? = some a := ⟨_, List.getElem?_eq_getElem (by have := HE3.out; have := HNl.out; omega)⟩
       obtain ⟨b, hb⟩ : ∃ b, p4.1[2 * k + 1]? = some b := ⟨_, List.getElem?_eq_getElem (by have := HE3.out; have := HNl.out; omega)⟩
       have hz := HE5.out k a b ha hb
       obtain ⟨ad, hA8, _, _⟩ := (Sq.nc HC.out.sq).2.2.2 (by have := HE3.out; omega)
       subst hA8
       have HT1 := Lib.hid (show l.take (k + 1) = l.take k ++ [(a.toNat : Int) * 256 + (b.toNat : Int)] by rw [List.take_add_one, hz]; rfl)
       have hml : (l.take k).length ≤ 65535 := by rw [List.length_take]; omega
       generalize l.take k = m at *
       have HHa := Lib.hid ha
       have HHb := Lib.hid hb
       have hva := a.toNat_lt
       have hvb := b.toNat_lt
       have HCD := Lib.hid (HC.out.below (Below.refl wr.heap.size wr).drew)
       obtain ⟨va, hva'⟩ : ∃ va : Nat, va = a.toNat := ⟨_, rfl⟩
       obtain ⟨vb, hvb'⟩ : ∃ vb : Nat, vb = b.toNat := ⟨_, rfl⟩
       have HCa : Hid (∀ w', Sq w' (.slice (some ad) nl c8) p4.1 → w'.cell? (ad.add (2 * k)) = some (.int .u8 (va : Int)) ∧ w'.cell? (ad.add (2 * k + 1)) = some (.int .u8 (vb : Int))) := fun w' h => by rw [hva', hvb']; exact ⟨h.at_ HHa.out, h.at_ HHb.out⟩
       rw [← hva'] at hva HT1
       rw [← hvb'] at hvb HT1
       have hnc := (Sq.nc HC.out.sq).2.1
       clear hva' hvb' hz ha hb
       obtain ⟨i, hi⟩ : ∃ i, i = 2 * k := ⟨_, rfl⟩
       rw [← hi] at HCa hki
       rw [← hi]
       obtain ⟨j, hj⟩ : ∃ j, j = i + 1 := ⟨_, rfl⟩
       rw [← hj] at HCa
       have hj1 : i + 1 ≤ j := by omega
       have hj2 : j ≤ i + 1 := by omega
       clear hj
       have HI := Lib.hid hi
       have h34 : wr.drew.cell? ⟨g, 34, none⟩ = some (.slice A m.length c) := cell_cph HCD.out.blk HCD.out.own.rnd
       have hi2 : i < 65536 := by omega
       have hki2 : (j : Int) < (nl : Int) := by have := HE3.out; have := HI.out; omega
       clear hi
       go_upto_region 13 with fail
       refine wp_region_held_drew (S := fun w' => w'.cell? (ad.add i) = some (.int .u8 (va : Int)) ∧ w'.cell? (ad.add j) = some (.int .u8 (vb : Int))) (by kernel_rfl) (HCa.out _ HCD.out.sq) (fun h0 => ?_)
       refine hd_take 0 (some 58) (.pointer (some ⟨g, 34, none⟩)) rfl rfl (by kernel_rfl) (by kernel_rfl) (by kernel_rfl) (fun _ _ _ h => h) (Or.inl ⟨by rfl, fun w hw => by go_simp⟩) h0 ?_
       simp only [Act.put, List.setIfInBounds_toArray, List.set_cons_zero, List.set_cons_succ]
       refine hd_take 2 (some 60) (.slice (some ad) nl c8) rfl rfl (by kernel_rfl) (by kernel_rfl) (by kernel_rfl) (fun _ _ _ h => h) (Or.inl ⟨by rfl, fun w hw => by go_simp⟩) h0 ?_
       simp only [Act.put, List.setIfInBounds_toArray, List.set_cons_zero, List.set_cons_succ]
       refine hd_take 3 (some 61) (.int .i64 (i : Int)) rfl rfl (by kernel_rfl) (by kernel_rfl) (by kernel_rfl) (fun _ _ _ h => h) (Or.inl ⟨by rfl, fun w hw => by go_simp⟩) h0 ?_
       simp only [Act.put, List.setIfInBounds_toArray, List.set_cons_zero, List.set_cons_succ]
       refine hd_take 4 (some 62) (.pointer (some (ad.add i))) rfl rfl (by kernel_rfl) (by kernel_rfl) (by kernel_rfl) (fun _ _ _ h => h) (Or.inl ⟨by rfl, fun w hw => by go_simp⟩) h0 ?_
       simp only [Act.put, List.setIfInBounds_toArray, List.set_cons_zero, List.set_cons_succ]
       refine hd_take 5 (some 63) (.int .u8 (va : Int)) rfl rfl (by kernel_rfl) (by kernel_rfl) (by kernel_rfl) (fun _ _ _ h => h) (Or.inl ⟨by rfl, fun w hw => by have hx := hw.1; go_simp⟩) h0 ?_
       simp only [Act.put, List.setIfInBounds_toArray, List.set_cons_zero, List.set_cons_succ]
       refine hd_take 6 (some 64) (.int .i64 (va : Int)) rfl rfl (by kernel_rfl) (by kernel_rfl) (by kernel_rfl) (fun _ _ _ h => h) (Or.inl ⟨by rfl, fun w hw => by go_simp <;> (first | exact IntWalk.i64_in _ (by omega) | (rw [IntWalk.i64_in _ (by omega)]; omega))⟩) h0 ?_
       simp only [Act.put, List.setIfInBounds_toArray, List.set_cons_zero, List.set_cons_succ]
       refine hd_take 7 (some 65) (.int .i64 ((va : Int) * 256)) rfl rfl (by kernel_rfl) (by kernel_rfl) (by kernel_rfl) (fun _ _ _ h => h) (Or.inl ⟨by rfl, fun w hw => by go_simp <;> (first | exact IntWalk.i64_in _ (by omega) | (rw [IntWalk.i64_in _ (by omega)]; omega))⟩) h0 ?_
       simp only [Act.put, List.setIfInBounds_toArray, List.set_cons_zero, List.set_cons_succ]
       refine hd_take 8 (some 66) (.slice (some ad) nl c8) rfl rfl (by kernel_rfl) (by kernel_rfl) (by kernel_rfl) (fun _ _ _ h => h) (Or.inl ⟨by rfl, fun w hw => by go_simp⟩) h0 ?_
       simp only [Act.put, List.setIfInBounds_toArray, List.set_cons_zero, List.set_cons_succ]
       refine hd_take 9 (some 67) (.int .i64 (i : Int)) rfl rfl (by kernel_rfl) (by kernel_rfl) (by kernel_rfl) (fun _ _ _ h => h) (Or.inl ⟨by rfl, fun w hw => by go_simp⟩) h0 ?_
       simp only [Act.put, List.setIfInBounds_toArray, List.set_cons_zero, List.set_cons_succ]
       refine hd_take 10 (some 68) (.int .i64 (j : Int)) rfl rfl (by kernel_rfl) (by kernel_rfl) (by kernel_rfl) (fun _ _ _ h => h) (Or.inl ⟨by rfl, fun w hw => by go_simp <;> (first | exact IntWalk.i64_in _ (by omega) | (rw [IntWalk.i64_in _ (by omega)]; omega))⟩) h0 ?_
       simp only [Act.put, List.setIfInBounds_toArray, List.set_cons_zero, List.set_cons_succ]
       refine hd_take 11 (some 69) (.pointer (some (ad.add j))) rfl rfl (by kernel_rfl) (by kernel_rfl) (by kernel_rfl) (fun _ _ _ h => h) (Or.inl ⟨by rfl, fun w hw => by go_simp⟩) h0 ?_
       simp only [Act.put, List.setIfInBounds_toArray, List.set_cons_zero, List.set_cons_succ]
       refine hd_take 12 (some 70) (.int .u8 (vb : Int)) rfl rfl (by kernel_rfl) (by kernel_rfl) (by kernel_rfl) (fun _ _ _ h => h) (Or.inl ⟨by rfl, fun w hw => by have hx := hw.2; go_simp⟩) h0 ?_
       simp only [Act.put, List.setIfInBounds_toArray, List.set_cons_zero, List.set_cons_succ]
       refine hd_take 13 (some 71) (.int .i64 (vb : Int)) rfl rfl (by kernel_rfl) (by kernel_rfl) (by kernel_rfl) (fun _ _ _ h => h) (Or.inl ⟨by rfl, fun w hw => by go_simp <;> (first | exact IntWalk.i64_in _ (by omega) | (rw [IntWalk.i64_in _ (by omega)]; omega))⟩) h0 ?_
       simp only [Act.put, List.setIfInBounds_toArray, List.set_cons_zero, List.set_cons_succ]
       refine hd_take 14 (some 72) (.int .i64 ((va : Int) * 256 + (vb : Int))) rfl rfl (by kernel_rfl) (by kernel_rfl) (by kernel_rfl) (fun _ _ _ h => h) (Or.inl ⟨by rfl, fun w hw => by go_simp <;> (first | exact IntWalk.i64_in _ (by omega) | (rw [IntWalk.i64_in _ (by omega)]; omega))⟩) h0 ?_
       simp only [Act.put, List.setIfInBounds_toArray, List.set_cons_zero, List.set_cons_succ]
       have HA := Lib.hid (HCD.out.below ((Below.refl wr.drew.heap.size wr.drew).alloc (Nat.le_refl _) (.cells #[.int .i64 ((va : Int) * 256 + (vb : Int))] 3)))
       have hnew : (wr.drew.alloc (.cells #[.int .i64 ((va : Int) * 256 + (vb : Int))] 3)).cell? ⟨wr.heap.size, 0, none⟩ = some (.int .i64 ((va : Int) * 256 + (vb : Int))) := by
         have hb := Blk.new wr.drew 3 #[.int .i64 ((va : Int) * 256 + (vb : Int))]
         have := hb.cell 0
         exact this
       have h34a : (wr.drew.alloc (.cells #[.int .i64 ((va : Int) * 256 + (vb : Int))] 3)).cell? ⟨g, 34, none⟩ = some (.slice A m.length c) := cell_cph HA.out.blk HA.out.own.rnd
       have h34c : ((wr.alloc (.cells #[.int .i64 ((va : Int) * 256 + (vb : Int))] 3)).drew).cell? ⟨g, 34, none⟩ = some (.slice A m.length c) := h34a
       have HNw := Lib.hid hnew
       have HG0 := Lib.hid HA.out.gB
       have hsz : w.heap.size + 1 ≤ (wr.drew.alloc (.cells #[.int .i64 ((va : Int) * 256 + (vb : Int))] 3)).heap.size := by have := HA.out.blk.lt; have := HG0.out; omega
       have HSz := Lib.hid hsz
       clear hnew hsz
       refine wpAnyH_ready (rs := [1, 15]) (by kernel_rfl) (by simp) (AllReadyH.cons rfl (fun K hK => ?_) (AllReadyH.cons rfl (fun K hK => ?_) AllReadyH.nil))
       · go_simp
         refine hK.out _ _ (HCa.out _ HCD.out.sq) (fun h1 => ?_)
         clear hK K
         refine wpAnyH_ready (rs := [15]) (by kernel_rfl) (by simp) (AllReadyH.cons rfl (fun K hK => ?_) AllReadyH.nil)
         go_simp
         refine hK.out _ _ (HCa.out _ HA.out.sq) (fun h1 => ?_)
         clear hK K
         refine wpAnyH_ready (rs := [16]) (by kernel_rfl) (by simp) (AllReadyH.cons rfl (fun K hK => ?_) AllReadyH.nil)
         refine wp_appI (.tmp 59) (.tmp 73) rfl (w.heap.size + 1) (.slice A m.length c) m rfl HA.out.cph wr.heap.size 1 ((va : Int) * 256 + (vb : Int)) rfl HNw.out (by omega) HSz.out ?_
         intro v5 w5 ho5 hg5
         obtain ⟨A5, c5, hv5⟩ := OwnI.form ho5.out
         have HO5 := Lib.hid (show OwnI w5 (w.heap.size + 1) (.slice A5 (m ++ [(va : Int) * 256 + (vb : Int)]).length c5) (m ++ [(va : Int) * 256 + (vb : Int)]) by rw [← hv5]; exact ho5.out)
         rw [hv5]
         have HRw := Lib.hid (HA.out.row hg5.out HO5.out)
         have HP := Lib.hid (HA.out.push hg5.out HO5.out)
         have h34b := cell_cph HRw.out.2.1 HRw.out.1.rnd
         have hfz := HRw.out.2.1.frozen 34
         refine hK.out _ _ (HCa.out _ HRw.out.2.2.2.2.2) (fun h1 => ?_)
         clear hK K ho5 hv5
         obtain ⟨ml, hml2⟩ : ∃ ml, ml = (m ++ [(va : Int) * 256 + (vb : Int)]).length := ⟨_, rfl⟩
         rw [← hml2] at HP ⊢
         clear hml2
         refine hd_take 17 (some 75) (.pointer (some ⟨g, 34, none⟩)) rfl rfl (by kernel_rfl) (by kernel_rfl) (by kernel_rfl) (fun _ _ _ h => h) (Or.inl ⟨by rfl, fun w hw => by go_simp⟩) h1 ?_
         simp only [Act.put, List.setIfInBounds_toArray, List.set_cons_zero, List.set_cons_succ]
         refine wpAnyH_ready (rs := [18]) (by kernel_rfl) (by simp) (AllReadyH.cons rfl (fun K hK => ?_) AllReadyH.nil)
         go_simp
         refine hK.out _ _ (HCa.out _ HP.out.sq) (fun h1 => ?_)
         clear hK K
         refine wpAnyH_done (by kernel_rfl) ?_ _
         clear h1 h0 h34 h34a h34b h34c hfz HA HNw HSz HG0 HRw HO5 hg5 HCD HC
         generalize w5.setCell ⟨g, 34, none⟩ (.slice A5 ml c5) = w6 at *
         have hi3 := HI.out
         subst hi3
         go_wp2_with fail
         go_roundw
         case rel => exact ⟨k + 1, A5, c5, by omega, by go_num, by rw [HT1.out]; exact HP⟩
         case measure => have := HE3.out; simp [intOf]; omega
       · go_simp
         refine hK.out _ _ (HCa.out _ HA.out.sq) (fun h1 => ?_)
         clear hK K
         refine wpAnyH_ready (rs := [1]) (by kernel_rfl) (by simp) (AllReadyH.cons rfl (fun K hK => ?_) AllReadyH.nil)
         go_simp
         refine hK.out _ _ (HCa.out _ HA.out.sq) (fun h1 => ?_)
         clear hK K
         refine wpAnyH_ready (rs := [16]) (by kernel_rfl) (by simp) (AllReadyH.cons rfl (fun K hK => ?_) AllReadyH.nil)
         refine wp_appI (.tmp 59) (.tmp 73) rfl (w.heap.size + 1) (.slice A m.length c) m rfl HA.out.cph wr.heap.size 1 ((va : Int) * 256 + (vb : Int)) rfl HNw.out (by omega) HSz.out ?_
         intro v5 w5 ho5 hg5
         obtain ⟨A5, c5, hv5⟩ := OwnI.form ho5.out
         have HO5 := Lib.hid (show OwnI w5 (w.heap.size + 1) (.slice A5 (m ++ [(va : Int) * 256 + (vb : Int)]).length c5) (m ++ [(va : Int) * 256 + (vb : Int)]) by rw [← hv5]; exact ho5.out)
         rw [hv5]
         have HRw := Lib.hid (HA.out.row hg5.out HO5.out)
         have HP := Lib.hid (HA.out.push hg5.out HO5.out)
         have h34b := cell_cph HRw.out.2.1 HRw.out.1.rnd
         have hfz := HRw.out.2.1.frozen 34
         refine hK.out _ _ (HCa.out _ HRw.out.2.2.2.2.2) (fun h1 => ?_)
         clear hK K ho5 hv5
         obtain ⟨ml, hml2⟩ : ∃ ml, ml = (m ++ [(va : Int) * 256 + (vb : Int)]).length := ⟨_, rfl⟩
         rw [← hml2] at HP ⊢
         clear hml2
         refine hd_take 17 (some 75) (.pointer (some ⟨g, 34, none⟩)) rfl rfl (by kernel_rfl) (by kernel_rfl) (by kernel_rfl) (fun _ _ _ h => h) (Or.inl ⟨by rfl, fun w hw => by go_simp⟩) h1 ?_
         simp only [Act.put, List.setIfInBounds_toArray, List.set_cons_zero, List.set_cons_succ]
         refine wpAnyH_ready (rs := [18]) (by kernel_rfl) (by simp) (AllReadyH.cons rfl (fun K hK => ?_) AllReadyH.nil)
         go_simp
         refine hK.out _ _ (HCa.out _ HP.out.sq) (fun h1 => ?_)
         clear hK K
         refine wpAnyH_done (by kernel_rfl) ?_ _
         clear h1 h0 h34 h34a h34b h34c hfz HA HNw HSz HG0 HRw HO5 hg5 HCD HC
         generalize w5.setCell ⟨g, 34, none⟩ (.slice A5 ml c5) = w6 at *
         have hi3 := HI.out
         subst hi3
         go_wp2_with fail
         go_roundw
         case rel => exact ⟨k + 1, A5, c5, by omega, by go_num, by rw [HT1.out]; exact HP⟩
         case measure => have := HE3.out; simp [intOf]; omega
     · obtain rfl : k = l.length := by omega
       rw [List.take_length] at HC
       have HD := Lib.hid (HC.out.done (by omega) HE2.out)
       have hge : (nl : Int) ≤ ((2 * l.length : Nat) : Int) := by have := HE3.out; omega
       have HHel := Lib.hid (show ∀ (hs : Bool) (xe : List (Int × List UInt8)), hasS xs = hs → (eS xs).1 = xe → helS xs = ⟨(p1.1 : Int), rowR p2.1, p3.1, l, p5.1, hs, xe⟩ from fun hs xe h1 h2 => by
         unfold helS
         rw [h1, h2, HV.out, HT.out, HV3.out, HV4.out, HE1.out, HV5.out])
       clear HC hlt
       go_wp2_with fail
       refine (qleft_any HD.out.rd).mono ?_
       rintro e w13 ⟨rfl, j, rfl⟩
       have HD1 := Lib.hid (HD.out.more (drewN_below wr j))
       by_cases hz : leftS p5.2 = 0
       · have HOb := Lib.hid (ok_bare HG1.out (by rw [HV5.out]; exact hz))
         have hz1 : ((leftS p5.2 : Int) == 0) = true := by rw [beq_iff_eq]; omega
         generalize leftS p5.2 = q at *
         have HHe := Lib.hid (show ({ HZ with cA := A, cc := c, cph := l } : Hv).hel = helS xs by rw [HHel.out _ _ HOb.out.2.1 HOb.out.2.2, HHZ.out]; rfl)
         have HSi := Lib.hid (Hv.size HD1.out.at_.own.rnd)
         clear hz
         go_wp2_with (first
           | (refine go_ld (x := .tmp 5) 68 HD1.out.at_.blk undH rfl infH HSi.out rfl rfl rfl ?_)
           | (refine go_st 68 HD1.out.res infH (Hv.size rfl) HSi.out (Hv.one _) rfl rfl rfl rfl ?_))
         exact ret_two Tryz.results81 (setRow_blk HD1.out.res) undH rfl infH HSi.out rfl rfl ⟨_, by rw [HOb.out.1]; rfl, HD1.out.at_.own.off (only_row _ _ _) (OffT.of_blk HD1.out.res (by unfold TW; decide)), fun _ => HHe.out, (fun h => by rw [HOb.out.1] at h; cases h), setRow_below HD1.out.bel (Nat.le_refl _) _⟩ rfl
       · have HMo := ok_more HG1.out (by rw [HV5.out]; omega)
         rw [HV5.out] at HMo
         have HM := Lib.hid HMo
         have hz1 : ((leftS p5.2 : Int) == 0) = false := by rw [beq_eq_false_iff_ne]; omega
         have hvs := vec_small p5.2
         clear HMo hz
         generalize leftS p5.2 = q at *
         go_wp2_with fail
         refine (qvec_any HD1.out.rd 2).mono ?_
         rintro e w15 ⟨v15, rfl, hsl, hrd, hg15⟩
         have HD2 := Lib.hid (HD1.out.read hrd hg15)
         generalize vecS p5.2 2 = p6 at *
         obtain ⟨A15, c15, hv15, hnc15, hcc15, hs15⟩ := hsl.capd
         rw [hv15]
         have HS15 := Lib.hid hs15
         clear hsl hrd hg15 hv15 hs15 HD1
         go_wp2_with fail
         refine (rext_any A15 _ c15 p6.1 w15 HS15.out (by omega) hnc15 hcc15).mono ?_
         rintro e w16 ⟨v16, lx, rfl, hox, hmp, hll, hb⟩
         have HD3 := Lib.hid (HD2.out.more hb)
         obtain ⟨X, cx0, hv16⟩ := OwnXq.form hox
         rw [hv16] at hox ⊢
         have HOx := Lib.hid hox
         have HMp := Lib.hid hmp
         have hbad := HD3.out.rd.bad
         clear hox hmp hb hv16 HD2 HS15
         cases hnone : p6.2.isNone with
         | true =>
           rw [hnone] at hbad
           have HD4 := HD3
           have HF := Lib.hid (show okS xs = false from Bool.eq_false_iff.2 (fun h => by have := (HM.out.2.2.2.1 h).1; rw [hnone] at this; cases this))
           go_wp2_with (first
             | (refine go_bd0 68 _ builtH rfl rfl ?_)
             | (refine go_st 68 HD4.out.res infH (Hv.size rfl) (Hv.size rfl) (Hv.one _) rfl rfl rfl rfl ?_))
           exact ret_two Tryz.results81 (setRow_blk HD4.out.res) undH rfl infH (Hv.size rfl) rfl rfl ⟨Hv.zero, by rw [HF.out]; rfl, HOwq.zero _, (fun h => by rw [HF.out] at h; cases h), fun _ => rfl, setRow_below HD4.out.bel (Nat.le_refl _) _⟩ rfl
         | false =>
           rw [hnone] at hbad
           have HNn := Lib.hid hnone
           clear hnone
           by_cases hl6 : 0 < leftS p6.2
           case pos =>
             have hl6' : (0 : Int) < (leftS p6.2 : Int) := by omega
             have HF := Lib.hid (show okS xs = false from Bool.eq_false_iff.2 (fun h => by have := (HM.out.2.2.2.1 h).2.1; omega))
             go_wp2_with (first
               | (go_at_call 136; refine (qleft_any HD3.out.rd).mono ?_; rintro e w17 ⟨rfl, j2, rfl⟩; have HD4 := Lib.hid (HD3.out.more (drewN_below _ j2)))
               | (refine go_bd0 68 _ builtH rfl rfl ?_)
               | (refine go_st 68 HD4.out.res infH (Hv.size rfl) (Hv.size rfl) (Hv.one _) rfl rfl rfl rfl ?_))
             exact ret_two Tryz.results81 (setRow_blk HD4.out.res) undH rfl infH (Hv.size rfl) rfl rfl ⟨Hv.zero, by rw [HF.out]; rfl, HOwq.zero _, (fun h => by rw [HF.out] at h; cases h), fun _ => rfl, setRow_below HD4.out.bel (Nat.le_refl _) _⟩ rfl
           have hl6' : ¬ (0 : Int) < (leftS p6.2 : Int) := by omega
           have HL6 := Lib.hid (show leftS p6.2 = 0 by omega)
           clear hl6
           cases hex : (extsS p6.1).2 with
           | false =>
             have HF := Lib.hid (show okS xs = false from Bool.eq_false_iff.2 (fun h => by have := (HM.out.2.2.2.1 h).2.2; rw [hex] at this; cases this))
             go_wp2_with (first
               | (go_at_call 136; refine (qleft_any HD3.out.rd).mono ?_; rintro e w17 ⟨rfl, j2, rfl⟩; have HD4 := Lib.hid (HD3.out.more (drewN_below _ j2)))
               | (refine go_bd0 68 _ builtH rfl rfl ?_)
               | (refine go_st 68 HD4.out.res infH (Hv.size rfl) (Hv.size rfl) (Hv.one _) rfl rfl rfl rfl ?_))
             exact ret_two Tryz.results81 (setRow_blk HD4.out.res) undH rfl infH (Hv.size rfl) rfl rfl ⟨Hv.zero, by rw [HF.out]; rfl, HOwq.zero _, (fun h => by rw [HF.out] at h; cases h), fun _ => rfl, setRow_below HD4.out.bel (Nat.le_refl _) _⟩ rfl
           | true =>
             have HYes := Lib.hid (HM.out.2.2.2.2 ⟨HNn.out, HL6.out, hex⟩)
             have HMq := Lib.hid (HMp.out hex)
             have HHe := Lib.hid (show ({ HZ with cA := A, cc := c, cph := l, has := true, xA := X, xc := cx0, xs := lx } : Hv).hel = helS xs by rw [HHel.out true (lx.map ext) HM.out.1 (by rw [HM.out.2.2.1, ← HMq.out]), HHZ.out]; rfl)
             have ch := cell_has HD3.out.at_.blk HD3.out.at_.own.rnd
             have hf := HD3.out.at_.blk.frozen 36
             go_upto_region 21 with (go_at_call 136; refine (qleft_any HD3.out.rd).mono ?_; rintro e w17 ⟨rfl, j2, rfl⟩; have HD4 := Lib.hid (HD3.out.more (drewN_below _ j2)))
             have HD5 := Lib.hid (HD4.out.set_ 36 _ (HD4.out.at_.set_has true))
             have HOx5 := Lib.hid (OwnXq.off (OwnXq.off HOx.out (only_of_below (drewN_below w16 j2) none) (OffT.none _ _)) (only_setCell (p := ⟨g, 36, none⟩) (only_refl _ (some g)) (.inl rfl) (.bool true)) (OffT.of_blk HD4.out.at_.blk (by unfold TX; decide)))
             clear ch hf HD3 HD4 HOx hbad
             generalize (w16.drewN j2).setCell ⟨g, 36, none⟩ (.bool true) = w18 at *
             have cx := cell_xs HD5.out.at_.blk HD5.out.at_.own.rnd
             have hf := HD5.out.at_.blk.frozen 37
             go_upto_region 22 with fail
             have HD6 := Lib.hid (HD5.out.set_ 37 _ (HD5.out.at_.set_xs X cx0 lx (HOx5.out.lower (Nat.zero_le _)) (by omega)))
             clear cx hf HD5 HOx5
             generalize w18.setCell ⟨g, 37, none⟩ (.slice X lx.length cx0) = w19 at *
             have HSi := Lib.hid (Hv.size HD6.out.at_.own.rnd)
             go_wp2_with (first
               | (refine go_ld (x := .tmp 5) 68 HD6.out.at_.blk undH rfl infH HSi.out rfl rfl rfl ?_)
               | (refine go_st 68 HD6.out.res infH (Hv.size rfl) HSi.out (Hv.one _) rfl rfl rfl rfl ?_))
             exact ret_two Tryz.results81 (setRow_blk HD6.out.res) undH rfl infH HSi.out rfl rfl ⟨_, by rw [HYes.out]; rfl, HD6.out.at_.own.off (only_row _ _ _) (OffT.of_blk HD6.out.res (by unfold TW; decide)), fun _ => HHe.out, (fun h => by rw [HYes.out] at h; cases h), setRow_below HD6.out.bel (Nat.le_refl _) _⟩ rfl
end Go.Proofs.YthfknndjdfofgaaGreatDoor.He
