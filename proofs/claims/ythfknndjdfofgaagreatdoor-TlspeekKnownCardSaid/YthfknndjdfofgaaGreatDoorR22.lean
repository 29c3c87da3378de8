/-
 Contract of package hello's read over this seat's translation.
-/
import Derived.Test.YthfknndjdfofgaaGreatDoorR18
import Derived.Deep.RegionHeldLaw
import Derived.Deep.RegionHeld3
namespace Go.Proofs.YthfknndjdfofgaaGreatDoor.He
open Go.RowKit Go.Proofs.YthfknndjdfofgaaGreatDoor.Wd Go.Proofs.YthfknndjdfofgaaGreatDoor.Be

theorem ret_two {fn : Func} {p q : Tmp} {ty t : TypeId} {a : Act} {w : World} {g n : Nat} {C : Array Value} {v : Value} {d : TypeDesc} {R : Ending → World → Prop} (hf : fn.results = #[.cell p ty, .tmp q]) (hb : Blk w g t C) (hu : Tryz.prog.underlying ty = some d)
   (hd : d.isRow = true) (hi : (Tryz.prog.info? ty).map (·.size) = some n) (hn : C.size = n) (hp : a.tmps.getD p undef = .pointer (some ⟨g, 0, none⟩)) (hq : a.tmps.getD q undef = v) (h : R (.returned (.tuple #[.agg C, v])) w) (hdf : a.defers = []) : bodyPost Tryz.prog fn R .ret a w := by
 have hp' : a.tmps[p]?.getD undef = .pointer (some ⟨g, 0, none⟩) := by simpa using hp
 have hq' : a.tmps[q]?.getD undef = v := by simpa using hq
 have hl := run_loadVar_row w g t ty C (0, 0) d hb hu (by cases d <;> first | rfl | cases hd) (by rw [hi, hn])
 exact bodyPost_ret (v := .tuple #[.agg C, v]) (by simp [results, hf, hp', hq', asAddr, hl]) hdf h
theorem hd_take {P : Program} {ops : Array Oper} {Q : Exit → Act → World → Prop} {md : Region.Mode} {S : World → Prop} (i : Nat) (dst : Option Tmp) (v : Value) {oi : Oper} {fuel : Nat} {listed : Array Bool} {a : Act} {w : World} (hi : ops[i]? = some oi) (hd : oi.dst = dst)
   (hs : Region.noSelect ops = true) (hf : Region.free md ops listed i = true) (hr : (Region.ready md ops listed).contains i = true)
   (hQ : ∀ c a w, Q (.panic c) (a.put oi.dst v) w → Q (.panic c) a w) (hy : YieldsIf P ops S oi v a) (hS : S w)
   (h : wpAnyH P md ops Q S fuel (listed.setIfInBounds i true) (a.put dst v) w) : wpAnyH P md ops Q S (fuel + 1) listed a w := by
 subst hd
 exact wpAnyH_take hi hs hf hr hQ hy hS h
theorem rangeH {w : World} {g t : Nat} {H : Hv} (h : Blk w g t H.C) : w.rangeAt g 0 H.L := fun j v hv => by
 rw [Nat.zero_add, h.cell]
 simpa [Hv.C] using hv
theorem only_row (w : World) (g : Nat) (C : Array Value) : w.grownBy (w.setRow g C) (some g) := by
 have hB := (But.refl [g] w).row (g := g) (.inl (List.mem_singleton.2 rfl)) C
 exact ⟨hB.os, hB.tape, hB.output, hB.size, fun i hi hn => hB.block i hi (fun hm => hn (by rw [List.mem_singleton.1 hm]))⟩
theorem L_len {H : Hv} (h : H.rnd.length = 32) : H.L.length = 38 := by simp [Hv.L, cellsOf_length, h]
theorem left_le_take (st : Option (List UInt8)) (n : Int) : (takeS st n).1.length ≤ leftS st := by
 cases st with
 | none => exact Nat.zero_le _
 | some xs =>
   by_cases hn : 0 ≤ n ∧ n ≤ xs.length
   · obtain ⟨k, rfl⟩ := Int.eq_ofNat_of_zero_le hn.1
     rw [takeS_in _ _ (by omega)]
     simp [leftS]; omega
   · rw [takeS_out _ _ hn]; exact Nat.zero_le _
theorem vec1_small (st : Option (List UInt8)) : (vecS st 1).1.length < 65536 := by
 have h := natOf_lt (takeS st (clampI 1)).1
 have h2 := takeS_len st (clampI 1) (by decide)
 have e : (clampI 1).toNat = 1 := by decide
 rw [e] at h2
 have h3 : (numS st 1).1 < 65536 := Nat.lt_of_lt_of_le h (Nat.le_trans (Nat.pow_le_pow_right (n := 256) (by omega) h2) (by decide))
 have h4 := takeS_len (numS st 1).2 ((numS st 1).1 : Int) (by omega)
 show (takeS (numS st 1).2 ((numS st 1).1 : Int)).1.length < _
 omega
theorem nums_in : ∀ (f : Nat) (st : Option (List UInt8)), ∀ n ∈ (numsF f st).1, In2 n
 | 0, st, n, h => by cases h
 | f + 1, st, n, h => by
   rw [numsF] at h
   split at h
   · cases h
   · have hs := num_small st
     rcases List.mem_cons.1 h with rfl | h
     · exact ⟨by omega, by omega⟩
     · exact nums_in f _ n h
theorem left_num (st : Option (List UInt8)) (k : Int) : leftS (numS st k).2 ≤ leftS st := take_less _ _

set_option linter.unusedSimpArgs false in
set_option maxRecDepth 100000 in
set_option maxHeartbeats 1000000 in
theorem hread_any (A : Option Addr) (n c : Nat) (xs : List UInt8) (w : World) (hs : Src w A n xs) (hn : n ≤ 140737488355320) :
   Calls Tryz.prog 122 #[.slice A n c] w fun e w' => ∃ H, e = .returned (.tuple #[.agg H.C, .bool (okS xs)]) ∧ HOwn w' H ∧ H.hel = helS xs ∧ Below w.heap.size w w' := by
 have hb0 : ∀ st, leftS st ≤ xs.length → ∀ rest, st = some rest → rest.length ≤ 140737488355320 := fun st h rest e => by subst e; have := hs.1; simp only [leftS] at h; omega
 have HB0 := Lib.hid hb0
 have HS := Lib.hid hs
 have l1 : leftS (sV xs).2 ≤ xs.length := left_num _ _
 have l2 : leftS (sR xs).2 ≤ xs.length := Nat.le_trans (take_less _ _) l1
 have l3 : leftS (sS xs).2 ≤ xs.length := Nat.le_trans (vec_less _ _) l2
 have l4 : leftS (sC xs).2 ≤ xs.length := Nat.le_trans (vec_less _ _) l3
 have l5 : leftS (sM xs).2 ≤ xs.length := Nat.le_trans (vec_less _ _) l4
 have HLs := Lib.hid (And.intro l1 (And.intro l2 (And.intro l3 (And.intro l4 l5))))
 clear hb0 hs l1 l2 l3 l4 l5
 go_enter Tryz.func122, Tryz.ntmps122
 go_wp2_with fail
 refine (read_any A n c xs _ ((HS.out.alloc _).alloc _) (by omega)).mono ?_
 rintro e w1 ⟨r, rfl, hr, hrd, hb⟩
 rw [← zeroC] at hb
 have hr' : w.heap.size + 2 ≤ r := by simpa using hr
 have h1 : RdAt w (w.heap.size + 1) r Hv.zero (some xs) w1 :=
   ⟨⟨Blk.below (blk_at _ _ _ _ _ (by rw [alloc_size]) rfl) hb (by simp), HOwn.zero _⟩, hrd, Blk.below ((Blk.new _ _ _).alloc _) hb (by simp; omega), ((Below.refl _ _).alloc (Nat.le_refl _) _).alloc (by simp) _ |>.trans (hb.mono (by simp; omega)), by omega, by omega⟩
 clear hb hrd hr
 generalize hG : w.heap.size + 1 = g at *
 have HG := Lib.hid hG
 clear hG
 have H1 := Lib.hid h1
 clear h1
 go_wp2_with fail
 refine (num_any r 2 (some xs) w1 H1.out.rd (HB0.out _ (Nat.le_refl _))).mono ?_
 rintro e w2 ⟨rfl, hrd2, hg2⟩
 have H2 := Lib.hid (H1.out.read hrd2 hg2)
 have hc := cell_ver H2.out.at_.blk
 have hf := H2.out.at_.blk.frozen 0
 have hsm := num_small (some xs)
 clear hrd2 hg2 H1
 have HV := Lib.hid (show sV xs = numS (some xs) 2 from rfl)
 generalize numS (some xs) 2 = p1 at *
 go_wp2_with fail
 have H3 := Lib.hid ((H2.out.set_ 0 _ (H2.out.at_.set_ver (p1.1 : Int) (by omega))).drew)
 clear H2 hc hf hsm
 generalize (w2.setCell ⟨g, 0, none⟩ (.int .i64 (p1.1 : Int))) = w3 at *
 have hl32 := left_le_take p1.2 32
 have HT := Lib.hid (show sR xs = takeS p1.2 32 by rw [sR, HV.out])
 go_region_held_law (fun _ => True) (exact True.intro) (first
   | (go_simp; go_at_call 161; refine (take_any r 32 p1.2 _ H3.out.rd (HB0.out _ (by have := HLs.out.1; rw [HV.out] at this; exact this))).mono ?_; rintro e w4 ⟨v4, rfl, hsl4, hrd4, hg4⟩
      have H4 := Lib.hid (H3.out.read hrd4 hg4); have hlen4 := takeS_len p1.2 32 (by decide); generalize takeS p1.2 32 = p2 at *
      obtain ⟨A4, c4, hv4, _, hs4⟩ := hsl4.src; rw [hv4]; have HS4 := Lib.hid hs4; clear hrd4 hg4 hsl4 hv4 hs4)
   | (refine step_copy_rnd (some 19) rfl rfl (.tmp 16) (.tmp 18) rfl g 32 _ _ _ _ _ rfl rfl (by exact H4.out.at_) rfl (by exact HS4.out) (by exact hlen4) ?_; intro w5 N5 HH5 HG5))
 have H5 := Lib.hid (show RdAt w g r ⟨(p1.1 : Int), rowR p2.1, none, 0, [], none, 0, [], none, 0, [], false, none, 0, []⟩ p2.2 w5 from H4.out.turn HH5.out HG5.out)
 clear H3 H4 HH5 HG5 HS4 hlen4 hl32
 -- Session
 go_wp2_with fail
 refine (rvec_any r 1 p2.2 w5 H5.out.rd (HB0.out _ (by have := HLs.out.2.1; rw [HT.out] at this; exact this))).mono ?_
 rintro e w6 ⟨v6, rfl, hsl6, hrd6, hg6⟩
 have H6 := Lib.hid (H5.out.read hrd6 hg6)
 have hsm := vec1_small p2.2
 have HV3 := Lib.hid (show sS xs = vecS p2.2 1 by rw [sS, HT.out])
 generalize vecS p2.2 1 = p3 at *
 obtain ⟨A6, c6, hv6⟩ := Sl.form hsl6
 rw [hv6] at hsl6 ⊢
 have H7 := Lib.hid (H6.out.set_ 33 _ (H6.out.at_.set_ses A6 c6 p3.1 hsl6 hsm))
 have hc := cell_ses H6.out.at_.blk H6.out.at_.own.rnd
 have hf := H6.out.at_.blk.frozen 33
 clear hsl6 hrd6 hg6 hv6 H5 hsm H6
 go_wp2_with fail
 generalize w6.setCell ⟨g, 33, none⟩ (.slice A6 p3.1.length c6) = w7 at *
 clear hc hf
 -- Ciphers
 refine (rvec_any r 2 p3.2 w7 H7.out.rd (HB0.out _ (by have := HLs.out.2.2.1; rw [HV3.out] at this; exact this))).mono ?_
 rintro e w8 ⟨v8, rfl, hsl8, hrd8, hg8⟩
 have H8 := Lib.hid (H7.out.read hrd8 hg8)
 have hsm := vec_small p3.2
 have HV4 := Lib.hid (show sC xs = vecS p3.2 2 by rw [sC, HV3.out])
 generalize vecS p3.2 2 = p4 at *
 obtain ⟨A8, c8, hv8, _, hs8⟩ := hsl8.src
 rw [hv8]
 have HS8 := Lib.hid hs8
 clear hsl8 hrd8 hg8 hv8 H7 hs8
 go_wp2_with fail
 refine (rnums_any A8 _ c8 p4.1 w8 HS8.out (by omega)).mono ?_
 rintro e w9 ⟨v9, rfl, hown9, hlen9, hb9⟩
 have H9 := Lib.hid (H8.out.more hb9)
 have HN := Lib.hid (show ∀ n ∈ (numsS p4.1).1, In2 n from nums_in _ _)
 generalize hnq : numsS p4.1 = q4 at *
 have HQ4 := Lib.hid hnq
 obtain ⟨A9, c9, hv9⟩ := OwnI.form hown9
 rw [hv9] at hown9 ⊢
 have H10 := Lib.hid (H9.out.set_ 34 _ (H9.out.at_.set_cph A9 c9 q4.1 (hown9.lower (Nat.zero_le _)) (by omega) HN.out))
 have hc := cell_cph H9.out.at_.blk H9.out.at_.own.rnd
 have hf := H9.out.at_.blk.frozen 34
 clear hown9 hb9 hv9 H8 H9 hsm HS8 HN hnq
 go_wp2_with fail
 generalize w9.setCell ⟨g, 34, none⟩ (.slice A9 q4.1.length c9) = w10 at *
 clear hc hf
 -- Methods
 refine (rvec_any r 1 p4.2 w10 H10.out.rd (HB0.out _ (by have := HLs.out.2.2.2.1; rw [HV4.out] at this; exact this))).mono ?_
 rintro e w11 ⟨v11, rfl, hsl11, hrd11, hg11⟩
 have H11 := Lib.hid (H10.out.read hrd11 hg11)
 have hsm := vec1_small p4.2
 have HV5 := Lib.hid (show sM xs = vecS p4.2 1 by rw [sM, HV4.out])
 generalize vecS p4.2 1 = p5 at *
 obtain ⟨A11, c11, hv11⟩ := Sl.form hsl11
 rw [hv11] at hsl11 ⊢
 have H12 := Lib.hid (H11.out.set_ 35 _ (H11.out.at_.set_met A11 c11 p5.1 hsl11 hsm))
 have hc := cell_met H11.out.at_.blk H11.out.at_.own.rnd
 have hf := H11.out.at_.blk.frozen 35
 clear hsl11 hrd11 hg11 hv11 H10 hsm H11
 go_wp2_with fail
 generalize w11.setCell ⟨g, 35, none⟩ (.slice A11 p5.1.length c11) = w12 at *
 clear hc hf
 -- is there more?
 refine (left_any r p5.2 w12 H12.out.rd).mono ?_
 rintro e w13 ⟨rfl, rfl⟩
 have HH := Lib.hid (show hasS xs = decide (0 < leftS p5.2) by rw [hasS, HV5.out])
 have hc := cell_has H12.out.at_.blk H12.out.at_.own.rnd
 have hf := H12.out.at_.blk.frozen 36
 have HLe := Lib.hid (show leftS p5.2 ≤ xs.length by have := HLs.out.2.2.2.2; rw [HV5.out] at this; exact this)
 have H14 := Lib.hid (H12.out.set_ 36 _ (H12.out.at_.set_has (decide (0 < leftS p5.2))))
 clear H12
 go_upto_if 39 with (fail)
 generalize w12.setCell ⟨g, 36, none⟩ (.bool (decide (0 < leftS p5.2))) = w14 at *
 clear hc hf
 go_cut [8] from 36 (fun s8 wx => ∃ st' X cx l, s8 = .bool (eS xs).2 ∧ Hid (RdAt w g r ⟨(p1.1 : Int), rowR p2.1, A6, c6, p3.1, A9, c9, q4.1, A11, c11, p5.1, decide (0 < leftS p5.2), X, cx, l⟩ st' wx) ∧ Hid (st' = (sX xs).2) ∧ Hid (l.map ext = (eS xs).1))
 case first =>
   by_cases hz : 0 < leftS p5.2
   · have HX := Lib.hid (show hasS xs = true by rw [HH.out]; exact decide_eq_true hz)
     have hz' : decide (0 < leftS p5.2) = true := decide_eq_true hz
     have hm := vec_small p5.2
     have HVX := Lib.hid (show sX xs = vecS p5.2 2 by rw [sX, HX.out, if_pos rfl, HV5.out])
     have HEX := Lib.hid (show eS xs = extsS (sX xs).1 by rw [eS, HX.out, if_pos rfl])
     go_wp2_with fail
     refine (rvec_any r 2 p5.2 w14 H14.out.rd (HB0.out _ HLe.out)).mono ?_
     rintro e w15 ⟨v15, rfl, hsl15, hrd15, hg15⟩
     have H15 := Lib.hid (H14.out.read hrd15 hg15)
     generalize vecS p5.2 2 = p6 at *
     obtain ⟨A15, c15, hv15, _, hs15⟩ := hsl15.src
     rw [hv15]
     have HS15 := Lib.hid hs15
     clear hsl15 hrd15 hg15 hv15 H14 hs15
     go_wp2_with fail
     refine (rexts_any A15 _ c15 p6.1 w15 HS15.out (by omega)).mono ?_
     rintro e w16 ⟨v16, l, rfl, hown16, hmap, hlen16, hb16⟩
     have H16 := Lib.hid (H15.out.more hb16)
     have HM := Lib.hid (show l.map ext = (eS xs).1 by rw [HEX.out, HVX.out]; exact hmap)
     have HM2 := Lib.hid (show (extsS p6.1).2 = (eS xs).2 by rw [HEX.out, HVX.out])
     generalize (extsS p6.1).2 = e2 at *
     obtain ⟨X, cx, hv16⟩ := OwnX.form hown16
     rw [hv16] at hown16 ⊢
     have H17 := Lib.hid (H16.out.set_ 37 _ (H16.out.at_.set_xs X cx l (hown16.lower (Nat.zero_le _)) (by omega)))
     have hc := cell_xs H16.out.at_.blk H16.out.at_.own.rnd
     have hf := H16.out.at_.blk.frozen 37
     clear hown16 hb16 hv16 H15 H16 hmap hm
     go_wp2_with fail
     go_meet
     exact ⟨p6.2, X, cx, l, by rw [← HM2.out], H17, Lib.hid (by rw [HVX.out]), HM⟩
   · have HX := Lib.hid (show hasS xs = false by rw [HH.out]; exact decide_eq_false hz)
     have hz' : decide (0 < leftS p5.2) = false := decide_eq_false hz
     have HVX := Lib.hid (show sX xs = ([], (sM xs).2) by rw [sX, HX.out]; rfl)
     have HEX := Lib.hid (show eS xs = ([], true) by rw [eS, HX.out]; rfl)
     clear HX
     go_wp2_with fail
     go_meet
     exact ⟨p5.2, none, 0, [], by rw [HEX.out], H14, Lib.hid (by rw [HVX.out, HV5.out]), Lib.hid (by rw [HEX.out]; rfl)⟩
 case rest =>
   obtain ⟨st', X, cx, l, rfl, HR, HST, HMX⟩ := hcut
   go_upto_region 13 with fail
   have hc1 := cell_cph HR.out.at_.blk HR.out.at_.own.rnd
   have hc2 := cell_met HR.out.at_.blk HR.out.at_.own.rnd
   obtain ⟨HF, hHF⟩ : ∃ HF, HF = Hv.mk (p1.1 : Int) (rowR p2.1) A6 c6 p3.1 A9 c9 q4.1 A11 c11 p5.1 (decide (0 < leftS p5.2)) X cx l := ⟨_, rfl⟩
   rw [← hHF] at HR
   have HHel := Lib.hid (show HF.hel = helS xs by
     rw [hHF]
     show Hel.mk (p1.1 : Int) (rowR p2.1) p3.1 q4.1 p5.1 (decide (0 < leftS p5.2)) (l.map ext) = _
     unfold helS
     rw [HV.out, HT.out, HV3.out, HV4.out, HQ4.out, HV5.out, HH.out, HMX.out])
   have HOk := Lib.hid (show (doneS st' && q4.2 && (eS xs).2 && (decide (0 < q4.1.length) && decide (0 < p5.1.length))) = okS xs by
     unfold okS
     rw [HST.out, HV4.out, HQ4.out, HV5.out])
   clear hHF
   go_cut [9] from 36 (fun s9 wx => s9 = .bool (decide (0 < q4.1.length) && decide (0 < p5.1.length)) ∧ Hid (RdAt w g r HF st' wx))
   case first =>
     by_cases y1 : 0 < q4.1.length
     · have y1' : decide (0 < q4.1.length) = true := decide_eq_true y1
       by_cases y2 : 0 < p5.1.length
       · have y2' : decide (0 < p5.1.length) = true := decide_eq_true y2
         go_wp2_with fail
         go_meet
         exact ⟨by simp only [y1', y2']; rfl, HR⟩
       · have y2' : decide (0 < p5.1.length) = false := decide_eq_false y2
         go_wp2_with fail
         go_meet
         exact ⟨by simp only [y1', y2']; rfl, HR⟩
     · have y1' : decide (0 < q4.1.length) = false := decide_eq_false y1
       go_wp2_with fail
       go_meet
       exact ⟨by simp only [y1']; rfl, HR⟩
   clear hc1 hc2 HR
   obtain ⟨rfl, HR⟩ := hcut
   have HRd := Lib.hid HR.out.drew
   clear HR
   have hiH : (Tryz.prog.info? 68).map (·.size) = some HF.L.length := by rw [L_len HRd.out.at_.own.rnd]; exact infH
   go_wp2_with fail
   have HSt := Lib.hid (show (wc.drew.setRow w.heap.size HF.C).rangeAt g 0 HF.L from rangeH (Blk.row_far HRd.out.at_.blk (by have := HRd.out.gB; omega) _))
   have HOw := Lib.hid (show HOwn (wc.drew.setRow w.heap.size HF.C) HF from HRd.out.at_.own.off (only_row _ _ _) (OffT.of_blk HRd.out.res (by unfold TW; decide)))
   have HBe := Lib.hid (setRow_below HRd.out.bel (Nat.le_refl _) HF.C)
   generalize q4.2 = n2 at *
   generalize (eS xs).2 = e2 at *
   generalize (decide (0 < q4.1.length) && decide (0 < p5.1.length)) = sv at *
   cases hd : doneS st' with
   | false =>
     have HD := Lib.hid hd
     rw [hd] at HOk
     clear hd
     refine wp_region_held_drew (S := fun w' => w'.rangeAt g 0 HF.L) (by kernel_rfl) (rangeH HRd.out.at_.blk) (fun h0 => ?_)
     refine hd_take 0 (some 57) (.agg HF.C) rfl rfl (by kernel_rfl) (by kernel_rfl) (by kernel_rfl) (fun _ _ _ h => h) (yieldsIf_load_mid (by rfl) _ _ rfl g 0 rfl HF.L _ (fun _ h => h) undH rfl hiH) h0 ?_
     simp only [Act.put, List.setIfInBounds_toArray, List.set_cons_zero, List.set_cons_succ]
     refine hd_take 1 (some 58) (.pointer (some ⟨r, 0, none⟩)) rfl rfl (by kernel_rfl) (by kernel_rfl) (by kernel_rfl) (fun _ _ _ h => h) (Or.inl ⟨by rfl, fun w hw => by go_simp⟩) h0 ?_
     simp only [Act.put, List.setIfInBounds_toArray, List.set_cons_zero, List.set_cons_succ]
     refine wpAnyH_ready (rs := [2]) (by kernel_rfl) (by simp) (AllReadyH.cons rfl (fun K hK => ?_) AllReadyH.nil)
     go_simp
     go_wp2_with (go_at_call 166; refine (done_any r st' _ HRd.out.rd).mono ?_; rintro e w2 ⟨rfl, rfl⟩; rw [HD.out])
     refine hK.out _ _ (rangeH HRd.out.at_.blk) (fun h2 => ?_)
     clear hK K
     refine hd_take 3 (some 60) (.bool false) rfl rfl (by kernel_rfl) (by kernel_rfl) (by kernel_rfl) (fun _ _ _ h => h) (Or.inl ⟨by rfl, fun w hw => by go_simp⟩) h2 ?_
     simp only [Act.put, List.setIfInBounds_toArray, List.set_cons_zero, List.set_cons_succ]
     refine hd_take 4 (some 61) (undef) rfl rfl (by kernel_rfl) (by kernel_rfl) (by kernel_rfl) (fun _ _ _ h => h) (Or.inr ⟨by rfl, rfl⟩) h2 ?_
     simp only [Act.put, List.setIfInBounds_toArray, List.set_cons_zero, List.set_cons_succ]
     refine hd_take 5 (some 62) (.bool false) rfl rfl (by kernel_rfl) (by kernel_rfl) (by kernel_rfl) (fun _ _ _ h => h) (Or.inl ⟨by rfl, fun w hw => by go_simp⟩) h2 ?_
     simp only [Act.put, List.setIfInBounds_toArray, List.set_cons_zero, List.set_cons_succ]
     refine hd_take 6 (some 63) (.bool false) rfl rfl (by kernel_rfl) (by kernel_rfl) (by kernel_rfl) (fun _ _ _ h => h) (Or.inl ⟨by rfl, fun w hw => by go_simp⟩) h2 ?_
     simp only [Act.put, List.setIfInBounds_toArray, List.set_cons_zero, List.set_cons_succ]
     refine hd_take 7 (some 64) (undef) rfl rfl (by kernel_rfl) (by kernel_rfl) (by kernel_rfl) (fun _ _ _ h => h) (Or.inr ⟨by rfl, rfl⟩) h2 ?_
     simp only [Act.put, List.setIfInBounds_toArray, List.set_cons_zero, List.set_cons_succ]
     refine hd_take 8 (some 65) (.bool false) rfl rfl (by kernel_rfl) (by kernel_rfl) (by kernel_rfl) (fun _ _ _ h => h) (Or.inl ⟨by rfl, fun w hw => by go_simp⟩) h2 ?_
     simp only [Act.put, List.setIfInBounds_toArray, List.set_cons_zero, List.set_cons_succ]
     refine hd_take 9 (some 66) (.bool false) rfl rfl (by kernel_rfl) (by kernel_rfl) (by kernel_rfl) (fun _ _ _ h => h) (Or.inl ⟨by rfl, fun w hw => by go_simp⟩) h2 ?_
     simp only [Act.put, List.setIfInBounds_toArray, List.set_cons_zero, List.set_cons_succ]
     refine hd_take 10 (some 67) (undef) rfl rfl (by kernel_rfl) (by kernel_rfl) (by kernel_rfl) (fun _ _ _ h => h) (Or.inr ⟨by rfl, rfl⟩) h2 ?_
     simp only [Act.put, List.setIfInBounds_toArray, List.set_cons_zero, List.set_cons_succ]
     refine hd_take 11 (some 68) (.bool false) rfl rfl (by kernel_rfl) (by kernel_rfl) (by kernel_rfl) (fun _ _ _ h => h) (Or.inl ⟨by rfl, fun w hw => by go_simp⟩) h2 ?_
     simp only [Act.put, List.setIfInBounds_toArray, List.set_cons_zero, List.set_cons_succ]
     refine wpAnyH_ready (rs := [12]) (by kernel_rfl) (by simp) (AllReadyH.cons rfl (fun K hK => ?_) AllReadyH.nil)
     refine wp_store_row 68 _ _ rfl w.heap.size HF.C rfl rfl 68 _ HRd.out.res (by rw [infH, Hv.size HRd.out.at_.own.rnd]) (by rw [Hv.size HRd.out.at_.own.rnd]; rfl) (Hv.one HF) ?_
     refine hK.out _ _ (by exact HSt.out) (fun h3 => ?_)
     clear hK K
     refine hd_take 13 (some 3) (.bool false) rfl rfl (by kernel_rfl) (by kernel_rfl) (by kernel_rfl) (fun _ _ _ h => h) (Or.inl ⟨by rfl, fun w hw => by go_simp⟩) h3 ?_
     simp only [Act.put, List.setIfInBounds_toArray, List.set_cons_zero, List.set_cons_succ]
     refine wpAnyH_done (by kernel_rfl) ?_ _
     go_wp2_with fail
     exact ret_two Tryz.results122 (setRow_blk HRd.out.res) undH rfl infH (Hv.size HRd.out.at_.own.rnd) rfl rfl ⟨HF, congrArg (fun z => Ending.returned (.tuple #[.agg HF.C, .bool z])) HOk.out, HOw.out, HHel.out, HBe.out⟩ rfl
   | true =>
     have HD := Lib.hid hd
     rw [hd] at HOk
     clear hd
     cases n2 with
     | false =>
       refine wp_region_held_drew (S := fun w' => w'.rangeAt g 0 HF.L) (by kernel_rfl) (rangeH HRd.out.at_.blk) (fun h0 => ?_)
       refine hd_take 0 (some 57) (.agg HF.C) rfl rfl (by kernel_rfl) (by kernel_rfl) (by kernel_rfl) (fun _ _ _ h => h) (yieldsIf_load_mid (by rfl) _ _ rfl g 0 rfl HF.L _ (fun _ h => h) undH rfl hiH) h0 ?_
       simp only [Act.put, List.setIfInBounds_toArray, List.set_cons_zero, List.set_cons_succ]
       refine hd_take 1 (some 58) (.pointer (some ⟨r, 0, none⟩)) rfl rfl (by kernel_rfl) (by kernel_rfl) (by kernel_rfl) (fun _ _ _ h => h) (Or.inl ⟨by rfl, fun w hw => by go_simp⟩) h0 ?_
       simp only [Act.put, List.setIfInBounds_toArray, List.set_cons_zero, List.set_cons_succ]
       refine wpAnyH_ready (rs := [2]) (by kernel_rfl) (by simp) (AllReadyH.cons rfl (fun K hK => ?_) AllReadyH.nil)
       go_simp
       go_wp2_with (go_at_call 166; refine (done_any r st' _ HRd.out.rd).mono ?_; rintro e w2 ⟨rfl, rfl⟩; rw [HD.out])
       refine hK.out _ _ (rangeH HRd.out.at_.blk) (fun h2 => ?_)
       clear hK K
       refine hd_take 3 (some 60) (.bool true) rfl rfl (by kernel_rfl) (by kernel_rfl) (by kernel_rfl) (fun _ _ _ h => h) (Or.inl ⟨by rfl, fun w hw => by go_simp⟩) h2 ?_
       simp only [Act.put, List.setIfInBounds_toArray, List.set_cons_zero, List.set_cons_succ]
       refine hd_take 4 (some 61) (.bool false) rfl rfl (by kernel_rfl) (by kernel_rfl) (by kernel_rfl) (fun _ _ _ h => h) (Or.inl ⟨by rfl, fun w hw => by go_simp⟩) h2 ?_
       simp only [Act.put, List.setIfInBounds_toArray, List.set_cons_zero, List.set_cons_succ]
       refine hd_take 5 (some 62) (.bool false) rfl rfl (by kernel_rfl) (by kernel_rfl) (by kernel_rfl) (fun _ _ _ h => h) (Or.inl ⟨by rfl, fun w hw => by go_simp⟩) h2 ?_
       simp only [Act.put, List.setIfInBounds_toArray, List.set_cons_zero, List.set_cons_succ]
       refine hd_take 6 (some 63) (.bool false) rfl rfl (by kernel_rfl) (by kernel_rfl) (by kernel_rfl) (fun _ _ _ h => h) (Or.inl ⟨by rfl, fun w hw => by go_simp⟩) h2 ?_
       simp only [Act.put, List.setIfInBounds_toArray, List.set_cons_zero, List.set_cons_succ]
       refine hd_take 7 (some 64) (undef) rfl rfl (by kernel_rfl) (by kernel_rfl) (by kernel_rfl) (fun _ _ _ h => h) (Or.inr ⟨by rfl, rfl⟩) h2 ?_
       simp only [Act.put, List.setIfInBounds_toArray, List.set_cons_zero, List.set_cons_succ]
       refine hd_take 8 (some 65) (.bool false) rfl rfl (by kernel_rfl) (by kernel_rfl) (by kernel_rfl) (fun _ _ _ h => h) (Or.inl ⟨by rfl, fun w hw => by go_simp⟩) h2 ?_
       simp only [Act.put, List.setIfInBounds_toArray, List.set_cons_zero, List.set_cons_succ]
       refine hd_take 9 (some 66) (.bool false) rfl rfl (by kernel_rfl) (by kernel_rfl) (by kernel_rfl) (fun _ _ _ h => h) (Or.inl ⟨by rfl, fun w hw => by go_simp⟩) h2 ?_
       simp only [Act.put, List.setIfInBounds_toArray, List.set_cons_zero, List.set_cons_succ]
       refine hd_take 10 (some 67) (undef) rfl rfl (by kernel_rfl) (by kernel_rfl) (by kernel_rfl) (fun _ _ _ h => h) (Or.inr ⟨by rfl, rfl⟩) h2 ?_
       simp only [Act.put, List.setIfInBounds_toArray, List.set_cons_zero, List.set_cons_succ]
       refine hd_take 11 (some 68) (.bool false) rfl rfl (by kernel_rfl) (by kernel_rfl) (by kernel_rfl) (fun _ _ _ h => h) (Or.inl ⟨by rfl, fun w hw => by go_simp⟩) h2 ?_
       simp only [Act.put, List.setIfInBounds_toArray, List.set_cons_zero, List.set_cons_succ]
       refine wpAnyH_ready (rs := [12]) (by kernel_rfl) (by simp) (AllReadyH.cons rfl (fun K hK => ?_) AllReadyH.nil)
       refine wp_store_row 68 _ _ rfl w.heap.size HF.C rfl rfl 68 _ HRd.out.res (by rw [infH, Hv.size HRd.out.at_.own.rnd]) (by rw [Hv.size HRd.out.at_.own.rnd]; rfl) (Hv.one HF) ?_
       refine hK.out _ _ (by exact HSt.out) (fun h3 => ?_)
       clear hK K
       refine hd_take 13 (some 3) (.bool false) rfl rfl (by kernel_rfl) (by kernel_rfl) (by kernel_rfl) (fun _ _ _ h => h) (Or.inl ⟨by rfl, fun w hw => by go_simp⟩) h3 ?_
       simp only [Act.put, List.setIfInBounds_toArray, List.set_cons_zero, List.set_cons_succ]
       refine wpAnyH_done (by kernel_rfl) ?_ _
       go_wp2_with fail
       exact ret_two Tryz.results122 (setRow_blk HRd.out.res) undH rfl infH (Hv.size HRd.out.at_.own.rnd) rfl rfl ⟨HF, congrArg (fun z => Ending.returned (.tuple #[.agg HF.C, .bool z])) HOk.out, HOw.out, HHel.out, HBe.out⟩ rfl
     | true =>
       cases e2 with
       | false =>
         refine wp_region_held_drew (S := fun w' => w'.rangeAt g 0 HF.L) (by kernel_rfl) (rangeH HRd.out.at_.blk) (fun h0 => ?_)
         refine hd_take 0 (some 57) (.agg HF.C) rfl rfl (by kernel_rfl) (by kernel_rfl) (by kernel_rfl) (fun _ _ _ h => h) (yieldsIf_load_mid (by rfl) _ _ rfl g 0 rfl HF.L _ (fun _ h => h) undH rfl hiH) h0 ?_
         simp only [Act.put, List.setIfInBounds_toArray, List.set_cons_zero, List.set_cons_succ]
         refine hd_take 1 (some 58) (.pointer (some ⟨r, 0, none⟩)) rfl rfl (by kernel_rfl) (by kernel_rfl) (by kernel_rfl) (fun _ _ _ h => h) (Or.inl ⟨by rfl, fun w hw => by go_simp⟩) h0 ?_
         simp only [Act.put, List.setIfInBounds_toArray, List.set_cons_zero, List.set_cons_succ]
         refine wpAnyH_ready (rs := [2]) (by kernel_rfl) (by simp) (AllReadyH.cons rfl (fun K hK => ?_) AllReadyH.nil)
         go_simp
         go_wp2_with (go_at_call 166; refine (done_any r st' _ HRd.out.rd).mono ?_; rintro e w2 ⟨rfl, rfl⟩; rw [HD.out])
         refine hK.out _ _ (rangeH HRd.out.at_.blk) (fun h2 => ?_)
         clear hK K
         refine hd_take 3 (some 60) (.bool true) rfl rfl (by kernel_rfl) (by kernel_rfl) (by kernel_rfl) (fun _ _ _ h => h) (Or.inl ⟨by rfl, fun w hw => by go_simp⟩) h2 ?_
         simp only [Act.put, List.setIfInBounds_toArray, List.set_cons_zero, List.set_cons_succ]
         refine hd_take 4 (some 61) (.bool true) rfl rfl (by kernel_rfl) (by kernel_rfl) (by kernel_rfl) (fun _ _ _ h => h) (Or.inl ⟨by rfl, fun w hw => by go_simp⟩) h2 ?_
         simp only [Act.put, List.setIfInBounds_toArray, List.set_cons_zero, List.set_cons_succ]
         refine hd_take 5 (some 62) (.bool true) rfl rfl (by kernel_rfl) (by kernel_rfl) (by kernel_rfl) (fun _ _ _ h => h) (Or.inl ⟨by rfl, fun w hw => by go_simp⟩) h2 ?_
         simp only [Act.put, List.setIfInBounds_toArray, List.set_cons_zero, List.set_cons_succ]
         refine hd_take 6 (some 63) (.bool true) rfl rfl (by kernel_rfl) (by kernel_rfl) (by kernel_rfl) (fun _ _ _ h => h) (Or.inl ⟨by rfl, fun w hw => by go_simp⟩) h2 ?_
         simp only [Act.put, List.setIfInBounds_toArray, List.set_cons_zero, List.set_cons_succ]
         refine hd_take 7 (some 64) (.bool false) rfl rfl (by kernel_rfl) (by kernel_rfl) (by kernel_rfl) (fun _ _ _ h => h) (Or.inl ⟨by rfl, fun w hw => by go_simp⟩) h2 ?_
         simp only [Act.put, List.setIfInBounds_toArray, List.set_cons_zero, List.set_cons_succ]
         refine hd_take 8 (some 65) (.bool false) rfl rfl (by kernel_rfl) (by kernel_rfl) (by kernel_rfl) (fun _ _ _ h => h) (Or.inl ⟨by rfl, fun w hw => by go_simp⟩) h2 ?_
         simp only [Act.put, List.setIfInBounds_toArray, List.set_cons_zero, List.set_cons_succ]
         refine hd_take 9 (some 66) (.bool false) rfl rfl (by kernel_rfl) (by kernel_rfl) (by kernel_rfl) (fun _ _ _ h => h) (Or.inl ⟨by rfl, fun w hw => by go_simp⟩) h2 ?_
         simp only [Act.put, List.setIfInBounds_toArray, List.set_cons_zero, List.set_cons_succ]
         refine hd_take 10 (some 67) (undef) rfl rfl (by kernel_rfl) (by kernel_rfl) (by kernel_rfl) (fun _ _ _ h => h) (Or.inr ⟨by rfl, rfl⟩) h2 ?_
         simp only [Act.put, List.setIfInBounds_toArray, List.set_cons_zero, List.set_cons_succ]
         refine hd_take 11 (some 68) (.bool false) rfl rfl (by kernel_rfl) (by kernel_rfl) (by kernel_rfl) (fun _ _ _ h => h) (Or.inl ⟨by rfl, fun w hw => by go_simp⟩) h2 ?_
         simp only [Act.put, List.setIfInBounds_toArray, List.set_cons_zero, List.set_cons_succ]
         refine wpAnyH_ready (rs := [12]) (by kernel_rfl) (by simp) (AllReadyH.cons rfl (fun K hK => ?_) AllReadyH.nil)
         refine wp_store_row 68 _ _ rfl w.heap.size HF.C rfl rfl 68 _ HRd.out.res (by rw [infH, Hv.size HRd.out.at_.own.rnd]) (by rw [Hv.size HRd.out.at_.own.rnd]; rfl) (Hv.one HF) ?_
         refine hK.out _ _ (by exact HSt.out) (fun h3 => ?_)
         clear hK K
         refine hd_take 13 (some 3) (.bool false) rfl rfl (by kernel_rfl) (by kernel_rfl) (by kernel_rfl) (fun _ _ _ h => h) (Or.inl ⟨by rfl, fun w hw => by go_simp⟩) h3 ?_
         simp only [Act.put, List.setIfInBounds_toArray, List.set_cons_zero, List.set_cons_succ]
         refine wpAnyH_done (by kernel_rfl) ?_ _
         go_wp2_with fail
         exact ret_two Tryz.results122 (setRow_blk HRd.out.res) undH rfl infH (Hv.size HRd.out.at_.own.rnd) rfl rfl ⟨HF, congrArg (fun z => Ending.returned (.tuple #[.agg HF.C, .bool z])) HOk.out, HOw.out, HHel.out, HBe.out⟩ rfl
       | true =>
         rw [Bool.true_and, Bool.true_and, Bool.true_and] at HOk
         refine wp_region_held_drew (S := fun w' => w'.rangeAt g 0 HF.L) (by kernel_rfl) (rangeH HRd.out.at_.blk) (fun h0 => ?_)
         refine hd_take 0 (some 57) (.agg HF.C) rfl rfl (by kernel_rfl) (by kernel_rfl) (by kernel_rfl) (fun _ _ _ h => h) (yieldsIf_load_mid (by rfl) _ _ rfl g 0 rfl HF.L _ (fun _ h => h) undH rfl hiH) h0 ?_
         simp only [Act.put, List.setIfInBounds_toArray, List.set_cons_zero, List.set_cons_succ]
         refine hd_take 1 (some 58) (.pointer (some ⟨r, 0, none⟩)) rfl rfl (by kernel_rfl) (by kernel_rfl) (by kernel_rfl) (fun _ _ _ h => h) (Or.inl ⟨by rfl, fun w hw => by go_simp⟩) h0 ?_
         simp only [Act.put, List.setIfInBounds_toArray, List.set_cons_zero, List.set_cons_succ]
         refine wpAnyH_ready (rs := [2]) (by kernel_rfl) (by simp) (AllReadyH.cons rfl (fun K hK => ?_) AllReadyH.nil)
         go_simp
         go_wp2_with (go_at_call 166; refine (done_any r st' _ HRd.out.rd).mono ?_; rintro e w2 ⟨rfl, rfl⟩; rw [HD.out])
         refine hK.out _ _ (rangeH HRd.out.at_.blk) (fun h2 => ?_)
         clear hK K
         refine hd_take 3 (some 60) (.bool true) rfl rfl (by kernel_rfl) (by kernel_rfl) (by kernel_rfl) (fun _ _ _ h => h) (Or.inl ⟨by rfl, fun w hw => by go_simp⟩) h2 ?_
         simp only [Act.put, List.setIfInBounds_toArray, List.set_cons_zero, List.set_cons_succ]
         refine hd_take 4 (some 61) (.bool true) rfl rfl (by kernel_rfl) (by kernel_rfl) (by kernel_rfl) (fun _ _ _ h => h) (Or.inl ⟨by rfl, fun w hw => by go_simp⟩) h2 ?_
         simp only [Act.put, List.setIfInBounds_toArray, List.set_cons_zero, List.set_cons_succ]
         refine hd_take 5 (some 62) (.bool true) rfl rfl (by kernel_rfl) (by kernel_rfl) (by kernel_rfl) (fun _ _ _ h => h) (Or.inl ⟨by rfl, fun w hw => by go_simp⟩) h2 ?_
         simp only [Act.put, List.setIfInBounds_toArray, List.set_cons_zero, List.set_cons_succ]
         refine hd_take 6 (some 63) (.bool true) rfl rfl (by kernel_rfl) (by kernel_rfl) (by kernel_rfl) (fun _ _ _ h => h) (Or.inl ⟨by rfl, fun w hw => by go_simp⟩) h2 ?_
         simp only [Act.put, List.setIfInBounds_toArray, List.set_cons_zero, List.set_cons_succ]
         refine hd_take 7 (some 64) (.bool true) rfl rfl (by kernel_rfl) (by kernel_rfl) (by kernel_rfl) (fun _ _ _ h => h) (Or.inl ⟨by rfl, fun w hw => by go_simp⟩) h2 ?_
         simp only [Act.put, List.setIfInBounds_toArray, List.set_cons_zero, List.set_cons_succ]
         refine hd_take 8 (some 65) (.bool true) rfl rfl (by kernel_rfl) (by kernel_rfl) (by kernel_rfl) (fun _ _ _ h => h) (Or.inl ⟨by rfl, fun w hw => by go_simp⟩) h2 ?_
         simp only [Act.put, List.setIfInBounds_toArray, List.set_cons_zero, List.set_cons_succ]
         refine hd_take 9 (some 66) (.bool true) rfl rfl (by kernel_rfl) (by kernel_rfl) (by kernel_rfl) (fun _ _ _ h => h) (Or.inl ⟨by rfl, fun w hw => by go_simp⟩) h2 ?_
         simp only [Act.put, List.setIfInBounds_toArray, List.set_cons_zero, List.set_cons_succ]
         refine hd_take 10 (some 67) (.bool sv) rfl rfl (by kernel_rfl) (by kernel_rfl) (by kernel_rfl) (fun _ _ _ h => h) (Or.inl ⟨by rfl, fun w hw => by go_simp⟩) h2 ?_
         simp only [Act.put, List.setIfInBounds_toArray, List.set_cons_zero, List.set_cons_succ]
         refine hd_take 11 (some 68) (.bool sv) rfl rfl (by kernel_rfl) (by kernel_rfl) (by kernel_rfl) (fun _ _ _ h => h) (Or.inl ⟨by rfl, fun w hw => by go_simp⟩) h2 ?_
         simp only [Act.put, List.setIfInBounds_toArray, List.set_cons_zero, List.set_cons_succ]
         refine wpAnyH_ready (rs := [12]) (by kernel_rfl) (by simp) (AllReadyH.cons rfl (fun K hK => ?_) AllReadyH.nil)
         refine wp_store_row 68 _ _ rfl w.heap.size HF.C rfl rfl 68 _ HRd.out.res (by rw [infH, Hv.size HRd.out.at_.own.rnd]) (by rw [Hv.size HRd.out.at_.own.rnd]; rfl) (Hv.one HF) ?_
         refine hK.out _ _ (by exact HSt.out) (fun h3 => ?_)
         clear hK K
         refine hd_take 13 (some 3) (.bool sv) rfl rfl (by kernel_rfl) (by kernel_rfl) (by kernel_rfl) (fun _ _ _ h => h) (Or.inl ⟨by rfl, fun w hw => by go_simp⟩) h3 ?_
         simp only [Act.put, List.setIfInBounds_toArray, List.set_cons_zero, List.set_cons_succ]
         refine wpAnyH_done (by kernel_rfl) ?_ _
         go_wp2_with fail
         exact ret_two Tryz.results122 (setRow_blk HRd.out.res) undH rfl infH (Hv.size HRd.out.at_.own.rnd) rfl rfl ⟨HF, congrArg (fun z => Ending.returned (.tuple #[.agg HF.C, .bool z])) HOk.out, HOw.out, HHel.out, HBe.out⟩ rfl
end Go.Proofs.YthfknndjdfofgaaGreatDoor.He

/-
 Contract of package hello's Parse over this seat's translation.
-/
namespace Go.Proofs.YthfknndjdfofgaaGreatDoor.He
open Go.RowKit Go.Proofs.YthfknndjdfofgaaGreatDoor.Wd Go.Proofs.YthfknndjdfofgaaGreatDoor.Be

theorem go_bd0 {ops : Array Oper} {rest : List Oper} {o : Oper} {a : Act} {w : World} {Q : Exit → Act → World → Prop} (ty : TypeId) (C : Array Value) (hB : Tryz.prog.built ty [] = some C) (hg : o.guard = none) (ho : o.op = .build ty #[])
   (h : wpList Tryz.prog ops Q rest (a.put o.dst (.agg C)) w) : wpList Tryz.prog ops Q (o :: rest) a w := by
 have e : Tryz.prog.built ty ((#[] : Array (Nat × Operand)).map fun (i, x) => (i, a.eval x)).toList = some C := by simpa using hB
 refine wpList_build hg _ _ ho (by rw [e]; rfl) ?_
 rw [e]
 exact h
theorem builtH : Tryz.prog.built 68 [] = some Hv.zero.C := by kernel_rfl

def ParsePost (xs : List UInt8) (w : World) (e : Ending) (w' : World) : Prop :=
 ∃ H, e = .returned (.tuple #[.agg H.C, .int .i64 (parseS xs).2]) ∧ HOwn w' H ∧ H.hel = (parseS xs).1 ∧ Below w.heap.size w w'
theorem zero_row {w : World} {g : Nat} {H : Hv} (h : HOwn w H) {t : TypeId} {cs : Array Value} (hb : Blk w g t cs) (ht : ¬ TW t) (C : Array Value) : HOwn (w.setRow g C) H := h.off (only_row _ _ _) (OffT.of_blk hb ht)

set_option maxRecDepth 100000 in
set_option maxHeartbeats 1000000 in
theorem parse_any (A : Option Addr) (n c : Nat) (xs : List UInt8) (w : World) (hs : Src w A n xs) (hn : n ≤ 140737488355320) :
   Calls Tryz.prog 77 #[.slice A n c] w (ParsePost xs w) := by
 have HS := Lib.hid hs
 clear hs
 go_enter Tryz.func77, Tryz.ntmps77
 go_wp2_with fail
 refine (hread_any A n c xs _ (HS.out.alloc _) hn).mono ?_
 rintro e w1 ⟨H, rfl, hown, hhel, hb⟩
 rw [← zeroC] at hb
 have hr1 : Blk w1 w.heap.size 68 Hv.zero.C := Blk.below (Blk.new _ _ _) hb (by simp)
 have hb1 : Below w.heap.size w w1 := ((Below.refl _ _).alloc (Nat.le_refl _) _).trans (hb.mono (by simp))
 have hlt := hr1.lt
 have HB1 := Lib.hid hb1
 have HR1 := Lib.hid hr1
 have HO1 := Lib.hid hown
 have HH := Lib.hid hhel
 have hsz := Hv.size hown.rnd
 clear hb hb1 hr1 hown hhel
 go_upto_region 2 with (refine go_st 68 (Blk.new _ _ _) infH rfl hsz (Hv.one _) rfl rfl rfl rfl ?_)
 rw [← zeroC]
 have HK := Lib.hid (setRow_blk (new := H.C) (Blk.new w1 68 Hv.zero.C))
 have HR2 := Lib.hid (Blk.row_far (HR1.out.alloc (.cells Hv.zero.C 68)) (g' := w1.heap.size) (by omega) H.C)
 have HB2 := Lib.hid (setRow_below (HB1.out.alloc (by omega) (.cells Hv.zero.C 68)) (g := w1.heap.size) (by omega) H.C)
 have HO2 := Lib.hid (zero_row (HO1.out.below ((Below.refl _ _).alloc (Nat.le_refl _) (.cells Hv.zero.C 68))) (Blk.new w1 68 Hv.zero.C) (by unfold TW; decide) H.C)
 have hne : w.heap.size ≠ w1.heap.size := by omega
 have hle : w.heap.size ≤ w1.heap.size := by omega
 generalize (w1.alloc (.cells Hv.zero.C 68)).setRow w1.heap.size H.C = w2 at *
 generalize w1.heap.size = g at *
 clear HO1 HR1 HB1 hlt
 have hg2 := HK.out.lt
 cases hok : okS xs with
 | false =>
   have HP := Lib.hid (parse_form hok)
   go_wp2_with (first
     | (refine go_bd0 68 _ builtH rfl rfl ?_)
     | (refine go_st 68 HR2.out infH (Hv.size rfl) (Hv.size rfl) (Hv.one _) rfl rfl rfl rfl ?_))
   exact ret_two Tryz.results77 (setRow_blk HR2.out) undH rfl infH (Hv.size rfl) rfl rfl ⟨Hv.zero, by rw [HP.out]; rfl, HOwn.zero _, by rw [HP.out]; rfl, setRow_below HB2.out (Nat.le_refl _) _⟩ rfl
 | true =>
   go_wp2_with (refine go_ld 68 HK.out undH rfl infH hsz rfl rfl rfl ?_)
   refine (wrong_any H w2 HO2.out.ok).mono ?_
   rintro e w3 ⟨rfl, hb3⟩
   have hwr : wrongS H.hel = wrongS (helS xs) := by rw [HH.out]
   have HK3 := Lib.hid (HK.out.below hb3 hg2)
   have HR3 := Lib.hid (HR2.out.below hb3 HR2.out.lt)
   have HO3 := Lib.hid (HO2.out.below hb3)
   have HB3 := Lib.hid (HB2.out.trans (hb3.mono HB2.out.size))
   rw [hwr]
   clear hwr hb3 HK HR2 HO2 HB2
   by_cases hz : wrongS (helS xs) = 0
   · have HP := Lib.hid (parse_is hok hz)
     have HZ := Lib.hid hz
     rw [hz]
     clear hz
     go_wp2_with (first
       | (refine go_ld 68 HK3.out undH rfl infH hsz rfl rfl rfl ?_)
       | (refine go_st 68 HR3.out infH (Hv.size rfl) hsz (Hv.one _) rfl rfl rfl rfl ?_))
     exact ret_two Tryz.results77 (setRow_blk HR3.out) undH rfl infH hsz rfl rfl ⟨H, by rw [HP.out]; rfl, zero_row HO3.out HR3.out (by unfold TW; decide) _, by rw [HP.out]; exact HH.out, setRow_below HB3.out (Nat.le_refl _) _⟩ rfl
   · have HP := Lib.hid (show parseS xs = (Hel.zero, wrongS (helS xs)) by rw [parseS, if_pos hok, if_neg hz])
     generalize wrongS (helS xs) = e at *
     have hz' : (e == (0 : Int)) = false := by simpa using hz
     have hz2 : (e != (0 : Int)) = true := by simpa using hz
     go_wp2_with (first
       | (refine go_bd0 68 _ builtH rfl rfl ?_)
       | (refine go_st 68 HR3.out infH (Hv.size rfl) (Hv.size rfl) (Hv.one _) rfl rfl rfl rfl ?_))
     exact ret_two Tryz.results77 (setRow_blk HR3.out) undH rfl infH (Hv.size rfl) rfl rfl ⟨Hv.zero, by rw [HP.out]; rfl, HOwn.zero _, by rw [HP.out]; rfl, setRow_below HB3.out (Nat.le_refl _) _⟩ rfl
end Go.Proofs.YthfknndjdfofgaaGreatDoor.He
