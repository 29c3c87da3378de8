/-
  'Who begins alike in more bits does in fewer', over this seat's translation: the walk.
-/
import Derived.Test.YtgeebdogjpgeiaaDoorAdSmall
import Derived.Test.YtgeebdogjpgeiaaDoorAdNestsP
namespace Go.Proofs.YtgeebdogjpgeiaaDoor.Ad
open Go.RowKit Go.Maps Go.Proofs.YtgeebdogjpgeiaaDoor.Wd

set_option linter.unusedSimpArgs false in
set_option maxRecDepth 100000 in
set_option maxHeartbeats 4000000 in
theorem nests_walk (W : World) (a b : List UInt8) (ha : a.length = 16) (hb : b.length = 16) (n m : Int) {B : Nat} (hE : Env B W) :
    Calls Tryd.prog 5 #[.agg (cA a), .agg (cA b), .int .i64 n, .int .i64 m] W fun e w' => e = .returned (.bool true) ∧ Below W.heap.size W w' := by
  have E : Loc B W W [] := ⟨hE, Below.refl _ _, fun x hx => by cases hx⟩
  clear hE
  have HN := Lib.hid (fun (h : m ≤ n) (h1 : hasS (ofS a n) b = true) => has_less a b n m h h1)
  have HS := Lib.hid (has_self a n)
  have HR := Lib.hid (right_of a n)
  have H0 := Lib.hid (has_none a b (by rw [ha, hb]))
  have HA := Lib.hid (has_all a b ha hb)
  have zc := ofS_len a n
  have zd := ofS_len a m
  have z0 := ofS_len a 0
  have z1 := ofS_len a 128
  rw [ha] at zc zd z0 z1
  have heqa := eql16 a b ha hb
  go_enter Tryd.func5, Tryd.ntmps5
  go_wp2_with fail
  replace E : Loc B W ((W.alloc (.cells (cA a) 23)).alloc (.cells (cA b) 23)) [(W.heap.size + 1, 23, cA b), (W.heap.size, 23, cA a)] :=
    ((((E.on ((Below.refl _ _).alloc (Nat.le_refl _) _)).add (Blk.new W 23 (cA a))).on ((Below.refl _ _).alloc (Nat.le_refl _) _)).add (blk_at _ _ _ _ _ (by rw [alloc_size]) rfl))
  generalize (W.alloc (.cells (cA a) 23)).alloc (.cells (cA b) 23) = w1 at *
  generalize hGa : W.heap.size = Ga at *
  have HG := Lib.hid hGa
  clear hGa
  generalize hGb : Ga + 1 = Gb at *
  clear hGb
  refine (small_any _ E.env).mono ?_
  rintro e w2 ⟨rfl, hb2⟩
  replace E := E.on hb2
  clear hb2 w1
  have ba := E.at_ (Ga, 23, cA a) (by simp)
  have hza : (cA a).size = 16 := by rw [cA_size, ha]
  go_wp2_with (refine go_ld 23 ba und16 rfl info16 hza rfl rfl rfl ?_)
  clear ba hza
  refine (of_any a ha n _).mono ?_
  rintro e w3 ⟨rfl, hb2⟩
  replace E := E.on hb2
  clear hb2 w2
  generalize ofS a n = c at *
  have hz := C_size c zc
  go_upto_region 3 with (refine go_st 25 (Blk.new _ _ _) info17 rfl hz (C_one _) rfl rfl rfl rfl ?_)
  clear hz
  replace E := E.new 25 #[Value.int .u8 0, Value.int .u8 0, Value.int .u8 0, Value.int .u8 0, Value.int .u8 0, Value.int .u8 0, Value.int .u8 0, Value.int .u8 0, Value.int .u8 0, Value.int .u8 0, Value.int .u8 0, Value.int .u8 0, Value.int .u8 0, Value.int .u8 0, Value.int .u8 0, Value.int .u8 0, Value.int .i64 0] c.cells
  generalize hG : w3.heap.size = Gc at *
  generalize (w3.alloc (.cells #[Value.int .u8 0, Value.int .u8 0, Value.int .u8 0, Value.int .u8 0, Value.int .u8 0, Value.int .u8 0, Value.int .u8 0, Value.int .u8 0, Value.int .u8 0, Value.int .u8 0, Value.int .u8 0, Value.int .u8 0, Value.int .u8 0, Value.int .u8 0, Value.int .u8 0, Value.int .u8 0, Value.int .i64 0] 25)).setRow Gc c.cells = w4 at *
  clear hG w3
  have ba := E.at_ (Ga, 23, cA a) (by simp)
  have hza : (cA a).size = 16 := by rw [cA_size, ha]
  go_wp2_with (refine go_ld 23 ba und16 rfl info16 hza rfl rfl rfl ?_)
  clear ba hza
  refine (of_any a ha m _).mono ?_
  rintro e w5 ⟨rfl, hb2⟩
  replace E := E.on hb2
  clear hb2 w4
  generalize ofS a m = d at *
  have hz := C_size d zd
  go_upto_region 4 with (refine go_st 25 (Blk.new _ _ _) info17 rfl hz (C_one _) rfl rfl rfl rfl ?_)
  clear hz
  replace E := E.new 25 #[Value.int .u8 0, Value.int .u8 0, Value.int .u8 0, Value.int .u8 0, Value.int .u8 0, Value.int .u8 0, Value.int .u8 0, Value.int .u8 0, Value.int .u8 0, Value.int .u8 0, Value.int .u8 0, Value.int .u8 0, Value.int .u8 0, Value.int .u8 0, Value.int .u8 0, Value.int .u8 0, Value.int .i64 0] d.cells
  generalize hG : w5.heap.size = Gd at *
  generalize (w5.alloc (.cells #[Value.int .u8 0, Value.int .u8 0, Value.int .u8 0, Value.int .u8 0, Value.int .u8 0, Value.int .u8 0, Value.int .u8 0, Value.int .u8 0, Value.int .u8 0, Value.int .u8 0, Value.int .u8 0, Value.int .u8 0, Value.int .u8 0, Value.int .u8 0, Value.int .u8 0, Value.int .u8 0, Value.int .i64 0] 25)).setRow Gd d.cells = w6 at *
  clear hG w5
  have HI := Lib.hid (show (Tryd.prog.info? 25).map (·.size) = some (cL c).length from by rw [cL_len c zc]; exact info17)
  have HIa := Lib.hid (show (Tryd.prog.info? 23).map (·.size) = some (cellsOf a).length from by rw [cellsOf_length, ha]; exact info16)
  have HIb := Lib.hid (show (Tryd.prog.info? 23).map (·.size) = some (cellsOf b).length from by rw [cellsOf_length, hb]; exact info16)
  generalize (a == b) = RR at *
  by_cases hnm : m ≤ n
  · have hd1 : decide (m ≤ n) = true := decide_eq_true hnm
    have bb := E.at_ (Gb, 23, cA b) (by simp)
    have bc := E.at_ (Gc, 25, c.cells) (by simp)
    have hzb : (cA b).size = 16 := by rw [cA_size, hb]
    have hzc := C_size c zc
    cases hR : hasS c b with
    | false =>
      have hr := Lib.hid hR
      clear hR
      go_wp2_with (first
        | (refine go_ldg 23 bb und16 rfl info16 hzb (by rfl) rfl rfl ?_)
        | (refine go_ldg 25 bc und17 rfl info17 hzc (by rfl) rfl rfl ?_)
        | (go_at_call 14; refine (has_any c zc b hb _).mono ?_; rintro e w7 ⟨rfl, hb2⟩; rw [hr.out]; replace E := E.on hb2; clear hb2))
      clear bb bc hzb hzc
      have HE := Lib.hid (show Loc B W _ _ from E.drew)
      have hlow := E.low
      clear E hlow
      refine wp_region_held_drew (S := fun w' => Loc B W w' [(Gd, 25, d.cells), (Gc, 25, c.cells), (Gb, 23, cA b), (Ga, 23, cA a)]) (by kernel_rfl) HE.out (fun h0 => ?_)
      clear HE
      refine hd_take 0 (some 33) (.bool true) rfl rfl (by kernel_rfl) (by kernel_rfl) (by kernel_rfl) (fun _ _ _ h => h) (Or.inl ⟨by rfl, fun w hw => by go_simp⟩) h0 ?_
      simp only [Act.put, List.setIfInBounds_toArray, List.set_cons_zero, List.set_cons_succ]
      refine hd_take 1 (some 34) (.bool true) rfl rfl (by kernel_rfl) (by kernel_rfl) (by kernel_rfl) (fun _ _ _ h => h) (Or.inl ⟨by rfl, fun w hw => by go_simp⟩) h0 ?_
      simp only [Act.put, List.setIfInBounds_toArray, List.set_cons_zero, List.set_cons_succ]
      refine hd_take 2 (some 35) (.agg c.cells) rfl rfl (by kernel_rfl) (by kernel_rfl) (by kernel_rfl) (fun _ _ _ h => h) (yieldsIf_load_mid (by rfl) _ _ rfl Gc 0 rfl (cL c) _ (fun _ h => rangeC (h.at_ (Gc, 25, c.cells) (by simp))) und17 rfl HI.out) h0 ?_
      simp only [Act.put, List.setIfInBounds_toArray, List.set_cons_zero, List.set_cons_succ]
      refine hd_take 3 (some 36) (.agg (cA a)) rfl rfl (by kernel_rfl) (by kernel_rfl) (by kernel_rfl) (fun _ _ _ h => h) (yieldsIf_load_mid (by rfl) _ _ rfl Ga 0 rfl (cellsOf a) _ (fun _ h => rangeA (h.at_ (Ga, 23, cA a) (by simp))) und16 rfl HIa.out) h0 ?_
      simp only [Act.put, List.setIfInBounds_toArray, List.set_cons_zero, List.set_cons_succ]
      refine wpAnyH_ready (rs := [4]) (by kernel_rfl) (by simp) (AllReadyH.cons rfl (fun K hK => ?_) AllReadyH.nil)
      go_simp
      go_wp2_with (go_at_call 14; refine (has_any c zc a ha _).mono ?_; rintro e x4 ⟨rfl, hb2⟩; rw [HS.out]; have HC4 := Lib.hid (h0.on hb2); clear hb2)
      refine hK.out _ _ HC4.out (fun h4 => ?_)
      clear hK K HC4 h0
      refine hd_take 5 (some 38) (.bool true) rfl rfl (by kernel_rfl) (by kernel_rfl) (by kernel_rfl) (fun _ _ _ h => h) (Or.inl ⟨by rfl, fun w hw => by go_simp⟩) h4 ?_
      simp only [Act.put, List.setIfInBounds_toArray, List.set_cons_zero, List.set_cons_succ]
      refine hd_take 6 (some 39) (.bool true) rfl rfl (by kernel_rfl) (by kernel_rfl) (by kernel_rfl) (fun _ _ _ h => h) (Or.inl ⟨by rfl, fun w hw => by go_simp⟩) h4 ?_
      simp only [Act.put, List.setIfInBounds_toArray, List.set_cons_zero, List.set_cons_succ]
      refine hd_take 7 (some 40) (.agg c.cells) rfl rfl (by kernel_rfl) (by kernel_rfl) (by kernel_rfl) (fun _ _ _ h => h) (yieldsIf_load_mid (by rfl) _ _ rfl Gc 0 rfl (cL c) _ (fun _ h => rangeC (h.at_ (Gc, 25, c.cells) (by simp))) und17 rfl HI.out) h4 ?_
      simp only [Act.put, List.setIfInBounds_toArray, List.set_cons_zero, List.set_cons_succ]
      refine wpAnyH_ready (rs := [8]) (by kernel_rfl) (by simp) (AllReadyH.cons rfl (fun K hK => ?_) AllReadyH.nil)
      go_simp
      go_wp2_with (go_at_call 10; refine (right_any c zc _).mono ?_; rintro e x8 ⟨rfl, hb2⟩; rw [HR.out]; have HC8 := Lib.hid (h4.on hb2); clear hb2)
      refine hK.out _ _ HC8.out (fun h8 => ?_)
      clear hK K HC8 h4
      refine hd_take 9 (some 42) (.bool true) rfl rfl (by kernel_rfl) (by kernel_rfl) (by kernel_rfl) (fun _ _ _ h => h) (Or.inl ⟨by rfl, fun w hw => by go_simp⟩) h8 ?_
      simp only [Act.put, List.setIfInBounds_toArray, List.set_cons_zero, List.set_cons_succ]
      refine hd_take 10 (some 43) (.bool true) rfl rfl (by kernel_rfl) (by kernel_rfl) (by kernel_rfl) (fun _ _ _ h => h) (Or.inl ⟨by rfl, fun w hw => by go_simp⟩) h8 ?_
      simp only [Act.put, List.setIfInBounds_toArray, List.set_cons_zero, List.set_cons_succ]
      refine hd_take 11 (some 44) (.agg (cA a)) rfl rfl (by kernel_rfl) (by kernel_rfl) (by kernel_rfl) (fun _ _ _ h => h) (yieldsIf_load_mid (by rfl) _ _ rfl Ga 0 rfl (cellsOf a) _ (fun _ h => rangeA (h.at_ (Ga, 23, cA a) (by simp))) und16 rfl HIa.out) h8 ?_
      simp only [Act.put, List.setIfInBounds_toArray, List.set_cons_zero, List.set_cons_succ]
      refine hd_take 13 (some 46) (.agg (cA b)) rfl rfl (by kernel_rfl) (by kernel_rfl) (by kernel_rfl) (fun _ _ _ h => h) (yieldsIf_load_mid (by rfl) _ _ rfl Gb 0 rfl (cellsOf b) _ (fun _ h => rangeA (h.at_ (Gb, 23, cA b) (by simp))) und16 rfl HIb.out) h8 ?_
      simp only [Act.put, List.setIfInBounds_toArray, List.set_cons_zero, List.set_cons_succ]
      refine wpAnyH_ready (rs := [12]) (by kernel_rfl) (by simp) (AllReadyH.cons rfl (fun K hK => ?_) AllReadyH.nil)
      go_simp
      go_wp2_with (go_at_call 15; refine (of_any a ha 0 _).mono ?_; rintro e x12 ⟨rfl, hb2⟩; have HC12 := Lib.hid (h8.on hb2); clear hb2)
      refine hK.out _ _ HC12.out (fun h12 => ?_)
      clear hK K HC12 h8
      generalize ofS a 0 = c0 at *
      refine wpAnyH_ready (rs := [14]) (by kernel_rfl) (by simp) (AllReadyH.cons rfl (fun K hK => ?_) AllReadyH.nil)
      go_simp
      go_wp2_with (go_at_call 14; refine (has_any c0 z0 b hb _).mono ?_; rintro e x14 ⟨rfl, hb2⟩; rw [H0.out]; have HC14 := Lib.hid (h12.on hb2); clear hb2)
      refine hK.out _ _ HC14.out (fun h14 => ?_)
      clear hK K HC14 h12
      refine hd_take 15 (some 48) (.bool true) rfl rfl (by kernel_rfl) (by kernel_rfl) (by kernel_rfl) (fun _ _ _ h => h) (Or.inl ⟨by rfl, fun w hw => by go_simp⟩) h14 ?_
      simp only [Act.put, List.setIfInBounds_toArray, List.set_cons_zero, List.set_cons_succ]
      refine hd_take 16 (some 49) (.bool true) rfl rfl (by kernel_rfl) (by kernel_rfl) (by kernel_rfl) (fun _ _ _ h => h) (Or.inl ⟨by rfl, fun w hw => by go_simp⟩) h14 ?_
      simp only [Act.put, List.setIfInBounds_toArray, List.set_cons_zero, List.set_cons_succ]
      refine hd_take 17 (some 50) (.agg (cA a)) rfl rfl (by kernel_rfl) (by kernel_rfl) (by kernel_rfl) (fun _ _ _ h => h) (yieldsIf_load_mid (by rfl) _ _ rfl Ga 0 rfl (cellsOf a) _ (fun _ h => rangeA (h.at_ (Ga, 23, cA a) (by simp))) und16 rfl HIa.out) h14 ?_
      simp only [Act.put, List.setIfInBounds_toArray, List.set_cons_zero, List.set_cons_succ]
      refine hd_take 19 (some 52) (.agg (cA b)) rfl rfl (by kernel_rfl) (by kernel_rfl) (by kernel_rfl) (fun _ _ _ h => h) (yieldsIf_load_mid (by rfl) _ _ rfl Gb 0 rfl (cellsOf b) _ (fun _ h => rangeA (h.at_ (Gb, 23, cA b) (by simp))) und16 rfl HIb.out) h14 ?_
      simp only [Act.put, List.setIfInBounds_toArray, List.set_cons_zero, List.set_cons_succ]
      refine hd_take 21 (some 54) (.agg (cA a)) rfl rfl (by kernel_rfl) (by kernel_rfl) (by kernel_rfl) (fun _ _ _ h => h) (yieldsIf_load_mid (by rfl) _ _ rfl Ga 0 rfl (cellsOf a) _ (fun _ h => rangeA (h.at_ (Ga, 23, cA a) (by simp))) und16 rfl HIa.out) h14 ?_
      simp only [Act.put, List.setIfInBounds_toArray, List.set_cons_zero, List.set_cons_succ]
      refine hd_take 22 (some 55) (.agg (cA b)) rfl rfl (by kernel_rfl) (by kernel_rfl) (by kernel_rfl) (fun _ _ _ h => h) (yieldsIf_load_mid (by rfl) _ _ rfl Gb 0 rfl (cellsOf b) _ (fun _ h => rangeA (h.at_ (Gb, 23, cA b) (by simp))) und16 rfl HIb.out) h14 ?_
      simp only [Act.put, List.setIfInBounds_toArray, List.set_cons_zero, List.set_cons_succ]
      refine hd_take 23 (some 56) (.bool RR) rfl rfl (by kernel_rfl) (by kernel_rfl) (by kernel_rfl) (fun _ _ _ h => h) (Or.inl ⟨by rfl, fun w hw => by go_simp⟩) h14 ?_
      simp only [Act.put, List.setIfInBounds_toArray, List.set_cons_zero, List.set_cons_succ]
      refine wpAnyH_ready (rs := [18]) (by kernel_rfl) (by simp) (AllReadyH.cons rfl (fun K hK => ?_) AllReadyH.nil)
      go_simp
      go_wp2_with (go_at_call 15; refine (of_any a ha 128 _).mono ?_; rintro e x18 ⟨rfl, hb2⟩; have HC18 := Lib.hid (h14.on hb2); clear hb2)
      refine hK.out _ _ HC18.out (fun h18 => ?_)
      clear hK K HC18 h14
      generalize ofS a 128 = c9 at *
      refine wpAnyH_ready (rs := [20]) (by kernel_rfl) (by simp) (AllReadyH.cons rfl (fun K hK => ?_) AllReadyH.nil)
      go_simp
      go_wp2_with (go_at_call 14; refine (has_any c9 z1 b hb _).mono ?_; rintro e x20 ⟨rfl, hb2⟩; rw [HA.out]; have HC20 := Lib.hid (h18.on hb2); clear hb2)
      refine hK.out _ _ HC20.out (fun h20 => ?_)
      clear hK K HC20 h18
      refine hd_take 24 (some 57) (.bool true) rfl rfl (by kernel_rfl) (by kernel_rfl) (by kernel_rfl) (fun _ _ _ h => h) (Or.inl ⟨by rfl, fun w hw => by go_simp⟩) h20 ?_
      simp only [Act.put, List.setIfInBounds_toArray, List.set_cons_zero, List.set_cons_succ]
      refine hd_take 25 (some 58) (.bool true) rfl rfl (by kernel_rfl) (by kernel_rfl) (by kernel_rfl) (fun _ _ _ h => h) (Or.inl ⟨by rfl, fun w hw => by go_simp⟩) h20 ?_
      simp only [Act.put, List.setIfInBounds_toArray, List.set_cons_zero, List.set_cons_succ]
      refine hd_take 26 (some 8) (.bool true) rfl rfl (by kernel_rfl) (by kernel_rfl) (by kernel_rfl) (fun _ _ _ h => h) (Or.inl ⟨by rfl, fun w hw => by go_simp⟩) h20 ?_
      simp only [Act.put, List.setIfInBounds_toArray, List.set_cons_zero, List.set_cons_succ]
      refine wpAnyH_done (by kernel_rfl) ?_ _
      have HF := Lib.hid h20.low
      go_wp2_with fail
      go_ret
      rw [HG.out] at *
      exact ⟨rfl, HF.out⟩
    | true =>
      have hr := Lib.hid hR
      have hN := Lib.hid (HN.out hnm hR)
      clear hR HN
      have hzd := C_size d zd
      have zk := zc
      go_wp2_with (first
        | (refine go_ldg 23 bb und16 rfl info16 hzb (by rfl) rfl rfl ?_)
        | (refine go_ldg 25 bc und17 rfl info17 hzc (by rfl) rfl rfl ?_)
        | (go_at_call 14; refine (has_any _ zc b hb _).mono ?_; rintro e w7 ⟨rfl, hb2⟩; rw [hr.out]; replace E := E.on hb2; clear hb2 bb bc zc; have bb := E.at_ (Gb, 23, cA b) (by simp); have bc := E.at_ (Gd, 25, d.cells) (by simp); clear hzc; have hzc := hzd; have zc := zd))
      refine (has_any _ zd b hb _).mono ?_
      rintro e w8 ⟨rfl, hb2⟩
      rw [hN.out]
      replace E := E.on hb2
      clear hb2 bb bc
      go_wp2_with fail
      clear zc
      have zc := zk
      clear hzb hzc hzd zk
      have HE := Lib.hid (show Loc B W _ _ from E.drew)
      have hlow := E.low
      clear E hlow
      refine wp_region_held_drew (S := fun w' => Loc B W w' [(Gd, 25, d.cells), (Gc, 25, c.cells), (Gb, 23, cA b), (Ga, 23, cA a)]) (by kernel_rfl) HE.out (fun h0 => ?_)
      clear HE
      refine hd_take 0 (some 33) (.bool true) rfl rfl (by kernel_rfl) (by kernel_rfl) (by kernel_rfl) (fun _ _ _ h => h) (Or.inl ⟨by rfl, fun w hw => by go_simp⟩) h0 ?_
      simp only [Act.put, List.setIfInBounds_toArray, List.set_cons_zero, List.set_cons_succ]
      refine hd_take 1 (some 34) (.bool true) rfl rfl (by kernel_rfl) (by kernel_rfl) (by kernel_rfl) (fun _ _ _ h => h) (Or.inl ⟨by rfl, fun w hw => by go_simp⟩) h0 ?_
      simp only [Act.put, List.setIfInBounds_toArray, List.set_cons_zero, List.set_cons_succ]
      refine hd_take 2 (some 35) (.agg c.cells) rfl rfl (by kernel_rfl) (by kernel_rfl) (by kernel_rfl) (fun _ _ _ h => h) (yieldsIf_load_mid (by rfl) _ _ rfl Gc 0 rfl (cL c) _ (fun _ h => rangeC (h.at_ (Gc, 25, c.cells) (by simp))) und17 rfl HI.out) h0 ?_
      simp only [Act.put, List.setIfInBounds_toArray, List.set_cons_zero, List.set_cons_succ]
      refine hd_take 3 (some 36) (.agg (cA a)) rfl rfl (by kernel_rfl) (by kernel_rfl) (by kernel_rfl) (fun _ _ _ h => h) (yieldsIf_load_mid (by rfl) _ _ rfl Ga 0 rfl (cellsOf a) _ (fun _ h => rangeA (h.at_ (Ga, 23, cA a) (by simp))) und16 rfl HIa.out) h0 ?_
      simp only [Act.put, List.setIfInBounds_toArray, List.set_cons_zero, List.set_cons_succ]
      refine wpAnyH_ready (rs := [4]) (by kernel_rfl) (by simp) (AllReadyH.cons rfl (fun K hK => ?_) AllReadyH.nil)
      go_simp
      go_wp2_with (go_at_call 14; refine (has_any c zc a ha _).mono ?_; rintro e x4 ⟨rfl, hb2⟩; rw [HS.out]; have HC4 := Lib.hid (h0.on hb2); clear hb2)
      refine hK.out _ _ HC4.out (fun h4 => ?_)
      clear hK K HC4 h0
      refine hd_take 5 (some 38) (.bool true) rfl rfl (by kernel_rfl) (by kernel_rfl) (by kernel_rfl) (fun _ _ _ h => h) (Or.inl ⟨by rfl, fun w hw => by go_simp⟩) h4 ?_
      simp only [Act.put, List.setIfInBounds_toArray, List.set_cons_zero, List.set_cons_succ]
      refine hd_take 6 (some 39) (.bool true) rfl rfl (by kernel_rfl) (by kernel_rfl) (by kernel_rfl) (fun _ _ _ h => h) (Or.inl ⟨by rfl, fun w hw => by go_simp⟩) h4 ?_
      simp only [Act.put, List.setIfInBounds_toArray, List.set_cons_zero, List.set_cons_succ]
      refine hd_take 7 (some 40) (.agg c.cells) rfl rfl (by kernel_rfl) (by kernel_rfl) (by kernel_rfl) (fun _ _ _ h => h) (yieldsIf_load_mid (by rfl) _ _ rfl Gc 0 rfl (cL c) _ (fun _ h => rangeC (h.at_ (Gc, 25, c.cells) (by simp))) und17 rfl HI.out) h4 ?_
      simp only [Act.put, List.setIfInBounds_toArray, List.set_cons_zero, List.set_cons_succ]
      refine wpAnyH_ready (rs := [8]) (by kernel_rfl) (by simp) (AllReadyH.cons rfl (fun K hK => ?_) AllReadyH.nil)
      go_simp
      go_wp2_with (go_at_call 10; refine (right_any c zc _).mono ?_; rintro e x8 ⟨rfl, hb2⟩; rw [HR.out]; have HC8 := Lib.hid (h4.on hb2); clear hb2)
      refine hK.out _ _ HC8.out (fun h8 => ?_)
      clear hK K HC8 h4
      refine hd_take 9 (some 42) (.bool true) rfl rfl (by kernel_rfl) (by kernel_rfl) (by kernel_rfl) (fun _ _ _ h => h) (Or.inl ⟨by rfl, fun w hw => by go_simp⟩) h8 ?_
      simp only [Act.put, List.setIfInBounds_toArray, List.set_cons_zero, List.set_cons_succ]
      refine hd_take 10 (some 43) (.bool true) rfl rfl (by kernel_rfl) (by kernel_rfl) (by kernel_rfl) (fun _ _ _ h => h) (Or.inl ⟨by rfl, fun w hw => by go_simp⟩) h8 ?_
      simp only [Act.put, List.setIfInBounds_toArray, List.set_cons_zero, List.set_cons_succ]
      refine hd_take 11 (some 44) (.agg (cA a)) rfl rfl (by kernel_rfl) (by kernel_rfl) (by kernel_rfl) (fun _ _ _ h => h) (yieldsIf_load_mid (by rfl) _ _ rfl Ga 0 rfl (cellsOf a) _ (fun _ h => rangeA (h.at_ (Ga, 23, cA a) (by simp))) und16 rfl HIa.out) h8 ?_
      simp only [Act.put, List.setIfInBounds_toArray, List.set_cons_zero, List.set_cons_succ]
      refine hd_take 13 (some 46) (.agg (cA b)) rfl rfl (by kernel_rfl) (by kernel_rfl) (by kernel_rfl) (fun _ _ _ h => h) (yieldsIf_load_mid (by rfl) _ _ rfl Gb 0 rfl (cellsOf b) _ (fun _ h => rangeA (h.at_ (Gb, 23, cA b) (by simp))) und16 rfl HIb.out) h8 ?_
      simp only [Act.put, List.setIfInBounds_toArray, List.set_cons_zero, List.set_cons_succ]
      refine wpAnyH_ready (rs := [12]) (by kernel_rfl) (by simp) (AllReadyH.cons rfl (fun K hK => ?_) AllReadyH.nil)
      go_simp
      go_wp2_with (go_at_call 15; refine (of_any a ha 0 _).mono ?_; rintro e x12 ⟨rfl, hb2⟩; have HC12 := Lib.hid (h8.on hb2); clear hb2)
      refine hK.out _ _ HC12.out (fun h12 => ?_)
      clear hK K HC12 h8
      generalize ofS a 0 = c0 at *
      refine wpAnyH_ready (rs := [14]) (by kernel_rfl) (by simp) (AllReadyH.cons rfl (fun K hK => ?_) AllReadyH.nil)
      go_simp
      go_wp2_with (go_at_call 14; refine (has_any c0 z0 b hb _).mono ?_; rintro e x14 ⟨rfl, hb2⟩; rw [H0.out]; have HC14 := Lib.hid (h12.on hb2); clear hb2)
      refine hK.out _ _ HC14.out (fun h14 => ?_)
      clear hK K HC14 h12
      refine hd_take 15 (some 48) (.bool true) rfl rfl (by kernel_rfl) (by kernel_rfl) (by kernel_rfl) (fun _ _ _ h => h) (Or.inl ⟨by rfl, fun w hw => by go_simp⟩) h14 ?_
      simp only [Act.put, List.setIfInBounds_toArray, List.set_cons_zero, List.set_cons_succ]
      refine hd_take 16 (some 49) (.bool true) rfl rfl (by kernel_rfl) (by kernel_rfl) (by kernel_rfl) (fun _ _ _ h => h) (Or.inl ⟨by rfl, fun w hw => by go_simp⟩) h14 ?_
      simp only [Act.put, List.setIfInBounds_toArray, List.set_cons_zero, List.set_cons_succ]
      refine hd_take 17 (some 50) (.agg (cA a)) rfl rfl (by kernel_rfl) (by kernel_rfl) (by kernel_rfl) (fun _ _ _ h => h) (yieldsIf_load_mid (by rfl) _ _ rfl Ga 0 rfl (cellsOf a) _ (fun _ h => rangeA (h.at_ (Ga, 23, cA a) (by simp))) und16 rfl HIa.out) h14 ?_
      simp only [Act.put, List.setIfInBounds_toArray, List.set_cons_zero, List.set_cons_succ]
      refine hd_take 19 (some 52) (.agg (cA b)) rfl rfl (by kernel_rfl) (by kernel_rfl) (by kernel_rfl) (fun _ _ _ h => h) (yieldsIf_load_mid (by rfl) _ _ rfl Gb 0 rfl (cellsOf b) _ (fun _ h => rangeA (h.at_ (Gb, 23, cA b) (by simp))) und16 rfl HIb.out) h14 ?_
      simp only [Act.put, List.setIfInBounds_toArray, List.set_cons_zero, List.set_cons_succ]
      refine hd_take 21 (some 54) (.agg (cA a)) rfl rfl (by kernel_rfl) (by kernel_rfl) (by kernel_rfl) (fun _ _ _ h => h) (yieldsIf_load_mid (by rfl) _ _ rfl Ga 0 rfl (cellsOf a) _ (fun _ h => rangeA (h.at_ (Ga, 23, cA a) (by simp))) und16 rfl HIa.out) h14 ?_
      simp only [Act.put, List.setIfInBounds_toArray, List.set_cons_zero, List.set_cons_succ]
      refine hd_take 22 (some 55) (.agg (cA b)) rfl rfl (by kernel_rfl) (by kernel_rfl) (by kernel_rfl) (fun _ _ _ h => h) (yieldsIf_load_mid (by rfl) _ _ rfl Gb 0 rfl (cellsOf b) _ (fun _ h => rangeA (h.at_ (Gb, 23, cA b) (by simp))) und16 rfl HIb.out) h14 ?_
      simp only [Act.put, List.setIfInBounds_toArray, List.set_cons_zero, List.set_cons_succ]
      refine hd_take 23 (some 56) (.bool RR) rfl rfl (by kernel_rfl) (by kernel_rfl) (by kernel_rfl) (fun _ _ _ h => h) (Or.inl ⟨by rfl, fun w hw => by go_simp⟩) h14 ?_
      simp only [Act.put, List.setIfInBounds_toArray, List.set_cons_zero, List.set_cons_succ]
      refine wpAnyH_ready (rs := [18]) (by kernel_rfl) (by simp) (AllReadyH.cons rfl (fun K hK => ?_) AllReadyH.nil)
      go_simp
      go_wp2_with (go_at_call 15; refine (of_any a ha 128 _).mono ?_; rintro e x18 ⟨rfl, hb2⟩; have HC18 := Lib.hid (h14.on hb2); clear hb2)
      refine hK.out _ _ HC18.out (fun h18 => ?_)
      clear hK K HC18 h14
      generalize ofS a 128 = c9 at *
      refine wpAnyH_ready (rs := [20]) (by kernel_rfl) (by simp) (AllReadyH.cons rfl (fun K hK => ?_) AllReadyH.nil)
      go_simp
      go_wp2_with (go_at_call 14; refine (has_any c9 z1 b hb _).mono ?_; rintro e x20 ⟨rfl, hb2⟩; rw [HA.out]; have HC20 := Lib.hid (h18.on hb2); clear hb2)
      refine hK.out _ _ HC20.out (fun h20 => ?_)
      clear hK K HC20 h18
      refine hd_take 24 (some 57) (.bool true) rfl rfl (by kernel_rfl) (by kernel_rfl) (by kernel_rfl) (fun _ _ _ h => h) (Or.inl ⟨by rfl, fun w hw => by go_simp⟩) h20 ?_
      simp only [Act.put, List.setIfInBounds_toArray, List.set_cons_zero, List.set_cons_succ]
      refine hd_take 25 (some 58) (.bool true) rfl rfl (by kernel_rfl) (by kernel_rfl) (by kernel_rfl) (fun _ _ _ h => h) (Or.inl ⟨by rfl, fun w hw => by go_simp⟩) h20 ?_
      simp only [Act.put, List.setIfInBounds_toArray, List.set_cons_zero, List.set_cons_succ]
      refine hd_take 26 (some 8) (.bool true) rfl rfl (by kernel_rfl) (by kernel_rfl) (by kernel_rfl) (fun _ _ _ h => h) (Or.inl ⟨by rfl, fun w hw => by go_simp⟩) h20 ?_
      simp only [Act.put, List.setIfInBounds_toArray, List.set_cons_zero, List.set_cons_succ]
      refine wpAnyH_done (by kernel_rfl) ?_ _
      have HF := Lib.hid h20.low
      go_wp2_with fail
      go_ret
      rw [HG.out] at *
      exact ⟨rfl, HF.out⟩
  · have hd1 : decide (m ≤ n) = false := decide_eq_false hnm
    clear HN
    go_wp2_with fail
    have HE := Lib.hid (show Loc B W _ _ from E.drew)
    have hlow := E.low
    clear E hlow
    refine wp_region_held_drew (S := fun w' => Loc B W w' [(Gd, 25, d.cells), (Gc, 25, c.cells), (Gb, 23, cA b), (Ga, 23, cA a)]) (by kernel_rfl) HE.out (fun h0 => ?_)
    clear HE
    refine hd_take 0 (some 33) (.bool true) rfl rfl (by kernel_rfl) (by kernel_rfl) (by kernel_rfl) (fun _ _ _ h => h) (Or.inl ⟨by rfl, fun w hw => by go_simp⟩) h0 ?_
    simp only [Act.put, List.setIfInBounds_toArray, List.set_cons_zero, List.set_cons_succ]
    refine hd_take 1 (some 34) (.bool true) rfl rfl (by kernel_rfl) (by kernel_rfl) (by kernel_rfl) (fun _ _ _ h => h) (Or.inl ⟨by rfl, fun w hw => by go_simp⟩) h0 ?_
    simp only [Act.put, List.setIfInBounds_toArray, List.set_cons_zero, List.set_cons_succ]
    refine hd_take 2 (some 35) (.agg c.cells) rfl rfl (by kernel_rfl) (by kernel_rfl) (by kernel_rfl) (fun _ _ _ h => h) (yieldsIf_load_mid (by rfl) _ _ rfl Gc 0 rfl (cL c) _ (fun _ h => rangeC (h.at_ (Gc, 25, c.cells) (by simp))) und17 rfl HI.out) h0 ?_
    simp only [Act.put, List.setIfInBounds_toArray, List.set_cons_zero, List.set_cons_succ]
    refine hd_take 3 (some 36) (.agg (cA a)) rfl rfl (by kernel_rfl) (by kernel_rfl) (by kernel_rfl) (fun _ _ _ h => h) (yieldsIf_load_mid (by rfl) _ _ rfl Ga 0 rfl (cellsOf a) _ (fun _ h => rangeA (h.at_ (Ga, 23, cA a) (by simp))) und16 rfl HIa.out) h0 ?_
    simp only [Act.put, List.setIfInBounds_toArray, List.set_cons_zero, List.set_cons_succ]
    refine wpAnyH_ready (rs := [4]) (by kernel_rfl) (by simp) (AllReadyH.cons rfl (fun K hK => ?_) AllReadyH.nil)
    go_simp
    go_wp2_with (go_at_call 14; refine (has_any c zc a ha _).mono ?_; rintro e x4 ⟨rfl, hb2⟩; rw [HS.out]; have HC4 := Lib.hid (h0.on hb2); clear hb2)
    refine hK.out _ _ HC4.out (fun h4 => ?_)
    clear hK K HC4 h0
    refine hd_take 5 (some 38) (.bool true) rfl rfl (by kernel_rfl) (by kernel_rfl) (by kernel_rfl) (fun _ _ _ h => h) (Or.inl ⟨by rfl, fun w hw => by go_simp⟩) h4 ?_
    simp only [Act.put, List.setIfInBounds_toArray, List.set_cons_zero, List.set_cons_succ]
    refine hd_take 6 (some 39) (.bool true) rfl rfl (by kernel_rfl) (by kernel_rfl) (by kernel_rfl) (fun _ _ _ h => h) (Or.inl ⟨by rfl, fun w hw => by go_simp⟩) h4 ?_
    simp only [Act.put, List.setIfInBounds_toArray, List.set_cons_zero, List.set_cons_succ]
    refine hd_take 7 (some 40) (.agg c.cells) rfl rfl (by kernel_rfl) (by kernel_rfl) (by kernel_rfl) (fun _ _ _ h => h) (yieldsIf_load_mid (by rfl) _ _ rfl Gc 0 rfl (cL c) _ (fun _ h => rangeC (h.at_ (Gc, 25, c.cells) (by simp))) und17 rfl HI.out) h4 ?_
    simp only [Act.put, List.setIfInBounds_toArray, List.set_cons_zero, List.set_cons_succ]
    refine wpAnyH_ready (rs := [8]) (by kernel_rfl) (by simp) (AllReadyH.cons rfl (fun K hK => ?_) AllReadyH.nil)
    go_simp
    go_wp2_with (go_at_call 10; refine (right_any c zc _).mono ?_; rintro e x8 ⟨rfl, hb2⟩; rw [HR.out]; have HC8 := Lib.hid (h4.on hb2); clear hb2)
    refine hK.out _ _ HC8.out (fun h8 => ?_)
    clear hK K HC8 h4
    refine hd_take 9 (some 42) (.bool true) rfl rfl (by kernel_rfl) (by kernel_rfl) (by kernel_rfl) (fun _ _ _ h => h) (Or.inl ⟨by rfl, fun w hw => by go_simp⟩) h8 ?_
    simp only [Act.put, List.setIfInBounds_toArray, List.set_cons_zero, List.set_cons_succ]
    refine hd_take 10 (some 43) (.bool true) rfl rfl (by kernel_rfl) (by kernel_rfl) (by kernel_rfl) (fun _ _ _ h => h) (Or.inl ⟨by rfl, fun w hw => by go_simp⟩) h8 ?_
    simp only [Act.put, List.setIfInBounds_toArray, List.set_cons_zero, List.set_cons_succ]
    refine hd_take 11 (some 44) (.agg (cA a)) rfl rfl (by kernel_rfl) (by kernel_rfl) (by kernel_rfl) (fun _ _ _ h => h) (yieldsIf_load_mid (by rfl) _ _ rfl Ga 0 rfl (cellsOf a) _ (fun _ h => rangeA (h.at_ (Ga, 23, cA a) (by simp))) und16 rfl HIa.out) h8 ?_
    simp only [Act.put, List.setIfInBounds_toArray, List.set_cons_zero, List.set_cons_succ]
    refine hd_take 13 (some 46) (.agg (cA b)) rfl rfl (by kernel_rfl) (by kernel_rfl) (by kernel_rfl) (fun _ _ _ h => h) (yieldsIf_load_mid (by rfl) _ _ rfl Gb 0 rfl (cellsOf b) _ (fun _ h => rangeA (h.at_ (Gb, 23, cA b) (by simp))) und16 rfl HIb.out) h8 ?_
    simp only [Act.put, List.setIfInBounds_toArray, List.set_cons_zero, List.set_cons_succ]
    refine wpAnyH_ready (rs := [12]) (by kernel_rfl) (by simp) (AllReadyH.cons rfl (fun K hK => ?_) AllReadyH.nil)
    go_simp
    go_wp2_with (go_at_call 15; refine (of_any a ha 0 _).mono ?_; rintro e x12 ⟨rfl, hb2⟩; have HC12 := Lib.hid (h8.on hb2); clear hb2)
    refine hK.out _ _ HC12.out (fun h12 => ?_)
    clear hK K HC12 h8
    generalize ofS a 0 = c0 at *
    refine wpAnyH_ready (rs := [14]) (by kernel_rfl) (by simp) (AllReadyH.cons rfl (fun K hK => ?_) AllReadyH.nil)
    go_simp
    go_wp2_with (go_at_call 14; refine (has_any c0 z0 b hb _).mono ?_; rintro e x14 ⟨rfl, hb2⟩; rw [H0.out]; have HC14 := Lib.hid (h12.on hb2); clear hb2)
    refine hK.out _ _ HC14.out (fun h14 => ?_)
    clear hK K HC14 h12
    refine hd_take 15 (some 48) (.bool true) rfl rfl (by kernel_rfl) (by kernel_rfl) (by kernel_rfl) (fun _ _ _ h => h) (Or.inl ⟨by rfl, fun w hw => by go_simp⟩) h14 ?_
    simp only [Act.put, List.setIfInBounds_toArray, List.set_cons_zero, List.set_cons_succ]
    refine hd_take 16 (some 49) (.bool true) rfl rfl (by kernel_rfl) (by kernel_rfl) (by kernel_rfl) (fun _ _ _ h => h) (Or.inl ⟨by rfl, fun w hw => by go_simp⟩) h14 ?_
    simp only [Act.put, List.setIfInBounds_toArray, List.set_cons_zero, List.set_cons_succ]
    refine hd_take 17 (some 50) (.agg (cA a)) rfl rfl (by kernel_rfl) (by kernel_rfl) (by kernel_rfl) (fun _ _ _ h => h) (yieldsIf_load_mid (by rfl) _ _ rfl Ga 0 rfl (cellsOf a) _ (fun _ h => rangeA (h.at_ (Ga, 23, cA a) (by simp))) und16 rfl HIa.out) h14 ?_
    simp only [Act.put, List.setIfInBounds_toArray, List.set_cons_zero, List.set_cons_succ]
    refine hd_take 19 (some 52) (.agg (cA b)) rfl rfl (by kernel_rfl) (by kernel_rfl) (by kernel_rfl) (fun _ _ _ h => h) (yieldsIf_load_mid (by rfl) _ _ rfl Gb 0 rfl (cellsOf b) _ (fun _ h => rangeA (h.at_ (Gb, 23, cA b) (by simp))) und16 rfl HIb.out) h14 ?_
    simp only [Act.put, List.setIfInBounds_toArray, List.set_cons_zero, List.set_cons_succ]
    refine hd_take 21 (some 54) (.agg (cA a)) rfl rfl (by kernel_rfl) (by kernel_rfl) (by kernel_rfl) (fun _ _ _ h => h) (yieldsIf_load_mid (by rfl) _ _ rfl Ga 0 rfl (cellsOf a) _ (fun _ h => rangeA (h.at_ (Ga, 23, cA a) (by simp))) und16 rfl HIa.out) h14 ?_
    simp only [Act.put, List.setIfInBounds_toArray, List.set_cons_zero, List.set_cons_succ]
    refine hd_take 22 (some 55) (.agg (cA b)) rfl rfl (by kernel_rfl) (by kernel_rfl) (by kernel_rfl) (fun _ _ _ h => h) (yieldsIf_load_mid (by rfl) _ _ rfl Gb 0 rfl (cellsOf b) _ (fun _ h => rangeA (h.at_ (Gb, 23, cA b) (by simp))) und16 rfl HIb.out) h14 ?_
    simp only [Act.put, List.setIfInBounds_toArray, List.set_cons_zero, List.set_cons_succ]
    refine hd_take 23 (some 56) (.bool RR) rfl rfl (by kernel_rfl) (by kernel_rfl) (by kernel_rfl) (fun _ _ _ h => h) (Or.inl ⟨by rfl, fun w hw => by go_simp⟩) h14 ?_
    simp only [Act.put, List.setIfInBounds_toArray, List.set_cons_zero, List.set_cons_succ]
    refine wpAnyH_ready (rs := [18]) (by kernel_rfl) (by simp) (AllReadyH.cons rfl (fun K hK => ?_) AllReadyH.nil)
    go_simp
    go_wp2_with (go_at_call 15; refine (of_any a ha 128 _).mono ?_; rintro e x18 ⟨rfl, hb2⟩; have HC18 := Lib.hid (h14.on hb2); clear hb2)
    refine hK.out _ _ HC18.out (fun h18 => ?_)
    clear hK K HC18 h14
    generalize ofS a 128 = c9 at *
    refine wpAnyH_ready (rs := [20]) (by kernel_rfl) (by simp) (AllReadyH.cons rfl (fun K hK => ?_) AllReadyH.nil)
    go_simp
    go_wp2_with (go_at_call 14; refine (has_any c9 z1 b hb _).mono ?_; rintro e x20 ⟨rfl, hb2⟩; rw [HA.out]; have HC20 := Lib.hid (h18.on hb2); clear hb2)
    refine hK.out _ _ HC20.out (fun h20 => ?_)
    clear hK K HC20 h18
    refine hd_take 24 (some 57) (.bool true) rfl rfl (by kernel_rfl) (by kernel_rfl) (by kernel_rfl) (fun _ _ _ h => h) (Or.inl ⟨by rfl, fun w hw => by go_simp⟩) h20 ?_
    simp only [Act.put, List.setIfInBounds_toArray, List.set_cons_zero, List.set_cons_succ]
    refine hd_take 25 (some 58) (.bool true) rfl rfl (by kernel_rfl) (by kernel_rfl) (by kernel_rfl) (fun _ _ _ h => h) (Or.inl ⟨by rfl, fun w hw => by go_simp⟩) h20 ?_
    simp only [Act.put, List.setIfInBounds_toArray, List.set_cons_zero, List.set_cons_succ]
    refine hd_take 26 (some 8) (.bool true) rfl rfl (by kernel_rfl) (by kernel_rfl) (by kernel_rfl) (fun _ _ _ h => h) (Or.inl ⟨by rfl, fun w hw => by go_simp⟩) h20 ?_
    simp only [Act.put, List.setIfInBounds_toArray, List.set_cons_zero, List.set_cons_succ]
    refine wpAnyH_done (by kernel_rfl) ?_ _
    have HF := Lib.hid h20.low
    go_wp2_with fail
    go_ret
    rw [HG.out] at *
    exact ⟨rfl, HF.out⟩
end Go.Proofs.YtgeebdogjpgeiaaDoor.Ad
