/-
  ExtsOthers: extensions of other kinds do not matter to what is seen: any hello, one more extension. No condition.
-/
import Derived.Test.YtajmdchidmamcaaExSmall
import Derived.Test.YtajmdchidmamcaaExOthP
import Derived.Test.YtajmdchidmamcaaErSame
import Derived.Test.YtajmdchidmamcaaLiftHel
import Derived.Deep.Cut
import Derived.Deep.CutRange
namespace Go.Proofs.Ytajmdchidmamcaa.extsOthers
open Go.ChangeShapes Go.WideShapes Go.ChangeAt Go.RowKit Go.Proofs.Ytajmdchidmamcaa.Wd Go.Proofs.Ytajmdchidmamcaa.Be Go.Proofs.Ytajmdchidmamcaa.He Go.Proofs.Ytajmdchidmamcaa.Ro Go.Proofs.Ytajmdchidmamcaa.Ex Go.Proofs.Ytajmdchidmamcaa.Lift

/-- where the law is, behind the first look -/
structure OtAt (w : World) (H : Hv) (g : Nat) (C : Array Value) (va vv : Value) (al : List (List UInt8)) (ve : List Int) (wx : World) : Prop where
  hb : Blk wx w.heap.size 44 H.C
  sb : Blk wx g 47 C
  al : RelP wx 0 va al
  ve : RelV wx 0 vv ve
  bel : Below w.heap.size w wx
section
variable {w : World} {H : Hv} {g : Nat} {C : Array Value} {va vv : Value} {al : List (List UInt8)} {ve : List Int} {wx w' : World}
theorem OtAt.more (h : OtAt w H g C va vv al ve wx) (hb : Below wx.heap.size wx w') : OtAt w H g C va vv al ve w' :=
  ⟨h.hb.below hb h.hb.lt, h.sb.below hb h.sb.lt, h.al.below hb, h.ve.below hb, h.bel.trans (hb.mono h.bel.size)⟩
theorem OtAt.app (h : OtAt w H g C va vv al ve wx) {row : Option Nat} (hg : wx.grownBy w' row) (hr : OffT wx row (· ≠ 53)) (hge : ∀ j, row = some j → w.heap.size ≤ j) : OtAt w H g C va vv al ve w' :=
  ⟨h.hb.grown hg (hr.far h.hb (by decide)), h.sb.grown hg (hr.far h.sb (by decide)), h.al.off hg (fun j hj => (hr j hj).imp id (fun ⟨t, cs, hb, hn⟩ => ⟨t, cs, hb, fun e => hn (by rw [e]; decide)⟩)), h.ve.off hg (fun j hj => (hr j hj).imp id (fun ⟨t, cs, hb, hn⟩ => ⟨t, cs, hb, fun e => hn (by rw [e]; decide)⟩)), h.bel.grown hg h.bel.size hge⟩
theorem OtAt.put (h : OtAt w H g C va vv al ve wx) (hr : H.rnd.length = 32) (A : Option Addr) (c : Nat) (l : List Xt) : OtAt w { H with xA := A, xc := c, xs := l } g C va vv al ve (wx.setCell ⟨w.heap.size, 37, none⟩ (.slice A l.length c)) := by
  have hg : wx.grownBy (wx.setCell ⟨w.heap.size, 37, none⟩ (.slice A l.length c)) (some w.heap.size) := only_setCell (p := ⟨w.heap.size, 37, none⟩) (only_refl wx _) (.inl rfl) _
  refine ⟨?_, h.sb.grown hg (by have := h.sb.ne_ h.hb (by decide); simp [this]), h.al.off hg (OffT.of_blk h.hb (by decide)), h.ve.off hg (OffT.of_blk h.hb (by decide)), h.bel.grown hg h.bel.size (fun j hj => by injection hj with hj; omega)⟩
  have := h.hb.set_ 37 (.slice A l.length c)
  rwa [C_ext hr] at this
end

set_option maxRecDepth 100000 in
set_option linter.unusedSimpArgs false in
set_option maxHeartbeats 2000000 in
theorem walk (w : World) (H : Hv) (hH : H.Ok w) (kind : Int) (hk : -9223372036854775808 ≤ kind ∧ kind ≤ 9223372036854775807) (A : Option Addr) (n c : Nat) (b : List UInt8) (hnc : n ≤ c) (_ : c ≤ maxLen) (hs : Src w A n b) (at_ : Int) (hat : -9223372036854775808 ≤ at_ ∧ at_ ≤ 9223372036854775807) :
    Calls Try.prog 8 #[.agg H.C, .int .i64 kind, .slice A n c, .int .i64 at_] w fun e w' => e = .returned (.bool true) ∧ Below w.heap.size w w' := by
  have hr := hH.rnd
  have HH := Lib.hid hH
  have HSb := Lib.hid hs
  clear hH hs
  go_enter Try.func8, Try.ntmps8
  go_wp2_with fail
  have hb0 := Blk.new w 44 H.C
  have HB0 := Lib.hid ((Below.refl w.heap.size w).alloc (Nat.le_refl _) (.cells H.C 44))
  generalize w.alloc (.cells H.C 44) = w0 at *
  refine (small_any w0).mono ?_
  rintro e w1 ⟨rfl, hb⟩
  have hb1 := hb0.below hb hb0.lt
  have HB1 := Lib.hid (HB0.out.trans (hb.mono HB0.out.size))
  clear hb hb0 HB0
  go_wp2_with (refine go_ld 44 hb1 undH rfl infH (Hv.size hr) rfl rfl rfl ?_)
  refine (few_any H w1 (HH.out.below HB1.out)).mono ?_
  rintro e w2 ⟨rfl, hb⟩
  have hb2 := hb1.below hb hb1.lt
  have HB2 := Lib.hid (HB1.out.trans (hb.mono HB1.out.size))
  clear hb hb1 HB1
  have hcx := cell_xs hb2 hr
  obtain ⟨X, hX⟩ : ∃ X, H.xs.length = X := ⟨_, rfl⟩
  rw [hX] at hcx
  have HX := Lib.hid hX
  clear hX
  have Hb2 := Lib.hid hb2
  clear hb2
  obtain ⟨fw, hfw⟩ : ∃ b, fewH H = b := ⟨_, rfl⟩
  rw [hfw]
  cases fw with
  | false =>
    go_wp2_with fail
    go_ret
    exact ⟨rfl, HB2.out⟩
  | true =>
  have hX60 : X ≤ 60 := by have := (few_is hfw).1; have := HX.out; omega
  clear hfw
  by_cases h1 : 500 < n
  · have hd : decide ((500 : Int) < (n : Int)) = true := decide_eq_true (by omega)
    go_wp2_with fail
    go_ret
    exact ⟨rfl, HB2.out⟩
  have hd1 : decide ((500 : Int) < (n : Int)) = false := decide_eq_false (by omega)
  by_cases h2 : at_ < 0
  · have hd : decide (at_ < 0) = true := decide_eq_true h2
    go_wp2_with fail
    go_ret
    exact ⟨rfl, HB2.out⟩
  obtain ⟨k, rfl⟩ := Int.eq_ofNat_of_zero_le (by omega : 0 ≤ at_)
  have hd2 : decide ((k : Int) < 0) = false := decide_eq_false h2
  by_cases h3 : X < k
  · have hd : decide ((X : Int) < (k : Int)) = true := decide_eq_true (by omega)
    go_wp2_with fail
    go_ret
    exact ⟨rfl, HB2.out⟩
  have hd3 : decide ((X : Int) < (k : Int)) = false := decide_eq_false (by omega)
  by_cases g0 : kind = 0
  · have hd : (kind == 0) = true := by simp [g0]
    clear g0
    go_wp2_with fail
    go_ret
    exact ⟨rfl, HB2.out⟩
  have he0 : (kind == 0) = false := beq_eq_false_iff_ne.2 g0
  by_cases g1 : kind = 16
  · have hd : (kind == 16) = true := by simp [g1]
    clear g1
    go_wp2_with fail
    go_ret
    exact ⟨rfl, HB2.out⟩
  have he1 : (kind == 16) = false := beq_eq_false_iff_ne.2 g1
  by_cases g2 : kind = 43
  · have hd : (kind == 43) = true := by simp [g2]
    clear g2
    go_wp2_with fail
    go_ret
    exact ⟨rfl, HB2.out⟩
  have he2 : (kind == 43) = false := beq_eq_false_iff_ne.2 g2
  by_cases g3 : kind = 65037
  · have hd : (kind == 65037) = true := by simp [g3]
    clear g3
    go_wp2_with fail
    go_ret
    exact ⟨rfl, HB2.out⟩
  have he3 : (kind == 65037) = false := beq_eq_false_iff_ne.2 g3
  have G0 := Lib.hid g0
  have G1 := Lib.hid g1
  have G2 := Lib.hid g2
  have G3 := Lib.hid g3
  clear g0 g1 g2 g3
  have hb2 := Hb2.out
  go_wp2_with (refine go_ld 44 hb2 undH rfl infH (Hv.size hr) rfl rfl rfl ?_)
  clear hd1 hd2 hd3 he0 he1 he2 he3
  refine (see_any H w2 (HH.out.below HB2.out)).mono ?_
  rintro e w3 ⟨va, vv, rfl, ha, hv, hb⟩
  obtain ⟨q, hq⟩ : ∃ q, seeS H.hel.exts = q := ⟨_, rfl⟩
  rw [hq] at ha hv ⊢
  have HQ := Lib.hid hq
  obtain ⟨⟨x1, x2, x3, x4, x5⟩, E⟩ := q
  simp only at ha hv ⊢
  obtain ⟨A1, c1, rfl⟩ := OwnE.form ha.1
  obtain ⟨A2, c2, rfl⟩ := OwnE.form hv.1
  obtain ⟨n1, hn1⟩ : ∃ n, x3.length = n := ⟨_, rfl⟩
  obtain ⟨n2, hn2⟩ : ∃ n, x4.length = n := ⟨_, rfl⟩
  rw [hn1] at ha ⊢
  rw [hn2] at hv ⊢
  unfold snC
  simp only
  have HN1 := Lib.hid hn1
  have HN2 := Lib.hid hn2
  have hw3 := (Below.refl w3.heap.size w3).alloc (Nat.le_refl _) (.cells #[.bool x1, .string (str8 x2), .slice A1 n1 c1, .slice A2 n2 c2, .bool x5] 47)
  have HO := Lib.hid (show OtAt w H w3.heap.size #[.bool x1, .string (str8 x2), .slice A1 n1 c1, .slice A2 n2 c2, .bool x5] (.slice A1 n1 c1) (.slice A2 n2 c2) x3 x4 (w3.alloc (.cells #[.bool x1, .string (str8 x2), .slice A1 n1 c1, .slice A2 n2 c2, .bool x5] 47)) from
    ⟨(hb2.below hb hb2.lt).below hw3 (hb2.below hb hb2.lt).lt, Blk.new w3 _ _, (ha.lower (Nat.zero_le _)).below hw3, (hv.lower (Nat.zero_le _)).below hw3, (HB2.out.trans (hb.mono HB2.out.size)).trans (hw3.mono (HB2.out.trans (hb.mono HB2.out.size)).size)⟩)
  clear ha hv hb hb2 Hb2 HB2 hq hn1 hn2 hw3 hcx
  go_upto_region 6 with fail
  generalize w3.alloc (.cells #[.bool x1, .string (str8 x2), .slice A1 n1 c1, .slice A2 n2 c2, .bool x5] 47) = w4 at *
  generalize w3.heap.size = g3 at *
  obtain ⟨C3, hC3⟩ : ∃ C, (#[.bool x1, .string (str8 x2), .slice A1 n1 c1, .slice A2 n2 c2, .bool x5] : Array Value) = C := ⟨_, rfl⟩
  rw [hC3] at HO
  have HC3 := Lib.hid hC3
  clear hC3
  have hwe := (Below.refl w4.heap.size w4).alloc (Nat.le_refl _) (.cells #[] 53)
  have HOe := Lib.hid (HO.out.more hwe)
  have hsz4 : w.heap.size + 1 ≤ w4.heap.size := HO.out.hb.lt
  have HR0 := Lib.hid (show OwnE (w4.alloc (.cells #[] 53)) elX (w.heap.size + 1) (.slice (some ⟨w4.heap.size, 0, none⟩) 0 0) [] from ⟨rfl, .inr ⟨w4.heap.size, 0, #[], rfl, hsz4, heap_alloc_new w4 _, Nat.le_refl _, Nat.zero_le _, rfl, rfl⟩⟩)
  have hcx : (w4.alloc (.cells #[] 53)).cell? ⟨w.heap.size, 37, none⟩ = some (.slice H.xA X H.xc) := by have := cell_xs HOe.out.hb hr; rwa [HX.out] at this
  have hxc : X ≤ H.xc := by have := HH.out.x1.1; rwa [HX.out] at this
  have hkX : k ≤ X := by omega
  have hsl := slice_toX (A := H.xA) X H.xc k (w4.alloc (.cells #[] 53)) (by omega)
  have HS6 := Lib.hid (SrcE.take_ (srcE_of (HH.out.below HOe.out.bel).xs) k)
  have HLk := Lib.hid (show k = (H.xs.take k).length by rw [List.length_take, HX.out]; omega)
  have hszE := HOe.out.bel.size
  clear hwe HO
  go_upto_region 7 with (at_builtin; refine wpList_appXX rfl (.tmp 59) (.tmp 63) rfl (w.heap.size + 1) _ [] rfl HR0.out H.xA k H.xc (H.xs.take k) rfl HLk.out HS6.out (by rw [← HLk.out]; simp; omega) (by simp; omega) ?_; intro v5 w5 ho5 hg5)
  rw [List.nil_append] at ho5
  have HO5 := Lib.hid (HOe.out.app hg5.out (HR0.out.block (T := (· ≠ 53)) (by show ¬ (elX.ty ≠ _); decide)) (fun j hj => by have := HR0.out.ge j hj; omega))
  obtain ⟨Al, cl, hv5⟩ := OwnE.form ho5.out
  rw [← HLk.out] at hv5
  subst hv5
  clear hg5 HR0 hcx hsl HS6 HOe hszE hsz4
  go_cut [] from 65 to 76 (fun wx => ∃ A' c', Hid (OtAt w { H with xA := A', xc := c', xs := H.xs.take k ++ [(⟨kind, A, n, c, b⟩ : Xt)] ++ H.xs.drop k } g3 C3 (.slice A1 n1 c1) (.slice A2 n2 c2) x3 x4 wx) ∧ Hid (({ H with xA := A', xc := c', xs := H.xs.take k ++ [(⟨kind, A, n, c, b⟩ : Xt)] ++ H.xs.drop k } : Hv).Ok wx))
  case first =>
    have hd := (Below.refl w5.heap.size w5).drew
    have HOd := Lib.hid (HO5.out.more hd)
    have HRd := Lib.hid (ho5.out.below hd)
    refine wp_region_held_drew (S := fun _ => True) (by kernel_rfl) True.intro (fun h0 => ?_)
    clear hd HO5 ho5
    generalize w5.drew = wd at *
    have hcx : wd.cell? ⟨w.heap.size, 37, none⟩ = some (.slice H.xA X H.xc) := by have := cell_xs HOd.out.hb hr; rwa [HX.out] at this
    refine hd_take 0 (some 65) (.slice Al k cl) rfl rfl (by kernel_rfl) (by kernel_rfl) (by kernel_rfl) (fun _ _ _ h => h) (Or.inl ⟨by rfl, fun w hw => by go_simp⟩) h0 ?_
    simp only [Act.put, List.setIfInBounds_toArray, List.set_cons_zero, List.set_cons_succ]
    refine hd_take 1 (some 66) (.int .i64 kind) rfl rfl (by kernel_rfl) (by kernel_rfl) (by kernel_rfl) (fun _ _ _ h => h) (Or.inl ⟨by rfl, fun w hw => by go_simp⟩) h0 ?_
    simp only [Act.put, List.setIfInBounds_toArray, List.set_cons_zero, List.set_cons_succ]
    refine hd_take 2 (some 67) (.slice A n c) rfl rfl (by kernel_rfl) (by kernel_rfl) (by kernel_rfl) (fun _ _ _ h => h) (Or.inl ⟨by rfl, fun w hw => by go_simp⟩) h0 ?_
    simp only [Act.put, List.setIfInBounds_toArray, List.set_cons_zero, List.set_cons_succ]
    refine hd_take 3 (some 68) (.agg #[.int .i64 kind, .slice A n c]) rfl rfl (by kernel_rfl) (by kernel_rfl) (by kernel_rfl) (fun _ _ _ h => h) (Or.inl ⟨by rfl, fun w hw => by go_simp⟩) h0 ?_
    simp only [Act.put, List.setIfInBounds_toArray, List.set_cons_zero, List.set_cons_succ]
    refine hd_take 6 (some 71) (.pointer (some ⟨w.heap.size, 37, none⟩)) rfl rfl (by kernel_rfl) (by kernel_rfl) (by kernel_rfl) (fun _ _ _ h => h) (Or.inl ⟨by rfl, fun w hw => by go_simp⟩) h0 ?_
    simp only [Act.put, List.setIfInBounds_toArray, List.set_cons_zero, List.set_cons_succ]
    refine hd_take 8 (some 73) (.int .i64 (k : Int)) rfl rfl (by kernel_rfl) (by kernel_rfl) (by kernel_rfl) (fun _ _ _ h => h) (Or.inl ⟨by rfl, fun w hw => by go_simp⟩) h0 ?_
    simp only [Act.put, List.setIfInBounds_toArray, List.set_cons_zero, List.set_cons_succ]
    have HOa := Lib.hid (HOd.out.more ((Below.refl wd.heap.size wd).alloc (Nat.le_refl _) (.cells #[.int .i64 kind, .slice A n c] 53)))
    have HRa := Lib.hid (HRd.out.alloc (.cells #[.int .i64 kind, .slice A n c] 53))
    have hC : (#[.int .i64 kind, .slice A n c] : Array Value) = (Ro.flat elX [(⟨kind, A, n, c, b⟩ : Xt)]).toArray := by rw [Ro.flat_one]; rfl
    have HSr := Lib.hid (SrcE.new fineX wd [(⟨kind, A, n, c, b⟩ : Xt)] #[.int .i64 kind, .slice A n c] hC 53)
    have hcxa : (wd.alloc (.cells #[.int .i64 kind, .slice A n c] 53)).cell? ⟨w.heap.size, 37, none⟩ = some (.slice H.xA X H.xc) := by have := cell_xs HOa.out.hb hr; rwa [HX.out] at this
    have hlk : (H.xs.take k).length ≤ 60 := by rw [← HLk.out]; omega
    have HLd := Lib.hid (show X - k = (H.xs.drop k).length by rw [List.length_drop, HX.out])
    have hsza : w.heap.size + 1 ≤ (wd.alloc (.cells #[.int .i64 kind, .slice A n c] 53)).heap.size := HOa.out.hb.lt
    clear hC
    refine wpAnyH_ready (rs := [4, 7]) (by kernel_rfl) (by simp) (AllReadyH.cons rfl (fun K hK => ?_) (AllReadyH.cons rfl (fun K hK => ?_) (AllReadyH.nil)))
    · go_simp
      refine hK.out _ _ True.intro (fun _ => ?_)
      clear hK K
      refine wpAnyH_ready (rs := [5, 7]) (by kernel_rfl) (by simp) (AllReadyH.cons rfl (fun K hK => ?_) (AllReadyH.cons rfl (fun K hK => ?_) (AllReadyH.nil)))
      · refine wp_appXX (.tmp 65) (.tmp 69) rfl (w.heap.size + 1) (.slice Al k cl) (H.xs.take k) rfl HRa.out (some ⟨wd.heap.size, 0, none⟩) 1 1 [(⟨kind, A, n, c, b⟩ : Xt)] rfl rfl HSr.out (by simp only [List.length_cons, List.length_nil]; omega) hsza ?_
        intro v6 w6 ho6 hg6
        have HO6 := Lib.hid (HOa.out.app hg6.out (HRa.out.block (T := (· ≠ 53)) (by show ¬ (elX.ty ≠ _); decide)) (fun j hj => by have := HRa.out.ge j hj; omega))
        have hcx6 : w6.cell? ⟨w.heap.size, 37, none⟩ = some (.slice H.xA X H.xc) := by have := cell_xs HO6.out.hb hr; rwa [HX.out] at this
        have HS6 := Lib.hid (SrcE.drop_ (c := H.xc) (k := k) (srcE_of (HH.out.below HO6.out.bel).xs) (by rw [HX.out]; exact hxc))
        have hsz6 : w.heap.size + 1 ≤ w6.heap.size := HO6.out.hb.lt
        clear hg6
        refine hK.out _ _ True.intro (fun _ => ?_)
        clear hK K
        refine wpAnyH_ready (rs := [7]) (by kernel_rfl) (by simp) (AllReadyH.cons rfl (fun K hK => ?_) (AllReadyH.nil))
        go_simp
        refine hK.out _ _ True.intro (fun _ => ?_)
        clear hK K
        refine hd_take 9 (some 74) (.slice (slidX H.xA H.xc k) (X - k) (H.xc - k)) rfl rfl (by kernel_rfl) (by kernel_rfl) (by kernel_rfl) (fun _ _ _ h => h) (Or.inl ⟨by rfl, fun w hw => by have hx := slice_fromX (A := H.xA) X H.xc k w hkX; go_simp⟩) h0 ?_
        simp only [Act.put, List.setIfInBounds_toArray, List.set_cons_zero, List.set_cons_succ]
        refine wpAnyH_ready (rs := [10]) (by kernel_rfl) (by simp) (AllReadyH.cons rfl (fun K hK => ?_) (AllReadyH.nil))
        refine wp_appXX (.tmp 70) (.tmp 74) rfl (w.heap.size + 1) v6 (H.xs.take k ++ [(⟨kind, A, n, c, b⟩ : Xt)]) rfl ho6.out (slidX H.xA H.xc k) (X - k) (H.xc - k) (H.xs.drop k) rfl HLd.out HS6.out (by rw [List.length_append, ← HLd.out]; simp only [List.length_cons, List.length_nil]; omega) hsz6 ?_
        intro v7 w7 ho7 hg7
        have HO7 := Lib.hid (HO6.out.app hg7.out (ho6.out.block (T := (· ≠ 53)) (by show ¬ (elX.ty ≠ _); decide)) (fun j hj => by have := ho6.out.ge j hj; omega))
        obtain ⟨A7, c7, rfl, hc7, _, hs7⟩ := ho7.out.src fineX
        have hcx7 := cell_xs HO7.out.hb hr
        have hfz7 := HO7.out.hb.frozen 37
        have H8 := Lib.hid (HO7.out.put hr A7 c7 (H.xs.take k ++ [(⟨kind, A, n, c, b⟩ : Xt)] ++ H.xs.drop k))
        have HOk := Lib.hid (show ({ H with xA := A7, xc := c7, xs := H.xs.take k ++ [(⟨kind, A, n, c, b⟩ : Xt)] ++ H.xs.drop k } : Hv).Ok (w7.setCell ⟨w.heap.size, 37, none⟩ (.slice A7 (H.xs.take k ++ [(⟨kind, A, n, c, b⟩ : Xt)] ++ H.xs.drop k).length c7)) from by
          have h := HH.out.below H8.out.bel
          have hne : (⟨w.heap.size, 37, none⟩ : Addr).block = w.heap.size := rfl
          refine ⟨h.ver, h.rnd, h.s1, h.ses, h.c1, h.c2, h.cph, h.m1, h.met, ⟨hc7, ?_⟩, srcX_of (fun i x hx => ?_) (fun x hx => ?_)⟩
          · show (H.xs.take k ++ [(⟨kind, A, n, c, b⟩ : Xt)] ++ H.xs.drop k).length ≤ _
            rw [List.length_append, List.length_append, ← HLk.out, ← HLd.out]
            simp only [List.length_cons, List.length_nil]
            omega
          · obtain ⟨g, o, hA, hg, hc⟩ := hs7 i x hx
            refine ⟨g, o, hA, by simpa [World.setCell] using hg, fun j u hu => ?_⟩
            rw [World.cell?_setCell_other _ _ _ _ (by
              intro e
              injection e with e1 _ _
              subst e1
              rcases ho7.out.row with ⟨e2, e3⟩ | ⟨g', cap, cur, e2, hge, _⟩
              · simp at e3
              · injection e2 with e2 _ _
                rw [hA] at e2
                injection e2 with e2
                injection e2 with e2 _ _
                omega)]
            exact hc j u hu
          · rcases List.mem_append.1 hx with hx | hx
            · rcases List.mem_append.1 hx with hx | hx
              · exact SrcX.oks h.xs x (List.mem_of_mem_take hx)
              · simp at hx
                subst hx
                exact ⟨hk, hnc, HSb.out.below H8.out.bel, by show n ≤ _; omega⟩
            · exact SrcX.oks h.xs x (List.mem_of_mem_drop hx))
        obtain ⟨L7, hL7⟩ : ∃ m, (H.xs.take k ++ [(⟨kind, A, n, c, b⟩ : Xt)] ++ H.xs.drop k).length = m := ⟨_, rfl⟩
        rw [hL7] at H8 HOk
        rw [hL7]
        refine hK.out _ _ True.intro (fun _ => ?_)
        clear hK K
        refine hd_take 11 (some 76) (.pointer (some ⟨w.heap.size, 37, none⟩)) rfl rfl (by kernel_rfl) (by kernel_rfl) (by kernel_rfl) (fun _ _ _ h => h) (Or.inl ⟨by rfl, fun w hw => by go_simp⟩) h0 ?_
        simp only [Act.put, List.setIfInBounds_toArray, List.set_cons_zero, List.set_cons_succ]
        refine wpAnyH_ready (rs := [12]) (by kernel_rfl) (by simp) (AllReadyH.cons rfl (fun K hK => ?_) (AllReadyH.nil))
        go_simp
        refine hK.out _ _ True.intro (fun _ => ?_)
        clear hK K
        refine wpAnyH_done (by kernel_rfl) ?_ _
        go_wp2_with fail
        go_meet
        exact ⟨A7, c7, H8, HOk⟩
      · go_simp
        refine hK.out _ _ True.intro (fun _ => ?_)
        clear hK K
        refine hd_take 9 (some 74) (.slice (slidX H.xA H.xc k) (X - k) (H.xc - k)) rfl rfl (by kernel_rfl) (by kernel_rfl) (by kernel_rfl) (fun _ _ _ h => h) (Or.inl ⟨by rfl, fun w hw => by have hx := slice_fromX (A := H.xA) X H.xc k w hkX; go_simp⟩) h0 ?_
        simp only [Act.put, List.setIfInBounds_toArray, List.set_cons_zero, List.set_cons_succ]
        refine wpAnyH_ready (rs := [5]) (by kernel_rfl) (by simp) (AllReadyH.cons rfl (fun K hK => ?_) (AllReadyH.nil))
        refine wp_appXX (.tmp 65) (.tmp 69) rfl (w.heap.size + 1) (.slice Al k cl) (H.xs.take k) rfl HRa.out (some ⟨wd.heap.size, 0, none⟩) 1 1 [(⟨kind, A, n, c, b⟩ : Xt)] rfl rfl HSr.out (by simp only [List.length_cons, List.length_nil]; omega) hsza ?_
        intro v6 w6 ho6 hg6
        have HO6 := Lib.hid (HOa.out.app hg6.out (HRa.out.block (T := (· ≠ 53)) (by show ¬ (elX.ty ≠ _); decide)) (fun j hj => by have := HRa.out.ge j hj; omega))
        have hcx6 : w6.cell? ⟨w.heap.size, 37, none⟩ = some (.slice H.xA X H.xc) := by have := cell_xs HO6.out.hb hr; rwa [HX.out] at this
        have HS6 := Lib.hid (SrcE.drop_ (c := H.xc) (k := k) (srcE_of (HH.out.below HO6.out.bel).xs) (by rw [HX.out]; exact hxc))
        have hsz6 : w.heap.size + 1 ≤ w6.heap.size := HO6.out.hb.lt
        clear hg6
        refine hK.out _ _ True.intro (fun _ => ?_)
        clear hK K
        refine wpAnyH_ready (rs := [10]) (by kernel_rfl) (by simp) (AllReadyH.cons rfl (fun K hK => ?_) (AllReadyH.nil))
        refine wp_appXX (.tmp 70) (.tmp 74) rfl (w.heap.size + 1) v6 (H.xs.take k ++ [(⟨kind, A, n, c, b⟩ : Xt)]) rfl ho6.out (slidX H.xA H.xc k) (X - k) (H.xc - k) (H.xs.drop k) rfl HLd.out HS6.out (by rw [List.length_append, ← HLd.out]; simp only [List.length_cons, List.length_nil]; omega) hsz6 ?_
        intro v7 w7 ho7 hg7
        have HO7 := Lib.hid (HO6.out.app hg7.out (ho6.out.block (T := (· ≠ 53)) (by show ¬ (elX.ty ≠ _); decide)) (fun j hj => by have := ho6.out.ge j hj; omega))
        obtain ⟨A7, c7, rfl, hc7, _, hs7⟩ := ho7.out.src fineX
        have hcx7 := cell_xs HO7.out.hb hr
        have hfz7 := HO7.out.hb.frozen 37
        have H8 := Lib.hid (HO7.out.put hr A7 c7 (H.xs.take k ++ [(⟨kind, A, n, c, b⟩ : Xt)] ++ H.xs.drop k))
        have HOk := Lib.hid (show ({ H with xA := A7, xc := c7, xs := H.xs.take k ++ [(⟨kind, A, n, c, b⟩ : Xt)] ++ H.xs.drop k } : Hv).Ok (w7.setCell ⟨w.heap.size, 37, none⟩ (.slice A7 (H.xs.take k ++ [(⟨kind, A, n, c, b⟩ : Xt)] ++ H.xs.drop k).length c7)) from by
          have h := HH.out.below H8.out.bel
          have hne : (⟨w.heap.size, 37, none⟩ : Addr).block = w.heap.size := rfl
          refine ⟨h.ver, h.rnd, h.s1, h.ses, h.c1, h.c2, h.cph, h.m1, h.met, ⟨hc7, ?_⟩, srcX_of (fun i x hx => ?_) (fun x hx => ?_)⟩
          · show (H.xs.take k ++ [(⟨kind, A, n, c, b⟩ : Xt)] ++ H.xs.drop k).length ≤ _
            rw [List.length_append, List.length_append, ← HLk.out, ← HLd.out]
            simp only [List.length_cons, List.length_nil]
            omega
          · obtain ⟨g, o, hA, hg, hc⟩ := hs7 i x hx
            refine ⟨g, o, hA, by simpa [World.setCell] using hg, fun j u hu => ?_⟩
            rw [World.cell?_setCell_other _ _ _ _ (by
              intro e
              injection e with e1 _ _
              subst e1
              rcases ho7.out.row with ⟨e2, e3⟩ | ⟨g', cap, cur, e2, hge, _⟩
              · simp at e3
              · injection e2 with e2 _ _
                rw [hA] at e2
                injection e2 with e2
                injection e2 with e2 _ _
                omega)]
            exact hc j u hu
          · rcases List.mem_append.1 hx with hx | hx
            · rcases List.mem_append.1 hx with hx | hx
              · exact SrcX.oks h.xs x (List.mem_of_mem_take hx)
              · simp at hx
                subst hx
                exact ⟨hk, hnc, HSb.out.below H8.out.bel, by show n ≤ _; omega⟩
            · exact SrcX.oks h.xs x (List.mem_of_mem_drop hx))
        obtain ⟨L7, hL7⟩ : ∃ m, (H.xs.take k ++ [(⟨kind, A, n, c, b⟩ : Xt)] ++ H.xs.drop k).length = m := ⟨_, rfl⟩
        rw [hL7] at H8 HOk
        rw [hL7]
        refine hK.out _ _ True.intro (fun _ => ?_)
        clear hK K
        refine hd_take 11 (some 76) (.pointer (some ⟨w.heap.size, 37, none⟩)) rfl rfl (by kernel_rfl) (by kernel_rfl) (by kernel_rfl) (fun _ _ _ h => h) (Or.inl ⟨by rfl, fun w hw => by go_simp⟩) h0 ?_
        simp only [Act.put, List.setIfInBounds_toArray, List.set_cons_zero, List.set_cons_succ]
        refine wpAnyH_ready (rs := [12]) (by kernel_rfl) (by simp) (AllReadyH.cons rfl (fun K hK => ?_) (AllReadyH.nil))
        go_simp
        refine hK.out _ _ True.intro (fun _ => ?_)
        clear hK K
        refine wpAnyH_done (by kernel_rfl) ?_ _
        go_wp2_with fail
        go_meet
        exact ⟨A7, c7, H8, HOk⟩
    · go_simp
      refine hK.out _ _ True.intro (fun _ => ?_)
      clear hK K
      refine hd_take 9 (some 74) (.slice (slidX H.xA H.xc k) (X - k) (H.xc - k)) rfl rfl (by kernel_rfl) (by kernel_rfl) (by kernel_rfl) (fun _ _ _ h => h) (Or.inl ⟨by rfl, fun w hw => by have hx := slice_fromX (A := H.xA) X H.xc k w hkX; go_simp⟩) h0 ?_
      simp only [Act.put, List.setIfInBounds_toArray, List.set_cons_zero, List.set_cons_succ]
      refine wpAnyH_ready (rs := [4]) (by kernel_rfl) (by simp) (AllReadyH.cons rfl (fun K hK => ?_) (AllReadyH.nil))
      go_simp
      refine hK.out _ _ True.intro (fun _ => ?_)
      clear hK K
      refine wpAnyH_ready (rs := [5]) (by kernel_rfl) (by simp) (AllReadyH.cons rfl (fun K hK => ?_) (AllReadyH.nil))
      refine wp_appXX (.tmp 65) (.tmp 69) rfl (w.heap.size + 1) (.slice Al k cl) (H.xs.take k) rfl HRa.out (some ⟨wd.heap.size, 0, none⟩) 1 1 [(⟨kind, A, n, c, b⟩ : Xt)] rfl rfl HSr.out (by simp only [List.length_cons, List.length_nil]; omega) hsza ?_
      intro v6 w6 ho6 hg6
      have HO6 := Lib.hid (HOa.out.app hg6.out (HRa.out.block (T := (· ≠ 53)) (by show ¬ (elX.ty ≠ _); decide)) (fun j hj => by have := HRa.out.ge j hj; omega))
      have hcx6 : w6.cell? ⟨w.heap.size, 37, none⟩ = some (.slice H.xA X H.xc) := by have := cell_xs HO6.out.hb hr; rwa [HX.out] at this
      have HS6 := Lib.hid (SrcE.drop_ (c := H.xc) (k := k) (srcE_of (HH.out.below HO6.out.bel).xs) (by rw [HX.out]; exact hxc))
      have hsz6 : w.heap.size + 1 ≤ w6.heap.size := HO6.out.hb.lt
      clear hg6
      refine hK.out _ _ True.intro (fun _ => ?_)
      clear hK K
      refine wpAnyH_ready (rs := [10]) (by kernel_rfl) (by simp) (AllReadyH.cons rfl (fun K hK => ?_) (AllReadyH.nil))
      refine wp_appXX (.tmp 70) (.tmp 74) rfl (w.heap.size + 1) v6 (H.xs.take k ++ [(⟨kind, A, n, c, b⟩ : Xt)]) rfl ho6.out (slidX H.xA H.xc k) (X - k) (H.xc - k) (H.xs.drop k) rfl HLd.out HS6.out (by rw [List.length_append, ← HLd.out]; simp only [List.length_cons, List.length_nil]; omega) hsz6 ?_
      intro v7 w7 ho7 hg7
      have HO7 := Lib.hid (HO6.out.app hg7.out (ho6.out.block (T := (· ≠ 53)) (by show ¬ (elX.ty ≠ _); decide)) (fun j hj => by have := ho6.out.ge j hj; omega))
      obtain ⟨A7, c7, rfl, hc7, _, hs7⟩ := ho7.out.src fineX
      have hcx7 := cell_xs HO7.out.hb hr
      have hfz7 := HO7.out.hb.frozen 37
      have H8 := Lib.hid (HO7.out.put hr A7 c7 (H.xs.take k ++ [(⟨kind, A, n, c, b⟩ : Xt)] ++ H.xs.drop k))
      have HOk := Lib.hid (show ({ H with xA := A7, xc := c7, xs := H.xs.take k ++ [(⟨kind, A, n, c, b⟩ : Xt)] ++ H.xs.drop k } : Hv).Ok (w7.setCell ⟨w.heap.size, 37, none⟩ (.slice A7 (H.xs.take k ++ [(⟨kind, A, n, c, b⟩ : Xt)] ++ H.xs.drop k).length c7)) from by
        have h := HH.out.below H8.out.bel
        have hne : (⟨w.heap.size, 37, none⟩ : Addr).block = w.heap.size := rfl
        refine ⟨h.ver, h.rnd, h.s1, h.ses, h.c1, h.c2, h.cph, h.m1, h.met, ⟨hc7, ?_⟩, srcX_of (fun i x hx => ?_) (fun x hx => ?_)⟩
        · show (H.xs.take k ++ [(⟨kind, A, n, c, b⟩ : Xt)] ++ H.xs.drop k).length ≤ _
          rw [List.length_append, List.length_append, ← HLk.out, ← HLd.out]
          simp only [List.length_cons, List.length_nil]
          omega
        · obtain ⟨g, o, hA, hg, hc⟩ := hs7 i x hx
          refine ⟨g, o, hA, by simpa [World.setCell] using hg, fun j u hu => ?_⟩
          rw [World.cell?_setCell_other _ _ _ _ (by
            intro e
            injection e with e1 _ _
            subst e1
            rcases ho7.out.row with ⟨e2, e3⟩ | ⟨g', cap, cur, e2, hge, _⟩
            · simp at e3
            · injection e2 with e2 _ _
              rw [hA] at e2
              injection e2 with e2
              injection e2 with e2 _ _
              omega)]
          exact hc j u hu
        · rcases List.mem_append.1 hx with hx | hx
          · rcases List.mem_append.1 hx with hx | hx
            · exact SrcX.oks h.xs x (List.mem_of_mem_take hx)
            · simp at hx
              subst hx
              exact ⟨hk, hnc, HSb.out.below H8.out.bel, by show n ≤ _; omega⟩
          · exact SrcX.oks h.xs x (List.mem_of_mem_drop hx))
      obtain ⟨L7, hL7⟩ : ∃ m, (H.xs.take k ++ [(⟨kind, A, n, c, b⟩ : Xt)] ++ H.xs.drop k).length = m := ⟨_, rfl⟩
      rw [hL7] at H8 HOk
      rw [hL7]
      refine hK.out _ _ True.intro (fun _ => ?_)
      clear hK K
      refine hd_take 11 (some 76) (.pointer (some ⟨w.heap.size, 37, none⟩)) rfl rfl (by kernel_rfl) (by kernel_rfl) (by kernel_rfl) (fun _ _ _ h => h) (Or.inl ⟨by rfl, fun w hw => by go_simp⟩) h0 ?_
      simp only [Act.put, List.setIfInBounds_toArray, List.set_cons_zero, List.set_cons_succ]
      refine wpAnyH_ready (rs := [12]) (by kernel_rfl) (by simp) (AllReadyH.cons rfl (fun K hK => ?_) (AllReadyH.nil))
      go_simp
      refine hK.out _ _ True.intro (fun _ => ?_)
      clear hK K
      refine wpAnyH_done (by kernel_rfl) ?_ _
      go_wp2_with fail
      go_meet
      exact ⟨A7, c7, H8, HOk⟩
  case rest =>
    obtain ⟨A', c', HO, HOk⟩ := hcut
    have hse : seeS ({ H with xA := A', xc := c', xs := H.xs.take k ++ [(⟨kind, A, n, c, b⟩ : Xt)] ++ H.xs.drop k } : Hv).hel.exts = seeS H.hel.exts := see_put (xs := H.xs) (k := k) (y := ⟨kind, A, n, c, b⟩) G0.out G1.out G2.out G3.out
    have hrG : ({ H with xA := A', xc := c', xs := H.xs.take k ++ [(⟨kind, A, n, c, b⟩ : Xt)] ++ H.xs.drop k } : Hv).rnd.length = 32 := hr
    generalize ({ H with xA := A', xc := c', xs := H.xs.take k ++ [(⟨kind, A, n, c, b⟩ : Xt)] ++ H.xs.drop k } : Hv) = G at *
    rw [HQ.out] at hse
    have HSe := Lib.hid hse
    have hb3 := HO.out.hb
    clear hse
    go_wp2_with (refine go_ld 44 hb3 undH rfl infH (Hv.size hrG) rfl rfl rfl ?_)
    refine (see_any G wc HOk.out).mono ?_
    rintro e w5 ⟨va, vv, rfl, ha, hv, hb⟩
    rw [HSe.out] at ha hv ⊢
    simp only at ha hv ⊢
    obtain ⟨A3, c3, rfl⟩ := OwnE.form ha.1
    obtain ⟨A4, c4, rfl⟩ := OwnE.form hv.1
    rw [HN1.out] at ha ⊢
    rw [HN2.out] at hv ⊢
    unfold snC
    simp only
    have hw5 := (Below.refl w5.heap.size w5).alloc (Nat.le_refl _) (.cells #[.bool x1, .string (str8 x2), .slice A3 n1 c3, .slice A4 n2 c4, .bool x5] 47)
    have hbw := hb.trans (hw5.mono hb.size)
    have HO5' := Lib.hid (HO.out.more hbw)
    have HA3 := Lib.hid (RelP.below ha hw5)
    have HV3 := Lib.hid (RelV.below hv hw5)
    have hS5 := Blk.new w5 47 #[.bool x1, .string (str8 x2), .slice A3 n1 c3, .slice A4 n2 c4, .bool x5]
    clear ha hv hb hb3 hw5 hbw HO HOk
    go_upto_region 9 with fail
    generalize w5.alloc (.cells #[.bool x1, .string (str8 x2), .slice A3 n1 c3, .slice A4 n2 c4, .bool x5] 47) = w6 at *
    generalize w5.heap.size = g5 at *
    have hS3 : Blk w6 g3 47 #[.bool x1, .string (str8 x2), .slice A1 n1 c1, .slice A2 n2 c2, .bool x5] := by rw [HC3.out]; exact HO5'.out.sb
    have k0 := hS3.cell 0
    have k1 := hS3.cell 1
    have k2 := hS3.cell 2
    have k3 := hS3.cell 3
    have k4 := hS3.cell 4
    have m0 := hS5.cell 0
    have m1 := hS5.cell 1
    have m2 := hS5.cell 2
    have m3 := hS5.cell 3
    have m4 := hS5.cell 4
    clear hS3 hS5
    go_wp2_with fail
    refine (rsame_any ⟨x1, x2, x3, x4, x5⟩ (.slice A1 n1 c1) (.slice A2 n2 c2) (.slice A3 n1 c3) (.slice A4 n2 c4) _ _ _ _ w6 HO5'.out.al HO5'.out.ve HA3.out HV3.out).mono ?_
    rintro e w7 ⟨rfl, hb⟩
    have HB7 := Lib.hid (HO5'.out.bel.trans (hb.mono HO5'.out.bel.size))
    clear hb k0 k1 k2 k3 k4 m0 m1 m2 m3 m4
    go_wp2_with fail
    go_ret
    exact ⟨rfl, HB7.out⟩

set_option maxRecDepth 100000 in
set_option linter.unusedVariables false in
theorem lifted (os : Os) (started : os.Started) (H : Type) (enc : TypeId × Value → H) :
    ReturnsInHanded {} Try.checked os 8 .any (Rows.extsOthersSpec.pre6 enc Try.prog Try.f8 Rows.extsOthersRow.domain false) (Rows.extsOthersSpec.post enc Try.prog Try.f8 false true false false) := by
  refine returnsInHanded_of_change_sized (C := Try.checked) own started (by kernel_rfl) Try.func8
    (ChangeSpec.witness6 (enc := enc) (C := Try.checked) false ⟨#[], #[.agg #[.int .i64 0, .int .u8 0, .int .u8 0, .int .u8 0, .int .u8 0, .int .u8 0, .int .u8 0, .int .u8 0, .int .u8 0, .int .u8 0, .int .u8 0, .int .u8 0, .int .u8 0, .int .u8 0, .int .u8 0, .int .u8 0, .int .u8 0, .int .u8 0, .int .u8 0, .int .u8 0, .int .u8 0, .int .u8 0, .int .u8 0, .int .u8 0, .int .u8 0, .int .u8 0, .int .u8 0, .int .u8 0, .int .u8 0, .int .u8 0, .int .u8 0, .int .u8 0, .int .u8 0, .slice none 0 0, .slice none 0 0, .slice none 0 0, .bool false, .slice none 0 0], .int .i64 0, .slice none 0 0, .int .i64 0], []⟩ 8 (by kernel_rfl) (by kernel_rfl) (by kernel_rfl) (by kernel_rfl)) ?_
  intro W base args ds gs before hval0 hW hcnd hsz0 _
  have hval : ∀ (j : Nat) t v, Try.f8.params[j]? = some t → args[j]? = some v → Value.okWide Try.prog W .any base t v := hval0
  have hW' := hW
  obtain ⟨p, q, hA0, hV, rfl, hfz, hnd⟩ := hW
  have hA : DataW.TrodAll enc Try.prog W 0 (fun _ => true) true Try.f8.params.toList args.toList ds p := hA0
  have hsz : (DataW.weightsEach Try.prog (Try.f8.params.toList ++ Rows.extsOthersSpec.plain.varTypes Try.prog) (ds ++ gs)).all (· ≤ reachBytes) = true := hsz0
  rw [Try.params8] at hA hval hsz
  obtain ⟨v0, vs0, d0, ds0, p0, q0, hargs, rfl, rfl, h0, r0⟩ := trodAll_cons hA
  obtain ⟨v1, vs1, d1, ds1, p1, q1, rfl, rfl, rfl, h1, r1⟩ := trodAll_cons r0
  obtain ⟨v2, vs2, d2, ds2, p2, q2, rfl, rfl, rfl, h2, r2⟩ := trodAll_cons r1
  obtain ⟨v3, vs3, d3, ds3, p3, q3, rfl, rfl, rfl, h3, r3⟩ := trodAll_cons r2
  obtain ⟨rfl, rfl, rfl⟩ := trodAll_nil r3
  obtain rfl : args = #[v0, v1, v2, v3] := by cases args; simp_all
  obtain ⟨rfl, rfl⟩ := trodVars_none hV
  have k0 := h0
  have lt0 : ∀ x ∈ p0, x.block < W.heap.size := by obtain ⟨m, hm⟩ := k0; exact DataW.trod_lt m _ _ _ hm
  obtain ⟨a0, ok0, rfl⟩ := open_hello (hval 0 44 v0 rfl rfl) h0 (reach_at hsz (j := 0) (t := 44) rfl rfl)
  have k1 := h1
  have lt1 : ∀ x ∈ p1, x.block < W.heap.size := by obtain ⟨m, hm⟩ := k1; exact DataW.trod_lt m _ _ _ hm
  obtain ⟨a1, rfl, rfl, rfl, w1⟩ := open_int Try.underlying3 (hval 1 3 v1 rfl rfl) h1
  have b1 := int_of w1
  have k2 := h2
  have lt2 : ∀ x ∈ p2, x.block < W.heap.size := by obtain ⟨m, hm⟩ := k2; exact DataW.trod_lt m _ _ _ hm
  obtain ⟨A2, n2, cap2, xs2, rfl, le2, mx2, src2⟩ := open_bytes (hval 2 22 v2 rfl rfl) h2
  have k3 := h3
  have lt3 : ∀ x ∈ p3, x.block < W.heap.size := by obtain ⟨m, hm⟩ := k3; exact DataW.trod_lt m _ _ _ hm
  obtain ⟨a3, rfl, rfl, rfl, w3⟩ := open_int Try.underlying3 (hval 3 3 v3 rfl rfl) h3
  have b3 := int_of w3
  clear hA0 hval0 hsz0
  refine (walk W a0 ok0 a1 b1 A2 n2 cap2 xs2 le2 mx2 src2 a3 b3).mono fun e W' ⟨he, bel⟩ => ?_
  subst he
  exact ⟨_, rfl, _, _, _, [], _, [], hW', trodAll_mk1 (shut_bool Try.underlying4 _), (trodAll_cons_mk (Below.trod laidOut (by kernel_rfl) (of_decide_eq_true (by kernel_rfl)) k0 bel lt0) (trodAll_cons_mk (Below.trod laidOut (by kernel_rfl) (of_decide_eq_true (by kernel_rfl)) k1 bel lt1) (trodAll_cons_mk (Below.trod laidOut (by kernel_rfl) (of_decide_eq_true (by kernel_rfl)) k2 bel lt2) (trodAll_cons_mk (Below.trod laidOut (by kernel_rfl) (of_decide_eq_true (by kernel_rfl)) k3 bel lt3) trodAll_mk0)))), rfl, bel.frame _, fun h => by cases h⟩

theorem over : Rows.extsOthersRow.holds Try.pinned (OpenSpec.ofChange Rows.extsOthersSpec) :=
  OpenClaim.holds_of_wide 8 Try.f8 rfl rfl rfl rfl rfl rfl rfl ⟨rfl, rfl, rfl, rfl, rfl⟩ rfl rfl rfl rfl rfl (by kernel_rfl) Try.func8 (by kernel_rfl)
    (of_decide_eq_true (by kernel_rfl)) (by unfold Func.isWrapper; first | (rw [if_pos (by decide +kernel)]; kernel_rfl) | (rw [if_neg (by decide +kernel)]; exact ⟨rfl, rfl⟩))
    (fun os started H enc _ => lifted os started H enc)

theorem proved : Rows.ExtsOthersSaid := over
#print axioms proved
end Go.Proofs.Ytajmdchidmamcaa.extsOthers
