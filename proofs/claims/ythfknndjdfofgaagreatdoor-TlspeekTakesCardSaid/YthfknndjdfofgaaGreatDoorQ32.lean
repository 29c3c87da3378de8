/-
 Contract of hagioscoperef10's See over this seat's translation: it answers what seeS says.
-/
import Derived.Test.YthfknndjdfofgaaGreatDoorQ31
import Derived.Deep.Cut
import Derived.Deep.CutRange
import Derived.Test.YthfknndjdfofgaaGreatDoorQ15
import Derived.Lib.SplitLaws
import Derived.Lib.SlTrimSet
import Derived.Lib.Strings
import Derived.Test.YthfknndjdfofgaaGreatDoorQ03
import Derived.RegionTactic
import Derived.ChangeAlike
import Derived.Deep.MidRow
import Derived.Deep.RegionHeldLaw
import Derived.Deep.RegionHeld3
namespace Go.Proofs.YthfknndjdfofgaaGreatDoor.Ex
open Go.RowKit Go.Proofs.YthfknndjdfofgaaGreatDoor.Wd Go.Proofs.YthfknndjdfofgaaGreatDoor.Be Go.Proofs.YthfknndjdfofgaaGreatDoor.He Go.Proofs.YthfknndjdfofgaaGreatDoor.Ro

structure SeAt (H : Hv) (w : World) (x : Sn) (va vv : Value) (wx : World) : Prop where
 hb : Blk wx w.heap.size 68 H.C
 ob : Blk wx (w.heap.size + 1) 29 #[.bool false, .string ⟨#[]⟩, .slice none 0 0, .slice none 0 0, .bool false]
 vb : Blk wx (w.heap.size + 1 + 1) 29 (snC x va vv)
 al : RelP wx w.heap.size va x.alpn
 ve : RelV wx w.heap.size vv x.vers
 bel : Below w.heap.size w wx
theorem SeAt.more {H : Hv} {w : World} {x : Sn} {va vv : Value} {wx w' : World} (h : SeAt H w x va vv wx) (hb : Below wx.heap.size wx w') : SeAt H w x va vv w' :=
 ⟨h.hb.below hb h.hb.lt, h.ob.below hb h.ob.lt, h.vb.below hb h.vb.lt, h.al.below hb, h.ve.below hb, h.bel.trans (hb.mono h.bel.size)⟩
theorem SeAt.set {H : Hv} {w : World} {x : Sn} {va vv : Value} {wx : World} (h : SeAt H w x va vv wx) (i : Nat) (u : Value) (y : Sn) (ua uv : Value) (hy : (snC x va vv).setIfInBounds i u = snC y ua uv) (ha : RelP wx w.heap.size ua y.alpn) (hv : RelV wx w.heap.size uv y.vers) :
   SeAt H w y ua uv (wx.setCell ⟨w.heap.size + 1 + 1, i, none⟩ u) := by
 have hg : wx.grownBy (wx.setCell ⟨w.heap.size + 1 + 1, i, none⟩ u) (some (w.heap.size + 1 + 1)) := only_setCell (p := ⟨w.heap.size + 1 + 1, i, none⟩) (only_refl wx _) (.inl rfl) u
 refine ⟨h.hb.far (by show w.heap.size ≠ w.heap.size + 1 + 1; omega) u, h.ob.far (by show w.heap.size + 1 ≠ w.heap.size + 1 + 1; omega) u, ?_, ha.off hg (OffT.of_blk h.vb (by decide)), hv.off hg (OffT.of_blk h.vb (by decide)), h.bel.grown hg h.bel.size (fun j hj => by injection hj with hj; omega)⟩
 have := h.vb.set_ i u
 rwa [hy] at this

set_option maxRecDepth 100000 in
set_option maxHeartbeats 4000000 in
theorem rsee_any (H : Hv) (w : World) (hH : H.Ok w) (hcm : ∀ x ∈ H.xs, x.c ≤ maxLen) (hsm : ∀ x ∈ H.xs, x.n ≤ 100000) :
   Calls Tryz.prog 49 #[.agg H.C] w (SeeP (seeS H.hel.exts) w) := by
 have hr := hH.rnd
 have HH := Lib.hid hH
 have HCm := Lib.hid hcm
 have hR : seeS H.hel.exts = if orL (errS H.hel.exts) = 0 then (⟨(findL H.hel.exts 0).2, (fdS nameS (findL H.hel.exts 0)).1, (fdS protoS (findL H.hel.exts 16)).1, (fdS verS (findL H.hel.exts 43)).1, (findL H.hel.exts 65037).2⟩, 0) else (Sn.zero, orL (errS H.hel.exts)) := rfl
 have hE : errS H.hel.exts = [(fdS nameS (findL H.hel.exts 0)).2, (fdS protoS (findL H.hel.exts 16)).2, (fdS verS (findL H.hel.exts 43)).2] := rfl
 rw [hE] at hR
 have hlen : ∀ k, (findL H.hel.exts k).1.length ≤ 100000 := fun k => by
   rcases findL_mem H.hel.exts k with h | ⟨x, hx, h⟩
   · rw [h]; exact Nat.zero_le _
   · rw [h]
     have hx' : x ∈ H.xs.map ext := hx
     obtain ⟨y, hy, rfl⟩ := List.mem_map.1 hx'
     obtain ⟨i, hi⟩ := List.mem_iff_getElem?.1 hy
     have h1 := ((hH.xs i y hi).1).src.1
     have h2 := hsm y hy
     show y.b.length ≤ _
     omega
 obtain ⟨q, hq⟩ : ∃ q, seeS H.hel.exts = q := ⟨_, rfl⟩
 rw [hq] at hR ⊢
 have FA := fun w h => rfindc_any H 0 w h hcm
 have FB := fun w h => rfindc_any H 16 w h hcm
 have FC := fun w h => rfindc_any H 43 w h hcm
 have FD := fun w h => rfindc_any H 65037 w h hcm
 have l0 := hlen 0
 have l1 := hlen 16
 have l2 := hlen 43
 generalize findL H.hel.exts 0 = p0 at *
 generalize findL H.hel.exts 16 = p1 at *
 generalize findL H.hel.exts 43 = p2 at *
 generalize findL H.hel.exts 65037 = p3 at *
 obtain ⟨d0, i0⟩ := p0
 obtain ⟨d1, i1⟩ := p1
 obtain ⟨d2, i2⟩ := p2
 obtain ⟨d3, i3⟩ := p3
 have HR := Lib.hid hR
 have GA := Lib.hid FA
 have GB := Lib.hid FB
 have GC := Lib.hid FC
 have GD := Lib.hid FD
 clear hH hcm hsm hR hE hlen hq FA FB FC FD
 go_enter Tryz.func49, Tryz.ntmps49
 go_upto_region 2 with fail
 have H0 : Hid (SeAt H w Sn.zero (.slice none 0 0) (.slice none 0 0) (((w.alloc (.cells H.C 68)).alloc (.cells #[.bool false, .string ⟨#[]⟩, .slice none 0 0, .slice none 0 0, .bool false] 29)).alloc (.cells #[.bool false, .string ⟨#[]⟩, .slice none 0 0, .slice none 0 0, .bool false] 29))) :=
   Lib.hid ⟨((Blk.new w _ H.C).alloc _).alloc _, (blk_at _ _ _ _ _ (by rw [alloc_size]) rfl).alloc _, blk_at _ _ _ _ _ (by rw [alloc_size, alloc_size]) rfl, ⟨OwnE.nil _ _ _, Nat.zero_le _⟩, ⟨OwnE.nil _ _ _, Nat.zero_le _⟩, (((Below.refl w.heap.size w).alloc (Nat.le_refl _) _).alloc (by simp) _).alloc (by simp; omega) _⟩
 generalize (((w.alloc (.cells H.C 68)).alloc (.cells #[.bool false, .string ⟨#[]⟩, .slice none 0 0, .slice none 0 0, .bool false] 29)).alloc (.cells #[.bool false, .string ⟨#[]⟩, .slice none 0 0, .slice none 0 0, .bool false] 29)) = w0 at *
 have hb0 := H0.out.hb
 go_wp2_with (refine go_ld 68 hb0 undH rfl infH (Hv.size hr) rfl rfl rfl ?_)
 refine (GA.out w0 (HH.out.below H0.out.bel)).mono ?_
 rintro e w1 ⟨A1, n1, c1, rfl, hs1, hnc1, hc1, hbl⟩
 have H1 := Lib.hid (H0.out.more hbl)
 have HS1 := Lib.hid hs1
 have hn1 : n1 ≤ 100000 := by rw [← hs1.1]; exact l0
 clear hs1 hbl hb0 H0 GA
 go_upto_if 18 with fail
 go_cut [] from 7 to 30 (fun wx => Hid (SeAt H w ⟨i0, (fdS nameS (d0, i0)).1, [], [], false⟩ (.slice none 0 0) (.slice none 0 0) wx) ∧ Hid ((fdS nameS (d0, i0)).2 = 0))
 case first =>
   cases i0 with
   | false =>
     go_wp2_with fail
     go_meet
     exact ⟨H1, Lib.hid rfl⟩
   | true =>
     have hre : fdS nameS (d0, true) = nameS d0 := rfl
     rw [hre] at HR
     go_wp2_with fail
     refine (rname_any A1 n1 c1 d0 w1 HS1.out hn1 hnc1 hc1).mono ?_
     rintro e w2 ⟨rfl, hbl⟩
     have H2 := Lib.hid (H1.out.more hbl)
     clear hbl H1 HS1
     obtain ⟨r, hr2⟩ : ∃ r, nameS d0 = r := ⟨_, rfl⟩
     have HRr := Lib.hid (show fdS nameS (d0, true) = r from hr2)
     rw [hr2] at HR ⊢
     clear hre hr2
     obtain ⟨rl, E⟩ := r
     simp only at HR ⊢
     by_cases hE : E = 0
     · subst hE
       have hk0 : w2.cell? ⟨w.heap.size + 1 + 1, 0, none⟩ = some (.bool false) := by rw [H2.out.vb.cell]; rfl
       have hk1 : w2.cell? ⟨w.heap.size + 1 + 1, 1, none⟩ = some (.string ⟨#[]⟩) := by rw [H2.out.vb.cell]; rfl
       have hf0 := H2.out.vb.frozen 0
       have hf1 := H2.out.vb.frozen 1
       have H3 := Lib.hid ((H2.out.set 0 (.bool true) ⟨true, [], [], [], false⟩ (.slice none 0 0) (.slice none 0 0) rfl ⟨OwnE.nil _ _ _, Nat.zero_le _⟩ ⟨OwnE.nil _ _ _, Nat.zero_le _⟩).set 1 (.string (str8 rl)) ⟨true, rl, [], [], false⟩ (.slice none 0 0) (.slice none 0 0) rfl ⟨OwnE.nil _ _ _, Nat.zero_le _⟩ ⟨OwnE.nil _ _ _, Nat.zero_le _⟩)
       go_wp2_with fail
       go_meet
       exact ⟨by rw [HRr.out]; exact H3, Lib.hid (by rw [HRr.out])⟩
     · have HQ := Lib.hid (show q = (Sn.zero, E) by
         have ho : orL [E, (fdS protoS (d1, i1)).2, (fdS verS (d2, i2)).2] = E := by simp [orL, hE]
         rw [HR.out]
         show (if orL [E, (fdS protoS (d1, i1)).2, (fdS verS (d2, i2)).2] = 0 then _ else (Sn.zero, orL [E, (fdS protoS (d1, i1)).2, (fdS verS (d2, i2)).2])) = _
         rw [ho, if_neg hE])
       have hb : (E != 0) = true := by simp [hE]
       have hk0 := H2.out.ob.cell 0
       have hk1 := H2.out.ob.cell 1
       have hk2 := H2.out.ob.cell 2
       have hk3 := H2.out.ob.cell 3
       have hk4 := H2.out.ob.cell 4
       have hf0 := H2.out.ob.frozen 0
       have hf1 := H2.out.ob.frozen 1
       have hf2 := H2.out.ob.frozen 2
       have hf3 := H2.out.ob.frozen 3
       have hf4 := H2.out.ob.frozen 4
       clear hE HR
       go_wp2_with fail
       obtain ⟨hbk, hgr⟩ := five w2 (w.heap.size + 1) 29 _ _ _ _ _ (.bool false) (.string ⟨#[]⟩) (.slice none 0 0) (.slice none 0 0) (.bool false) H2.out.ob
       refine Ro.ret_two Tryz.results49 hbk undS rfl infS rfl rfl rfl ?_ rfl
       rw [HQ.out]
       exact ⟨_, _, rfl, ⟨OwnE.nil _ _ _, Nat.zero_le _⟩, ⟨OwnE.nil _ _ _, Nat.zero_le _⟩, H2.out.bel.grown hgr H2.out.bel.size (fun j hj => by injection hj with hj; omega)⟩
 case rest =>
   obtain ⟨H0, HE0⟩ := hcut
   clear H1 HS1 hn1 hnc1 hc1
   have hb0 := H0.out.hb
   go_wp2_with (refine go_ld 68 hb0 undH rfl infH (Hv.size hr) rfl rfl rfl ?_)
   refine (GB.out _ (HH.out.below H0.out.bel)).mono ?_
   rintro e w1 ⟨A1, n1, c1, rfl, hs1, hnc1, hc1, hbl⟩
   have H1 := Lib.hid (H0.out.more hbl)
   have HS1 := Lib.hid hs1
   have hn1 : n1 ≤ 100000 := by rw [← hs1.1]; exact l1
   clear hs1 hbl hb0 H0 GB
   go_upto_if 36 with fail
   go_cut [] from 9 to 47 (fun wx => ∃ va, Hid (SeAt H w ⟨i0, (fdS nameS (d0, i0)).1, (fdS protoS (d1, i1)).1, [], false⟩ va (.slice none 0 0) wx) ∧ Hid ((fdS protoS (d1, i1)).2 = 0))
   case first =>
     cases i1 with
     | false =>
       go_wp2_with fail
       go_meet
       exact ⟨.slice none 0 0, H1, Lib.hid rfl⟩
     | true =>
       have hre : fdS protoS (d1, true) = protoS d1 := rfl
       rw [hre] at HR
       go_wp2_with fail
       refine (rproto_any A1 n1 c1 d1 w1 HS1.out hn1 hnc1 hc1).mono ?_
       rintro e w2 ⟨v2, rfl, hv2, hbl⟩
       have HV2 := Lib.hid (RelP.lower hv2 H1.out.bel.size)
       clear hv2
       have H2 := Lib.hid (H1.out.more hbl)
       clear hbl H1 HS1
       obtain ⟨r, hr2⟩ : ∃ r, protoS d1 = r := ⟨_, rfl⟩
       have HRr := Lib.hid (show fdS protoS (d1, true) = r from hr2)
       rw [hr2] at HR HV2 ⊢
       clear hre hr2
       obtain ⟨rl, E⟩ := r
       simp only at HR HV2 ⊢
       obtain ⟨Av, cv, rfl⟩ := OwnE.form HV2.out.1
       by_cases hE : E = 0
       · subst hE
         have hk0 : w2.cell? ⟨w.heap.size + 1 + 1, 2, none⟩ = some (.slice none 0 0) := by rw [H2.out.vb.cell]; rfl
         have hf0 := H2.out.vb.frozen 2
         have H3 := Lib.hid (H2.out.set 2 (.slice Av rl.length cv) ⟨i0, (fdS nameS (d0, i0)).1, rl, [], false⟩ (.slice Av rl.length cv) (.slice none 0 0) rfl HV2.out ⟨OwnE.nil _ _ _, Nat.zero_le _⟩)
         go_wp2_with fail
         go_meet
         exact ⟨_, by rw [HRr.out]; exact H3, Lib.hid (by rw [HRr.out])⟩
       · have HQ := Lib.hid (show q = (Sn.zero, E) by
           have ho : orL [0, E, (fdS verS (d2, i2)).2] = E := by simp [orL, hE]
           rw [HR.out, HE0.out]
           show (if orL [0, E, (fdS verS (d2, i2)).2] = 0 then _ else (Sn.zero, orL [0, E, (fdS verS (d2, i2)).2])) = _
           rw [ho, if_neg hE])
         have hb : (E != 0) = true := by simp [hE]
         have hk0 := H2.out.ob.cell 0
         have hk1 := H2.out.ob.cell 1
         have hk2 := H2.out.ob.cell 2
         have hk3 := H2.out.ob.cell 3
         have hk4 := H2.out.ob.cell 4
         have hf0 := H2.out.ob.frozen 0
         have hf1 := H2.out.ob.frozen 1
         have hf2 := H2.out.ob.frozen 2
         have hf3 := H2.out.ob.frozen 3
         have hf4 := H2.out.ob.frozen 4
         clear hE HR
         go_wp2_with fail
         obtain ⟨hbk, hgr⟩ := five w2 (w.heap.size + 1) 29 _ _ _ _ _ (.bool false) (.string ⟨#[]⟩) (.slice none 0 0) (.slice none 0 0) (.bool false) H2.out.ob
         refine Ro.ret_two Tryz.results49 hbk undS rfl infS rfl rfl rfl ?_ rfl
         rw [HQ.out]
         exact ⟨_, _, rfl, ⟨OwnE.nil _ _ _, Nat.zero_le _⟩, ⟨OwnE.nil _ _ _, Nat.zero_le _⟩, H2.out.bel.grown hgr H2.out.bel.size (fun j hj => by injection hj with hj; omega)⟩
   case rest =>
     obtain ⟨va, H0, HE1⟩ := hcut
     clear H1 HS1 hn1 hnc1 hc1
     have hb0 := H0.out.hb
     go_wp2_with (refine go_ld 68 hb0 undH rfl infH (Hv.size hr) rfl rfl rfl ?_)
     refine (GC.out _ (HH.out.below H0.out.bel)).mono ?_
     rintro e w1 ⟨A1, n1, c1, rfl, hs1, hnc1, hc1, hbl⟩
     have H1 := Lib.hid (H0.out.more hbl)
     have HS1 := Lib.hid hs1
     have hn1 : n1 ≤ 100000 := by rw [← hs1.1]; exact l2
     clear hs1 hbl hb0 H0 GC
     go_upto_if 53 with fail
     go_cut [] from 11 to 64 (fun wx => ∃ vv, Hid (SeAt H w ⟨i0, (fdS nameS (d0, i0)).1, (fdS protoS (d1, i1)).1, (fdS verS (d2, i2)).1, false⟩ va vv wx) ∧ Hid ((fdS verS (d2, i2)).2 = 0))
     case first =>
       cases i2 with
       | false =>
         go_wp2_with fail
         go_meet
         exact ⟨.slice none 0 0, H1, Lib.hid rfl⟩
       | true =>
         have hre : fdS verS (d2, true) = verS d2 := rfl
         rw [hre] at HR
         go_wp2_with fail
         refine (rvers_any A1 n1 c1 d2 w1 HS1.out hn1 hnc1 hc1).mono ?_
         rintro e w2 ⟨v2, rfl, hv2, hbl⟩
         have HV2 := Lib.hid (RelV.lower hv2 H1.out.bel.size)
         clear hv2
         have H2 := Lib.hid (H1.out.more hbl)
         clear hbl H1 HS1
         obtain ⟨r, hr2⟩ : ∃ r, verS d2 = r := ⟨_, rfl⟩
         have HRr := Lib.hid (show fdS verS (d2, true) = r from hr2)
         rw [hr2] at HR HV2 ⊢
         clear hre hr2
         obtain ⟨rl, E⟩ := r
         simp only at HR HV2 ⊢
         obtain ⟨Av, cv, rfl⟩ := OwnE.form HV2.out.1
         by_cases hE : E = 0
         · subst hE
           have hk0 : w2.cell? ⟨w.heap.size + 1 + 1, 3, none⟩ = some (.slice none 0 0) := by rw [H2.out.vb.cell]; rfl
           have hf0 := H2.out.vb.frozen 3
           have H3 := Lib.hid (H2.out.set 3 (.slice Av rl.length cv) ⟨i0, (fdS nameS (d0, i0)).1, (fdS protoS (d1, i1)).1, rl, false⟩ va (.slice Av rl.length cv) rfl H2.out.al HV2.out)
           go_wp2_with fail
           go_meet
           exact ⟨_, by rw [HRr.out]; exact H3, Lib.hid (by rw [HRr.out])⟩
         · have HQ := Lib.hid (show q = (Sn.zero, E) by
             have ho : orL [0, 0, E] = E := by simp [orL, hE]
             rw [HR.out, HE0.out, HE1.out]
             show (if orL [0, 0, E] = 0 then _ else (Sn.zero, orL [0, 0, E])) = _
             rw [ho, if_neg hE])
           have hb : (E != 0) = true := by simp [hE]
           have hk0 := H2.out.ob.cell 0
           have hk1 := H2.out.ob.cell 1
           have hk2 := H2.out.ob.cell 2
           have hk3 := H2.out.ob.cell 3
           have hk4 := H2.out.ob.cell 4
           have hf0 := H2.out.ob.frozen 0
           have hf1 := H2.out.ob.frozen 1
           have hf2 := H2.out.ob.frozen 2
           have hf3 := H2.out.ob.frozen 3
           have hf4 := H2.out.ob.frozen 4
           clear hE HR
           go_wp2_with fail
           obtain ⟨hbk, hgr⟩ := five w2 (w.heap.size + 1) 29 _ _ _ _ _ (.bool false) (.string ⟨#[]⟩) (.slice none 0 0) (.slice none 0 0) (.bool false) H2.out.ob
           refine Ro.ret_two Tryz.results49 hbk undS rfl infS rfl rfl rfl ?_ rfl
           rw [HQ.out]
           exact ⟨_, _, rfl, ⟨OwnE.nil _ _ _, Nat.zero_le _⟩, ⟨OwnE.nil _ _ _, Nat.zero_le _⟩, H2.out.bel.grown hgr H2.out.bel.size (fun j hj => by injection hj with hj; omega)⟩
     case rest =>
       obtain ⟨vv, H0, HE2⟩ := hcut
       clear H1 HS1 hn1 hnc1 hc1
       have hb0 := H0.out.hb
       go_wp2_with (refine go_ld 68 hb0 undH rfl infH (Hv.size hr) rfl rfl rfl ?_)
       refine (GD.out _ (HH.out.below H0.out.bel)).mono ?_
       rintro e w1 ⟨A1, n1, c1, rfl, hs1, hnc1, hc1, hbl⟩
       have H1 := Lib.hid (H0.out.more hbl)
       clear hs1 hbl hb0 H0 GD hnc1 hc1
       obtain ⟨Aa, ca, rfl⟩ := OwnE.form H1.out.al.1
       obtain ⟨Av, cv, rfl⟩ := OwnE.form H1.out.ve.1
       have hk4 : w1.cell? ⟨w.heap.size + 1 + 1, 4, none⟩ = some (.bool false) := by rw [H1.out.vb.cell]; rfl
       have hf4 := H1.out.vb.frozen 4
       have H5 := Lib.hid (H1.out.set 4 (.bool i3) ⟨i0, (fdS nameS (d0, i0)).1, (fdS protoS (d1, i1)).1, (fdS verS (d2, i2)).1, i3⟩ _ _ rfl H1.out.al H1.out.ve)
       have HF := Lib.hid (show q = (⟨i0, (fdS nameS (d0, i0)).1, (fdS protoS (d1, i1)).1, (fdS verS (d2, i2)).1, i3⟩, 0) by
         rw [HR.out, HE0.out, HE1.out, HE2.out]
         rfl)
       clear H1 HR HE0 HE1 HE2
       simp only at H5 HF ⊢
       generalize (fdS nameS (d0, i0)).1 = a2 at *
       generalize (fdS protoS (d1, i1)).1 = b2 at *
       generalize (fdS verS (d2, i2)).1 = c2 at *
       obtain ⟨nb, hnb⟩ : ∃ n, b2.length = n := ⟨_, rfl⟩
       obtain ⟨nc, hnc⟩ : ∃ n, c2.length = n := ⟨_, rfl⟩
       rw [hnb, hnc] at H5
       clear hnb hnc
       go_upto_region 22 with fail
       generalize w1.setCell ⟨w.heap.size + 1 + 1, 4, none⟩ (.bool i3) = w5 at *
       clear hk4 hf4
       have hv0 : w5.cell? ⟨w.heap.size + 1 + 1, 0, none⟩ = some (.bool i0) := by rw [H5.out.vb.cell]; rfl
       have hv1 : w5.cell? ⟨w.heap.size + 1 + 1, 1, none⟩ = some (.string (str8 a2)) := by rw [H5.out.vb.cell]; rfl
       have hv2 : w5.cell? ⟨w.heap.size + 1 + 1, 2, none⟩ = some (.slice Aa nb ca) := by rw [H5.out.vb.cell]; rfl
       have hv3 : w5.cell? ⟨w.heap.size + 1 + 1, 3, none⟩ = some (.slice Av nc cv) := by rw [H5.out.vb.cell]; rfl
       have hv4 : w5.cell? ⟨w.heap.size + 1 + 1, 4, none⟩ = some (.bool i3) := by rw [H5.out.vb.cell]; rfl
       have hk0 := H5.out.ob.cell 0
       have hk1 := H5.out.ob.cell 1
       have hk2 := H5.out.ob.cell 2
       have hk3 := H5.out.ob.cell 3
       have hk4 := H5.out.ob.cell 4
       have hf0 := H5.out.ob.frozen 0
       have hf1 := H5.out.ob.frozen 1
       have hf2 := H5.out.ob.frozen 2
       have hf3 := H5.out.ob.frozen 3
       have hf4 := H5.out.ob.frozen 4
       go_wp2_with fail
       obtain ⟨hbk, hgr⟩ := five w5 (w.heap.size + 1) 29 _ _ _ _ _ (.bool i0) (.string (str8 a2)) (.slice Aa nb ca) (.slice Av nc cv) (.bool i3) H5.out.ob
       refine Ro.ret_two Tryz.results49 hbk undS rfl infS rfl rfl rfl ?_ rfl
       rw [HF.out]
       exact ⟨_, _, rfl, H5.out.al.off hgr (OffT.of_blk H5.out.ob (by decide)), H5.out.ve.off hgr (OffT.of_blk H5.out.ob (by decide)), H5.out.bel.grown hgr H5.out.bel.size (fun j hj => by injection hj with hj; omega)⟩
end Go.Proofs.YthfknndjdfofgaaGreatDoor.Ex

/-
 What the code's words over texts come to: what stands between dots, a dot behind, digits trimmed, labels of small letters. Plain lemmas, no condition.
-/
namespace Go.Proofs.YthfknndjdfofgaaGreatDoor.Nm
open Go Go.Proofs.YthfknndjdfofgaaGreatDoor.Asc Go.Proofs.YthfknndjdfofgaaGreatDoor.Ad

theorem splitK_is (c : UInt8) : ∀ (n : Nat) (l : List UInt8), l.length ≤ n → Lib.splitK [c] 0 (Lib.count l [c]) l = splitS c l := by
 intro n
 induction n with
 | zero =>
   intro l h
   have : l = [] := List.eq_nil_of_length_eq_zero (by omega)
   subst this
   rfl
 | succ n ih =>
   intro l h
   rcases first_of (c := c) l with hf | ⟨a, b, rfl, hf⟩
   · rw [splitS_free hf, Lib.count_one, List.count_eq_zero.2 hf]
     rfl
   · have hk : Lib.count (a ++ c :: b) [c] = Lib.count b [c] + 1 := by
       rw [Lib.count_one, Lib.count_one, List.count_append, List.count_eq_zero.2 hf, List.count_cons_self]
       omega
     have hi : Lib.index (a ++ c :: b) [c] = (a.length : Int) := by rw [Lib.index_one, ib_at hf]
     have hne : ((a.length : Int) == -1) = false := by rw [beq_eq_false_iff_ne]; omega
     rw [hk, splitS_at hf, Lib.splitK, hi, hne, Int.toNat_natCast]
     rw [if_neg (by simp), Nat.add_zero, List.take_left' rfl, List.length_cons, List.length_nil, Nat.zero_add,
       show List.drop (a.length + 1) (a ++ c :: b) = b by rw [← List.drop_drop, List.drop_left' rfl]; rfl,
       ih b (by rw [List.length_append, List.length_cons] at h; omega)]
theorem split_cells (s : ByteArray) (c : UInt8) : (Lib.splitB ⟨#[c]⟩ 0 (Lib.countB s ⟨#[c]⟩) s).map Value.string = (splitS c (bs s)).map fun l => Value.string (str l) := by
 have h := Lib.splitB_data ⟨#[c]⟩ 0 (Lib.countB s ⟨#[c]⟩) s
 rw [show Lib.splitK (⟨#[c]⟩ : ByteArray).data.toList 0 (Lib.countB s ⟨#[c]⟩) s.data.toList = splitS c (bs s) from splitK_is c _ (bs s) (Nat.le_refl _)] at h
 rw [← h, List.map_map]
 refine List.map_congr_left fun x _ => ?_
 show Value.string x = Value.string (str (bs x))
 rw [str_bs]
theorem split_count (s : ByteArray) (c : UInt8) : Lib.countB s ⟨#[c]⟩ + 1 = (splitS c (bs s)).length := by
 have h := congrArg List.length (split_cells s c)
 rw [List.length_map, List.length_map, Lib.splitB_all ⟨#[c]⟩ (Nat.le_refl 1) 0 _ s rfl] at h
 exact h

theorem suf_one (c : UInt8) (l : List UInt8) : Lib.hasSuffix l [c] = decide (l.getLast? = some c) := by
 rw [Lib.hasSuffix, Bool.eq_iff_iff, List.isSuffixOf_iff_suffix, decide_eq_true_eq, List.getLast?_eq_some_iff]
 exact ⟨fun ⟨t, h⟩ => ⟨t, h.symm⟩, fun ⟨t, h⟩ => ⟨t, h.symm⟩⟩
theorem pre_one (c : UInt8) (b : List UInt8) : Lib.hasPrefix b [c] = decide (b.head? = some c) := by
 cases b with
 | nil => rfl
 | cons x l =>
   by_cases h : x = c
   · subst h; simp [Lib.hasPrefix]
   · have h' : (c == x) = false := by rw [beq_eq_false_iff_ne]; exact fun e => h e.symm
     simp [Lib.hasPrefix, List.isPrefixOf, h, h']
theorem cut_dot (l : List UInt8) : Lib.trimSuffix l [46] = trimS l := by
 unfold Lib.trimSuffix trimS
 rw [suf_one]
 by_cases h : l.getLast? = some 46
 · rw [decide_eq_true h, if_pos rfl, if_pos h, List.dropLast_eq_take]; rfl
 · rw [decide_eq_false h, if_neg (by simp), if_neg h]

/-! digits, trimmed -/
abbrev digN : List UInt8 := [48, 49, 50, 51, 52, 53, 54, 55, 56, 57]
theorem dig_all : ∀ c : Fin 256, digN.contains (UInt8.ofNat c.1) = digB (UInt8.ofNat c.1) := by decide +kernel
theorem dig_is (c : UInt8) : digN.contains c = digB c := by
 have := dig_all ⟨c.toNat, c.toNat_lt⟩
 rwa [UInt8.ofNat_toNat] at this
theorem drop_nil (f : UInt8 → Bool) : ∀ l : List UInt8, l.dropWhile f = [] ↔ ∀ x ∈ l, f x = true
 | [] => by simp
 | x :: l => by
   rw [List.dropWhile_cons]
   by_cases h : f x = true
   · rw [if_pos h, drop_nil f l]; simp [h]
   · rw [if_neg h]
     exact ⟨fun e => (by cases e), fun e => absurd (e x (by simp)) h⟩
theorem trim_digs (p : List UInt8) : Lib.trimS p digN = [] ↔ digS p = true := by
 have hP : (fun c : UInt8 => digN.contains c) = digB := funext dig_is
 unfold Lib.trimS Lib.trimLeftS Lib.trimRightS digS
 rw [hP, drop_nil, List.all_eq_true]
 constructor
 · intro h
   have h2 : p.reverse.dropWhile digB = [] := by
     cases hd : p.reverse.dropWhile digB with
     | nil => rfl
     | cons x r =>
       have h3 := List.head?_dropWhile_not digB p.reverse
       rw [hd] at h3
       have h4 := h x (by rw [hd]; simp)
       simp at h3
       rw [h3] at h4
       cases h4
   rw [drop_nil] at h2
   exact fun x hx => h2 x (List.mem_reverse.2 hx)
 · intro h x hx
   rw [List.mem_reverse] at hx
   exact h x (List.mem_reverse.1 ((List.dropWhile_suffix digB).subset hx))

/-! labels of small letters -/
def maB (c : UInt8) : Bool := decide ((97 ≤ c.toNat ∧ c.toNat ≤ 122) ∨ (48 ≤ c.toNat ∧ c.toNat ≤ 57) ∨ c.toNat = 45 ∨ c.toNat = 95)
def mayS (p : List UInt8) : Bool := decide (1 ≤ p.length) && decide (p.length ≤ 63) && p.all maB && decide (p.head? ≠ some 45) && decide (p.getLast? ≠ some 45)
def labsN : List UInt8 := [97, 98, 99, 100, 101, 102, 103, 104, 105, 106, 107, 108, 109, 110, 111, 112, 113, 114, 115, 116, 117, 118, 119, 120, 121, 122, 95, 48, 49, 50, 51, 52, 53, 54, 55, 56, 57, 45]
theorem ma_all : ∀ c : Fin 256, labB (lowB (UInt8.ofNat c.1)) = maB (lowB (UInt8.ofNat c.1)) ∧ decide (0 ≤ Lib.indexByte labsN (UInt8.ofNat c.1)) = maB (UInt8.ofNat c.1) := by decide +kernel
theorem ma_low (c : UInt8) : labB (lowB c) = maB (lowB c) := by
 have := (ma_all ⟨c.toNat, c.toNat_lt⟩).1
 rwa [UInt8.ofNat_toNat] at this
theorem ma_idx (c : UInt8) : decide (0 ≤ Lib.indexByte labsN c) = maB c := by
 have := (ma_all ⟨c.toNat, c.toNat_lt⟩).2
 rwa [UInt8.ofNat_toNat] at this
theorem ma_asc (c : UInt8) (h : 128 ≤ c.toNat) : maB c = false := by
 unfold maB
 rw [decide_eq_false_iff_not]
 omega
theorem may_low (q : List UInt8) : mayS (q.map lowB) = labS (q.map lowB) := by
 have h : (q.map lowB).all maB = (q.map lowB).all labB := by
   rw [List.all_map, List.all_map]
   exact congrArg q.all (funext fun c => (ma_low c).symm)
 unfold mayS labS
 rw [h]
theorem may_split (l : List UInt8) : (splitS 46 (trimS (l.map lowB))).all mayS = (splitS 46 (trimS (l.map lowB))).all labS := by
 rw [trim_low, split_low46, List.all_map, List.all_map]
 exact congrArg (List.all _) (funext fun q => may_low q)
def isN (x : List UInt8) : Bool := (splitS 46 x).all mayS && !digS (lastS x)
theorem name_code (l : List UInt8) : nameS (trimS (l.map lowB)) = if trimS (l.map lowB) = [] then ([], 8) else if 253 < (trimS (l.map lowB)).length then ([], 6) else if isN (trimS (l.map lowB)) = false then ([], 9) else (trimS (l.map lowB), 0) := by
 unfold nameS isN
 rw [may_split]
 have e : ∀ a b : Bool, (a = false ∨ b = true) ↔ ((a && !b) = false) := by decide
 simp only [e]

/-! signs, one by one -/
theorem all_no (s : ByteArray) (f : UInt8 → Bool) (pos : Nat) (h : ¬ pos < s.size) (ht : ((bs s).take pos).all f = true) : (bs s).all f = true := by
 rwa [List.take_of_length_le (by rw [bs_length]; omega)] at ht
theorem all_hit (s : ByteArray) (f : UInt8 → Bool) (pos : Nat) (h : pos < s.size) (hc : f (s[pos]'h) = false) : (bs s).all f = false :=
 List.all_eq_false.2 ⟨s[pos]'h, List.getElem_mem (by rw [bs_length]; exact h), by rw [hc]; simp⟩
theorem all_step (s : ByteArray) (f : UInt8 → Bool) (pos : Nat) (h : pos < s.size) (ht : ((bs s).take pos).all f = true) (hc : f (s[pos]'h) = true) : ((bs s).take (pos + 1)).all f = true := by
 rw [bs_take s pos h, List.all_append, ht]; simpa using hc
end Go.Proofs.YthfknndjdfofgaaGreatDoor.Nm

/-
 Structs in blocks: loaded and stored whole, handed back out of a block; one operation of a region that draws, taken by hand. Plain lemmas, no condition (XAdFns' and XRet's, for seats without packages addr and hello).
-/
namespace Go.Proofs.YthfknndjdfofgaaGreatDoor.St
open Go.RowKit Go.Proofs.YthfknndjdfofgaaGreatDoor.Wd

theorem go_ld {ops : Array Oper} {rest : List Oper} {o : Oper} {a : Act} {w : World} {Q : Exit → Act → World → Prop} {x : Operand} {g t n : Nat} {C : Array Value} {d : TypeDesc} (ty : TypeId) (hb : Blk w g t C) (hu : Tryz.prog.underlying ty = some d)
   (hd : d.isRow = true) (hi : (Tryz.prog.info? ty).map (·.size) = some n) (hn : C.size = n) (hgd : o.guard = none) (ho : o.op = .load ty x)
   (hx : a.eval x = .pointer (some ⟨g, 0, none⟩)) (h : wpList Tryz.prog ops Q rest (a.put o.dst (.agg C)) w) : wpList Tryz.prog ops Q (o :: rest) a w :=
 wpList_load_row hgd ty x ho g hx t C (0, 0) d hb hu (by cases d <;> first | rfl | cases hd) (by rw [hi, hn]) h
theorem go_st {ops : Array Oper} {rest : List Oper} {o : Oper} {a : Act} {w : World} {Q : Exit → Act → World → Prop} {x y : Operand} {g t n : Nat} {C D : Array Value} (ty : TypeId) (hb : Blk w g t C)
   (hi : (Tryz.prog.info? ty).map (·.size) = some n) (hn : C.size = n) (hm : D.size = n) (h1 : D.all (·.oneCell') = true) (hgd : o.guard = none) (ho : o.op = .store ty x y)
   (hx : a.eval x = .pointer (some ⟨g, 0, none⟩)) (hy : a.eval y = .agg D) (h : wpList Tryz.prog ops Q rest (a.put o.dst undef) (w.setRow g D)) : wpList Tryz.prog ops Q (o :: rest) a w :=
 wpList_store_row hgd ty x y ho g D hx hy t C hb (by rw [hi, hm]) (by rw [hn, hm]) h1 h
theorem setRow_blk {w : World} {g : Nat} {t : TypeId} {old new : Array Value} (h : Blk w g t old) : Blk (w.setRow g new) g t new := by
 have h' : w.heap[g]? = some (.cells old t (0, 0)) := h
 have hg := h.lt
 unfold Blk
 simp only [World.setRow]
 rw [Array.getElem?_modify]
 simp [h']
theorem setRow_far {w : World} {g k : Nat} (hk : k ≠ g) (new : Array Value) : (w.setRow g new).heap[k]? = w.heap[k]? := by
 simp only [World.setRow]
 rw [Array.getElem?_modify, if_neg (fun e => hk e.symm)]
theorem setRow_below {B g : Nat} {a w : World} {t : TypeId} {old : Array Value} (h : Below B a w) (_hb : Blk w g t old) (hg : B ≤ g) (new : Array Value) : Below B a (w.setRow g new) := by
 refine ⟨h.os, h.tape, h.output, ?_, fun i hi => ?_⟩
 · have := h.size
   simpa [World.setRow] using this
 · rw [setRow_far (by omega)]
   exact h.block i hi

theorem blk_at (w : World) (t : TypeId) (cs cs' : Array Value) (g : Nat) (hg : g = w.heap.size) (hc : cs = cs') : Blk (w.alloc (.cells cs t)) g t cs' := by
 subst hg hc
 exact Blk.new w t cs
theorem alloc_size (w : World) (o : Obj) : (w.alloc o).heap.size = w.heap.size + 1 := by simp

theorem ret_one {fn : Func} {p : Tmp} {ty t : TypeId} {a : Act} {w : World} {g n : Nat} {C : Array Value} {d : TypeDesc} {R : Ending → World → Prop} (hf : fn.results = #[.cell p ty]) (hb : Blk w g t C) (hu : Tryz.prog.underlying ty = some d)
   (hd : d.isRow = true) (hi : (Tryz.prog.info? ty).map (·.size) = some n) (hn : C.size = n) (hp : a.tmps.getD p undef = .pointer (some ⟨g, 0, none⟩)) (h : R (.returned (.agg C)) w) (hdf : a.defers = []) : bodyPost Tryz.prog fn R .ret a w :=
 bodyPost_ret (results_cell_row hf _ _ g t C (0, 0) d hp hb hu (by cases d <;> first | rfl | cases hd) (by rw [hi, hn])) hdf h
theorem hd_take {P : Program} {ops : Array Oper} {Q : Exit → Act → World → Prop} {md : Region.Mode} {S : World → Prop} (i : Nat) (dst : Option Tmp) (v : Value) {oi : Oper} {fuel : Nat} {listed : Array Bool} {a : Act} {w : World} (hi : ops[i]? = some oi) (hd : oi.dst = dst)
   (hs : Region.noSelect ops = true) (hf : Region.free md ops listed i = true) (hr : (Region.ready md ops listed).contains i = true)
   (hQ : ∀ c a w, Q (.panic c) (a.put oi.dst v) w → Q (.panic c) a w) (hy : YieldsIf P ops S oi v a) (hS : S w)
   (h : wpAnyH P md ops Q S fuel (listed.setIfInBounds i true) (a.put dst v) w) : wpAnyH P md ops Q S (fuel + 1) listed a w := by
 subst hd
 exact wpAnyH_take hi hs hf hr hQ hy hS h
theorem only_row (w : World) (g : Nat) (C : Array Value) : w.grownBy (w.setRow g C) (some g) := by
 have hB := (But.refl [g] w).row (g := g) (.inl (List.mem_singleton.2 rfl)) C
 exact ⟨hB.os, hB.tape, hB.output, hB.size, fun i hi hn => hB.block i hi (fun hm => hn (by rw [List.mem_singleton.1 hm]))⟩
end Go.Proofs.YthfknndjdfofgaaGreatDoor.St
