/-
  Contract of hagioscoperef10's See over this seat's translation: it answers what seeS says.
-/
import Derived.Test.YtajmdchidmamcaaErVers
import Derived.Test.YtajmdchidmamcaaRsFindC
import Derived.Deep.Cut
import Derived.Deep.CutRange
namespace Go.Proofs.Ytajmdchidmamcaa.Ex
open Go.RowKit Go.Proofs.Ytajmdchidmamcaa.Wd Go.Proofs.Ytajmdchidmamcaa.Be Go.Proofs.Ytajmdchidmamcaa.He Go.Proofs.Ytajmdchidmamcaa.Ro

/-- where the document's See is -/
structure SeAt (H : Hv) (w : World) (x : Sn) (va vv : Value) (wx : World) : Prop where
  hb : Blk wx w.heap.size 44 H.C
  ob : Blk wx (w.heap.size + 1) 47 #[.bool false, .string ⟨#[]⟩, .slice none 0 0, .slice none 0 0, .bool false]
  vb : Blk wx (w.heap.size + 1 + 1) 47 (snC x va vv)
  al : RelP wx w.heap.size va x.alpn
  ve : RelV wx w.heap.size vv x.vers
  bel : Below w.heap.size w wx
theorem SeAt.more {H : Hv} {w : World} {x : Sn} {va vv : Value} {wx w' : World} (h : SeAt H w x va vv wx) (hb : Below wx.heap.size wx w') : SeAt H w x va vv w' :=
  ⟨h.hb.below hb h.hb.lt, h.ob.below hb h.ob.lt, h.vb.below hb h.vb.lt, h.al.below hb, h.ve.below hb, h.bel.trans (hb.mono h.bel.size)⟩
/-- one of what is seen was stored -/
theorem SeAt.set {H : Hv} {w : World} {x : Sn} {va vv : Value} {wx : World} (h : SeAt H w x va vv wx) (i : Nat) (u : Value) (y : Sn) (ua uv : Value) (hy : (snC x va vv).setIfInBounds i u = snC y ua uv) (ha : RelP wx w.heap.size ua y.alpn) (hv : RelV wx w.heap.size uv y.vers) :
    SeAt H w y ua uv (wx.setCell ⟨w.heap.size + 1 + 1, i, none⟩ u) := by
  have hg : wx.grownBy (wx.setCell ⟨w.heap.size + 1 + 1, i, none⟩ u) (some (w.heap.size + 1 + 1)) := only_setCell (p := ⟨w.heap.size + 1 + 1, i, none⟩) (only_refl wx _) (.inl rfl) u
  refine ⟨h.hb.far (by show w.heap.size ≠ w.heap.size + 1 + 1; omega) u, h.ob.far (by show w.heap.size + 1 ≠ w.heap.size + 1 + 1; omega) u, ?_, ha.off hg (OffT.of_blk h.vb (by decide)), hv.off hg (OffT.of_blk h.vb (by decide)), h.bel.grown hg h.bel.size (fun j hj => by injection hj with hj; omega)⟩
  have := h.vb.set_ i u
  rwa [hy] at this

set_option maxRecDepth 100000 in
set_option maxHeartbeats 4000000 in
theorem rsee_any (H : Hv) (w : World) (hH : H.Ok w) (hcm : ∀ x ∈ H.xs, x.c ≤ maxLen) (hsm : ∀ x ∈ H.xs, x.n ≤ 100000) :
    Calls Try.prog 26 #[.agg H.C] w (SeeP (seeS H.hel.exts) w) := by
  have hr := hH.rnd
  have HH := Lib.hid hH
  have HCm := Lib.hid hcm
  have hR : seeS H.hel.exts = if orL (errS H.hel.exts) = 0 then (⟨(findL H.hel.exts 0).2, (fdS nameS (findL H.hel.exts 0)).1, (fdS protoS (findL H.hel.exts 16)).1, (fdS verS (findL H.hel.exts 43)).1, (findL H.hel.exts 65037).2⟩, 0) else (Sn.zero, orL (errS H.hel.exts)) := rfl
  have hE : errS H.hel.exts = [(fdS nameS (findL H.hel.exts 0)).2, (fdS protoS (findL H.hel.exts 16)).2, (fdS verS (findL H.hel.exts 43)).2] := rfl
  rw [hE] at hR
  have hlen : ∀ k, (findL H.hel.exts k).1.length ≤ 100000 := fun k => by
    rcases findL_mem H.hel.exts k with h | ⟨x, hx, h⟩
    · rw [h]; exact Nat.zero_le _
    · rw [h]
      have hx' : x ∈ H.xs.map ext := hx
      obtain ⟨y, hy, rfl⟩ := List.mem_map.1 hx'
      obtain ⟨i, hi⟩ := List.mem_iff_getElem?.1 hy
      have h1 := ((hH.xs i y hi).1).src.1
      have h2 := hsm y hy
      show y.b.length ≤ _
      omega
  obtain ⟨q, hq⟩ : ∃ q, seeS H.hel.exts = q := ⟨_, rfl⟩
  rw [hq] at hR ⊢
  have FA := fun w h => rfindc_any H 0 w h hcm
  have FB := fun w h => rfindc_any H 16 w h hcm
  have FC := fun w h => rfindc_any H 43 w h hcm
  have FD := fun w h => rfindc_any H 65037 w h hcm
  have l0 := hlen 0
  have l1 := hlen 16
  have l2 := hlen 43
  generalize findL H.hel.exts 0 = p0 at *
  generalize findL H.hel.exts 16 = p1 at *
  generalize findL H.hel.exts 43 = p2 at *
  generalize findL H.hel.exts 65037 = p3 at *
  obtain ⟨d0, i0⟩ := p0
  obtain ⟨d1, i1⟩ := p1
  obtain ⟨d2, i2⟩ := p2
  obtain ⟨d3, i3⟩ := p3
  have HR := Lib.hid hR
  have GA := Lib.hid FA
  have GB := Lib.hid FB
  have GC := Lib.hid FC
  have GD := Lib.hid FD
  clear hH hcm hsm hR hE hlen hq FA FB FC FD
  go_enter Try.func26, Try.ntmps26
  go_upto_region 2 with fail
  have H0 : Hid (SeAt H w Sn.zero (.slice none 0 0) (.slice none 0 0) (((w.alloc (.cells H.C 44)).alloc (.cells #[.bool false, .string ⟨#[]⟩, .slice none 0 0, .slice none 0 0, .bool false] 47)).alloc (.cells #[.bool false, .string ⟨#[]⟩, .slice none 0 0, .slice none 0 0, .bool false] 47))) :=
    Lib.hid ⟨((Blk.new w _ H.C).alloc _).alloc _, (blk_at _ _ _ _ _ (by rw [alloc_size]) rfl).alloc _, blk_at _ _ _ _ _ (by rw [alloc_size, alloc_size]) rfl, ⟨OwnE.nil _ _ _, Nat.zero_le _⟩, ⟨OwnE.nil _ _ _, Nat.zero_le _⟩, (((Below.refl w.heap.size w).alloc (Nat.le_refl _) _).alloc (by simp) _).alloc (by simp; omega) _⟩
  generalize (((w.alloc (.cells H.C 44)).alloc (.cells #[.bool false, .string ⟨#[]⟩, .slice none 0 0, .slice none 0 0, .bool false] 47)).alloc (.cells #[.bool false, .string ⟨#[]⟩, .slice none 0 0, .slice none 0 0, .bool false] 47)) = w0 at *
  have hb0 := H0.out.hb
  go_wp2_with (refine go_ld 44 hb0 undH rfl infH (Hv.size hr) rfl rfl rfl ?_)
  refine (GA.out w0 (HH.out.below H0.out.bel)).mono ?_
  rintro e w1 ⟨A1, n1, c1, rfl, hs1, hnc1, hc1, hbl⟩
  have H1 := Lib.hid (H0.out.more hbl)
  have HS1 := Lib.hid hs1
  have hn1 : n1 ≤ 100000 := by rw [← hs1.1]; exact l0
  clear hs1 hbl hb0 H0 GA
  go_upto_if 18 with fail
  go_cut [] from 7 to 30 (fun wx => Hid (SeAt H w ⟨i0, (fdS nameS (d0, i0)).1, [], [], false⟩ (.slice none 0 0) (.slice none 0 0) wx) ∧ Hid ((fdS nameS (d0, i0)).2 = 0))
  case first =>
    cases i0 with
    | false =>
      go_wp2_with fail
      go_meet
      exact ⟨H1, Lib.hid rfl⟩
    | true =>
      have hre : fdS nameS (d0, true) = nameS d0 := rfl
      rw [hre] at HR
      go_wp2_with fail
      refine (rname_any A1 n1 c1 d0 w1 HS1.out hn1 hnc1 hc1).mono ?_
      rintro e w2 ⟨rfl, hbl⟩
      have H2 := Lib.hid (H1.out.more hbl)
      clear hbl H1 HS1
      obtain ⟨r, hr2⟩ : ∃ r, nameS d0 = r := ⟨_, rfl⟩
      have HRr := Lib.hid (show fdS nameS (d0, true) = r from hr2)
      rw [hr2] at HR ⊢
      clear hre hr2
      obtain ⟨rl, E⟩ := r
      simp only at HR ⊢
      by_cases hE : E = 0
      · subst hE
        have hk0 : w2.cell? ⟨w.heap.size + 1 + 1, 0, none⟩ = some (.bool false) := by rw [H2.out.vb.cell]; rfl
        have hk1 : w2.cell? ⟨w.heap.size + 1 + 1, 1, none⟩ = some (.string ⟨#[]⟩) := by rw [H2.out.vb.cell]; rfl
        have hf0 := H2.out.vb.frozen 0
        have hf1 := H2.out.vb.frozen 1
        have H3 := Lib.hid ((H2.out.set 0 (.bool true) ⟨true, [], [], [], false⟩ (.slice none 0 0) (.slice none 0 0) rfl ⟨OwnE.nil _ _ _, Nat.zero_le _⟩ ⟨OwnE.nil _ _ _, Nat.zero_le _⟩).set 1 (.string (str8 rl)) ⟨true, rl, [], [], false⟩ (.slice none 0 0) (.slice none 0 0) rfl ⟨OwnE.nil _ _ _, Nat.zero_le _⟩ ⟨OwnE.nil _ _ _, Nat.zero_le _⟩)
        go_wp2_with fail
        go_meet
        exact ⟨by rw [HRr.out]; exact H3, Lib.hid (by rw [HRr.out])⟩
      · have HQ := Lib.hid (show q = (Sn.zero, E) by
          have ho : orL [E, (fdS protoS (d1, i1)).2, (fdS verS (d2, i2)).2] = E := by simp [orL, hE]
          rw [HR.out]
          show (if orL [E, (fdS protoS (d1, i1)).2, (fdS verS (d2, i2)).2] = 0 then _ else (Sn.zero, orL [E, (fdS protoS (d1, i1)).2, (fdS verS (d2, i2)).2])) = _
          rw [ho, if_neg hE])
        have hb : (E != 0) = true := by simp [hE]
        have hk0 := H2.out.ob.cell 0
        have hk1 := H2.out.ob.cell 1
        have hk2 := H2.out.ob.cell 2
        have hk3 := H2.out.ob.cell 3
        have hk4 := H2.out.ob.cell 4
        have hf0 := H2.out.ob.frozen 0
        have hf1 := H2.out.ob.frozen 1
        have hf2 := H2.out.ob.frozen 2
        have hf3 := H2.out.ob.frozen 3
        have hf4 := H2.out.ob.frozen 4
        clear hE HR
        go_wp2_with fail
        obtain ⟨hbk, hgr⟩ := five w2 (w.heap.size + 1) 47 _ _ _ _ _ (.bool false) (.string ⟨#[]⟩) (.slice none 0 0) (.slice none 0 0) (.bool false) H2.out.ob
        refine ret_two Try.results26 hbk undS rfl infS rfl rfl rfl ?_ rfl
        rw [HQ.out]
        exact ⟨_, _, rfl, ⟨OwnE.nil _ _ _, Nat.zero_le _⟩, ⟨OwnE.nil _ _ _, Nat.zero_le _⟩, H2.out.bel.grown hgr H2.out.bel.size (fun j hj => by injection hj with hj; omega)⟩
  case rest =>
    obtain ⟨H0, HE0⟩ := hcut
    clear H1 HS1 hn1 hnc1 hc1
    have hb0 := H0.out.hb
    go_wp2_with (refine go_ld 44 hb0 undH rfl infH (Hv.size hr) rfl rfl rfl ?_)
    refine (GB.out _ (HH.out.below H0.out.bel)).mono ?_
    rintro e w1 ⟨A1, n1, c1, rfl, hs1, hnc1, hc1, hbl⟩
    have H1 := Lib.hid (H0.out.more hbl)
    have HS1 := Lib.hid hs1
    have hn1 : n1 ≤ 100000 := by rw [← hs1.1]; exact l1
    clear hs1 hbl hb0 H0 GB
    go_upto_if 36 with fail
    go_cut [] from 9 to 47 (fun wx => ∃ va, Hid (SeAt H w ⟨i0, (fdS nameS (d0, i0)).1, (fdS protoS (d1, i1)).1, [], false⟩ va (.slice none 0 0) wx) ∧ Hid ((fdS protoS (d1, i1)).2 = 0))
    case first =>
      cases i1 with
      | false =>
        go_wp2_with fail
        go_meet
        exact ⟨.slice none 0 0, H1, Lib.hid rfl⟩
      | true =>
        have hre : fdS protoS (d1, true) = protoS d1 := rfl
        rw [hre] at HR
        go_wp2_with fail
        refine (rproto_any A1 n1 c1 d1 w1 HS1.out hn1 hnc1 hc1).mono ?_
        rintro e w2 ⟨v2, rfl, hv2, hbl⟩
        have HV2 := Lib.hid (RelP.lower hv2 H1.out.bel.size)
        clear hv2
        have H2 := Lib.hid (H1.out.more hbl)
        clear hbl H1 HS1
        obtain ⟨r, hr2⟩ : ∃ r, protoS d1 = r := ⟨_, rfl⟩
        have HRr := Lib.hid (show fdS protoS (d1, true) = r from hr2)
        rw [hr2] at HR HV2 ⊢
        clear hre hr2
        obtain ⟨rl, E⟩ := r
        simp only at HR HV2 ⊢
        obtain ⟨Av, cv, rfl⟩ := OwnE.form HV2.out.1
        by_cases hE : E = 0
        · subst hE
          have hk0 : w2.cell? ⟨w.heap.size + 1 + 1, 2, none⟩ = some (.slice none 0 0) := by rw [H2.out.vb.cell]; rfl
          have hf0 := H2.out.vb.frozen 2
          have H3 := Lib.hid (H2.out.set 2 (.slice Av rl.length cv) ⟨i0, (fdS nameS (d0, i0)).1, rl, [], false⟩ (.slice Av rl.length cv) (.slice none 0 0) rfl HV2.out ⟨OwnE.nil _ _ _, Nat.zero_le _⟩)
          go_wp2_with fail
          go_meet
          exact ⟨_, by rw [HRr.out]; exact H3, Lib.hid (by rw [HRr.out])⟩
        · have HQ := Lib.hid (show q = (Sn.zero, E) by
            have ho : orL [0, E, (fdS verS (d2, i2)).2] = E := by simp [orL, hE]
            rw [HR.out, HE0.out]
            show (if orL [0, E, (fdS verS (d2, i2)).2] = 0 then _ else (Sn.zero, orL [0, E, (fdS verS (d2, i2)).2])) = _
            rw [ho, if_neg hE])
          have hb : (E != 0) = true := by simp [hE]
          have hk0 := H2.out.ob.cell 0
          have hk1 := H2.out.ob.cell 1
          have hk2 := H2.out.ob.cell 2
          have hk3 := H2.out.ob.cell 3
          have hk4 := H2.out.ob.cell 4
          have hf0 := H2.out.ob.frozen 0
          have hf1 := H2.out.ob.frozen 1
          have hf2 := H2.out.ob.frozen 2
          have hf3 := H2.out.ob.frozen 3
          have hf4 := H2.out.ob.frozen 4
          clear hE HR
          go_wp2_with fail
          obtain ⟨hbk, hgr⟩ := five w2 (w.heap.size + 1) 47 _ _ _ _ _ (.bool false) (.string ⟨#[]⟩) (.slice none 0 0) (.slice none 0 0) (.bool false) H2.out.ob
          refine ret_two Try.results26 hbk undS rfl infS rfl rfl rfl ?_ rfl
          rw [HQ.out]
          exact ⟨_, _, rfl, ⟨OwnE.nil _ _ _, Nat.zero_le _⟩, ⟨OwnE.nil _ _ _, Nat.zero_le _⟩, H2.out.bel.grown hgr H2.out.bel.size (fun j hj => by injection hj with hj; omega)⟩
    case rest =>
      obtain ⟨va, H0, HE1⟩ := hcut
      clear H1 HS1 hn1 hnc1 hc1
      have hb0 := H0.out.hb
      go_wp2_with (refine go_ld 44 hb0 undH rfl infH (Hv.size hr) rfl rfl rfl ?_)
      refine (GC.out _ (HH.out.below H0.out.bel)).mono ?_
      rintro e w1 ⟨A1, n1, c1, rfl, hs1, hnc1, hc1, hbl⟩
      have H1 := Lib.hid (H0.out.more hbl)
      have HS1 := Lib.hid hs1
      have hn1 : n1 ≤ 100000 := by rw [← hs1.1]; exact l2
      clear hs1 hbl hb0 H0 GC
      go_upto_if 53 with fail
      go_cut [] from 11 to 64 (fun wx => ∃ vv, Hid (SeAt H w ⟨i0, (fdS nameS (d0, i0)).1, (fdS protoS (d1, i1)).1, (fdS verS (d2, i2)).1, false⟩ va vv wx) ∧ Hid ((fdS verS (d2, i2)).2 = 0))
      case first =>
        cases i2 with
        | false =>
          go_wp2_with fail
          go_meet
          exact ⟨.slice none 0 0, H1, Lib.hid rfl⟩
        | true =>
          have hre : fdS verS (d2, true) = verS d2 := rfl
          rw [hre] at HR
          go_wp2_with fail
          refine (rvers_any A1 n1 c1 d2 w1 HS1.out hn1 hnc1 hc1).mono ?_
          rintro e w2 ⟨v2, rfl, hv2, hbl⟩
          have HV2 := Lib.hid (RelV.lower hv2 H1.out.bel.size)
          clear hv2
          have H2 := Lib.hid (H1.out.more hbl)
          clear hbl H1 HS1
          obtain ⟨r, hr2⟩ : ∃ r, verS d2 = r := ⟨_, rfl⟩
          have HRr := Lib.hid (show fdS verS (d2, true) = r from hr2)
          rw [hr2] at HR HV2 ⊢
          clear hre hr2
          obtain ⟨rl, E⟩ := r
          simp only at HR HV2 ⊢
          obtain ⟨Av, cv, rfl⟩ := OwnE.form HV2.out.1
          by_cases hE : E = 0
          · subst hE
            have hk0 : w2.cell? ⟨w.heap.size + 1 + 1, 3, none⟩ = some (.slice none 0 0) := by rw [H2.out.vb.cell]; rfl
            have hf0 := H2.out.vb.frozen 3
            have H3 := Lib.hid (H2.out.set 3 (.slice Av rl.length cv) ⟨i0, (fdS nameS (d0, i0)).1, (fdS protoS (d1, i1)).1, rl, false⟩ va (.slice Av rl.length cv) rfl H2.out.al HV2.out)
            go_wp2_with fail
            go_meet
            exact ⟨_, by rw [HRr.out]; exact H3, Lib.hid (by rw [HRr.out])⟩
          · have HQ := Lib.hid (show q = (Sn.zero, E) by
              have ho : orL [0, 0, E] = E := by simp [orL, hE]
              rw [HR.out, HE0.out, HE1.out]
              show (if orL [0, 0, E] = 0 then _ else (Sn.zero, orL [0, 0, E])) = _
              rw [ho, if_neg hE])
            have hb : (E != 0) = true := by simp [hE]
            have hk0 := H2.out.ob.cell 0
            have hk1 := H2.out.ob.cell 1
            have hk2 := H2.out.ob.cell 2
            have hk3 := H2.out.ob.cell 3
            have hk4 := H2.out.ob.cell 4
            have hf0 := H2.out.ob.frozen 0
            have hf1 := H2.out.ob.frozen 1
            have hf2 := H2.out.ob.frozen 2
            have hf3 := H2.out.ob.frozen 3
            have hf4 := H2.out.ob.frozen 4
            clear hE HR
            go_wp2_with fail
            obtain ⟨hbk, hgr⟩ := five w2 (w.heap.size + 1) 47 _ _ _ _ _ (.bool false) (.string ⟨#[]⟩) (.slice none 0 0) (.slice none 0 0) (.bool false) H2.out.ob
            refine ret_two Try.results26 hbk undS rfl infS rfl rfl rfl ?_ rfl
            rw [HQ.out]
            exact ⟨_, _, rfl, ⟨OwnE.nil _ _ _, Nat.zero_le _⟩, ⟨OwnE.nil _ _ _, Nat.zero_le _⟩, H2.out.bel.grown hgr H2.out.bel.size (fun j hj => by injection hj with hj; omega)⟩
      case rest =>
        obtain ⟨vv, H0, HE2⟩ := hcut
        clear H1 HS1 hn1 hnc1 hc1
        have hb0 := H0.out.hb
        go_wp2_with (refine go_ld 44 hb0 undH rfl infH (Hv.size hr) rfl rfl rfl ?_)
        refine (GD.out _ (HH.out.below H0.out.bel)).mono ?_
        rintro e w1 ⟨A1, n1, c1, rfl, hs1, hnc1, hc1, hbl⟩
        have H1 := Lib.hid (H0.out.more hbl)
        clear hs1 hbl hb0 H0 GD hnc1 hc1
        obtain ⟨Aa, ca, rfl⟩ := OwnE.form H1.out.al.1
        obtain ⟨Av, cv, rfl⟩ := OwnE.form H1.out.ve.1
        have hk4 : w1.cell? ⟨w.heap.size + 1 + 1, 4, none⟩ = some (.bool false) := by rw [H1.out.vb.cell]; rfl
        have hf4 := H1.out.vb.frozen 4
        have H5 := Lib.hid (H1.out.set 4 (.bool i3) ⟨i0, (fdS nameS (d0, i0)).1, (fdS protoS (d1, i1)).1, (fdS verS (d2, i2)).1, i3⟩ _ _ rfl H1.out.al H1.out.ve)
        have HF := Lib.hid (show q = (⟨i0, (fdS nameS (d0, i0)).1, (fdS protoS (d1, i1)).1, (fdS verS (d2, i2)).1, i3⟩, 0) by
          rw [HR.out, HE0.out, HE1.out, HE2.out]
          rfl)
        clear H1 HR HE0 HE1 HE2
        simp only at H5 HF ⊢
        generalize (fdS nameS (d0, i0)).1 = a2 at *
        generalize (fdS protoS (d1, i1)).1 = b2 at *
        generalize (fdS verS (d2, i2)).1 = c2 at *
        obtain ⟨nb, hnb⟩ : ∃ n, b2.length = n := ⟨_, rfl⟩
        obtain ⟨nc, hnc⟩ : ∃ n, c2.length = n := ⟨_, rfl⟩
        rw [hnb, hnc] at H5
        clear hnb hnc
        go_upto_region 22 with fail
        generalize w1.setCell ⟨w.heap.size + 1 + 1, 4, none⟩ (.bool i3) = w5 at *
        clear hk4 hf4
        have hv0 : w5.cell? ⟨w.heap.size + 1 + 1, 0, none⟩ = some (.bool i0) := by rw [H5.out.vb.cell]; rfl
        have hv1 : w5.cell? ⟨w.heap.size + 1 + 1, 1, none⟩ = some (.string (str8 a2)) := by rw [H5.out.vb.cell]; rfl
        have hv2 : w5.cell? ⟨w.heap.size + 1 + 1, 2, none⟩ = some (.slice Aa nb ca) := by rw [H5.out.vb.cell]; rfl
        have hv3 : w5.cell? ⟨w.heap.size + 1 + 1, 3, none⟩ = some (.slice Av nc cv) := by rw [H5.out.vb.cell]; rfl
        have hv4 : w5.cell? ⟨w.heap.size + 1 + 1, 4, none⟩ = some (.bool i3) := by rw [H5.out.vb.cell]; rfl
        have hk0 := H5.out.ob.cell 0
        have hk1 := H5.out.ob.cell 1
        have hk2 := H5.out.ob.cell 2
        have hk3 := H5.out.ob.cell 3
        have hk4 := H5.out.ob.cell 4
        have hf0 := H5.out.ob.frozen 0
        have hf1 := H5.out.ob.frozen 1
        have hf2 := H5.out.ob.frozen 2
        have hf3 := H5.out.ob.frozen 3
        have hf4 := H5.out.ob.frozen 4
        go_wp2_with fail
        obtain ⟨hbk, hgr⟩ := five w5 (w.heap.size + 1) 47 _ _ _ _ _ (.bool i0) (.string (str8 a2)) (.slice Aa nb ca) (.slice Av nc cv) (.bool i3) H5.out.ob
        refine ret_two Try.results26 hbk undS rfl infS rfl rfl rfl ?_ rfl
        rw [HF.out]
        exact ⟨_, _, rfl, H5.out.al.off hgr (OffT.of_blk H5.out.ob (by decide)), H5.out.ve.off hgr (OffT.of_blk H5.out.ob (by decide)), H5.out.bel.grown hgr H5.out.bel.size (fun j hj => by injection hj with hj; omega)⟩
end Go.Proofs.Ytajmdchidmamcaa.Ex
