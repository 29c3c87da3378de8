/-
 Contract of package tlspeek's look over this seat's translation: one byte is one step.
-/
import Derived.Test.YthfknndjdfofgaaGreatDoorQ44
import Derived.Test.YthfknndjdfofgaaGreatDoorQ10
import Derived.Test.YthfknndjdfofgaaGreatDoorQ22
import Derived.Test.YthfknndjdfofgaaGreatDoorQ06
namespace Go.Proofs.YthfknndjdfofgaaGreatDoor.Tp
open Go.RowKit Go.Proofs.YthfknndjdfofgaaGreatDoor.Wd Go.Proofs.YthfknndjdfofgaaGreatDoor.Rc Go.Proofs.YthfknndjdfofgaaGreatDoor.Sh

set_option linter.unusedSimpArgs false in
set_option maxRecDepth 100000 in
set_option maxHeartbeats 8000000 in
theorem look_any {E : Nat} {w : World} {g : Nat} {S : List Nat} {t : T} (hE : Ad.Env E w) (hEg : ∀ i ∈ g :: S, E ≤ i) (h : Pk w g S t) (hz : t.z = 0) (hn : t.d.n ≤ 4611686018427387904) (hu : t.u ≤ 4611686018427387904) (c : UInt8) :
   Calls Tryz.prog 21 #[.pointer (some ⟨g, 0, none⟩), .int .u8 (c.toNat : Int)] w fun e w' => e = .returned (.tuple #[]) ∧ ∃ S', Pk w' g S' (stepT t c) ∧ (∀ i ∈ S', i ∈ S ∨ w.heap.size ≤ i) ∧ But (g :: S) w w' := by
 have HE := Lib.hid hE
 have HOk := Lib.hid h.ok
 have HF := Lib.hid (stepT_few h.few c)
 have HSo := Lib.hid (stepT_ok h.ok c)
 have HEg := Lib.hid hEg
 have HZ := Lib.hid hz
 obtain ⟨_, gr, gm, p, hP, hS⟩ := h.at_.resolve_right (fun h1 => h1.1 hz)
 have HS := Lib.hid hS
 have HLt := Lib.hid h.lts
 have HP := Lib.hid hP
 have c4 : w.cell? ⟨g, 4, none⟩ = some (.int .i64 (t.u : Int)) := by rw [hP.blk.cell]; rfl
 have f4 := hP.blk.frozen 4
 clear h hz hE hP hS hEg
 go_enter Tryz.func21, Tryz.ntmps21
 go_upto_region 1 with fail
 have hbk := HP.out.blk.set_ 4 (.int .i64 ((t.u : Int) + 1))
 rw [pO_u] at hbk
 have hbt : But [g] w (w.setCell ⟨g, 4, none⟩ (.int .i64 ((t.u : Int) + 1))) := (But.refl _ _).set_ (p := ⟨g, 4, none⟩) (.inl (by simp)) _
 have HP1 : Hid (PkO (w.setCell ⟨g, 4, none⟩ (.int .i64 ((t.u : Int) + 1))) g gr gm p ((t.u : Int) + 1) t.d t.m) := Lib.hid ⟨hbk, Blk.but HP.out.rd hbt (by simpa using HP.out.g_r.symm), HP.out.rm.but hbt (by simpa using HP.out.g_m.symm) (fun b e hm => HP.out.p_g (e.trans (congrArg some (by simpa using hm : b = g))))⟩
 have HB1 : Hid (But (g :: S) w (w.setCell ⟨g, 4, none⟩ (.int .i64 ((t.u : Int) + 1)))) := Lib.hid (hbt.more (by simp))
 clear hbk hbt c4 f4 HP
 generalize w.setCell ⟨g, 4, none⟩ (.int .i64 ((t.u : Int) + 1)) = w1 at *
 go_wp2_with fail
 refine (step_any HP1.out HZ.out HOk.out.d HOk.out.m hn c).mono ?_
 rintro e w2 ⟨p', m', wh, fe, rfl, hp2, hpp, hbut, hst, hwh, hm'⟩
 have HP2 := Lib.hid hp2
 have HB2 := Lib.hid (HB1.out.trans (hbut.more (T := g :: S) (fun i hi => by rw [HS.out]; exact List.mem_cons_of_mem _ hi)))
 have HQ := Lib.hid (show ∀ i ∈ gr :: gm :: p'.toList, i ∈ S ∨ w.heap.size ≤ i from fun i hi => by
   rw [HS.out]
   rcases List.mem_cons.1 hi with hi | hi
   · exact .inl (by rw [hi]; simp)
   rcases List.mem_cons.1 hi with hi | hi
   · exact .inl (by rw [hi]; simp)
   · rcases hpp i (mem_p.1 hi) with h | h
     · exact .inl (by simp [h])
     · exact .inr (Nat.le_trans HB1.out.size h))
 have HL2 := Lib.hid (show ∀ i ∈ gr :: gm :: p'.toList, i < w2.heap.size from fun i hi => by
   rcases List.mem_cons.1 hi with hi | hi
   · rw [hi]; exact Blk.lt hp2.rd
   rcases List.mem_cons.1 hi with hi | hi
   · rw [hi]; exact hp2.rm.lt
   · exact hp2.rm.plt (mem_p.1 hi))
 have HSt := Lib.hid hst
 have HM' := Lib.hid hm'
 have HD' := Lib.hid (stepD_ok HOk.out.d c)
 clear hp2 hpp hbut hst hm' HP1 HB1 hn
 cases wh
 · clear hwh
   by_cases hf : fe = 0
   · subst hf
     rw [after_open] at HSt
     have ck2 : w2.cell? ⟨g, 2, none⟩ = some (.int .i64 0) := by rw [HP2.out.blk.cell]; rfl
     go_wp2_with fail
     refine (known_any w2 g 0 ck2).mono ?_
     rintro e w3 ⟨rfl, rfl⟩
     go_wp2_with fail
     go_end0
     rw [HSt.out] at HF HSo ⊢
     exact ⟨rfl, _, ⟨HSo.out, HF.out, HL2.out, .inl ⟨rfl, gr, gm, p', by simpa using HP2.out, rfl⟩⟩, HQ.out, HB2.out⟩
   · rw [after_bad _ _ _ _ hf] at HSt
     have HFe := Lib.hid hf
     have f1 : (fe != 0) = true := by rw [bne_iff_ne]; exact hf
     clear hf
     have ck0 : w2.cell? ⟨g, 0, none⟩ = some (.pointer (some ⟨gr, 0, none⟩)) := by rw [HP2.out.blk.cell]; rfl
     have cf0 := HP2.out.blk.frozen 0
     have ck1 : w2.cell? ⟨g, 1, none⟩ = some (.pointer (some ⟨gm, 0, none⟩)) := by rw [HP2.out.blk.cell]; rfl
     have cf1 := HP2.out.blk.frozen 1
     have ck2 : w2.cell? ⟨g, 2, none⟩ = some (.int .i64 0) := by rw [HP2.out.blk.cell]; rfl
     have cf2 := HP2.out.blk.frozen 2
     have ck5 : w2.cell? ⟨g, 5, none⟩ = some (.int .i64 0) := by rw [HP2.out.blk.cell]; rfl
     have cf5 := HP2.out.blk.frozen 5
     go_wp2_with fail
     have hb4 : Blk ((w2.setCell ⟨g, 2, none⟩ (.int .i64 2)).setCell ⟨g, 5, none⟩ (.int .i64 fe)) g 51 _ := ((HP2.out.blk.set_ 2 (.int .i64 2)).set_ 5 (.int .i64 fe))
     refine (known_any ((w2.setCell ⟨g, 2, none⟩ (.int .i64 2)).setCell ⟨g, 5, none⟩ (.int .i64 fe)) g 2 (by rw [hb4.cell]; rfl)).mono ?_
     rintro e w4 ⟨rfl, rfl⟩
     have d0 : ((w2.setCell ⟨g, 2, none⟩ (.int .i64 2)).setCell ⟨g, 5, none⟩ (.int .i64 fe)).cell? ⟨g, 0, none⟩ = some (.pointer (some ⟨gr, 0, none⟩)) := by rw [hb4.cell]; rfl
     have d1 : ((w2.setCell ⟨g, 2, none⟩ (.int .i64 2)).setCell ⟨g, 5, none⟩ (.int .i64 fe)).cell? ⟨g, 1, none⟩ = some (.pointer (some ⟨gm, 0, none⟩)) := by rw [hb4.cell]; rfl
     have e0 := hb4.frozen 0
     have e1 := hb4.frozen 1
     have hb6 := (hb4.set_ 0 (.pointer none)).set_ 1 (.pointer none)
     rw [pO_bad] at hb6
     have hgr : w2.grownBy ((((w2.setCell ⟨g, 2, none⟩ (.int .i64 2)).setCell ⟨g, 5, none⟩ (.int .i64 fe)).setCell ⟨g, 0, none⟩ (.pointer none)).setCell ⟨g, 1, none⟩ (.pointer none)) (some g) := (only_setCell (p := ⟨g, 1, none⟩) (only_setCell (p := ⟨g, 0, none⟩) (only_setCell (p := ⟨g, 5, none⟩) (only_setCell (p := ⟨g, 2, none⟩) (only_refl w2 _) (.inl rfl) (.int .i64 2)) (.inl rfl) (.int .i64 fe)) (.inl rfl) (.pointer none)) (.inl rfl) (.pointer none))
     have HK6 := Lib.hid hb6
     have HB6 := Lib.hid (HB2.out.trans ((but_of hgr).more (T := g :: S) (by simp)))
     clear hb4 hb6 hgr
     go_wp2_with fail
     go_end0
     rw [HSt.out]
     obtain ⟨S', h1, h2⟩ := pk_bad HD'.out HM'.out HFe.out HK6.out (relP_nil _ w.heap.size) (relV_nil _ _)
     exact ⟨rfl, S', h1, fun i hi => .inr (h2 i hi), HB6.out⟩
 · obtain ⟨rfl, hw⟩ := hwh rfl
   clear hwh
   rw [after_whole] at HSt
   have hbd : bodyM m' = m'.b := by unfold bodyM; rw [if_pos hw]
   have hbl := HM'.out.bl
   have HBy := Lib.hid (Sh.body_any HP2.out.rm HM'.out)
   rw [hbd] at HBy
   obtain ⟨b, hb0⟩ : ∃ b, m'.b = b := ⟨_, rfl⟩
   rw [hb0] at HBy HSt hbl
   have ck1 : w2.cell? ⟨g, 1, none⟩ = some (.pointer (some ⟨gm, 0, none⟩)) := by rw [HP2.out.blk.cell]; rfl
   clear hw hbd hb0
   go_wp2_with fail
   refine HBy.out.mono ?_
   rintro e w3 ⟨v, rfl, ho, hb⟩
   obtain ⟨A3, c3, rfl, hc3, hs3⟩ := Own.src ho
   have HK3 := Lib.hid (HP2.out.blk.below hb HP2.out.blk.lt)
   have HB3 := Lib.hid (HB2.out.trans (But.of_below hb (g :: S)))
   have HS3 := Lib.hid hs3
   clear hb ho hs3 HBy ck1 HP2 HB2 HQ HL2
   go_wp2_with fail
   refine (told_any (B := E) A3 b.length c3 b w3 HS3.out (by omega) (HE.out.below (HB3.out.below HEg.out HE.out.le))).mono ?_
   rintro e w4 ⟨va, vv, rfl, hA, hV, hb⟩
   have HK4 := Lib.hid (HK3.out.below hb HK3.out.lt)
   have HB4 := Lib.hid (HB3.out.trans (But.of_below hb (g :: S)))
   have HA4 := Lib.hid (hA.lower HB3.out.size)
   have HV4 := Lib.hid (hV.lower HB3.out.size)
   clear hb hA hV HK3 HB3 HS3 hc3 hbl
   obtain ⟨Av, cv, rfl⟩ := Ro.OwnE.form HA4.out.1
   obtain ⟨Aw, cw, rfl⟩ := Ro.OwnE.form HV4.out.1
   have HBare := Lib.hid (look_bare b)
   obtain ⟨L, hL⟩ : ∃ L, lookS b = L := ⟨_, rfl⟩
   rw [hL] at HSt HA4 HV4 HBare ⊢
   obtain ⟨hh, sn, er⟩ := L
   simp only at HSt HA4 HV4 HBare ⊢
   unfold Ex.snC
   clear hL
   have hne : 51 ≠ 9 := by decide
   have hni : 51 ≠ 3 := by decide
   have ck6 : w4.cell? ⟨g, 6, none⟩ = some (.string ⟨#[]⟩) := by rw [HK4.out.cell]; rfl
   have cf6 := HK4.out.frozen 6
   have ck8 : w4.cell? ⟨g, 8, none⟩ = some (.bool false) := by rw [HK4.out.cell]; rfl
   have cf8 := HK4.out.frozen 8
   have ck9 : w4.cell? ⟨g, 9, none⟩ = some (.string ⟨#[]⟩) := by rw [HK4.out.cell]; rfl
   have cf9 := HK4.out.frozen 9
   have ck10 : w4.cell? ⟨g, 10, none⟩ = some (.slice none 0 0) := by rw [HK4.out.cell]; rfl
   have cf10 := HK4.out.frozen 10
   have ck11 : w4.cell? ⟨g, 11, none⟩ = some (.slice none 0 0) := by rw [HK4.out.cell]; rfl
   have cf11 := HK4.out.frozen 11
   have ck12 : w4.cell? ⟨g, 12, none⟩ = some (.bool false) := by rw [HK4.out.cell]; rfl
   have cf12 := HK4.out.frozen 12
   go_upto_region 4 with fail
   have hb5 := ((((((HK4.out.set_ 8 (.bool sn.has)).set_ 9 (.string (str8 sn.name))).set_ 10 (.slice Av sn.alpn.length cv)).set_ 11 (.slice Aw sn.vers.length cw)).set_ 12 (.bool sn.ech)).set_ 6 (.string (str8 hh)))
   rw [pO_seen] at hb5
   have hgr : w4.grownBy ((((((w4.setCell ⟨g, 8, none⟩ (.bool sn.has)).setCell ⟨g, 9, none⟩ (.string (str8 sn.name))).setCell ⟨g, 10, none⟩ (.slice Av sn.alpn.length cv)).setCell ⟨g, 11, none⟩ (.slice Aw sn.vers.length cw)).setCell ⟨g, 12, none⟩ (.bool sn.ech)).setCell ⟨g, 6, none⟩ (.string (str8 hh))) (some g) := (only_setCell (p := ⟨g, 6, none⟩) (only_setCell (p := ⟨g, 12, none⟩) (only_setCell (p := ⟨g, 11, none⟩) (only_setCell (p := ⟨g, 10, none⟩) (only_setCell (p := ⟨g, 9, none⟩) (only_setCell (p := ⟨g, 8, none⟩) (only_refl w4 _) (.inl rfl) (.bool sn.has)) (.inl rfl) (.string (str8 sn.name))) (.inl rfl) (.slice Av sn.alpn.length cv)) (.inl rfl) (.slice Aw sn.vers.length cw)) (.inl rfl) (.bool sn.ech)) (.inl rfl) (.string (str8 hh)))
   have HK5 := Lib.hid hb5
   have HB5 := Lib.hid (HB4.out.trans ((but_of hgr).more (T := g :: S) (by simp)))
   have HA5 := Lib.hid (HA4.out.off hgr (He.OffT.of_blk HK4.out (fun e => hne e)))
   have HV5 := Lib.hid (HV4.out.off hgr (He.OffT.of_blk HK4.out (fun e => hni e)))
   clear ck6 ck8 ck9 ck10 ck11 ck12 cf6 cf8 cf9 cf10 cf11 cf12 hb5 hgr HK4 HB4 HA4 HV4
   generalize ((((((w4.setCell ⟨g, 8, none⟩ (.bool sn.has)).setCell ⟨g, 9, none⟩ (.string (str8 sn.name))).setCell ⟨g, 10, none⟩ (.slice Av sn.alpn.length cv)).setCell ⟨g, 11, none⟩ (.slice Aw sn.vers.length cw)).setCell ⟨g, 12, none⟩ (.bool sn.ech)).setCell ⟨g, 6, none⟩ (.string (str8 hh))) = w5 at *
   have ck0 : w5.cell? ⟨g, 0, none⟩ = some (.pointer (some ⟨gr, 0, none⟩)) := by rw [HK5.out.cell]; rfl
   have cf0 := HK5.out.frozen 0
   have ck1 : w5.cell? ⟨g, 1, none⟩ = some (.pointer (some ⟨gm, 0, none⟩)) := by rw [HK5.out.cell]; rfl
   have cf1 := HK5.out.frozen 1
   have ck2 : w5.cell? ⟨g, 2, none⟩ = some (.int .i64 0) := by rw [HK5.out.cell]; rfl
   have cf2 := HK5.out.frozen 2
   have ck5 : w5.cell? ⟨g, 5, none⟩ = some (.int .i64 0) := by rw [HK5.out.cell]; rfl
   have cf5 := HK5.out.frozen 5
   by_cases hf : er = 0
   · rw [if_neg (by simpa using hf)] at HSt
     subst hf
     go_wp2_with fail
     have hb6 : Blk (w5.setCell ⟨g, 2, none⟩ (.int .i64 1)) g 51 _ := (HK5.out.set_ 2 (.int .i64 1))
     refine (known_any (w5.setCell ⟨g, 2, none⟩ (.int .i64 1)) g 1 (by rw [hb6.cell]; rfl)).mono ?_
     rintro e w6 ⟨rfl, rfl⟩
     have d0 : (w5.setCell ⟨g, 2, none⟩ (.int .i64 1)).cell? ⟨g, 0, none⟩ = some (.pointer (some ⟨gr, 0, none⟩)) := by rw [hb6.cell]; rfl
     have d1 : (w5.setCell ⟨g, 2, none⟩ (.int .i64 1)).cell? ⟨g, 1, none⟩ = some (.pointer (some ⟨gm, 0, none⟩)) := by rw [hb6.cell]; rfl
     have e0 := hb6.frozen 0
     have e1 := hb6.frozen 1
     have hb7 := (hb6.set_ 0 (.pointer none)).set_ 1 (.pointer none)
     rw [pC_done] at hb7
     have hgr : w5.grownBy (((w5.setCell ⟨g, 2, none⟩ (.int .i64 1)).setCell ⟨g, 0, none⟩ (.pointer none)).setCell ⟨g, 1, none⟩ (.pointer none)) (some g) := (only_setCell (p := ⟨g, 1, none⟩) (only_setCell (p := ⟨g, 0, none⟩) (only_setCell (p := ⟨g, 2, none⟩) (only_refl w5 _) (.inl rfl) (.int .i64 1)) (.inl rfl) (.pointer none)) (.inl rfl) (.pointer none))
     have HK7 := Lib.hid hb7
     have HB7 := Lib.hid (HB5.out.trans ((but_of hgr).more (T := g :: S) (by simp)))
     have HA7 := Lib.hid (HA5.out.off hgr (He.OffT.of_blk HK5.out (fun e => hne e)))
     have HV7 := Lib.hid (HV5.out.off hgr (He.OffT.of_blk HK5.out (fun e => hni e)))
     clear hb6 hb7 hgr
     go_wp2_with fail
     go_end0
     rw [HSt.out] at HSo HF ⊢
     obtain ⟨S', h1, h2⟩ := pk_known HSo.out HF.out (by show ¬ 1 = 0; decide) HK7.out HA7.out HV7.out
     exact ⟨rfl, S', h1, fun i hi => .inr (h2 i hi), HB7.out⟩
   · rw [if_pos hf] at HSt
     have f1 : (er != 0) = true := by rw [bne_iff_ne]; exact hf
     have HEr := Lib.hid hf
     clear hf
     go_wp2_with fail
     have hb6 : Blk ((w5.setCell ⟨g, 2, none⟩ (.int .i64 2)).setCell ⟨g, 5, none⟩ (.int .i64 er)) g 51 _ := ((HK5.out.set_ 2 (.int .i64 2)).set_ 5 (.int .i64 er))
     refine (known_any ((w5.setCell ⟨g, 2, none⟩ (.int .i64 2)).setCell ⟨g, 5, none⟩ (.int .i64 er)) g 2 (by rw [hb6.cell]; rfl)).mono ?_
     rintro e w6 ⟨rfl, rfl⟩
     have d0 : ((w5.setCell ⟨g, 2, none⟩ (.int .i64 2)).setCell ⟨g, 5, none⟩ (.int .i64 er)).cell? ⟨g, 0, none⟩ = some (.pointer (some ⟨gr, 0, none⟩)) := by rw [hb6.cell]; rfl
     have d1 : ((w5.setCell ⟨g, 2, none⟩ (.int .i64 2)).setCell ⟨g, 5, none⟩ (.int .i64 er)).cell? ⟨g, 1, none⟩ = some (.pointer (some ⟨gm, 0, none⟩)) := by rw [hb6.cell]; rfl
     have e0 := hb6.frozen 0
     have e1 := hb6.frozen 1
     have hb7 := (hb6.set_ 0 (.pointer none)).set_ 1 (.pointer none)
     rw [pC_bad] at hb7
     have hgr : w5.grownBy ((((w5.setCell ⟨g, 2, none⟩ (.int .i64 2)).setCell ⟨g, 5, none⟩ (.int .i64 er)).setCell ⟨g, 0, none⟩ (.pointer none)).setCell ⟨g, 1, none⟩ (.pointer none)) (some g) := (only_setCell (p := ⟨g, 1, none⟩) (only_setCell (p := ⟨g, 0, none⟩) (only_setCell (p := ⟨g, 5, none⟩) (only_setCell (p := ⟨g, 2, none⟩) (only_refl w5 _) (.inl rfl) (.int .i64 2)) (.inl rfl) (.int .i64 er)) (.inl rfl) (.pointer none)) (.inl rfl) (.pointer none))
     have HK7 := Lib.hid hb7
     have HB7 := Lib.hid (HB5.out.trans ((but_of hgr).more (T := g :: S) (by simp)))
     have HA7 := Lib.hid (HA5.out.off hgr (He.OffT.of_blk HK5.out (fun e => hne e)))
     have HV7 := Lib.hid (HV5.out.off hgr (He.OffT.of_blk HK5.out (fun e => hni e)))
     clear hb6 hb7 hgr
     go_wp2_with fail
     go_end0
     rw [HSt.out]
     obtain ⟨rfl, rfl⟩ := HBare.out HEr.out
     obtain ⟨S', h1, h2⟩ := pk_bad HD'.out HM'.out HEr.out HK7.out HA7.out HV7.out
     exact ⟨rfl, S', h1, fun i hi => .inr (h2 i hi), HB7.out⟩
end Go.Proofs.YthfknndjdfofgaaGreatDoor.Tp

/-
 A row of extensions that came in, cut in two with one more between: as it lies in memory, and what is seen of it. Plain lemmas, no condition.
-/
namespace Go.Proofs.YthfknndjdfofgaaGreatDoor.Ex
open Go.RowKit Go.Proofs.YthfknndjdfofgaaGreatDoor.Wd Go.Proofs.YthfknndjdfofgaaGreatDoor.Be Go.Proofs.YthfknndjdfofgaaGreatDoor.He Go.Proofs.YthfknndjdfofgaaGreatDoor.Ro

def elX : El Xt := ⟨70, 2, fun x => [.int .i64 x.kind, .slice x.A x.n x.c]⟩
theorem fineX : elX.Fine 66 (.agg #[.int .i64 0, .slice none 0 0]) 32 := ⟨Tryz.underlying66, by kernel_rfl, rfl, Nat.two_pos, fun _ => rfl, fun x v h => by
 simp [elX] at h; rcases h with rfl | rfl <;> rfl⟩
theorem srcX_of {w : World} {A : Option Addr} {l : List Xt} (h : SrcE w elX A l) (hok : ∀ x ∈ l, x.Ok w) : SrcX w A l := fun i x hx => by
 obtain ⟨g, o, hA, hg, hc⟩ := h i x hx
 exact ⟨hok x (List.mem_of_getElem? hx), g, o, hA, hg, hc 0 _ rfl, by have := hc 1 _ rfl; rwa [show o + (i * elX.n + 1) = o + i * 2 + 1 by show o + (i * 2 + 1) = _; omega] at this⟩
theorem SrcX.oks {w : World} {A : Option Addr} {l : List Xt} (h : SrcX w A l) : ∀ x ∈ l, x.Ok w := fun x hx => by
 obtain ⟨i, hi⟩ := List.mem_iff_getElem?.1 hx
 exact (h i x hi).1
theorem C_ext {H : Hv} (h : H.rnd.length = 32) (A : Option Addr) (c : Nat) (l : List Xt) : H.C.setIfInBounds 37 (.slice A l.length c) = ({ H with xA := A, xc := c, xs := l } : Hv).C := by
 have e : H.C.setIfInBounds 37 (.slice A l.length c) = (H.L.set 37 (.slice A l.length c)).toArray := by simp [Hv.C]
 rw [e, show 37 = (32 + 4) + 1 by omega, Hv.L, List.set_cons_succ, List.set_append_right _ _ (by rw [cellsOf_length]; omega), cellsOf_length, h, show 32 + 4 - 32 = 4 by omega]
 rfl

end Go.Proofs.YthfknndjdfofgaaGreatDoor.Ex

/-
 Contracts over this seat's translation: slices.Clone at strings and at numbers; append of whatever row onto a row of the call's own. No condition.
-/
namespace Go.Proofs.YthfknndjdfofgaaGreatDoor.Ro
open Go.RowKit Go.Proofs.YthfknndjdfofgaaGreatDoor.Wd Go.Proofs.YthfknndjdfofgaaGreatDoor.He

section
variable {α : Type} {e : El α} {sl : TypeId} {z : Value} {bytes : Nat}
theorem srcE_cells (F : e.Fine sl z bytes) {w : World} {g o : Nat} {m : List α} (hs : SrcE w e (some ⟨g, o, none⟩) m) : ∀ (j : Nat) (u : Value), (flat e m)[j]? = some u → w.cell? ((⟨g, o, none⟩ : Addr).add j) = some u := by
 intro j u hu
 have hj := (List.getElem?_eq_some_iff.1 hu).1
 rw [flat_len F] at hj
 have hp := F.pos
 have hi' : j / e.n < m.length := (Nat.div_lt_iff_lt_mul hp).2 hj
 have hd := Nat.div_add_mod j e.n
 have hr := Nat.mod_lt j hp
 obtain ⟨x, hx⟩ : ∃ x, m[j / e.n]? = some x := ⟨_, List.getElem?_eq_getElem hi'⟩
 obtain ⟨g', o', hA, _, hc⟩ := hs _ x hx
 injection hA with hA
 injection hA with h1 h2
 subst h1 h2
 have hjl : j % e.n < (e.c x).length := by rw [F.len]; exact hr
 have h1 := hc (j % e.n) _ (List.getElem?_eq_getElem hjl)
 have h2 := flat_at F m _ x hx (j % e.n) _ (List.getElem?_eq_getElem hjl)
 have e1 : j / e.n * e.n + j % e.n = j := by rw [Nat.mul_comm]; exact hd
 rw [e1] at h1 h2
 rw [h2] at hu
 injection hu with hu
 rw [add_flat, h1, hu]
theorem wpList_appA (F : e.Fine sl z bytes) {ops : Array Oper} {rest : List Oper} {o : Oper} {a : Act} {w : World} {Q : Exit → Act → World → Prop} (hgd : o.guard = none) (s x : Operand)
   (ho : o.op = .call { callee := .builtin .append, args := #[s, x], argTypes := #[sl, sl] })
   (B : Nat) (v : Value) (l : List α) (hs : a.eval s = v) (hown : OwnE w e B v l) (g off n c : Nat) (m : List α) (hx : a.eval x = .slice (some ⟨g, off, none⟩) n c) (hn : n = m.length) (hsrc : SrcE w e (some ⟨g, off, none⟩) m)
   (hlen : l.length + m.length ≤ 4294967296) (hby : bytes ≤ 32768) (hB : B ≤ w.heap.size)
   (h : ∀ v' w', Hid (OwnE w' e B v' (l ++ m)) → Hid (w.grownBy w' v.ownBlock) → wpList Tryz.prog ops Q rest (a.put o.dst v') w') : wpList Tryz.prog ops Q (o :: rest) a w := by
 subst hn
 obtain ⟨i0, hi, hz0, hz1, hz2⟩ := info_parts F.info
 have hb2 : (l.length + m.length) * bytes ≤ 140737488355328 := by
   have := Nat.mul_le_mul hlen hby
   omega
 obtain ⟨v', w', hrun, h2, h3, _, _⟩ := run_append_own_at (P := Tryz.prog) w B sl o.type e.ty i0 z e.n bytes F.und hi hz0 hz1 hz2 F.zs F.pos v l.length (flat e l) hown ⟨g, off, none⟩ m.length c (flat e m) (flat_len F m) (srcE_cells F hsrc) (flat_ones F m) (by unfold maxLen; omega) hb2 hB
 have h2' : OwnE w' e B v' (l ++ m) := by
   unfold OwnE
   rw [List.length_append, flat_app]
   exact h2
 refine wpList_plain hgd fun K hK => ?_
 unfold Oper.wp execOp
 simp only [ho, resolve, invoke, builtin, Sem.run_bind, Sem.run_pure, Result.andThen_ok, List.map_toArray, List.map_cons, List.map_nil, hs, hx, hrun]
 exact hK _ _ (h v' w' (Lib.hid h2') (Lib.hid h3))
theorem ownE_empty (e : El α) (w : World) : OwnE (w.alloc (.cells #[] e.ty)) e w.heap.size (.slice (some ⟨w.heap.size, 0, none⟩) 0 0) [] :=
 ⟨by simp [flat], .inr ⟨w.heap.size, 0, #[], rfl, Nat.le_refl _, Blk.new w e.ty #[], Nat.le_refl _, Nat.zero_le _, by simp, by simp [flat]⟩⟩
end

set_option maxHeartbeats 1000000 in
theorem cloneS_any (B : Nat) (v : Value) (l : List (List UInt8)) (w : World) (hs : OwnE w elS B v l) (hn : l.length ≤ 65535) :
   Calls Tryz.prog 52 #[v] w fun e w' => ∃ v', e = .returned v' ∧ OwnE w' elS w.heap.size v' l ∧ Below w.heap.size w w' := by
 have qT : ∀ (w : World) (a : Option Addr) (n c n' c' : Nat), (binOp .eql 26 (.slice a n c) (.slice none n' c')).run Tryz.prog w = .ok (.bool a.isNone) w := fun w a n c n' c' => Lib.run_eql_slice_nil w _ _ a n c n' c' fineS.und
 rcases hs.row with ⟨rfl, rfl⟩ | ⟨g, c, cur, rfl, -, -, -, hm, -, -⟩
 · clear hs
   go_enter Tryz.func52, Tryz.ntmps52
   go_wp2_with fail
   go_ret
   exact ⟨_, rfl, OwnE.nil _ _ _, Below.refl _ _⟩
 · obtain ⟨A, c', e1, _, _, hsrc⟩ := hs.src fineS
   injection e1 with e1 _ _
   rw [← e1] at hsrc
   have HS := Lib.hid (hsrc.below ((Below.refl w.heap.size w).alloc (Nat.le_refl _) (.cells #[] 9)))
   have HB := Lib.hid (show Below w.heap.size w (w.alloc (.cells #[] 9)) from (Below.refl _ _).alloc (Nat.le_refl _) _)
   have HO := Lib.hid (ownE_empty elS w)
   obtain ⟨n, hnl⟩ : ∃ n, l.length = n := ⟨_, rfl⟩
   have HN := Lib.hid hnl
   rw [hnl] at hn ⊢
   have hm9 : c ≤ 9223372036854775807 := hm
   clear hs hsrc e1 hnl hm
   go_enter Tryz.func52, Tryz.ntmps52
   go_wp2_with (at_builtin; refine wpList_appA fineS rfl (.tmp 5) (.tmp 6) rfl w.heap.size _ [] rfl HO.out g 0 n c l rfl HN.out.symm HS.out (by rw [List.length_nil, HN.out]; omega) (by decide) (by simp) ?_; intro v2 w2 HO2 hb2)
   rw [List.nil_append] at HO2
   go_ret
   exact ⟨_, rfl, HO2.out, HB.out.grown hb2.out HB.out.size (fun q hq => by have h := (Option.some.inj hq : w.heap.size = q); omega)⟩

set_option maxHeartbeats 1000000 in
theorem cloneI_any (B : Nat) (v : Value) (l : List Int) (w : World) (hs : OwnE w elI B v l) (hn : l.length ≤ 65535) :
   Calls Tryz.prog 53 #[v] w fun e w' => ∃ v', e = .returned v' ∧ OwnE w' elI w.heap.size v' l ∧ Below w.heap.size w w' := by
 have qT : ∀ (w : World) (a : Option Addr) (n c n' c' : Nat), (binOp .eql 27 (.slice a n c) (.slice none n' c')).run Tryz.prog w = .ok (.bool a.isNone) w := fun w a n c n' c' => Lib.run_eql_slice_nil w _ _ a n c n' c' fineI.und
 rcases hs.row with ⟨rfl, rfl⟩ | ⟨g, c, cur, rfl, -, -, -, hm, -, -⟩
 · clear hs
   go_enter Tryz.func53, Tryz.ntmps53
   go_wp2_with fail
   go_ret
   exact ⟨_, rfl, OwnE.nil _ _ _, Below.refl _ _⟩
 · obtain ⟨A, c', e1, _, _, hsrc⟩ := hs.src fineI
   injection e1 with e1 _ _
   rw [← e1] at hsrc
   have HS := Lib.hid (hsrc.below ((Below.refl w.heap.size w).alloc (Nat.le_refl _) (.cells #[] 3)))
   have HB := Lib.hid (show Below w.heap.size w (w.alloc (.cells #[] 3)) from (Below.refl _ _).alloc (Nat.le_refl _) _)
   have HO := Lib.hid (ownE_empty elI w)
   obtain ⟨n, hnl⟩ : ∃ n, l.length = n := ⟨_, rfl⟩
   have HN := Lib.hid hnl
   rw [hnl] at hn ⊢
   have hm9 : c ≤ 9223372036854775807 := hm
   clear hs hsrc e1 hnl hm
   go_enter Tryz.func53, Tryz.ntmps53
   go_wp2_with (at_builtin; refine wpList_appA fineI rfl (.tmp 5) (.tmp 6) rfl w.heap.size _ [] rfl HO.out g 0 n c l rfl HN.out.symm HS.out (by rw [List.length_nil, HN.out]; omega) (by decide) (by simp) ?_; intro v2 w2 HO2 hb2)
   rw [List.nil_append] at HO2
   go_ret
   exact ⟨_, rfl, HO2.out, HB.out.grown hb2.out HB.out.size (fun q hq => by have h := (Option.some.inj hq : w.heap.size = q); omega)⟩
end Go.Proofs.YthfknndjdfofgaaGreatDoor.Ro
