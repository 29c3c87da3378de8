/-
 Contract of the document's own All of layer 15 (hagioscoperef15) over this seat's translation: it answers what allT says.
-/
import Derived.Test.YthfknndjdfofgaaGreatDoorQ43
import Derived.Test.YthfknndjdfofgaaGreatDoorQ16
import Derived.Test.YthfknndjdfofgaaGreatDoorQ18
namespace Go.Proofs.YthfknndjdfofgaaGreatDoor.Tp
open Go.RowKit Go.Proofs.YthfknndjdfofgaaGreatDoor.Wd Go.Proofs.YthfknndjdfofgaaGreatDoor.Rc Go.Proofs.YthfknndjdfofgaaGreatDoor.Sh

def AllP (xs : List UInt8) (w : World) (e : Ending) (w' : World) : Prop :=
 ∃ va vv, e = .returned (.agg (vC (allT xs).z 1 (allT xs).u (allT xs).r (str8 (allT xs).h) (allT xs).s va vv)) ∧ Ex.RelP w' w.heap.size va (allT xs).s.alpn ∧ Ex.RelV w' w.heap.size vv (allT xs).s.vers ∧ Below w.heap.size w w'
structure RAt (w : World) (G : Nat) (t : T) (wr : World) : Prop where
 vb : Blk wr G 31 #[Value.int .i64 0, .int .i64 0, .int .i64 0, .int .i64 0, .string ⟨#[]⟩, .int .i64 0, .bool false, .string ⟨#[]⟩, .slice none 0 0, .slice none 0 0, .bool false]
 rd : Rr wr (G + 1) t.d
 rm : ∃ q s, Rb wr (G + 1 + 1) q s ∧ Rel s t.m ∧ ∀ b, q = some b → G + 1 + 1 < b
 bel : Below G w wr
theorem RAt.new (w : World) : RAt w w.heap.size T.st (((w.alloc (.cells #[Value.int .i64 0, .int .i64 0, .int .i64 0, .int .i64 0, .string ⟨#[]⟩, .int .i64 0, .bool false, .string ⟨#[]⟩, .slice none 0 0, .slice none 0 0, .bool false] 31)).alloc (.cells #[Value.int .i64 0, .int .i64 0, .int .i64 0, .int .i64 0] 54)).alloc (.cells #[Value.slice none 0 0, .int .i64 0] 57)) where
 vb := ((Blk.new w _ _).alloc _).alloc _
 rd := ⟨0, 0, (St.blk_at _ _ _ _ _ (by rw [St.alloc_size]) rfl).alloc _, by decide, by decide, fun _ => by simp [T.st, D.st]⟩
 rm := ⟨none, ([], 0), ⟨0, St.blk_at _ _ _ _ _ (by rw [St.alloc_size, St.alloc_size]) rfl, At.nil _⟩, Rel.st, fun b h => by cases h⟩
 bel := (((Below.refl _ _).alloc (Nat.le_refl _) _).alloc (by rw [St.alloc_size]; omega) _).alloc (by rw [St.alloc_size, St.alloc_size]; omega) _
theorem verd_new (w : World) (C : Array Value) : Blk ((w.alloc (.cells #[Value.int .i64 0, .int .i64 0, .int .i64 0, .int .i64 0, .string ⟨#[]⟩, .int .i64 0, .bool false, .string ⟨#[]⟩, .slice none 0 0, .slice none 0 0, .bool false] 31)).setRow w.heap.size C) w.heap.size 31 C ∧ Below w.heap.size w ((w.alloc (.cells #[Value.int .i64 0, .int .i64 0, .int .i64 0, .int .i64 0, .string ⟨#[]⟩, .int .i64 0, .bool false, .string ⟨#[]⟩, .slice none 0 0, .slice none 0 0, .bool false] 31)).setRow w.heap.size C) :=
 ⟨He.setRow_blk (Blk.new _ _ _), He.setRow_below ((Below.refl _ _).alloc (Nat.le_refl _) _) (Nat.le_refl _) _⟩
theorem vC_set (z r u : Int) (H : ByteArray) (s : Ex.Sn) (a b : Value) : ((vC z 0 0 r H s a b).setIfInBounds 1 (.int .i64 1)).setIfInBounds 2 (.int .i64 u) = vC z 1 u r H s a b := by simp [vC]
theorem look_bare (b : List UInt8) : (lookS b).2.2 ≠ 0 → (lookS b).1 = [] ∧ (lookS b).2.1 = Ex.Sn.zero := by
 unfold lookS
 repeat' split
 all_goals first
   | exact fun _ => ⟨rfl, rfl⟩
   | exact fun h => absurd rfl h
theorem all_bad {xs : List UInt8} {k : Nat} {c : UInt8} {w w' : World} {e : Int} {d : D} {m : M} (hx : xs[k]? = some c) (hz : (allT (xs.take k)).z = 0) (hs : stepT (allT (xs.take k)) c = (allT (xs.take k)).bad d m e) (hb : Below w.heap.size w w') :
   AllP xs w (.returned (.agg (vC 2 1 ((k : Int) + 1) e ⟨#[]⟩ Ex.Sn.zero (.slice none 0 0) (.slice none 0 0)))) w' := by
 have h := all_end hx (by rw [hs]; show 2 ≠ 0; decide)
 rw [hs] at h
 have hk := (List.getElem?_eq_some_iff.1 hx).1
 have hu : (allT (xs.take k)).u = k := by rw [allT_used hz, List.length_take]; omega
 unfold AllP
 rw [h]
 unfold T.bad
 rw [hu]
 exact ⟨.slice none 0 0, .slice none 0 0, rfl, relP_nil _ _, relV_nil _ _, hb⟩
theorem all_open {xs : List UInt8} {n : Nat} (hn : n = xs.length) {w w' : World} (hz : (allT xs).z = 0) (hb : Below w.heap.size w w') :
   AllP xs w (.returned (.agg (vC 0 1 (n : Int) 0 ⟨#[]⟩ Ex.Sn.zero (.slice none 0 0) (.slice none 0 0)))) w' := by
 have hk := allT_ok xs
 have h1 := (hk.op hz).2.2.2
 have h2 := hk.bare (by omega)
 unfold AllP
 rw [hz, allT_used hz, h1, h2.1, h2.2, ← hn]
 exact ⟨.slice none 0 0, .slice none 0 0, rfl, relP_nil _ _, relV_nil _ _, hb⟩

set_option linter.unusedSimpArgs false in
set_option maxRecDepth 100000 in
set_option maxHeartbeats 16000000 in
theorem rall_any (A : Option Addr) (n cap : Nat) (xs : List UInt8) (w : World) (hs : Src w A n xs) (hn : n ≤ 1000000) :
   Calls Tryz.prog 11 #[.slice A n cap] w (AllP xs w) := by
 have HS := Lib.hid hs
 have hnl := hs.1
 have HNL := Lib.hid hnl
 clear hs hnl
 have HA0 := Lib.hid (RAt.new w)
 go_enter Tryz.func11, Tryz.ntmps11
 go_wp2_with fail
 generalize ((w.alloc (.cells #[Value.int .i64 0, .int .i64 0, .int .i64 0, .int .i64 0, .string ⟨#[]⟩, .int .i64 0, .bool false, .string ⟨#[]⟩, .slice none 0 0, .slice none 0 0, .bool false] 31)).alloc (.cells #[Value.int .i64 0, .int .i64 0, .int .i64 0, .int .i64 0] 54)).alloc (.cells #[Value.slice none 0 0, .int .i64 0] 57) = w1 at *
 obtain ⟨G, hG⟩ : ∃ G, w.heap.size = G := ⟨_, rfl⟩
 have HG := Lib.hid hG
 rw [hG] at HA0 ⊢
 clear hG
 go_loopw [5] (fun i wr => ∃ k : Nat, k ≤ n ∧ i = .int .i64 (k : Int) ∧ Hid ((allT (xs.take k)).z = 0) ∧ Hid (RAt w G (allT (xs.take k)) wr)) (fun i _ => n - (intOf i).toNat)
 case atStart => exact ⟨0, Nat.zero_le _, rfl, Lib.hid rfl, HA0⟩
 case round =>
   clear HA0
   obtain ⟨k, hk, rfl, HZ, HA⟩ := hrel
   by_cases hlt : k < n
   · have hki : (k : Int) < (n : Int) := by omega
     obtain ⟨ad, rfl, hadb, hc⟩ := HS.out.2 (by omega)
     obtain ⟨c, hx⟩ : ∃ c, xs[k]? = some c := ⟨_, List.getElem?_eq_getElem (by have := HNL.out; omega)⟩
     have HCell := Lib.hid (fun w' (h : Below G w w') => show w'.cell? (ad.add k) = some (.int .u8 (c.toNat : Int)) from (h.cell (by rw [block_of_add, ← HG.out]; exact hadb)).trans (hc k c hx))
     have hcell := HCell.out wr HA.out.bel
     have HX := Lib.hid hx
     have HNx := Lib.hid (allT_next hx)
     have HOk := Lib.hid (allT_ok (xs.take k))
     have HAb := Lib.hid (fun (e : Int) (d : D) (m : M) (w' : World) => all_bad (w := w) (w' := w') (e := e) (d := d) (m := m) hx HZ.out)
     have HAe := Lib.hid (all_end hx)
     have HU : Hid ((allT (xs.take k)).u = k) := Lib.hid (by rw [allT_used HZ.out, List.length_take, HNL.out]; omega)
     have hdn : (allT (xs.take k)).d.n ≤ 4611686018427387904 := by
       have h := allT_n (xs.take k)
       rw [List.length_take] at h
       omega
     obtain ⟨t, ht⟩ : ∃ t, allT (xs.take k) = t := ⟨_, rfl⟩
     rw [ht] at HZ HA HNx HOk HAb HAe HU hdn
     have HStep := Lib.hid (show stepT t c = _ from by unfold stepT; rw [if_neg (show ¬ t.z ≠ 0 from fun h => h HZ.out)])
     clear hc hx ht
     go_wp2_with fail
     refine (Rc.rtake_any HA.out.rd HOk.out.d hdn).mono ?_
     rintro e w2 ⟨rfl, hr2, hb2⟩
     have HV2 := Lib.hid (HA.out.vb.but hb2 (by simp))
     have HB2 := Lib.hid (show Below G w w2 from HA.out.bel.trans (hb2.below (by simp) (by rw [← HG.out]; exact HA.out.bel.size)))
     have HD2 := Lib.hid hr2
     obtain ⟨q, s, hm, hrel, hq⟩ := HA.out.rm
     have HM2 := Lib.hid (hm.but hb2 (by simp) (fun b hb => by have := hq b hb; simp; omega))
     have HQ := Lib.hid hq
     have HRl := Lib.hid hrel
     clear hr2 hb2 hm hrel hq HA hcell hdn
     by_cases he : (stepD t.d c).e = 0
     case neg =>
       have hst : stepT t c = t.bad (stepD t.d c) t.m (stepD t.d c).e := by rw [HStep.out, if_pos he]
       have HSt := Lib.hid hst
       have f1 : (((stepD t.d c).e : Int) == 0) = false := by rw [beq_eq_false_iff_ne]; omega
       have f2 : (((stepD t.d c).e : Int) != 0) = true := by rw [bne_iff_ne]; omega
       have HE := Lib.hid (fun w' => HAb.out _ _ _ w' HSt.out)
       clear hst he HStep HSt
       generalize (stepD t.d c).e = ev at *
       generalize payD t.d = pv at *
       have ck0 := HV2.out.cell 0
       have ck1 := HV2.out.cell 1
       have ck2 := HV2.out.cell 2
       have ck3 := HV2.out.cell 3
       have ck4 := HV2.out.cell 4
       have ck5 := HV2.out.cell 5
       have ck6 := HV2.out.cell 6
       have ck7 := HV2.out.cell 7
       have ck8 := HV2.out.cell 8
       have ck9 := HV2.out.cell 9
       have ck10 := HV2.out.cell 10
       have cf0 := HV2.out.frozen 0
       have cf1 := HV2.out.frozen 1
       have cf2 := HV2.out.frozen 2
       have cf3 := HV2.out.frozen 3
       have cf4 := HV2.out.frozen 4
       have cf5 := HV2.out.frozen 5
       have cf6 := HV2.out.frozen 6
       have cf7 := HV2.out.frozen 7
       have cf8 := HV2.out.frozen 8
       have cf9 := HV2.out.frozen 9
       have cf10 := HV2.out.frozen 10
       go_wp2_with fail
       obtain ⟨hbk, hgr⟩ := eleven w2 G 31 _ _ _ _ _ _ _ _ _ _ _ (.int .i64 2) (.int .i64 1) (.int .i64 ((k : Int) + 1)) (.int .i64 (ev : Int)) (.string ⟨#[]⟩) (.int .i64 0) (.bool false) (.string ⟨#[]⟩) (.slice none 0 0) (.slice none 0 0) (.bool false) HV2.out
       exact St.ret_one Tryz.results11 hbk undV rfl infV rfl rfl (HE.out _ (by rw [HG.out]; exact HB2.out.grown hgr (by rw [← HG.out]; exact HB2.out.size) (fun j hj => by injection hj with hj; omega))) rfl
     rw [he]
     rw [if_neg (show ¬ (stepD t.d c).e ≠ 0 from fun h => h he)] at HStep
     clear he
     cases hp : payD t.d
     · rw [hp, if_pos rfl] at HStep
       have HN2 : Hid (allT (xs.take (k + 1)) = ⟨stepD t.d c, t.m, 0, t.u + 1, 0, [], Ex.Sn.zero⟩) := Lib.hid (by rw [HNx.out, HStep.out])
       clear hp
       go_wp2_with fail
       go_roundw
       case rel => exact ⟨k + 1, hlt, by go_num, Lib.hid (by rw [HN2.out]), Lib.hid (by rw [HN2.out]; exact ⟨HV2.out, HD2.out, ⟨q, s, HM2.out, HRl.out, HQ.out⟩, HB2.out⟩)⟩
       case measure => simp [intOf]; omega
     rw [hp, if_neg (by simp)] at HStep
     clear hp
     have hcell := HCell.out w2 HB2.out
     go_wp2_with fail
     refine (Sh.rtake_any HM2.out (fun h0 => rel_few HRl.out HOk.out.m h0) c).mono ?_
     rintro e w3 ⟨rfl, q3, hm3, hq3, hb3⟩
     have HRl3 := Lib.hid (rel_step HRl.out HOk.out.m c)
     have HOm3 := Lib.hid (stepM_ok HOk.out.m c)
     have hwm := rel_whole HRl3.out HOm3.out
     have hem := HRl3.out.er
     have hbm := rel_body HRl3.out HOm3.out
     have hfw := rel_few HRl3.out HOm3.out
     rw [hwm, hem]
     have HV3 := Lib.hid (HV2.out.but hb3 (by
       intro h
       rcases List.mem_cons.1 h with h | h
       · omega
       · cases hqq : q with
         | none => rw [hqq] at h; cases h
         | some b => rw [hqq] at h; have := HQ.out b hqq; simp at h; omega))
     have HD3 := Lib.hid (HD2.out.but hb3 (by
       intro h
       rcases List.mem_cons.1 h with h | h
       · omega
       · cases hqq : q with
         | none => rw [hqq] at h; cases h
         | some b => rw [hqq] at h; have := HQ.out b hqq; simp at h; omega))
     have HB3 := Lib.hid (show Below G w w3 from HB2.out.trans (hb3.below (by
       intro i h
       rcases List.mem_cons.1 h with h | h
       · omega
       · cases hqq : q with
         | none => rw [hqq] at h; cases h
         | some b => rw [hqq] at h; have := HQ.out b hqq; simp at h; omega) (by rw [← HG.out]; exact HB2.out.size)))
     have HQ3 : Hid (∀ b, q3 = some b → G + 1 + 1 < b) := Lib.hid (fun b hb => by
       rcases hq3 b hb with h | h
       · exact HQ.out b h
       · have := HM2.out.lt; omega)
     have HM3 := Lib.hid hm3
     have HFw := Lib.hid hfw
     have HBm := Lib.hid hbm
     clear hm3 hq3 hb3 hwm hem hbm hfw HV2 HD2 HB2 HM2 HQ HRl hcell
     by_cases he : (stepM t.m c).e = 0
     case neg =>
       have hst : stepT t c = t.bad (stepD t.d c) (stepM t.m c) (stepM t.m c).e := by rw [HStep.out, if_pos he]
       have HSt := Lib.hid hst
       have f1 : (((stepM t.m c).e : Int) == 0) = false := by rw [beq_eq_false_iff_ne]; omega
       have f2 : (((stepM t.m c).e : Int) != 0) = true := by rw [bne_iff_ne]; omega
       have HE := Lib.hid (fun w' => HAb.out _ _ _ w' HSt.out)
       clear hst he HStep HSt
       generalize (stepM t.m c).e = ev at *
       generalize wholeM (stepM t.m c) = pv at *
       have ck0 := HV3.out.cell 0
       have ck1 := HV3.out.cell 1
       have ck2 := HV3.out.cell 2
       have ck3 := HV3.out.cell 3
       have ck4 := HV3.out.cell 4
       have ck5 := HV3.out.cell 5
       have ck6 := HV3.out.cell 6
       have ck7 := HV3.out.cell 7
       have ck8 := HV3.out.cell 8
       have ck9 := HV3.out.cell 9
       have ck10 := HV3.out.cell 10
       have cf0 := HV3.out.frozen 0
       have cf1 := HV3.out.frozen 1
       have cf2 := HV3.out.frozen 2
       have cf3 := HV3.out.frozen 3
       have cf4 := HV3.out.frozen 4
       have cf5 := HV3.out.frozen 5
       have cf6 := HV3.out.frozen 6
       have cf7 := HV3.out.frozen 7
       have cf8 := HV3.out.frozen 8
       have cf9 := HV3.out.frozen 9
       have cf10 := HV3.out.frozen 10
       go_wp2_with fail
       obtain ⟨hbk, hgr⟩ := eleven w3 G 31 _ _ _ _ _ _ _ _ _ _ _ (.int .i64 2) (.int .i64 1) (.int .i64 ((k : Int) + 1)) (.int .i64 (ev : Int)) (.string ⟨#[]⟩) (.int .i64 0) (.bool false) (.string ⟨#[]⟩) (.slice none 0 0) (.slice none 0 0) (.bool false) HV3.out
       exact St.ret_one Tryz.results11 hbk undV rfl infV rfl rfl (HE.out _ (by rw [HG.out]; exact HB3.out.grown hgr (by rw [← HG.out]; exact HB3.out.size) (fun j hj => by injection hj with hj; omega))) rfl
     rw [he]
     rw [if_neg (show ¬ (stepM t.m c).e ≠ 0 from fun h => h he)] at HStep
     have HE0 := Lib.hid he
     clear he
     cases hw : wholeM (stepM t.m c)
     · rw [hw, if_pos rfl] at HStep
       have HN2 : Hid (allT (xs.take (k + 1)) = ⟨stepD t.d c, stepM t.m c, 0, t.u + 1, 0, [], Ex.Sn.zero⟩) := Lib.hid (by rw [HNx.out, HStep.out])
       clear hw
       go_wp2_with fail
       go_roundw
       case rel => exact ⟨k + 1, hlt, by go_num, Lib.hid (by rw [HN2.out]), Lib.hid (by rw [HN2.out]; exact ⟨HV3.out, HD3.out, ⟨q3, _, HM3.out, HRl3.out, HQ3.out⟩, HB3.out⟩)⟩
       case measure => simp [intOf]; omega
     rw [hw, if_neg (by simp)] at HStep
     have hbd : bodyM (stepM t.m c) = (stepM t.m c).b := by unfold bodyM; rw [if_pos hw]
     have hbl := HOm3.out.bl
     rw [hbd] at HBm
     clear hw hbd
     have HBy := Lib.hid (Sh.rbodyc_any HM3.out (fun h0 => HFw.out h0))
     rw [HBm.out] at HBy
     obtain ⟨b, hb0⟩ : ∃ b, (stepM t.m c).b = b := ⟨_, rfl⟩
     rw [hb0] at HBy HStep hbl
     have HFin : Hid (∀ w' e, JudP b w3 e w' → True) := Lib.hid (fun _ _ _ => trivial)
     clear hb0 HBm HFw HFin
     go_wp2_with fail
     refine HBy.out.mono ?_
     rintro e w4 ⟨A4, c4, rfl, hs4, hn4, hc4, j4, rfl⟩
     have HV4 := Lib.hid (HV3.out.below (Ad.below_drewN' w3 j4) HV3.out.lt)
     have HB4 := Lib.hid (HB3.out.trans ((Ad.below_drewN' w3 j4).mono (by rw [← HG.out]; exact HB3.out.size)))
     have HS4 := Lib.hid hs4
     clear hs4 HV3 HB3 HBy HM3 HD3 HQ3 HRl3 HOm3
     generalize w3.drewN j4 = w4 at *
     go_wp2_with fail
     refine (rjudge_any A4 b.length c4 b w4 HS4.out (by omega) hn4 hc4).mono ?_
     rintro e w5 ⟨va, vv, rfl, hA, hV, hb⟩
     have HV5 := Lib.hid (HV4.out.below hb HV4.out.lt)
     have HB5 := Lib.hid (HB4.out.trans (hb.mono (by rw [← HG.out]; exact HB4.out.size)))
     have HA5 := Lib.hid (hA.lower HB4.out.size)
     have HW5 := Lib.hid (hV.lower HB4.out.size)
     clear hb hA hV HV4 HB4 HS4 hn4 hc4
     obtain ⟨Av, cv, rfl⟩ := Ro.OwnE.form HA5.out.1
     obtain ⟨Aw, cw, rfl⟩ := Ro.OwnE.form HW5.out.1
     have HBare := Lib.hid (look_bare b)
     obtain ⟨L, hL⟩ : ∃ L, lookS b = L := ⟨_, rfl⟩
     rw [hL] at HStep HA5 HW5 HBare ⊢
     obtain ⟨h, sn, er⟩ := L
     simp only at HStep HA5 HW5 HBare ⊢
     clear hL
     have hne : 31 ≠ 9 := by decide
     have hni : 31 ≠ 3 := by decide
     have hend : ∃ z0 : Nat, (if er ≠ 0 then (2 : Int) else 1) = (z0 : Int) ∧ allT xs = ⟨stepD t.d c, stepM t.m c, z0, k + 1, er, h, sn⟩ := by
       by_cases h0 : er = 0
       · rw [if_neg (by simpa using h0)] at HStep
         have := HAe.out (by rw [HStep.out]; show 1 ≠ 0; decide)
         exact ⟨1, by rw [if_neg (by simpa using h0)]; rfl, by rw [this, HStep.out, HU.out, h0]⟩
       · rw [if_pos h0] at HStep
         have := HAe.out (by rw [HStep.out]; show 2 ≠ 0; decide)
         refine ⟨2, by rw [if_pos h0]; rfl, ?_⟩
         rw [this, HStep.out]
         unfold T.bad
         rw [HU.out, (HBare.out h0).1, (HBare.out h0).2]
     obtain ⟨z0, hz0, he0⟩ := hend
     rw [hz0]
     have HEnd := Lib.hid he0
     clear hz0 he0 HStep HAe HAb HNx HOk HZ HX HU HE0 HCell
     go_upto_region 14 with (refine He.go_st 31 (Blk.new _ _ _) infV rfl (vC_size _ _ _ _ _ _ _ _) (vC_one _ _ _ _ _ _ _ _ _ _ _ _) rfl rfl rfl rfl ?_)
     obtain ⟨k9, hb⟩ := verd_new w5 (vC (z0 : Int) 0 0 er (str8 h) sn (.slice Av sn.alpn.length cv) (.slice Aw sn.vers.length cw))
     have HV9 := Lib.hid (HV5.out.below hb HV5.out.lt)
     have HB9 := Lib.hid (HB5.out.trans (hb.mono (by rw [← HG.out]; exact HB5.out.size)))
     have HA9 := Lib.hid (HA5.out.below hb)
     have HW9 := Lib.hid (HW5.out.below hb)
     have hg9 : G < w5.heap.size := HV5.out.lt
     clear hb HV5 HB5 HA5 HW5
     generalize (w5.alloc (.cells #[Value.int .i64 0, .int .i64 0, .int .i64 0, .int .i64 0, .string ⟨#[]⟩, .int .i64 0, .bool false, .string ⟨#[]⟩, .slice none 0 0, .slice none 0 0, .bool false] 31)).setRow w5.heap.size (vC (z0 : Int) 0 0 er (str8 h) sn (.slice Av sn.alpn.length cv) (.slice Aw sn.vers.length cw)) = w9 at *
     generalize w5.heap.size = g9 at *
     have HK9 := Lib.hid k9
     have hc1 : w9.cell? ⟨g9, 1, none⟩ = some (.int .i64 0) := by rw [k9.cell]; rfl
     have hc2 : w9.cell? ⟨g9, 2, none⟩ = some (.int .i64 0) := by rw [k9.cell]; rfl
     have hf1 := k9.frozen 1
     have hf2 := k9.frozen 2
     clear k9
     go_upto_region 16 with fail
     have k10 := (HK9.out.set_ 1 (.int .i64 1)).set_ 2 (.int .i64 ((k : Int) + 1))
     rw [vC_set] at k10
     have hgr : w9.grownBy ((w9.setCell ⟨g9, 1, none⟩ (.int .i64 1)).setCell ⟨g9, 2, none⟩ (.int .i64 ((k : Int) + 1))) (some g9) :=
       only_setCell (p := ⟨g9, 2, none⟩) (only_setCell (p := ⟨g9, 1, none⟩) (only_refl w9 _) (.inl rfl) _) (.inl rfl) _
     have HV10 := Lib.hid (HV9.out.grown hgr (by intro e; injection e with e; omega))
     have HB10 := Lib.hid (HB9.out.grown hgr (by rw [← HG.out]; exact HB9.out.size) (fun j hj => by injection hj with hj; omega))
     have HA10 := Lib.hid (HA9.out.off hgr (He.OffT.of_blk HK9.out (fun e => hne e)))
     have HW10 := Lib.hid (HW9.out.off hgr (He.OffT.of_blk HK9.out (fun e => hni e)))
     clear hc1 hc2 hf1 hf2 HK9 HV9 HB9 HA9 HW9 hgr hg9
     generalize (w9.setCell ⟨g9, 1, none⟩ (.int .i64 1)).setCell ⟨g9, 2, none⟩ (.int .i64 ((k : Int) + 1)) = w10 at *
     go_wp2_with (first | (refine He.go_ld 31 k10 undV rfl infV rfl rfl rfl rfl ?_) | (refine He.go_st 31 HV10.out infV rfl (vC_size _ _ _ _ _ _ _ _) (vC_one _ _ _ _ _ _ _ _ _ _ _ _) rfl rfl rfl rfl ?_))
     refine St.ret_one Tryz.results11 (He.setRow_blk HV10.out) undV rfl infV rfl rfl ?_ rfl
     unfold AllP
     rw [HEnd.out]
     exact ⟨_, _, rfl, HA10.out.off (St.only_row _ _ _) (He.OffT.of_blk HV10.out (fun e => hne e)), HW10.out.off (St.only_row _ _ _) (He.OffT.of_blk HV10.out (fun e => hni e)), by rw [HG.out]; exact He.setRow_below HB10.out (Nat.le_refl _) _⟩
   · obtain rfl : k = n := by omega
     have ht : xs.take k = xs := List.take_of_length_le (by rw [HNL.out]; exact Nat.le_refl _)
     rw [ht] at HZ HA
     have HE := Lib.hid (fun (w' : World) => all_open (w := w) (w' := w') HNL.out.symm HZ.out)
     have HV := Lib.hid HA.out.vb
     have HBv := Lib.hid HA.out.bel
     clear ht
     have ck0 := HV.out.cell 0
     have ck1 := HV.out.cell 1
     have ck2 := HV.out.cell 2
     have ck3 := HV.out.cell 3
     have ck4 := HV.out.cell 4
     have ck5 := HV.out.cell 5
     have ck6 := HV.out.cell 6
     have ck7 := HV.out.cell 7
     have ck8 := HV.out.cell 8
     have ck9 := HV.out.cell 9
     have ck10 := HV.out.cell 10
     have cf0 := HV.out.frozen 0
     have cf1 := HV.out.frozen 1
     have cf2 := HV.out.frozen 2
     have cf3 := HV.out.frozen 3
     have cf4 := HV.out.frozen 4
     have cf5 := HV.out.frozen 5
     have cf6 := HV.out.frozen 6
     have cf7 := HV.out.frozen 7
     have cf8 := HV.out.frozen 8
     have cf9 := HV.out.frozen 9
     have cf10 := HV.out.frozen 10
     go_wp2_with fail
     obtain ⟨hbk, hgr⟩ := eleven wr G 31 _ _ _ _ _ _ _ _ _ _ _ (.int .i64 0) (.int .i64 1) (.int .i64 (k : Int)) (.int .i64 0) (.string ⟨#[]⟩) (.int .i64 0) (.bool false) (.string ⟨#[]⟩) (.slice none 0 0) (.slice none 0 0) (.bool false) HV.out
     exact St.ret_one Tryz.results11 hbk undV rfl infV rfl rfl (HE.out _ (by rw [HG.out]; exact HBv.out.grown hgr (by rw [← HG.out]; exact HBv.out.size) (fun j hj => by injection hj with hj; omega))) rfl
end Go.Proofs.YthfknndjdfofgaaGreatDoor.Tp

/-
 Package tlspeek's peeker over this seat's translation: as it lies in memory; contracts of known, step and look: one byte is one step. No condition beyond what the library's tables hold.
-/
namespace Go.Proofs.YthfknndjdfofgaaGreatDoor.Tp
open Go.RowKit Go.Proofs.YthfknndjdfofgaaGreatDoor.Wd Go.Proofs.YthfknndjdfofgaaGreatDoor.Rc Go.Proofs.YthfknndjdfofgaaGreatDoor.Sh

def pC (rp mp : Value) (z u r : Int) (H : ByteArray) (s : Ex.Sn) (va vv : Value) : Array Value := #[rp, mp, .int .i64 z, .int .i64 1, .int .i64 u, .int .i64 r, .string H, .int .i64 0, .bool s.has, .string (str8 s.name), va, vv, .bool s.ech]
def pO (gr gm : Nat) (u : Int) : Array Value := #[.pointer (some ⟨gr, 0, none⟩), .pointer (some ⟨gm, 0, none⟩), .int .i64 0, .int .i64 1, .int .i64 u, .int .i64 0, .string ⟨#[]⟩, .int .i64 0, .bool false, .string ⟨#[]⟩, .slice none 0 0, .slice none 0 0, .bool false]
theorem pO_u (gr gm : Nat) (u v : Int) : (pO gr gm u).setIfInBounds 4 (.int .i64 v) = pO gr gm v := by simp [pO]
theorem pO_bad (gr gm : Nat) (u e : Int) : ((((pO gr gm u).setIfInBounds 2 (.int .i64 2)).setIfInBounds 5 (.int .i64 e)).setIfInBounds 0 (.pointer none)).setIfInBounds 1 (.pointer none) = pC (.pointer none) (.pointer none) 2 u e ⟨#[]⟩ Ex.Sn.zero (.slice none 0 0) (.slice none 0 0) := by simp [pO, pC, Ex.Sn.zero, str8]
theorem pO_seen (gr gm : Nat) (u : Int) (H : ByteArray) (s : Ex.Sn) (va vv : Value) : ((((((pO gr gm u).setIfInBounds 8 (.bool s.has)).setIfInBounds 9 (.string (str8 s.name))).setIfInBounds 10 va).setIfInBounds 11 vv).setIfInBounds 12 (.bool s.ech)).setIfInBounds 6 (.string H) = pC (.pointer (some ⟨gr, 0, none⟩)) (.pointer (some ⟨gm, 0, none⟩)) 0 u 0 H s va vv := by simp [pO, pC]
theorem pC_bad (rp mp : Value) (z u r e : Int) (H : ByteArray) (s : Ex.Sn) (va vv : Value) : ((((pC rp mp z u r H s va vv).setIfInBounds 2 (.int .i64 2)).setIfInBounds 5 (.int .i64 e)).setIfInBounds 0 (.pointer none)).setIfInBounds 1 (.pointer none) = pC (.pointer none) (.pointer none) 2 u e H s va vv := by simp [pC]
theorem pC_done (rp mp : Value) (z u r : Int) (H : ByteArray) (s : Ex.Sn) (va vv : Value) : (((pC rp mp z u r H s va vv).setIfInBounds 2 (.int .i64 1)).setIfInBounds 0 (.pointer none)).setIfInBounds 1 (.pointer none) = pC (.pointer none) (.pointer none) 1 u r H s va vv := by simp [pC]
structure PkO (w : World) (g gr gm : Nat) (p : Option Nat) (u : Int) (d : D) (m : M) : Prop where
 blk : Blk w g 51 (pO gr gm u)
 rd : Rc.Rd w gr d
 rm : Sh.Rd w gm p m
section
variable {w w' : World} {g gr gm : Nat} {p : Option Nat} {u : Int} {d : D} {m : M}
theorem PkO.g_r (h : PkO w g gr gm p u d m) : g ≠ gr := h.blk.ne_ h.rd (by decide)
theorem PkO.g_m (h : PkO w g gr gm p u d m) : g ≠ gm := by
 obtain ⟨c, h1, h2⟩ := h.rm
 exact h.blk.ne_ h1 (by decide)
theorem PkO.r_m (h : PkO w g gr gm p u d m) : gr ≠ gm := by
 obtain ⟨c, h1, h2⟩ := h.rm
 exact Blk.ne_ h.rd h1 (by decide)
theorem PkO.p_g (h : PkO w g gr gm p u d m) : p ≠ some g := by
 obtain ⟨c, h1, h2⟩ := h.rm
 exact h2.ne h.blk (by decide)
theorem PkO.p_r (h : PkO w g gr gm p u d m) : p ≠ some gr := by
 obtain ⟨c, h1, h2⟩ := h.rm
 exact h2.ne h.rd (by decide)
theorem mem_p {i : Nat} : i ∈ p.toList ↔ p = some i := Option.mem_toList
end
theorem but_of {w w' : World} {g : Nat} (h : w.grownBy w' (some g)) : But [g] w w' :=
 ⟨h.os, h.tape, h.output, h.size, fun i hi hn => h.block i hi (fun e => hn (by injection e with e; simp [e]))⟩
theorem ownE_but {α : Type} {e : Ro.El α} {S : List Nat} {w w' : World} {B : Nat} {v : Value} {l : List α} (h : Ro.OwnE w e B v l) (k : But S w w') (hv : ∀ b, v.ownBlock = some b → b ∉ S) : Ro.OwnE w' e B v l := by
 obtain ⟨hl, h0 | ⟨g, cap, cur, rfl, hg, hh, r⟩⟩ := h
 · exact ⟨hl, .inl h0⟩
 · have hbk : Blk w g e.ty cur := hh
   exact ⟨hl, .inr ⟨g, cap, cur, rfl, hg, hbk.but k (hv g rfl), r⟩⟩
theorem ownE_up {α : Type} {e : Ro.El α} {w : World} {B B' : Nat} {v : Value} {l : List α} (h : Ro.OwnE w e B v l) (hv : ∀ b, v.ownBlock = some b → B' ≤ b) : Ro.OwnE w e B' v l := by
 obtain ⟨hl, h0 | ⟨g, cap, cur, rfl, hg, r⟩⟩ := h
 · exact ⟨hl, .inl h0⟩
 · exact ⟨hl, .inr ⟨g, cap, cur, rfl, hv g rfl, r⟩⟩
theorem ownE_lt {α : Type} {e : Ro.El α} {w : World} {B : Nat} {v : Value} {l : List α} (h : Ro.OwnE w e B v l) (b : Nat) (hb : v.ownBlock = some b) : b < w.heap.size := by
 obtain ⟨hl, ⟨rfl, h0⟩ | ⟨g, cap, cur, rfl, hg, hh, r⟩⟩ := h
 · cases hb
 · have hbk : Blk w g e.ty cur := hh
   have e' : g = b := Option.some.inj hb
   rw [← e']
   exact hbk.lt
structure Pk (w : World) (g : Nat) (S : List Nat) (t : T) : Prop where
 ok : OkT t
 few : Few t.h t.s
 lts : ∀ i ∈ S, i < w.heap.size
 at_ : (t.z = 0 ∧ ∃ gr gm p, PkO w g gr gm p (t.u : Int) t.d t.m ∧ S = gr :: gm :: p.toList) ∨
   (t.z ≠ 0 ∧ ∃ va vv, Blk w g 51 (pC (.pointer none) (.pointer none) t.z t.u t.r (str8 t.h) t.s va vv) ∧ Ex.RelP w 0 va t.s.alpn ∧ Ex.RelV w 0 vv t.s.vers ∧ (∀ b, va.ownBlock = some b → b ∈ S) ∧ (∀ b, vv.ownBlock = some b → b ∈ S))
theorem Pk.but {w w' : World} {g : Nat} {S S' : List Nat} {t : T} (h : Pk w g S t) (k : But S' w w') (hg : g ∉ S') (hS : ∀ i ∈ S, i ∉ S') : Pk w' g S t :=
 ⟨h.ok, h.few, fun i hi => Nat.lt_of_lt_of_le (h.lts i hi) k.size, by
   rcases h.at_ with ⟨hz, gr, gm, p, h1, rfl⟩ | ⟨hz, va, vv, h1, h2, h3, h4, h5⟩
   · exact .inl ⟨hz, gr, gm, p, ⟨h1.blk.but k hg, Blk.but h1.rd k (hS gr (by simp)), h1.rm.but k (hS gm (by simp)) (fun b hb => hS b (by simp [hb]))⟩, rfl⟩
   · exact .inr ⟨hz, va, vv, h1.but k hg, ⟨ownE_but h2.1 k (fun b hb => hS b (h4 b hb)), h2.2⟩, ⟨ownE_but h3.1 k (fun b hb => hS b (h5 b hb)), h3.2⟩, h4, h5⟩⟩
theorem Pk.below {w w' : World} {g : Nat} {S : List Nat} {t : T} (h : Pk w g S t) (hb : Below w.heap.size w w') : Pk w' g S t := h.but (But.of_below hb []) (by simp) (by simp)
theorem Pk.lt {w : World} {g : Nat} {S : List Nat} {t : T} (h : Pk w g S t) : g < w.heap.size := by
 rcases h.at_ with ⟨hz, gr, gm, p, h1, _⟩ | ⟨hz, va, vv, h1, _⟩
 · exact h1.blk.lt
 · exact h1.lt
theorem Pk.cell {w : World} {g : Nat} {S : List Nat} {t : T} (h : Pk w g S t) : w.cell? ⟨g, 2, none⟩ = some (.int .i64 (t.z : Int)) := by
 rcases h.at_ with ⟨hz, gr, gm, p, h1, _⟩ | ⟨hz, va, vv, h1, _⟩
 · rw [h1.blk.cell, hz]; rfl
 · rw [h1.cell]; rfl

theorem known_any (w : World) (g z : Nat) (hc : w.cell? ⟨g, 2, none⟩ = some (.int .i64 (z : Int))) :
   Calls Tryz.prog 20 #[.pointer (some ⟨g, 0, none⟩)] w fun e w' => e = .returned (.bool (decide (z ≠ 0))) ∧ w = w' := by
 by_cases hz : z = 0
 · subst hz
   go_enter Tryz.func20, Tryz.ntmps20
   go_wp2_with fail
   go_ret
   exact ⟨rfl, rfl⟩
 · have f1 : ((z : Int) != 0) = true := by rw [bne_iff_ne]; omega
   have H := Lib.hid (show decide (z ≠ 0) = true from decide_eq_true hz)
   clear hz
   go_enter Tryz.func20, Tryz.ntmps20
   go_wp2_with fail
   go_ret
   rw [H.out]
   exact ⟨rfl, rfl⟩

def StepP (w : World) (g gr gm : Nat) (p : Option Nat) (u : Int) (t : T) (c : UInt8) (e : Ending) (w' : World) : Prop :=
 ∃ p' m' wh fe, e = .returned (.tuple #[.bool wh, .int .i64 fe]) ∧ PkO w' g gr gm p' u (stepD t.d c) m' ∧ (∀ b, p' = some b → p = some b ∨ w.heap.size ≤ b) ∧ But (gr :: gm :: p.toList) w w' ∧
   stepT t c = afterT t (stepD t.d c) m' wh fe ∧ (wh = true → fe = 0 ∧ wholeM m' = true) ∧ OkM m'
set_option maxRecDepth 100000 in
set_option maxHeartbeats 2000000 in
theorem step_any {w : World} {g gr gm : Nat} {p : Option Nat} {u : Int} {t : T} (h : PkO w g gr gm p u t.d t.m) (hz : t.z = 0) (hd : OkD t.d) (hm : OkM t.m) (hn : t.d.n ≤ 4611686018427387904) (c : UInt8) :
   Calls Tryz.prog 43 #[.pointer (some ⟨g, 0, none⟩), .int .u8 (c.toNat : Int)] w (StepP w g gr gm p u t c) := by
 have HK := Lib.hid h
 have HZ := Lib.hid hz
 have HM := Lib.hid hm
 have HT := Lib.hid (Rc.take_any h.rd hd hn c)
 have hc0 : w.cell? ⟨g, 0, none⟩ = some (.pointer (some ⟨gr, 0, none⟩)) := by rw [h.blk.cell]; rfl
 clear h hz hm hd
 go_enter Tryz.func43, Tryz.ntmps43
 go_wp2_with fail
 refine HT.out.mono ?_
 rintro e w1 ⟨rfl, hr, hb⟩
 have HP1 := Lib.hid (show PkO w1 g gr gm p u (stepD t.d c) t.m from ⟨HK.out.blk.but hb (by simpa using HK.out.g_r), hr, HK.out.rm.but hb (by simpa using HK.out.r_m.symm) (fun b e hm => HK.out.p_r (e.trans (congrArg some (by simpa using hm : b = gr))))⟩)
 have HB1 := Lib.hid hb
 have HAf := Lib.hid (fun hp => after_head (c := c) HZ.out hp)
 have HAp := Lib.hid (fun hp => after_pay (c := c) HZ.out hp)
 clear hb hr hc0 HT
 cases hp : payD t.d
 · have HAf := Lib.hid (HAf.out hp)
   clear hp HAp
   go_wp2_with fail
   go_ret2
   exact ⟨p, t.m, false, _, rfl, HP1.out, fun b hb => .inl hb, HB1.out.more (by simp), HAf.out, (fun h => by cases h), HM.out⟩
 · have HAp := Lib.hid (HAp.out hp)
   have hc1 : w1.cell? ⟨g, 1, none⟩ = some (.pointer (some ⟨gm, 0, none⟩)) := by rw [HP1.out.blk.cell]; rfl
   clear hp HAf
   go_wp2_with fail
   refine (Sh.take_any HP1.out.rm HM.out c).mono ?_
   rintro e w2 ⟨rfl, p', hr2, hp', hb2⟩
   have hgn : g ∉ gm :: p.toList := by
     intro hi
     rcases List.mem_cons.1 hi with hi | hi
     · exact HP1.out.g_m hi
     · exact HP1.out.p_g (mem_p.1 hi)
   have hrn : gr ∉ gm :: p.toList := by
     intro hi
     rcases List.mem_cons.1 hi with hi | hi
     · exact HP1.out.r_m hi
     · exact HP1.out.p_r (mem_p.1 hi)
   have HP2 := Lib.hid (show PkO w2 g gr gm p' u (stepD t.d c) (stepM t.m c) from ⟨HP1.out.blk.but hb2 hgn, Blk.but HP1.out.rd hb2 hrn, hr2⟩)
   have HB2 := Lib.hid (show But (gr :: gm :: p.toList) w w2 from (HB1.out.more (by simp)).trans (hb2.more (fun i hi => List.mem_cons_of_mem _ hi)))
   have HQ := Lib.hid (show ∀ b, p' = some b → p = some b ∨ w.heap.size ≤ b from fun b hb => (hp' b hb).imp id (fun h => Nat.le_trans HB1.out.size h))
   have HO := Lib.hid (stepM_ok HM.out c)
   have HW := Lib.hid (show wholeM (stepM t.m c) = true → ((stepM t.m c).e : Int) = 0 ∧ wholeM (stepM t.m c) = true from fun h => by
     refine ⟨?_, h⟩
     by_cases he : (stepM t.m c).e = 0
     · omega
     · rw [whole_bad he] at h; cases h)
   clear hr2 hp' hb2 hgn hrn hc1 HP1 HB1 HM HK
   generalize stepM t.m c = m' at *
   go_wp2_with fail
   go_ret2
   exact ⟨p', m', _, _, rfl, HP2.out, HQ.out, HB2.out, HAp.out, HW.out, HO.out⟩

theorem pk_known {w : World} {K g : Nat} {t : T} (ok : OkT t) (few : Few t.h t.s) (hz : t.z ≠ 0) {va vv : Value} (hb : Blk w g 51 (pC (.pointer none) (.pointer none) t.z t.u t.r (str8 t.h) t.s va vv)) (hva : Ex.RelP w K va t.s.alpn) (hvv : Ex.RelV w K vv t.s.vers) :
   ∃ S, Pk w g S t ∧ ∀ i ∈ S, K ≤ i := by
 refine ⟨va.ownBlock.toList ++ vv.ownBlock.toList, ⟨ok, few, fun i hi => ?_, .inr ⟨hz, va, vv, hb, hva.lower (Nat.zero_le _), hvv.lower (Nat.zero_le _), fun b hb => by simp [hb], fun b hb => by simp [hb]⟩⟩, fun i hi => ?_⟩
 · rcases List.mem_append.1 hi with hi | hi
   · exact ownE_lt hva.1 i (mem_p.1 hi)
   · exact ownE_lt hvv.1 i (mem_p.1 hi)
 · rcases List.mem_append.1 hi with hi | hi
   · exact hva.1.ge i (mem_p.1 hi)
   · exact hvv.1.ge i (mem_p.1 hi)
theorem pk_bad {w : World} {K g : Nat} {t : T} {d : D} {m : M} {e : Int} (hd : OkD d) (hm : OkM m) (he : e ≠ 0) {va vv : Value} (hb : Blk w g 51 (pC (.pointer none) (.pointer none) 2 ((t.u : Int) + 1) e ⟨#[]⟩ Ex.Sn.zero va vv)) (hva : Ex.RelP w K va []) (hvv : Ex.RelV w K vv []) :
   ∃ S, Pk w g S (t.bad d m e) ∧ ∀ i ∈ S, K ≤ i :=
 pk_known (bad_ok hd hm he) Few.none (by show ¬ 2 = 0; decide) hb hva hvv
end Go.Proofs.YthfknndjdfofgaaGreatDoor.Tp
