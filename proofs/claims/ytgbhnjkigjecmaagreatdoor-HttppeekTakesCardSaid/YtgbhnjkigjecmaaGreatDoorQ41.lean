/-
  Contract of the document's own judge of layer 16 (hagioscoperef16) over this seat's translation: it answers what judgeS says.
-/
import Derived.Test.YtgbhnjkigjecmaaGreatDoorQ12
import Derived.Test.YtgbhnjkigjecmaaGreatDoorQ11
import Derived.Test.YtgbhnjkigjecmaaGreatDoorQ39
import Derived.Test.YtgbhnjkigjecmaaGreatDoorQ40
namespace Go.Proofs.YtgbhnjkigjecmaaGreatDoor.Hp
open Go.RowKit Go.Proofs.YtgbhnjkigjecmaaGreatDoor.Wd

/-- what judge answers -/
def JudHP (q : Rl.Rq) (fs : List Fd.Fld) (w : World) (e : Ending) (w' : World) : Prop :=
  e = .returned (.agg (vH (if (judgeS q fs).2.2 ≠ 0 then 2 else 1) 0 0 (judgeS q fs).2.2 ⟨(judgeS q fs).1.toArray⟩ (judgeS q fs).2.1)) ∧ Below w.heap.size w w'
theorem judh_bad {q : Rl.Rq} {fs : List Fd.Fld} {w w' : World} {e : Int} (he : e ≠ 0) (h : judgeS q fs = ([], 0, e)) (hb : Below w.heap.size w w') : JudHP q fs w (.returned (.agg (vH 2 0 0 e ⟨#[]⟩ 0))) w' := by
  unfold JudHP
  rw [h]
  exact ⟨by rw [if_pos he], hb⟩
theorem judh_done {q : Rl.Rq} {fs : List Fd.Fld} {w w' : World} {n : List UInt8} {p : Int} (h : judgeS q fs = (n, p, 0)) (hb : Below w.heap.size w w') : JudHP q fs w (.returned (.agg (vH 1 0 0 0 ⟨n.toArray⟩ p))) w' := by
  unfold JudHP
  rw [h]
  exact ⟨by rw [if_neg (by simp)], hb⟩
set_option linter.unusedSimpArgs false in
set_option maxRecDepth 100000 in
set_option maxHeartbeats 4000000 in
theorem rjudge_any (q : Rl.Rq) (fs : List Fd.Fld) (A : Option Addr) (n cap : Nat) (w : World) (hs : Fd.SrcF w A fs) (hn : fs.length = n) (hm : n ≤ 1000) (ht : q.targ.length ≤ 8000) (hM : (Fd.findS Au.hostN fs).1.length ≤ 1000000) :
    Calls Tryz.prog 21 #[.agg (Rl.rqC q), .slice A n cap] w (JudHP q fs w) := by
  have HO := Lib.hid (fun w hs => Au.rof_any q fs A n cap w hs hn (by omega) (by omega) hM)
  unfold Au.ResP Au.resT at HO
  have hl := of_len q fs
  obtain ⟨R, hR⟩ : ∃ R, Au.ofS q fs = R := ⟨_, rfl⟩
  obtain ⟨h, p, er⟩ := R
  have HJ := Lib.hid (judge_of hR)
  rw [hR] at HO hl
  simp only at HO hl
  have HNo := Lib.hid (fun w => Nm.rnorm_any ⟨h.toArray⟩ w (by show h.toArray.size ≤ _; rw [List.size_toArray]; omega))
  rw [show Asc.bs (⟨h.toArray⟩ : ByteArray) = h from rfl] at HNo
  have HB0 : Hid (Below w.heap.size w ((w.alloc (.cells (Rl.rqC q) 39)).alloc (.cells #[Value.int .i64 0, .int .i64 0, .int .i64 0, .int .i64 0, .string ⟨#[]⟩, .int .i64 0, .bool false, .string ⟨#[]⟩, .slice none 0 0, .slice none 0 0, .bool false] 31))) := Lib.hid (((Below.refl _ _).alloc (Nat.le_refl _) _).alloc (by rw [St.alloc_size]; omega) _)
  have HQ : Hid (Blk ((w.alloc (.cells (Rl.rqC q) 39)).alloc (.cells #[Value.int .i64 0, .int .i64 0, .int .i64 0, .int .i64 0, .string ⟨#[]⟩, .int .i64 0, .bool false, .string ⟨#[]⟩, .slice none 0 0, .slice none 0 0, .bool false] 31)) w.heap.size 39 (Rl.rqC q)) := Lib.hid ((Blk.new w _ _).alloc _)
  have HV : Hid (Blk ((w.alloc (.cells (Rl.rqC q) 39)).alloc (.cells #[Value.int .i64 0, .int .i64 0, .int .i64 0, .int .i64 0, .string ⟨#[]⟩, .int .i64 0, .bool false, .string ⟨#[]⟩, .slice none 0 0, .slice none 0 0, .bool false] 31)) (w.heap.size + 1) 31 #[Value.int .i64 0, .int .i64 0, .int .i64 0, .int .i64 0, .string ⟨#[]⟩, .int .i64 0, .bool false, .string ⟨#[]⟩, .slice none 0 0, .slice none 0 0, .bool false]) := Lib.hid (St.blk_at _ _ _ _ _ (by rw [St.alloc_size]) rfl)
  have HS := Lib.hid (hs.below HB0.out)
  clear hs hn hm ht hM hR hl
  go_enter Tryz.func21, Tryz.ntmps21
  go_upto_region 1 with fail
  generalize (w.alloc (.cells (Rl.rqC q) 39)).alloc (.cells #[Value.int .i64 0, .int .i64 0, .int .i64 0, .int .i64 0, .string ⟨#[]⟩, .int .i64 0, .bool false, .string ⟨#[]⟩, .slice none 0 0, .slice none 0 0, .bool false] 31) = w1 at *
  obtain ⟨G, hG⟩ : ∃ G, w.heap.size = G := ⟨_, rfl⟩
  have HG := Lib.hid hG
  rw [hG] at HQ HV HB0 ⊢
  clear hG
  have k1 := HQ.out
  go_wp2_with (refine St.go_ld 39 k1 Rl.undR rfl Rl.infR rfl rfl rfl rfl ?_)
  refine (HO.out w1 HS.out).mono ?_
  rintro e w2 ⟨rfl, hb⟩
  have HV2 := Lib.hid (HV.out.below hb HV.out.lt)
  have HB2 := Lib.hid (HB0.out.trans (hb.mono (by have := HV.out.lt; omega)))
  clear hb k1 HO HQ HS HV HB0
  by_cases he : er = 0
  case neg =>
    have hJ : judgeS q fs = ([], 0, er) := by rw [HJ.out, if_pos he]
    have HE := Lib.hid (fun w' => judh_bad (w := w) (w' := w') he hJ)
    have f1 : (er != 0) = true := by rw [bne_iff_ne]; exact he
    clear he hJ HJ HNo
    have ck0 := HV2.out.cell 0
    have ck1 := HV2.out.cell 1
    have ck2 := HV2.out.cell 2
    have ck3 := HV2.out.cell 3
    have ck4 := HV2.out.cell 4
    have ck5 := HV2.out.cell 5
    have ck6 := HV2.out.cell 6
    have ck7 := HV2.out.cell 7
    have ck8 := HV2.out.cell 8
    have ck9 := HV2.out.cell 9
    have ck10 := HV2.out.cell 10
    have cf0 := HV2.out.frozen 0
    have cf1 := HV2.out.frozen 1
    have cf2 := HV2.out.frozen 2
    have cf3 := HV2.out.frozen 3
    have cf4 := HV2.out.frozen 4
    have cf5 := HV2.out.frozen 5
    have cf6 := HV2.out.frozen 6
    have cf7 := HV2.out.frozen 7
    have cf8 := HV2.out.frozen 8
    have cf9 := HV2.out.frozen 9
    have cf10 := HV2.out.frozen 10
    go_wp2_with fail
    obtain ⟨hbk, hgr⟩ := eleven w2 (G + 1) 31 _ _ _ _ _ _ _ _ _ _ _ (.int .i64 2) (.int .i64 0) (.int .i64 0) (.int .i64 er) (.string ⟨#[]⟩) (.int .i64 0) (.bool false) (.string ⟨#[]⟩) (.slice none 0 0) (.slice none 0 0) (.bool false) HV2.out
    exact St.ret_one Tryz.results21 hbk undV rfl infV rfl rfl (HE.out _ (by rw [HG.out]; exact HB2.out.grown hgr (by rw [← HG.out]; exact HB2.out.size) (fun j hj => by injection hj with hj; omega))) rfl
  subst he
  rw [if_neg (by simp)] at HJ
  obtain ⟨R, hR⟩ : ∃ R, Nm.normalS h = R := ⟨_, rfl⟩
  rw [hR] at HNo HJ
  obtain ⟨nm, e3⟩ := R
  simp only at HJ
  clear hR
  obtain ⟨HH, hHH⟩ : ∃ H, (⟨h.toArray⟩ : ByteArray) = H := ⟨_, rfl⟩
  rw [show Tx.str h = HH from hHH]
  rw [hHH] at HNo
  clear hHH
  obtain ⟨NM, hNM⟩ : ∃ H, (⟨nm.toArray⟩ : ByteArray) = H := ⟨_, rfl⟩
  have HN2 : Hid (∀ w, Calls Tryz.prog 43 #[.string HH] w fun e w' => e = .returned (.tuple #[.string NM, .int .i64 e3]) ∧ Below w.heap.size w w') := Lib.hid (fun w => by rw [← hNM]; exact HNo.out w)
  have HNM := Lib.hid hNM
  clear hNM HNo
  go_wp2_with fail
  refine (HN2.out w2).mono ?_
  rintro e w3 ⟨rfl, hb⟩
  have HV3 := Lib.hid (HV2.out.below hb HV2.out.lt)
  have HB3 := Lib.hid (HB2.out.trans (hb.mono (by rw [← HG.out]; exact HB2.out.size)))
  clear hb HN2 HV2 HB2
  by_cases he : e3 = 0
  case neg =>
    have hJ : judgeS q fs = ([], 0, e3) := by rw [HJ.out, if_pos he]
    have HE := Lib.hid (fun w' => judh_bad (w := w) (w' := w') he hJ)
    have f1 : (e3 != 0) = true := by rw [bne_iff_ne]; exact he
    clear he hJ HJ
    have ck0 := HV3.out.cell 0
    have ck1 := HV3.out.cell 1
    have ck2 := HV3.out.cell 2
    have ck3 := HV3.out.cell 3
    have ck4 := HV3.out.cell 4
    have ck5 := HV3.out.cell 5
    have ck6 := HV3.out.cell 6
    have ck7 := HV3.out.cell 7
    have ck8 := HV3.out.cell 8
    have ck9 := HV3.out.cell 9
    have ck10 := HV3.out.cell 10
    have cf0 := HV3.out.frozen 0
    have cf1 := HV3.out.frozen 1
    have cf2 := HV3.out.frozen 2
    have cf3 := HV3.out.frozen 3
    have cf4 := HV3.out.frozen 4
    have cf5 := HV3.out.frozen 5
    have cf6 := HV3.out.frozen 6
    have cf7 := HV3.out.frozen 7
    have cf8 := HV3.out.frozen 8
    have cf9 := HV3.out.frozen 9
    have cf10 := HV3.out.frozen 10
    go_wp2_with fail
    obtain ⟨hbk, hgr⟩ := eleven w3 (G + 1) 31 _ _ _ _ _ _ _ _ _ _ _ (.int .i64 2) (.int .i64 0) (.int .i64 0) (.int .i64 e3) (.string ⟨#[]⟩) (.int .i64 0) (.bool false) (.string ⟨#[]⟩) (.slice none 0 0) (.slice none 0 0) (.bool false) HV3.out
    exact St.ret_one Tryz.results21 hbk undV rfl infV rfl rfl (HE.out _ (by rw [HG.out]; exact HB3.out.grown hgr (by rw [← HG.out]; exact HB3.out.size) (fun j hj => by injection hj with hj; omega))) rfl
  subst he
  rw [if_neg (by simp)] at HJ
  have HE := Lib.hid (fun w' => judh_done (w := w) (w' := w') HJ.out)
  rw [HNM.out] at HE
  clear HJ HNM
  have ck0 := HV3.out.cell 0
  have ck1 := HV3.out.cell 1
  have ck2 := HV3.out.cell 2
  have ck3 := HV3.out.cell 3
  have ck4 := HV3.out.cell 4
  have ck5 := HV3.out.cell 5
  have ck6 := HV3.out.cell 6
  have ck7 := HV3.out.cell 7
  have ck8 := HV3.out.cell 8
  have ck9 := HV3.out.cell 9
  have ck10 := HV3.out.cell 10
  have cf0 := HV3.out.frozen 0
  have cf1 := HV3.out.frozen 1
  have cf2 := HV3.out.frozen 2
  have cf3 := HV3.out.frozen 3
  have cf4 := HV3.out.frozen 4
  have cf5 := HV3.out.frozen 5
  have cf6 := HV3.out.frozen 6
  have cf7 := HV3.out.frozen 7
  have cf8 := HV3.out.frozen 8
  have cf9 := HV3.out.frozen 9
  have cf10 := HV3.out.frozen 10
  go_wp2_with fail
  obtain ⟨hbk, hgr⟩ := eleven w3 (G + 1) 31 _ _ _ _ _ _ _ _ _ _ _ (.int .i64 1) (.int .i64 0) (.int .i64 0) (.int .i64 0) (.string NM) (.int .i64 p) (.bool false) (.string ⟨#[]⟩) (.slice none 0 0) (.slice none 0 0) (.bool false) HV3.out
  exact St.ret_one Tryz.results21 hbk undV rfl infV rfl rfl (HE.out _ (by rw [HG.out]; exact HB3.out.grown hgr (by rw [← HG.out]; exact HB3.out.size) (fun j hj => by injection hj with hj; omega))) rfl
end Go.Proofs.YtgbhnjkigjecmaaGreatDoor.Hp
