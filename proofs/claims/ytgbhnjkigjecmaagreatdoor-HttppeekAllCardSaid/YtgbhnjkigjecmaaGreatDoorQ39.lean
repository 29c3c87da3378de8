/-
  Contract of hagioscoperef12's Find over this seat's translation: it answers what findS says.
-/
import Derived.Test.YtgbhnjkigjecmaaGreatDoorQ25
import Derived.Test.YtgbhnjkigjecmaaGreatDoorQ08
import Derived.Test.YtgbhnjkigjecmaaGreatDoorQ37
import Derived.Test.YtgbhnjkigjecmaaGreatDoorQ38
namespace Go.Proofs.YtgbhnjkigjecmaaGreatDoor.Fd
open Go.RowKit Go.Proofs.YtgbhnjkigjecmaaGreatDoor.Wd Go.Proofs.YtgbhnjkigjecmaaGreatDoor.Asc Go.Proofs.YtgbhnjkigjecmaaGreatDoor.Tx Go.Proofs.YtgbhnjkigjecmaaGreatDoor.St

set_option linter.unusedSimpArgs false in
set_option maxRecDepth 100000 in
set_option maxHeartbeats 4000000 in
theorem rfind_any (l : List Fld) (A : Option Addr) (n cap : Nat) (S : ByteArray) (w : World) (hs : SrcF w A l) (hn : l.length = n) (hm : n ≤ 1000000) (hS : S.size ≤ 140737488355328) :
    Calls Tryz.prog 79 #[.slice A n cap, .string S] w (FindP (findS ((bs S).map lowB) l) w) := by
  obtain ⟨nm, hnm⟩ : ∃ nm, (bs S).map lowB = nm := ⟨_, rfl⟩
  obtain ⟨NM, hNM⟩ : ∃ NM, lowS S = NM := ⟨_, rfl⟩
  have HNM := Lib.hid (show bs NM = nm by rw [← hNM, ← hnm]; rfl)
  have HLo := Lib.hid (fun w => rlowers_any S w hS)
  rw [hNM] at HLo
  rw [hnm]
  have HS := Lib.hid hs
  have HN := Lib.hid hn
  clear hs hn hnm hNM hS
  go_enter Tryz.func79, Tryz.ntmps79
  go_wp2_with fail
  go_loopw [6, 7, 8] (fun x6 x7 x8 wr => ∃ (k c : Nat) (T : ByteArray) (ww : World), ww = wr ∧ k ≤ n ∧ x6 = .string T ∧ x7 = .int .i64 (c : Nat) ∧ x8 = .int .i64 (k : Nat) ∧ Hid (At nm l k T c) ∧ Hid (Below w.heap.size w ww)) (fun _ _ x8 _ => n - (intOf x8).toNat)
  case atStart => exact ⟨0, 0, ⟨#[]⟩, w, rfl, Nat.zero_le _, rfl, rfl, rfl, Lib.hid (At.start nm l), Lib.hid (Below.refl _ _)⟩
  case round =>
    obtain ⟨k, c, T, ww, rfl, hk, rfl, rfl, rfl, HA, HB⟩ := hrel
    have hck := HA.out.le
    by_cases hlt : k < n
    · have hki : (k : Int) < (n : Int) := by omega
      obtain ⟨f, g, o, hf, rfl, hgw, h0, h1⟩ := HS.out.get (k := k) (by rw [HN.out]; exact hlt) HB.out
      have HF := Lib.hid hf
      obtain ⟨X, hX⟩ : ∃ X, str f.name = X := ⟨_, rfl⟩
      obtain ⟨Y, hY⟩ : ∃ Y, str f.text = Y := ⟨_, rfl⟩
      rw [hX] at h0
      rw [hY] at h1
      have HX := Lib.hid (show bs X = f.name by rw [← hX]; rfl)
      have HY := Lib.hid hY
      have hgw2 : g < ww.heap.size := Nat.lt_of_lt_of_le hgw HB.out.size
      have H0 := Lib.hid h0
      have H1 := Lib.hid h1
      clear hf hX hY h0 h1
      go_upto_region 6 with fail
      refine wp_region_held_drew (S := fun w' => w'.cell? ⟨g, o + k * 2, none⟩ = some (.string X)) (by kernel_rfl) H0.out (fun h0 => ?_)
      refine hd_take 0 (some 15) (.slice (some ⟨g, o, none⟩) n cap) rfl rfl (by kernel_rfl) (by kernel_rfl) (by kernel_rfl) (fun _ _ _ h => h) (Or.inl ⟨by rfl, fun w hw => by go_simp⟩) h0 ?_
      simp only [Act.put, List.setIfInBounds_toArray, List.set_cons_zero, List.set_cons_succ]
      refine hd_take 1 (some 16) (.int .i64 (k : Int)) rfl rfl (by kernel_rfl) (by kernel_rfl) (by kernel_rfl) (fun _ _ _ h => h) (Or.inl ⟨by rfl, fun w hw => by go_simp⟩) h0 ?_
      simp only [Act.put, List.setIfInBounds_toArray, List.set_cons_zero, List.set_cons_succ]
      refine hd_take 2 (some 17) (.pointer (some ⟨g, o + k * 2, none⟩)) rfl rfl (by kernel_rfl) (by kernel_rfl) (by kernel_rfl) (fun _ _ _ h => h) (Or.inl ⟨by rfl, fun w hw => by go_simp <;> omega⟩) h0 ?_
      simp only [Act.put, List.setIfInBounds_toArray, List.set_cons_zero, List.set_cons_succ]
      refine hd_take 3 (some 18) (.pointer (some ⟨g, o + k * 2, none⟩)) rfl rfl (by kernel_rfl) (by kernel_rfl) (by kernel_rfl) (fun _ _ _ h => h) (Or.inl ⟨by rfl, fun w hw => by go_simp⟩) h0 ?_
      simp only [Act.put, List.setIfInBounds_toArray, List.set_cons_zero, List.set_cons_succ]
      refine hd_take 4 (some 19) (.string X) rfl rfl (by kernel_rfl) (by kernel_rfl) (by kernel_rfl) (fun _ _ _ h => h) (Or.inl ⟨by rfl, fun w hw => by have h9 := hw; go_simp⟩) h0 ?_
      simp only [Act.put, List.setIfInBounds_toArray, List.set_cons_zero, List.set_cons_succ]
      refine hd_take 5 (some 20) (.string S) rfl rfl (by kernel_rfl) (by kernel_rfl) (by kernel_rfl) (fun _ _ _ h => h) (Or.inl ⟨by rfl, fun w hw => by go_simp⟩) h0 ?_
      simp only [Act.put, List.setIfInBounds_toArray, List.set_cons_zero, List.set_cons_succ]
      refine wpAnyH_ready (rs := [6]) (by kernel_rfl) (by simp) (AllReadyH.cons rfl (fun K hK => ?_) AllReadyH.nil)
      go_simp
      go_wp2_with (go_at_call 45; refine (HLo.out _).mono ?_; rintro e w2 ⟨rfl, hb2⟩; have hd2 : Below ww.heap.size ww w2 := (show Below ww.heap.size ww ww.drew from (Below.refl _ _).drew).trans hb2; have HD2 := Lib.hid hd2; clear hb2 hd2)
      refine hK.out _ _ ((HD2.out.cell (p := ⟨g, o + k * 2, none⟩) hgw2).trans H0.out) (fun h2 => ?_)
      clear hK K
      have HB2 := Lib.hid (HB.out.trans (HD2.out.mono HB.out.size))
      have q1 : w2.cell? ⟨g, o + k * 2 + 1, none⟩ = some (.string Y) := (HD2.out.cell (p := ⟨g, o + k * 2 + 1, none⟩) hgw2).trans H1.out
      clear HB H0 h0
      by_cases hXN : X = NM
      · have HQ := Lib.hid (show f.name = nm by rw [← HX.out, hXN]; exact HNM.out)
        have e1 : (X.toList == NM.toList) = true := by rw [eq_bytes, hXN]; simp
        have e2 : (X.toList != NM.toList) = false := by rw [bne, e1]; rfl
        clear hXN
        refine hd_take 7 (some 22) (.bool false) rfl rfl (by kernel_rfl) (by kernel_rfl) (by kernel_rfl) (fun _ _ _ h => h) (Or.inl ⟨by rfl, fun w hw => by go_simp⟩) h2 ?_
        simp only [Act.put, List.setIfInBounds_toArray, List.set_cons_zero, List.set_cons_succ]
        refine wpAnyH_done (by kernel_rfl) ?_ _
        by_cases hc : c = 0
        · subst hc
          have HA2 := Lib.hid (HA.out.first HF.out HQ.out)
          rw [HY.out] at HA2
          have e3 : (((0 : Nat) : Int) == 0) = true := rfl
          go_wp2_with fail
          go_roundw
          case rel => exact ⟨k + 1, 1, Y, _, rfl, by omega, rfl, rfl, by go_num, HA2, HB2⟩
          case measure => simp [intOf]; omega
        · have HA2 := Lib.hid (HA.out.more HF.out HQ.out hc)
          have e3 : ((c : Int) == 0) = false := by simp; omega
          clear hc
          go_wp2_with fail
          go_roundw
          case rel => exact ⟨k + 1, c + 1, T, _, rfl, by omega, rfl, by go_num, by go_num, HA2, HB2⟩
          case measure => simp [intOf]; omega
      · have HQ := Lib.hid (show f.name ≠ nm by rw [← HX.out, ← HNM.out]; exact fun e => hXN (bs_inj e))
        have e1 : (X.toList == NM.toList) = false := by rw [eq_bytes]; exact decide_eq_false hXN
        have e2 : (X.toList != NM.toList) = true := by rw [bne, e1]; rfl
        have HA2 := Lib.hid (HA.out.miss HF.out HQ.out)
        clear hXN
        refine hd_take 7 (some 22) (.bool true) rfl rfl (by kernel_rfl) (by kernel_rfl) (by kernel_rfl) (fun _ _ _ h => h) (Or.inl ⟨by rfl, fun w hw => by go_simp⟩) h2 ?_
        simp only [Act.put, List.setIfInBounds_toArray, List.set_cons_zero, List.set_cons_succ]
        refine wpAnyH_done (by kernel_rfl) ?_ _
        go_wp2_with fail
        go_roundw
        case rel => exact ⟨k + 1, c, T, _, rfl, by omega, rfl, rfl, by go_num, HA2, HB2⟩
        case measure => simp [intOf]; omega
    · have HR := Lib.hid (HA.out.fin (by rw [HN.out]; omega))
      have hki : ¬ (k : Int) < (n : Int) := by omega
      go_wp2_with fail
      go_ret2
      rw [HR.out]
      exact ⟨by show Ending.returned (.tuple #[.string T, .int .i64 (c : Nat)]) = .returned (.tuple #[.string (str (bs T)), .int .i64 (c : Nat)]); rw [str_bs], HB.out⟩
end Go.Proofs.YtgbhnjkigjecmaaGreatDoor.Fd

/-
  Contract of hagioscoperef13's Of over this seat's translation: it answers what ofS says. Conditions: a target, and the text that is found, of at most 1000000 bytes, and at most 1000000 fields.
-/
namespace Go.Proofs.YtgbhnjkigjecmaaGreatDoor.Au
open Go.RowKit Go.Proofs.YtgbhnjkigjecmaaGreatDoor.Wd Go.Proofs.YtgbhnjkigjecmaaGreatDoor.Asc Go.Proofs.YtgbhnjkigjecmaaGreatDoor.Tx Go.Proofs.YtgbhnjkigjecmaaGreatDoor.St

theorem rfind_host (l : List Fd.Fld) (A : Option Addr) (n cap : Nat) (w : World) (hs : Fd.SrcF w A l) (hn : l.length = n) (hm : n ≤ 1000000) :
    Calls Tryz.prog 79 #[.slice A n cap, .string ⟨#[104, 111, 115, 116]⟩] w fun e w' => e = .returned (.tuple #[.string (str (Fd.findS hostN l).1), .int .i64 ((Fd.findS hostN l).2 : Nat)]) ∧ Below w.heap.size w w' := by
  have h := Fd.rfind_any l A n cap ⟨#[104, 111, 115, 116]⟩ w hs hn hm (by decide)
  rw [host_low] at h
  exact h

set_option linter.unusedSimpArgs false in
set_option maxRecDepth 100000 in
set_option maxHeartbeats 8000000 in
theorem rof_any (r : Rl.Rq) (l : List Fd.Fld) (A : Option Addr) (n cap : Nat) (w : World) (hs : Fd.SrcF w A l) (hn : l.length = n) (hm : n ≤ 1000000) (ht : r.targ.length ≤ 1000000)
    (hM : (Fd.findS hostN l).1.length ≤ 1000000) :
    Calls Tryz.prog 42 #[.agg (Rl.rqC r), .slice A n cap] w (ResP (ofS r l) w) := by
  have HS := Lib.hid hs
  have HFi := Lib.hid (fun w hs => rfind_host l A n cap w hs hn hm)
  have HFo := Lib.hid (fun w => Rl.rform_any r ht w)
  obtain ⟨k, hk⟩ : ∃ k, r.minor = k := ⟨_, rfl⟩
  have hC : Rl.rqC r = #[.string (str r.meth), .string (str r.targ), .int .i64 k] := by rw [← hk]; rfl
  obtain ⟨X, hX⟩ : ∃ X, str r.meth = X := ⟨_, rfl⟩
  obtain ⟨Y, hY⟩ : ∃ Y, str r.targ = Y := ⟨_, rfl⟩
  have HAu := Lib.hid (fun w => Rl.rauth_any r.targ Y hY (by rw [← hY, str_size]; exact ht) w)
  have hal := auth_len r.targ
  have hO : ofS r l = if Rl.formS r = 4 then ([], 0, 11) else if Rl.formS r = 0 then ([], 0, 3) else if 1 < (Fd.findS hostN l).2 then ([], 0, 7)
    else if Rl.formS r = 2 then parseS (bs (Rl.optS (Rl.authS r.targ))) else if (Fd.findS hostN l).2 = 0 then ([], 0, 8) else parseS (Fd.findS hostN l).1 := by rw [opt_bs]; rfl
  obtain ⟨Q, hQ⟩ : ∃ Q, ofS r l = Q := ⟨_, rfl⟩
  rw [hQ] at hO ⊢
  rw [Rl.opt_str] at HAu
  have hoz : (Rl.optS (Rl.authS r.targ)).size ≤ 1000000 := by rw [← bs_length, opt_bs]; omega
  generalize (Rl.authS r.targ).isSome = ab at *
  generalize Rl.optS (Rl.authS r.targ) = O at *
  generalize Rl.formS r = F at *
  obtain ⟨q, hq⟩ : ∃ q, Fd.findS hostN l = q := ⟨_, rfl⟩
  rw [hq] at HFi hO hM
  obtain ⟨t, c⟩ := q
  simp only at HFi hO hM
  obtain ⟨T, hT⟩ : ∃ T, str t = T := ⟨_, rfl⟩
  have hTb : bs T = t := by rw [← hT, bs_str]
  have hTz : T.size ≤ 1000000 := by rw [← hT, str_size]; exact hM
  rw [← hTb] at hO
  rw [hT] at HFi
  rw [hX, hY] at hC
  have HO := Lib.hid hO
  have HP := Lib.hid (fun w => rparse_any T w (by omega))
  have HPo := Lib.hid (fun w => rparse_any O w (by omega))
  unfold ResP at HP HPo
  rw [hC] at HFo
  rw [hC]
  clear hs hn hm ht hM hk hX hY hal hq hT hTb hO hQ hC
  go_enter Tryz.func42, Tryz.ntmps42
  go_upto_region 1 with fail
  have b1 := Blk.new w 39 #[.string X, .string Y, .int .i64 k]
  have hbel : Below w.heap.size w (w.alloc (.cells #[.string X, .string Y, .int .i64 k] 39)) := (Below.refl _ _).alloc (Nat.le_refl _) _
  generalize w.alloc (.cells #[.string X, .string Y, .int .i64 k] 39) = w1 at *
  obtain ⟨G, hG⟩ : ∃ G, w.heap.size = G := ⟨_, rfl⟩
  have HS1 := Lib.hid (HS.out.below hbel)
  rw [hG] at b1 hbel
  have HK1 := Lib.hid b1
  have HL1 := Lib.hid hbel
  have HG := Lib.hid hG
  rw [hG]
  clear b1 hbel hG HS
  go_wp2_with fail
  refine (HFi.out w1 HS1.out).mono ?_
  rintro e w2 ⟨rfl, hb⟩
  have HK2 := Lib.hid (HK1.out.below hb HK1.out.lt)
  have HL2 := Lib.hid (HL1.out.trans (hb.mono (Nat.le_of_lt HK1.out.lt)))
  have c2 := HK2.out.cell 1
  clear hb HK1 HL1 HS1 HFi
  go_wp2_with fail
  refine (HAu.out w2).mono ?_
  rintro e w3 ⟨rfl, hb⟩
  have HK3 := Lib.hid (HK2.out.below hb HK2.out.lt)
  have HL3 := Lib.hid (HL2.out.trans (hb.mono (Nat.le_of_lt HK2.out.lt)))
  have k3 := HK3.out
  clear hb HK2 HL2 HAu c2
  have hz : (#[Value.string X, .string Y, .int .i64 k] : Array Value).size = 3 := rfl
  go_wp2_with (refine go_ld 39 k3 Rl.undR rfl Rl.infR hz rfl rfl rfl ?_)
  refine (HFo.out w3).mono ?_
  rintro e w4 ⟨rfl, hb⟩
  have HL4 := Lib.hid (HL3.out.trans (hb.mono (Nat.le_of_lt HK3.out.lt)))
  have HG4 := Lib.hid (Nat.le_trans (Nat.le_of_lt HK3.out.lt) hb.size)
  clear hb HK3 HL3 k3 HFo
  by_cases f4 : F = 4
  · subst f4
    rw [if_pos rfl] at HO
    clear HP HPo
    go_wp2_with fail
    go_ret3
    exact ⟨by rw [HO.out]; rfl, by rw [HG.out]; exact HL4.out⟩
  rw [if_neg f4] at HO
  have n4 : (F == 4) = false := by simpa using f4
  by_cases f0 : F = 0
  · subst f0
    rw [if_pos rfl] at HO
    clear HP HPo f4
    go_wp2_with fail
    go_ret3
    exact ⟨by rw [HO.out]; rfl, by rw [HG.out]; exact HL4.out⟩
  rw [if_neg f0] at HO
  have n0 : (F == 0) = false := by simpa using f0
  by_cases c2 : 1 < c
  · rw [if_pos c2] at HO
    have i2 : (1 : Int) < (c : Int) := by omega
    clear HP HPo c2 f4 f0
    go_wp2_with fail
    go_ret3
    exact ⟨by rw [HO.out]; rfl, by rw [HG.out]; exact HL4.out⟩
  rw [if_neg c2] at HO
  have i2 : ¬ (1 : Int) < (c : Int) := by omega
  by_cases f2 : F = 2
  · subst f2
    rw [if_pos rfl] at HO
    clear f4 f0 HP c2
    go_wp2_with fail
    refine (HPo.out w4).mono ?_
    rintro e w5 ⟨rfl, hb⟩
    have HL5 := Lib.hid (HL4.out.trans (hb.mono HG4.out))
    clear hb HPo HL4
    generalize parseS (bs O) = Z at *
    unfold resT
    go_wp2_with fail
    go_ret3
    exact ⟨by rw [HO.out]; rfl, by rw [HG.out]; exact HL5.out⟩
  rw [if_neg f2] at HO
  have n2 : (F == 2) = false := by simpa using f2
  clear f4 f0 f2 HPo
  by_cases c0 : c = 0
  · subst c0
    rw [if_pos rfl] at HO
    clear HP c2
    go_wp2_with fail
    go_ret3
    exact ⟨by rw [HO.out]; rfl, by rw [HG.out]; exact HL4.out⟩
  have m0 : ((c : Int) == 0) = false := by rw [beq_eq_false_iff_ne]; omega
  rw [if_neg c0] at HO
  clear c2 c0
  go_wp2_with fail
  refine (HP.out w4).mono ?_
  rintro e w5 ⟨rfl, hb⟩
  have HL5 := Lib.hid (HL4.out.trans (hb.mono HG4.out))
  clear hb HP HL4
  generalize parseS (bs T) = Z at *
  unfold resT
  go_wp2_with fail
  go_ret3
  exact ⟨by rw [HO.out]; rfl, by rw [HG.out]; exact HL5.out⟩
end Go.Proofs.YtgbhnjkigjecmaaGreatDoor.Au
