/-
  Contract of hagioscoperef12's Find over this seat's translation: it answers what findS says.
-/
import Derived.Test.YtgpgkfbbpiialaaGreatDoorFdFind
import Derived.Test.YtgpgkfbbpiialaaGreatDoorRfTok
namespace Go.Proofs.YtgpgkfbbpiialaaGreatDoor.Fd
open Go.RowKit Go.Proofs.YtgpgkfbbpiialaaGreatDoor.Wd Go.Proofs.YtgpgkfbbpiialaaGreatDoor.Asc Go.Proofs.YtgpgkfbbpiialaaGreatDoor.Tx Go.Proofs.YtgpgkfbbpiialaaGreatDoor.St

set_option linter.unusedSimpArgs false in
set_option maxRecDepth 100000 in
set_option maxHeartbeats 4000000 in
theorem rfind_any (l : List Fld) (A : Option Addr) (n cap : Nat) (S : ByteArray) (w : World) (hs : SrcF w A l) (hn : l.length = n) (hm : n ≤ 1000000) (hS : S.size ≤ 140737488355328) :
    Calls Tryz.prog 19 #[.slice A n cap, .string S] w (FindP (findS ((bs S).map lowB) l) w) := by
  obtain ⟨nm, hnm⟩ : ∃ nm, (bs S).map lowB = nm := ⟨_, rfl⟩
  obtain ⟨NM, hNM⟩ : ∃ NM, lowS S = NM := ⟨_, rfl⟩
  have HNM := Lib.hid (show bs NM = nm by rw [← hNM, ← hnm]; rfl)
  have HLo := Lib.hid (fun w => rlowers_any S w hS)
  rw [hNM] at HLo
  rw [hnm]
  have HS := Lib.hid hs
  have HN := Lib.hid hn
  clear hs hn hnm hNM hS
  go_enter Tryz.func19, Tryz.ntmps19
  go_wp2_with fail
  go_loopw [6, 7, 8] (fun x6 x7 x8 wr => ∃ (k c : Nat) (T : ByteArray) (ww : World), ww = wr ∧ k ≤ n ∧ x6 = .string T ∧ x7 = .int .i64 (c : Nat) ∧ x8 = .int .i64 (k : Nat) ∧ Hid (At nm l k T c) ∧ Hid (Below w.heap.size w ww)) (fun _ _ x8 _ => n - (intOf x8).toNat)
  case atStart => exact ⟨0, 0, ⟨#[]⟩, w, rfl, Nat.zero_le _, rfl, rfl, rfl, Lib.hid (At.start nm l), Lib.hid (Below.refl _ _)⟩
  case round =>
    obtain ⟨k, c, T, ww, rfl, hk, rfl, rfl, rfl, HA, HB⟩ := hrel
    have hck := HA.out.le
    by_cases hlt : k < n
    · have hki : (k : Int) < (n : Int) := by omega
      obtain ⟨f, g, o, hf, rfl, hgw, h0, h1⟩ := HS.out.get (k := k) (by rw [HN.out]; exact hlt) HB.out
      have HF := Lib.hid hf
      obtain ⟨X, hX⟩ : ∃ X, str f.name = X := ⟨_, rfl⟩
      obtain ⟨Y, hY⟩ : ∃ Y, str f.text = Y := ⟨_, rfl⟩
      rw [hX] at h0
      rw [hY] at h1
      have HX := Lib.hid (show bs X = f.name by rw [← hX]; rfl)
      have HY := Lib.hid hY
      have hgw2 : g < ww.heap.size := Nat.lt_of_lt_of_le hgw HB.out.size
      have H0 := Lib.hid h0
      have H1 := Lib.hid h1
      clear hf hX hY h0 h1
      go_upto_region 6 with fail
      refine wp_region_held_drew (S := fun w' => w'.cell? ⟨g, o + k * 2, none⟩ = some (.string X)) (by kernel_rfl) H0.out (fun h0 => ?_)
      refine hd_take 0 (some 15) (.slice (some ⟨g, o, none⟩) n cap) rfl rfl (by kernel_rfl) (by kernel_rfl) (by kernel_rfl) (fun _ _ _ h => h) (Or.inl ⟨by rfl, fun w hw => by go_simp⟩) h0 ?_
      simp only [Act.put, List.setIfInBounds_toArray, List.set_cons_zero, List.set_cons_succ]
      refine hd_take 1 (some 16) (.int .i64 (k : Int)) rfl rfl (by kernel_rfl) (by kernel_rfl) (by kernel_rfl) (fun _ _ _ h => h) (Or.inl ⟨by rfl, fun w hw => by go_simp⟩) h0 ?_
      simp only [Act.put, List.setIfInBounds_toArray, List.set_cons_zero, List.set_cons_succ]
      refine hd_take 2 (some 17) (.pointer (some ⟨g, o + k * 2, none⟩)) rfl rfl (by kernel_rfl) (by kernel_rfl) (by kernel_rfl) (fun _ _ _ h => h) (Or.inl ⟨by rfl, fun w hw => by go_simp <;> omega⟩) h0 ?_
      simp only [Act.put, List.setIfInBounds_toArray, List.set_cons_zero, List.set_cons_succ]
      refine hd_take 3 (some 18) (.pointer (some ⟨g, o + k * 2, none⟩)) rfl rfl (by kernel_rfl) (by kernel_rfl) (by kernel_rfl) (fun _ _ _ h => h) (Or.inl ⟨by rfl, fun w hw => by go_simp⟩) h0 ?_
      simp only [Act.put, List.setIfInBounds_toArray, List.set_cons_zero, List.set_cons_succ]
      refine hd_take 4 (some 19) (.string X) rfl rfl (by kernel_rfl) (by kernel_rfl) (by kernel_rfl) (fun _ _ _ h => h) (Or.inl ⟨by rfl, fun w hw => by have h9 := hw; go_simp⟩) h0 ?_
      simp only [Act.put, List.setIfInBounds_toArray, List.set_cons_zero, List.set_cons_succ]
      refine hd_take 5 (some 20) (.string S) rfl rfl (by kernel_rfl) (by kernel_rfl) (by kernel_rfl) (fun _ _ _ h => h) (Or.inl ⟨by rfl, fun w hw => by go_simp⟩) h0 ?_
      simp only [Act.put, List.setIfInBounds_toArray, List.set_cons_zero, List.set_cons_succ]
      refine wpAnyH_ready (rs := [6]) (by kernel_rfl) (by simp) (AllReadyH.cons rfl (fun K hK => ?_) AllReadyH.nil)
      go_simp
      go_wp2_with (go_at_call 34; refine (HLo.out _).mono ?_; rintro e w2 ⟨rfl, hb2⟩; have hd2 : Below ww.heap.size ww w2 := (show Below ww.heap.size ww ww.drew from (Below.refl _ _).drew).trans hb2; have HD2 := Lib.hid hd2; clear hb2 hd2)
      refine hK.out _ _ ((HD2.out.cell (p := ⟨g, o + k * 2, none⟩) hgw2).trans H0.out) (fun h2 => ?_)
      clear hK K
      have HB2 := Lib.hid (HB.out.trans (HD2.out.mono HB.out.size))
      have q1 : w2.cell? ⟨g, o + k * 2 + 1, none⟩ = some (.string Y) := (HD2.out.cell (p := ⟨g, o + k * 2 + 1, none⟩) hgw2).trans H1.out
      clear HB H0 h0
      by_cases hXN : X = NM
      · have HQ := Lib.hid (show f.name = nm by rw [← HX.out, hXN]; exact HNM.out)
        have e1 : (X.toList == NM.toList) = true := by rw [eq_bytes, hXN]; simp
        have e2 : (X.toList != NM.toList) = false := by rw [bne, e1]; rfl
        clear hXN
        refine hd_take 7 (some 22) (.bool false) rfl rfl (by kernel_rfl) (by kernel_rfl) (by kernel_rfl) (fun _ _ _ h => h) (Or.inl ⟨by rfl, fun w hw => by go_simp⟩) h2 ?_
        simp only [Act.put, List.setIfInBounds_toArray, List.set_cons_zero, List.set_cons_succ]
        refine wpAnyH_done (by kernel_rfl) ?_ _
        by_cases hc : c = 0
        · subst hc
          have HA2 := Lib.hid (HA.out.first HF.out HQ.out)
          rw [HY.out] at HA2
          have e3 : (((0 : Nat) : Int) == 0) = true := rfl
          go_wp2_with fail
          go_roundw
          case rel => exact ⟨k + 1, 1, Y, _, rfl, by omega, rfl, rfl, by go_num, HA2, HB2⟩
          case measure => simp [intOf]; omega
        · have HA2 := Lib.hid (HA.out.more HF.out HQ.out hc)
          have e3 : ((c : Int) == 0) = false := by simp; omega
          clear hc
          go_wp2_with fail
          go_roundw
          case rel => exact ⟨k + 1, c + 1, T, _, rfl, by omega, rfl, by go_num, by go_num, HA2, HB2⟩
          case measure => simp [intOf]; omega
      · have HQ := Lib.hid (show f.name ≠ nm by rw [← HX.out, ← HNM.out]; exact fun e => hXN (bs_inj e))
        have e1 : (X.toList == NM.toList) = false := by rw [eq_bytes]; exact decide_eq_false hXN
        have e2 : (X.toList != NM.toList) = true := by rw [bne, e1]; rfl
        have HA2 := Lib.hid (HA.out.miss HF.out HQ.out)
        clear hXN
        refine hd_take 7 (some 22) (.bool true) rfl rfl (by kernel_rfl) (by kernel_rfl) (by kernel_rfl) (fun _ _ _ h => h) (Or.inl ⟨by rfl, fun w hw => by go_simp⟩) h2 ?_
        simp only [Act.put, List.setIfInBounds_toArray, List.set_cons_zero, List.set_cons_succ]
        refine wpAnyH_done (by kernel_rfl) ?_ _
        go_wp2_with fail
        go_roundw
        case rel => exact ⟨k + 1, c, T, _, rfl, by omega, rfl, rfl, by go_num, HA2, HB2⟩
        case measure => simp [intOf]; omega
    · have HR := Lib.hid (HA.out.fin (by rw [HN.out]; omega))
      have hki : ¬ (k : Int) < (n : Int) := by omega
      go_wp2_with fail
      go_ret2
      rw [HR.out]
      exact ⟨by show Ending.returned (.tuple #[.string T, .int .i64 (c : Nat)]) = .returned (.tuple #[.string (str (bs T)), .int .i64 (c : Nat)]); rw [str_bs], HB.out⟩
end Go.Proofs.YtgpgkfbbpiialaaGreatDoor.Fd
