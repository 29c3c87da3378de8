/-
  Contract of hagioscoperef12's Parse over this seat's translation: it answers what parseS says.
-/
import Derived.Test.YtgbhnjkigjecmaaGreatDoorQ20
namespace Go.Proofs.YtgbhnjkigjecmaaGreatDoor.Fd
open Go.RowKit Go.Proofs.YtgbhnjkigjecmaaGreatDoor.Wd Go.Proofs.YtgbhnjkigjecmaaGreatDoor.Asc Go.Proofs.YtgbhnjkigjecmaaGreatDoor.Tx Go.Proofs.YtgbhnjkigjecmaaGreatDoor.St

theorem free_step (S : ByteArray) (k : Nat) (hp : k < S.size) (h : (58 : UInt8) ∉ (bs S).take k) (hc : (((S[k]'hp).toNat : Int) != 58) = true) : (58 : UInt8) ∉ (bs S).take (k + 1) := by
  rw [bs_take S k hp, List.mem_append]
  rintro (h1 | h1)
  · exact h h1
  · rw [List.mem_singleton] at h1
    rw [← h1] at hc
    exact absurd hc (by decide)
theorem col_of (S : ByteArray) (k : Nat) (hp : k < S.size) (hc : (((S[k]'hp).toNat : Int) != 58) = false) : bs S = (bs S).take k ++ 58 :: (bs S).drop (k + 1) := by
  have h1 : S[k]'hp = 58 := by
    apply UInt8.toNat_inj.1
    simp at hc
    show (S[k]'hp).toNat = 58
    omega
  conv => lhs; rw [← List.take_append_drop k (bs S), bs_drop S k hp, h1]

set_option maxRecDepth 100000 in
set_option maxHeartbeats 200000 in
theorem rparse_any (l : List UInt8) (w : World) (hl : l.length ≤ 4294967290) :
    Calls Tryz.prog 22 #[.string (str l)] w (ParP (parseS l) w) := by
  obtain ⟨q, hq⟩ : ∃ q, parseS l = q := ⟨_, rfl⟩
  rw [hq]
  obtain ⟨S, hS⟩ : ∃ S, str l = S := ⟨_, rfl⟩
  have hb : bs S = l := by rw [← hS, bs_str]
  subst hb
  have zS : S.size ≤ 4294967290 := hl
  rw [hS]
  have HQ := Lib.hid hq
  have HL := Lib.hid (fun a b => show (S.extract a b).size ≤ maxLen from Nat.le_trans (size_ext S a b) (by unfold maxLen; omega))
  clear hq hS hl
  go_enter Tryz.func22, Tryz.ntmps22
  go_upto_region 1 with fail
  have H0 := Lib.hid (PaAt.new w)
  generalize (w.alloc (.cells #[.string ⟨#[]⟩, .string ⟨#[]⟩] 45)) = w0 at *
  go_wp2_with fail
  go_loop [4] (fun x => ∃ k : Nat, x = .int .i64 k ∧ k ≤ S.size ∧ (58 : UInt8) ∉ (bs S).take k) (fun x => S.size - (intOf x).toNat)
  case atStart => exact ⟨0, rfl, Nat.zero_le _, by simp⟩
  case round =>
    obtain ⟨k, rfl, hk, ht⟩ := hrel
    have HT := Lib.hid ht
    clear ht
    by_cases hp : k < S.size
    · cases hc : (((S[k]'hp).toNat : Int) != 58)
      · have HC := Lib.hid (col_of S k hp hc)
        have he : ((k : Int) == (S.size : Int)) = false := by simp; omega
        have HA : Hid (bs (S.extract 0 k) = (bs S).take k) := Lib.hid (by rw [bs_extract]; simp)
        have HB : Hid (bs (S.extract (k + 1) S.size) = (bs S).drop (k + 1)) := Lib.hid (by rw [bs_extract, List.take_of_length_le (by rw [List.length_drop, bs_length]; omega)])
        go_wp2_with fail
        refine (rtoken_any _ _ (HL.out _ _)).mono ?_
        rintro e w1 ⟨rfl, hbl⟩
        have H1 := Lib.hid (H0.out.more hbl)
        clear hbl H0
        rw [HA.out]
        have H9 := Lib.hid (fun h => (HQ.out.symm.trans (by rw [congrArg parseS HC.out, parse_at HT.out]; exact parts_no h) : q = (Fld.zero, 9)))
        have H3 := Lib.hid (fun h g => (HQ.out.symm.trans (by rw [congrArg parseS HC.out, parse_at HT.out]; exact parts_bad h g) : q = (Fld.zero, 3)))
        have HY := Lib.hid (fun h g => (HQ.out.symm.trans (by rw [congrArg parseS HC.out, parse_at HT.out]; exact parts_ok h g) : q = (⟨((bs S).take k).map lowB, trimL ((bs S).drop (k + 1))⟩, 0)))
        generalize allS tokI ((bs S).take k) = tk at *
        cases tk with
        | false =>
          have HF := Lib.hid (H9.out (by trivial))
          clear H9 H3 HY
          have hk0 := H1.out.ob.cell 0
          have hk1 := H1.out.ob.cell 1
          have hf0 := H1.out.ob.frozen 0
          have hf1 := H1.out.ob.frozen 1
          go_wp2_with fail
          obtain ⟨hbk, hbe⟩ := H1.out.set (.string ⟨#[]⟩) (.string ⟨#[]⟩)
          refine ret_two Tryz.results22 hbk undF rfl infF rfl rfl rfl ?_ rfl
          exact ret_fd HF.out rfl hbe
        | true =>
          go_wp2_with fail
          refine (text_any _ _ (HL.out _ _)).mono ?_
          rintro e w1' ⟨rfl, rfl⟩
          rw [HB.out]
          generalize ((bs S).drop (k + 1)).any ctlB = ct at *
          cases ct with
          | true =>
            have HF := Lib.hid (H3.out (by trivial) (by trivial))
            clear H9 H3 HY
            have hk0 := H1.out.ob.cell 0
            have hk1 := H1.out.ob.cell 1
            have hf0 := H1.out.ob.frozen 0
            have hf1 := H1.out.ob.frozen 1
            go_wp2_with fail
            obtain ⟨hbk, hbe⟩ := H1.out.set (.string ⟨#[]⟩) (.string ⟨#[]⟩)
            refine ret_two Tryz.results22 hbk undF rfl infF rfl rfl rfl ?_ rfl
            exact ret_fd HF.out rfl hbe
          | false =>
            have HF := Lib.hid (HY.out (by trivial) (by trivial))
            have HNm := Lib.hid (show lowS (S.extract 0 k) = str (((bs S).take k).map lowB) by rw [← HA.out]; rfl)
            have HTx := Lib.hid (show trimS (S.extract (k + 1) S.size) = str (trimL ((bs S).drop (k + 1))) by rw [← HB.out]; rfl)
            have z1 : (S.extract 0 k).size ≤ 140737488355328 := Nat.le_trans (size_ext S _ _) (by omega)
            have z2 : (S.extract (k + 1) S.size).size ≤ 140737488355328 := Nat.le_trans (size_ext S _ _) (by omega)
            have K4 := Lib.hid (fun w => rlowers_any (S.extract 0 k) w z1)
            have K5 := Lib.hid (fun w => rtrim_any (S.extract (k + 1) S.size) w z2)
            generalize lowS (S.extract 0 k) = L at *
            generalize trimS (S.extract (k + 1) S.size) = T at *
            clear H9 H3 HY z1 z2
            go_upto_region 10 with fail
            refine wp_region_held_drew (S := fun _ => True) (by kernel_rfl) trivial (fun h0 => ?_)
            refine hd_take 0 (some 40) (.string S) rfl rfl (by kernel_rfl) (by kernel_rfl) (by kernel_rfl) (fun _ _ _ h => h) (Or.inl ⟨by rfl, fun w hw => by go_simp⟩) h0 ?_
            simp only [Act.put, List.setIfInBounds_toArray, List.set_cons_zero, List.set_cons_succ]
            refine hd_take 1 (some 41) (.int .i64 (k : Int)) rfl rfl (by kernel_rfl) (by kernel_rfl) (by kernel_rfl) (fun _ _ _ h => h) (Or.inl ⟨by rfl, fun w hw => by go_simp⟩) h0 ?_
            simp only [Act.put, List.setIfInBounds_toArray, List.set_cons_zero, List.set_cons_succ]
            refine hd_take 2 (some 42) (.string (S.extract 0 k)) rfl rfl (by kernel_rfl) (by kernel_rfl) (by kernel_rfl) (fun _ _ _ h => h) (Or.inl ⟨by rfl, fun w hw => by go_simp <;> omega⟩) h0 ?_
            simp only [Act.put, List.setIfInBounds_toArray, List.set_cons_zero, List.set_cons_succ]
            refine hd_take 4 (some 44) (.string S) rfl rfl (by kernel_rfl) (by kernel_rfl) (by kernel_rfl) (fun _ _ _ h => h) (Or.inl ⟨by rfl, fun w hw => by go_simp⟩) h0 ?_
            simp only [Act.put, List.setIfInBounds_toArray, List.set_cons_zero, List.set_cons_succ]
            refine hd_take 5 (some 45) (.int .i64 (k : Int)) rfl rfl (by kernel_rfl) (by kernel_rfl) (by kernel_rfl) (fun _ _ _ h => h) (Or.inl ⟨by rfl, fun w hw => by go_simp⟩) h0 ?_
            simp only [Act.put, List.setIfInBounds_toArray, List.set_cons_zero, List.set_cons_succ]
            refine hd_take 6 (some 46) (.int .i64 ((k + 1 : Nat) : Int)) rfl rfl (by kernel_rfl) (by kernel_rfl) (by kernel_rfl) (fun _ _ _ h => h) (Or.inl ⟨by rfl, fun w hw => by go_simp <;> (first | exact IntWalk.i64_in _ (by omega) | (rw [IntWalk.i64_in _ (by omega)]; omega))⟩) h0 ?_
            simp only [Act.put, List.setIfInBounds_toArray, List.set_cons_zero, List.set_cons_succ]
            refine hd_take 7 (some 47) (.string (S.extract (k + 1) S.size)) rfl rfl (by kernel_rfl) (by kernel_rfl) (by kernel_rfl) (fun _ _ _ h => h) (Or.inl ⟨by rfl, fun w hw => by go_simp <;> omega⟩) h0 ?_
            simp only [Act.put, List.setIfInBounds_toArray, List.set_cons_zero, List.set_cons_succ]
            refine wpAnyH_ready (rs := [3]) (by kernel_rfl) (by simp) (AllReadyH.cons rfl (fun K hK => ?_) AllReadyH.nil)
            go_simp
            go_wp2_with (go_at_call 45; refine (K4.out _).mono ?_; rintro e w4 ⟨rfl, hb4⟩; have H4 := Lib.hid (PaAt.more (wx := w1.drew) ⟨H1.out.ob, H1.out.bel.drew⟩ hb4); clear hb4)
            refine hK.out _ _ trivial (fun h2 => ?_)
            clear hK K
            refine wpAnyH_ready (rs := [8]) (by kernel_rfl) (by simp) (AllReadyH.cons rfl (fun K hK => ?_) AllReadyH.nil)
            go_simp
            go_wp2_with (go_at_call 46; refine (K5.out _).mono ?_; rintro e w5 ⟨rfl, rfl⟩)
            refine hK.out _ _ trivial (fun h3 => ?_)
            clear hK K
            refine hd_take 9 (some 49) (.agg #[.string L, .string T]) rfl rfl (by kernel_rfl) (by kernel_rfl) (by kernel_rfl) (fun _ _ _ h => h) (Or.inl ⟨by rfl, fun w hw => by go_simp⟩) h3 ?_
            simp only [Act.put, List.setIfInBounds_toArray, List.set_cons_zero, List.set_cons_succ]
            refine wpAnyH_ready (rs := [10]) (by kernel_rfl) (by simp) (AllReadyH.cons rfl (fun K hK => ?_) AllReadyH.nil)
            have hk0 := H4.out.ob.cell 0
            have hk1 := H4.out.ob.cell 1
            have hf0 := H4.out.ob.frozen 0
            have hf1 := H4.out.ob.frozen 1
            go_simp
            refine hK.out _ _ trivial (fun h4 => ?_)
            clear hK K
            refine hd_take 11 (some 3) (.int .i64 0) rfl rfl (by kernel_rfl) (by kernel_rfl) (by kernel_rfl) (fun _ _ _ h => h) (Or.inl ⟨by rfl, fun w hw => by go_simp⟩) h4 ?_
            simp only [Act.put, List.setIfInBounds_toArray, List.set_cons_zero, List.set_cons_succ]
            refine wpAnyH_done (by kernel_rfl) ?_ _
            go_wp2_with fail
            obtain ⟨hbk, hbe⟩ := H4.out.set (.string L) (.string T)
            refine ret_two Tryz.results22 hbk undF rfl infF rfl rfl rfl ?_ rfl
            exact ret_fd HF.out (by rw [HNm.out, HTx.out]; rfl) hbe
      · have HN := Lib.hid (free_step S k hp HT.out hc)
        go_wp2_with fail
        go_round
        case rel => exact ⟨k + 1, by go_num, hp, HN.out⟩
        case measure => simp [intOf]; omega
    · have HF : Hid (q = (Fld.zero, 9)) := Lib.hid (by
        rw [← HQ.out]
        apply parse_free
        have := HT.out
        rwa [List.take_of_length_le (by rw [bs_length]; omega)] at this)
      obtain rfl : k = S.size := by omega
      have he : ((S.size : Int) == (S.size : Int)) = true := by simp
      go_wp2_with fail
      refine (rtoken_any S _ (by unfold maxLen; omega)).mono ?_
      rintro e w1 ⟨rfl, hbl⟩
      have H1 := Lib.hid (H0.out.more hbl)
      clear hbl H0
      generalize allS tokI _ = tk
      have hk0 := H1.out.ob.cell 0
      have hk1 := H1.out.ob.cell 1
      have hf0 := H1.out.ob.frozen 0
      have hf1 := H1.out.ob.frozen 1
      go_wp2_with fail
      obtain ⟨hbk, hbe⟩ := H1.out.set (.string ⟨#[]⟩) (.string ⟨#[]⟩)
      refine ret_two Tryz.results22 hbk undF rfl infF rfl rfl rfl ?_ rfl
      exact ret_fd HF.out rfl hbe
end Go.Proofs.YtgbhnjkigjecmaaGreatDoor.Fd
