/-
  Contracts of package authority's splitBrackets, split, parsePort and Parse over this seat's translation: they answer what bracketS, spS, portS and parseS say.
-/
import Derived.Test.YtgbhnjkigjecmaaGreatDoorQ21
import Derived.Test.YtgbhnjkigjecmaaGreatDoorQ18
import Derived.Test.YtgbhnjkigjecmaaGreatDoorQ22
import Derived.Test.YtgbhnjkigjecmaaGreatDoorQ23
import Derived.Test.YtgbhnjkigjecmaaGreatDoorQ03
namespace Go.Proofs.YtgbhnjkigjecmaaGreatDoor.Au
open Go.RowKit Go.Proofs.YtgbhnjkigjecmaaGreatDoor.Wd Go.Proofs.YtgbhnjkigjecmaaGreatDoor.Asc Go.Proofs.YtgbhnjkigjecmaaGreatDoor.Tx Go.Proofs.YtgbhnjkigjecmaaGreatDoor.St

set_option linter.unusedSimpArgs false in
set_option maxRecDepth 100000 in
set_option maxHeartbeats 4000000 in
theorem brackets_any {B : Nat} (s : ByteArray) (w : World) (hE : Ad.Env B w) (hs : s.size < 4294967281) :
    Calls Tryz.prog 105 #[.string s] w fun e w' => e = .returned (brT (bracketS (bs s))) ∧ Below w.heap.size w w' := by
  have HE := Lib.hid hE
  have HT := Lib.hid (tx_of hE)
  clear hE
  rcases first_of (c := 93) (bs s) with h | ⟨i, r, hm, h⟩
  · have HB := Lib.hid (brack_free h)
    have HC := Lib.hid (cut_not (B := B) (bs s) 93 s w HT.out (str_bs s) hs h)
    rw [HB.out]
    clear h HB
    go_enter Tryz.func105, Tryz.ntmps105
    go_wp2_with fail
    refine HC.out.mono ?_
    rintro e w1 ⟨rfl, hb⟩
    go_wp2_with fail
    go_ret3
    exact ⟨rfl, hb⟩
  · have HC := Lib.hid (cut_yes (B := B) i r 93 s w HT.out (by rw [← hm]; exact str_bs s) hs h)
    have hz : i.length < 4294967281 := by
      have := congrArg List.length hm
      rw [bs_length, List.length_append] at this
      omega
    rw [hm]
    obtain ⟨R, hR⟩ : ∃ R, str r = R := ⟨_, rfl⟩
    obtain ⟨I, hI⟩ : ∃ I, str i = I := ⟨_, rfl⟩
    have HCo := Lib.hid (fun w => has_any I 58 w)
    have hIb : bs I = i := by rw [← hI, bs_str]
    rw [hIb] at HCo
    by_cases h2 : (58 : UInt8) ∈ i
    · rw [decide_eq_true h2] at HCo
      have HPa := Lib.hid (fun w hE => Ad.parse_any (B := B) i w hE hz)
      unfold Ad.AddrPost at HPa
      rw [show Ad.str i = I from hI] at HPa
      rw [hI, hR] at HC
      cases hx : Ad.parseS i with
      | none =>
        have HB := Lib.hid (brack_no (r := r) h hx)
        rw [hx] at HPa
        rw [HB.out]
        obtain ⟨V, hV⟩ : ∃ V : List UInt8, List.replicate 16 0 = V := ⟨_, rfl⟩
        have hV16 : V.length = 16 := by rw [← hV]; rfl
        have HPa2 : Hid (∀ w, Ad.Env B w → Calls Tryz.prog 32 #[.string I] w fun e w' => e = .returned (.tuple #[.agg (Ad.cA V), .bool false]) ∧ Below w.heap.size w w') := Lib.hid (by rw [← hV]; exact HPa.out)
        clear h h2 hx hm hz HB hI hIb hR HPa hV
        go_enter Tryz.func105, Tryz.ntmps105
        go_wp2_with fail
        refine HC.out.mono ?_
        rintro e w1 ⟨rfl, hb⟩
        go_wp2_with fail
        refine (HCo.out _).mono ?_
        rintro e w2 ⟨rfl, rfl⟩
        go_wp2_with fail
        refine (HPa2.out _ (HE.out.on hb)).mono ?_
        rintro e w2 ⟨rfl, hb2⟩
        have HB1 := Lib.hid (hb.trans (hb2.mono hb.size))
        clear hb hb2 HPa2 HCo HC
        go_upto_region 5 with (refine go_st 72 (Blk.new _ _ _) Ad.info16 rfl (by rw [Ad.cA_size, hV16]) (Ad.cA_one _) rfl rfl rfl rfl ?_)
        obtain ⟨_, hbl⟩ := adr_new w2 V
        have HB2 := Lib.hid (HB1.out.trans (hbl.mono HB1.out.size))
        clear hbl HB1
        generalize (w2.alloc (.cells #[Value.int .u8 0, Value.int .u8 0, Value.int .u8 0, Value.int .u8 0, Value.int .u8 0, Value.int .u8 0, Value.int .u8 0, Value.int .u8 0, Value.int .u8 0, Value.int .u8 0, Value.int .u8 0, Value.int .u8 0, Value.int .u8 0, Value.int .u8 0, Value.int .u8 0, Value.int .u8 0] 72)).setRow w2.heap.size (Ad.cA V) = w3 at *
        go_wp2_with fail
        go_ret3
        exact ⟨rfl, HB2.out⟩
      | some a =>
        have HB := Lib.hid (brack_yes (r := r) h h2 hx)
        have ha := Ad.parseS_len hx
        rw [hx] at HPa
        rw [HB.out]
        have HPa2 : Hid (∀ w, Ad.Env B w → Calls Tryz.prog 32 #[.string I] w fun e w' => e = .returned (.tuple #[.agg (Ad.cA a), .bool true]) ∧ Below w.heap.size w w') := Lib.hid HPa.out
        have HPr := Lib.hid (fun w hE => Ad.print_any (B := B) a ha w hE)
        have HR := Lib.hid hR
        clear h h2 hx hm hz HB hI hIb hR HPa
        go_enter Tryz.func105, Tryz.ntmps105
        go_wp2_with fail
        refine HC.out.mono ?_
        rintro e w1 ⟨rfl, hb⟩
        go_wp2_with fail
        refine (HCo.out _).mono ?_
        rintro e w2 ⟨rfl, rfl⟩
        go_wp2_with fail
        refine (HPa2.out _ (HE.out.on hb)).mono ?_
        rintro e w2 ⟨rfl, hb2⟩
        have HB1 := Lib.hid (hb.trans (hb2.mono hb.size))
        clear hb hb2 HPa2 HCo HC
        go_upto_region 5 with (refine go_st 72 (Blk.new _ _ _) Ad.info16 rfl (by rw [Ad.cA_size, ha]) (Ad.cA_one _) rfl rfl rfl rfl ?_)
        obtain ⟨hk, hbl⟩ := adr_new w2 a
        have HB2 := Lib.hid (HB1.out.trans (hbl.mono HB1.out.size))
        have HK := Lib.hid hk
        clear hk hbl HB1
        generalize (w2.alloc (.cells #[Value.int .u8 0, Value.int .u8 0, Value.int .u8 0, Value.int .u8 0, Value.int .u8 0, Value.int .u8 0, Value.int .u8 0, Value.int .u8 0, Value.int .u8 0, Value.int .u8 0, Value.int .u8 0, Value.int .u8 0, Value.int .u8 0, Value.int .u8 0, Value.int .u8 0, Value.int .u8 0] 72)).setRow w2.heap.size (Ad.cA a) = w3 at *
        generalize w2.heap.size = g at *
        have k3 := HK.out
        go_wp2_with (refine go_ld 72 k3 Ad.und16 rfl Ad.info16 (by rw [Ad.cA_size, ha]) rfl rfl rfl ?_)
        refine (HPr.out _ (HE.out.on HB2.out)).mono ?_
        rintro e w4 ⟨rfl, hb4⟩
        have HB4 := Lib.hid (HB2.out.trans (hb4.mono HB2.out.size))
        clear hb4 k3 HK HB2
        go_wp2_with fail
        go_ret3
        refine ⟨?_, HB4.out⟩
        unfold brT
        rw [HR.out]
        rfl
    · rw [decide_eq_false h2] at HCo
      have HB := Lib.hid (brack_dot (r := r) h h2)
      rw [HB.out]
      rw [hI, hR] at HC
      clear h h2 hm hz HB hI hIb hR
      go_enter Tryz.func105, Tryz.ntmps105
      go_wp2_with fail
      refine HC.out.mono ?_
      rintro e w1 ⟨rfl, hb⟩
      go_wp2_with fail
      refine (HCo.out _).mono ?_
      rintro e w2 ⟨rfl, rfl⟩
      go_wp2_with fail
      go_ret3
      exact ⟨rfl, hb⟩

set_option linter.unusedSimpArgs false in
set_option maxRecDepth 100000 in
set_option maxHeartbeats 4000000 in
theorem split_any {B : Nat} (s : ByteArray) (w : World) (hE : Ad.Env B w) (hs : s.size < 4294967281) :
    Calls Tryz.prog 63 #[.string s] w fun e w' => e = .returned (brT (spS (bs s))) ∧ Below w.heap.size w w' := by
  have HE := Lib.hid hE
  have HT := Lib.hid (tx_of hE)
  have HP := Lib.hid (fun w => behind_any s 91 w)
  clear hE
  by_cases c : (bs s).head? = some 91
  · have HS := Lib.hid (sp_brack c)
    rw [decide_eq_true c, if_pos c] at HP
    obtain ⟨F, hF⟩ : ∃ F, str ((bs s).drop 1) = F := ⟨_, rfl⟩
    have hFb : bs F = (bs s).drop 1 := by rw [← hF, bs_str]
    have HBr := Lib.hid (fun w hE => brackets_any (B := B) F w hE (by rw [← bs_length, hFb, List.length_drop, bs_length]; omega))
    rw [hF] at HP
    rw [HS.out, ← hFb]
    generalize bracketS (bs F) = Z at *
    obtain ⟨⟨a, b⟩, z⟩ := Z
    unfold brT at HBr ⊢
    clear HS hF hFb c
    go_enter Tryz.func63, Tryz.ntmps63
    go_wp2_with fail
    refine (HP.out _).mono ?_
    rintro e w1 ⟨rfl, rfl⟩
    go_wp2_with fail
    refine (HBr.out _ HE.out).mono ?_
    rintro e w1 ⟨rfl, hb⟩
    go_wp2_with fail
    go_ret3
    exact ⟨rfl, hb⟩
  · have HS := Lib.hid (sp_plain c)
    rw [decide_eq_false c, if_neg c] at HP
    rw [HS.out]
    clear c HS
    have hcut : ∃ m, Hid (Calls Tryz.prog 52 #[.string s, .string ⟨#[58]⟩] w fun e w' => e = .returned (.tuple #[.string (str ((bs s).takeWhile (· != 58))), .string (str ((bs s).dropWhile (· != 58) |>.drop 1)), .bool m]) ∧ Below w.heap.size w w') := by
      rcases first_of (c := 58) (bs s) with h | ⟨i, r, hm, h⟩
      · refine ⟨false, Lib.hid ?_⟩
        rw [(while_free h).1, (while_free h).2]
        exact cut_not (B := B) (bs s) 58 s w HT.out (str_bs s) hs h
      · refine ⟨true, Lib.hid ?_⟩
        have h1 := while_at (b := r) h
        rw [← hm] at h1
        rw [h1.1, h1.2]
        exact cut_yes (B := B) i r 58 s w HT.out (by rw [← hm]; exact str_bs s) hs h
    obtain ⟨m, HC⟩ := hcut
    have hpre := (List.takeWhile_prefix (l := bs s) (fun x : UInt8 => x != 58)).length_le
    have hcat : bs s = (bs s).takeWhile (· != 58) ++ (bs s).dropWhile (· != 58) := List.takeWhile_append_dropWhile.symm
    generalize (bs s).takeWhile (· != 58) = i at *
    generalize (bs s).dropWhile (· != 58) = r at *
    generalize str (r.drop 1) = R at *
    obtain ⟨I, hI⟩ : ∃ I, str i = I := ⟨_, rfl⟩
    have hIz : I.size = i.length := by rw [← hI, str_size]
    have HX : Hid (s.extract I.size s.size = str r) := Lib.hid (by
      apply bs_inj
      rw [bs_extract, bs_str r, List.take_of_length_le (by rw [List.length_drop, bs_length]; omega), hcat, hIz, List.drop_append_of_le_length (Nat.le_refl _), List.drop_length, List.nil_append])
    rw [bs_length] at hpre
    have h1 : (I.size : Int) ≤ (s.size : Int) := by omega
    have h2 : (0 : Int) ≤ (I.size : Int) := by omega
    have HCl := Lib.hid (fun w => clone_any I w (by omega))
    have HI := Lib.hid hI
    rw [hI] at HC
    clear hcat hpre hI hIz
    go_enter Tryz.func63, Tryz.ntmps63
    go_wp2_with fail
    refine (HP.out _).mono ?_
    rintro e w1 ⟨rfl, rfl⟩
    go_wp2_with fail
    refine HC.out.mono ?_
    rintro e w1 ⟨rfl, hb⟩
    have HB1 := Lib.hid hb
    clear hb HC HP
    go_upto_region 5 with fail
    refine wp_region_held_drew (S := fun _ => True) (by kernel_rfl) trivial (fun h0 => ?_)
    refine hd_take 0 (some 27) (.string I) rfl rfl (by kernel_rfl) (by kernel_rfl) (by kernel_rfl) (fun _ _ _ h => h) (Or.inl ⟨by rfl, fun w hw => by go_simp⟩) h0 ?_
    simp only [Act.put, List.setIfInBounds_toArray, List.set_cons_zero, List.set_cons_succ]
    refine hd_take 2 (some 29) (.string s) rfl rfl (by kernel_rfl) (by kernel_rfl) (by kernel_rfl) (fun _ _ _ h => h) (Or.inl ⟨by rfl, fun w hw => by go_simp⟩) h0 ?_
    simp only [Act.put, List.setIfInBounds_toArray, List.set_cons_zero, List.set_cons_succ]
    refine hd_take 3 (some 30) (.string I) rfl rfl (by kernel_rfl) (by kernel_rfl) (by kernel_rfl) (fun _ _ _ h => h) (Or.inl ⟨by rfl, fun w hw => by go_simp⟩) h0 ?_
    simp only [Act.put, List.setIfInBounds_toArray, List.set_cons_zero, List.set_cons_succ]
    refine hd_take 4 (some 31) (.int .i64 (I.size : Int)) rfl rfl (by kernel_rfl) (by kernel_rfl) (by kernel_rfl) (fun _ _ _ h => h) (Or.inl ⟨by rfl, fun w hw => by go_simp⟩) h0 ?_
    simp only [Act.put, List.setIfInBounds_toArray, List.set_cons_zero, List.set_cons_succ]
    refine hd_take 5 (some 32) (.string (s.extract I.size s.size)) rfl rfl (by kernel_rfl) (by kernel_rfl) (by kernel_rfl) (fun _ _ _ h => h) (Or.inl ⟨by rfl, fun w hw => by go_simp⟩) h0 ?_
    simp only [Act.put, List.setIfInBounds_toArray, List.set_cons_zero, List.set_cons_succ]
    refine wpAnyH_ready (rs := [1]) (by kernel_rfl) (by simp) (AllReadyH.cons rfl (fun K hK => ?_) AllReadyH.nil)
    go_simp
    go_wp2_with (go_at_call 24; refine (HCl.out _).mono ?_; rintro e w2 ⟨rfl, hb2⟩; have HB2 := Lib.hid hb2; clear hb2)
    refine hK.out _ _ trivial (fun h2 => ?_)
    clear hK K
    refine hd_take 6 (some 2) (.string I) rfl rfl (by kernel_rfl) (by kernel_rfl) (by kernel_rfl) (fun _ _ _ h => h) (Or.inl ⟨by rfl, fun w hw => by go_simp⟩) h2 ?_
    simp only [Act.put, List.setIfInBounds_toArray, List.set_cons_zero, List.set_cons_succ]
    refine hd_take 7 (some 3) (.string (s.extract I.size s.size)) rfl rfl (by kernel_rfl) (by kernel_rfl) (by kernel_rfl) (fun _ _ _ h => h) (Or.inl ⟨by rfl, fun w hw => by go_simp⟩) h2 ?_
    simp only [Act.put, List.setIfInBounds_toArray, List.set_cons_zero, List.set_cons_succ]
    refine hd_take 8 (some 4) (.bool true) rfl rfl (by kernel_rfl) (by kernel_rfl) (by kernel_rfl) (fun _ _ _ h => h) (Or.inl ⟨by rfl, fun w hw => by go_simp⟩) h2 ?_
    simp only [Act.put, List.setIfInBounds_toArray, List.set_cons_zero, List.set_cons_succ]
    refine wpAnyH_done (by kernel_rfl) ?_ _
    go_wp2_with fail
    go_ret3
    refine ⟨?_, HB1.out.drew.trans (HB2.out.mono HB1.out.drew.size)⟩
    unfold brT
    rw [HX.out, HI.out]
    rfl

set_option linter.unusedSimpArgs false in
set_option maxRecDepth 100000 in
set_option maxHeartbeats 4000000 in
theorem port_any (s : ByteArray) (w : World) (hs : s.size < 4294967281) :
    Calls Tryz.prog 64 #[.string s] w fun e w' => e = .returned (.tuple #[.int .i64 (portS (bs s)).1, .int .i64 (portS (bs s)).2]) ∧ Below w.heap.size w w' := by
  have hem := empty_is s
  have HP := Lib.hid (fun w => behind_any s 58 w)
  by_cases h0 : bs s = []
  · rw [decide_eq_true h0] at hem
    rw [h0, port_nil]
    clear HP h0
    go_enter Tryz.func64, Tryz.ntmps64
    go_wp2_with fail
    go_ret2
    exact ⟨rfl, Below.refl _ _⟩
  · rw [decide_eq_false h0] at hem
    by_cases c : (bs s).head? = some 58
    · rw [decide_eq_true c, if_pos c] at HP
      obtain ⟨F, hF⟩ : ∃ F, str ((bs s).drop 1) = F := ⟨_, rfl⟩
      have hFb : bs F = (bs s).drop 1 := by rw [← hF, bs_str]
      have hr : bs s = 58 :: bs F := by
        rw [hFb]
        cases hh : bs s with
        | nil => exact absurd hh h0
        | cons x d => rw [hh] at c; simp at c; rw [c]; rfl
      have HN := Lib.hid (fun w => number_any F 65535 w (by unfold maxLen; rw [← bs_length, hFb, List.length_drop, bs_length]; omega))
      rw [hF] at HP
      rw [hr]
      clear h0 c hF hFb hr
      cases hn : numS (bs F) 65535 with
      | none =>
        rw [port_none_num hn]
        rw [hn] at HN
        unfold dTup at HN
        clear hn
        go_enter Tryz.func64, Tryz.ntmps64
        go_wp2_with fail
        refine (HP.out _).mono ?_
        rintro e w1 ⟨rfl, rfl⟩
        go_wp2_with fail
        refine (HN.out _).mono ?_
        rintro e w1 ⟨rfl, hb⟩
        go_wp2_with fail
        go_ret2
        exact ⟨rfl, hb⟩
      | some n =>
        rw [hn] at HN
        unfold dTup at HN
        by_cases c4 : n = 0
        · subst c4
          rw [port_zero hn]
          clear hn
          go_enter Tryz.func64, Tryz.ntmps64
          go_wp2_with fail
          refine (HP.out _).mono ?_
          rintro e w1 ⟨rfl, rfl⟩
          go_wp2_with fail
          refine (HN.out _).mono ?_
          rintro e w1 ⟨rfl, hb⟩
          go_wp2_with fail
          go_ret2
          exact ⟨rfl, hb⟩
        · rw [port_some hn c4]
          have n0 : (n == 0) = false := by rw [beq_eq_false_iff_ne]; exact c4
          clear hn c4
          go_enter Tryz.func64, Tryz.ntmps64
          go_wp2_with fail
          refine (HP.out _).mono ?_
          rintro e w1 ⟨rfl, rfl⟩
          go_wp2_with fail
          refine (HN.out _).mono ?_
          rintro e w1 ⟨rfl, hb⟩
          go_wp2_with fail
          go_ret2
          exact ⟨rfl, hb⟩
    · rw [decide_eq_false c, if_neg c] at HP
      have hf : portS (bs s) = (0, 3) := by
        cases hh : bs s with
        | nil => exact absurd hh h0
        | cons x d => rw [hh] at c; exact port_form (by simpa using c)
      rw [hf]
      clear h0 c hf
      go_enter Tryz.func64, Tryz.ntmps64
      go_wp2_with fail
      refine (HP.out _).mono ?_
      rintro e w1 ⟨rfl, rfl⟩
      go_wp2_with fail
      go_ret2
      exact ⟨rfl, Below.refl _ _⟩

set_option linter.unusedSimpArgs false in
set_option maxRecDepth 100000 in
set_option maxHeartbeats 4000000 in
theorem parse_any {B : Nat} (s : ByteArray) (w : World) (hE : Ad.Env B w) (hs : s.size < 4294967281) :
    Calls Tryz.prog 31 #[.string s] w (ResP (parseS (bs s)) w) := by
  have HE := Lib.hid hE
  have HV := Lib.hid (fun w => visible_any s w)
  have HA := Lib.hid (fun w => has_any s 64 w)
  have HG := Lib.hid (fun w => begins_any s 58 w)
  have hem := empty_is s
  obtain ⟨Q, hQ⟩ : ∃ Q, parseS (bs s) = Q := ⟨_, rfl⟩
  rw [hQ]
  clear hE
  by_cases h0 : bs s = []
  · rw [decide_eq_true h0] at hem
    have HQ : Hid (Q = ([], 0, 8)) := Lib.hid (by rw [← hQ, h0]; exact parse_host host_nil (by decide))
    clear HG HV HA h0 hQ
    go_enter Tryz.func31, Tryz.ntmps31
    go_wp2_with fail
    go_ret3
    exact ⟨by rw [HQ.out]; rfl, Below.refl _ _⟩
  · rw [decide_eq_false h0] at hem
    by_cases c1 : (bs s).head? = some 58
    · rw [decide_eq_true c1] at HG
      have HQ : Hid (Q = ([], 0, 8)) := Lib.hid (by rw [← hQ]; exact parse_host (host_colon c1) (by decide))
      clear HV HA h0 hQ c1
      go_enter Tryz.func31, Tryz.ntmps31
      go_wp2_with fail
      refine (HG.out _).mono ?_
      rintro e w1 ⟨rfl, rfl⟩
      go_wp2_with fail
      go_ret3
      exact ⟨by rw [HQ.out]; rfl, Below.refl _ _⟩
    · rw [decide_eq_false c1] at HG
      by_cases c2 : allS visI (bs s) = false ∨ (64 : UInt8) ∈ bs s
      · have HQ : Hid (Q = ([], 0, 3)) := Lib.hid (by rw [← hQ]; exact parse_host (host_form h0 c1 c2) (by decide))
        have hb : (allS visI (bs s) = false) ∨ decide ((64 : UInt8) ∈ bs s) = true := c2.imp id (fun h => decide_eq_true h)
        generalize decide ((64 : UInt8) ∈ bs s) = b2 at *
        generalize allS visI (bs s) = b1 at *
        clear h0 hQ c1 c2
        cases b1 with
        | false =>
          clear hb HA
          go_enter Tryz.func31, Tryz.ntmps31
          go_wp2_with fail
          refine (HG.out _).mono ?_
          rintro e w1 ⟨rfl, rfl⟩
          go_wp2_with fail
          refine (HV.out _).mono ?_
          rintro e w1 ⟨rfl, hb1⟩
          go_wp2_with fail
          go_ret3
          exact ⟨by rw [HQ.out]; rfl, hb1⟩
        | true =>
          have hb2 : b2 = true := hb.resolve_left (by simp)
          subst hb2
          clear hb
          go_enter Tryz.func31, Tryz.ntmps31
          go_wp2_with fail
          refine (HG.out _).mono ?_
          rintro e w1 ⟨rfl, rfl⟩
          go_wp2_with fail
          refine (HV.out _).mono ?_
          rintro e w1 ⟨rfl, hb1⟩
          go_wp2_with fail
          refine (HA.out _).mono ?_
          rintro e w2 ⟨rfl, rfl⟩
          go_wp2_with fail
          go_ret3
          exact ⟨by rw [HQ.out]; rfl, hb1⟩
      · have hv : allS visI (bs s) = true := by
          cases h : allS visI (bs s) with
          | true => rfl
          | false => exact absurd (.inl h) c2
        have ha : (64 : UInt8) ∉ bs s := fun h => c2 (.inr h)
        have hh := host_sp h0 c1 hv ha
        rw [hv] at HV
        rw [decide_eq_false ha] at HA
        have HS := Lib.hid (fun w hE => split_any (B := B) s w hE hs)
        have hrl := rest_len (bs s)
        have hno := host_none (l := bs s)
        rw [bs_length, hh] at hrl
        rw [hh] at hno
        obtain ⟨x, hx⟩ : ∃ x, spS (bs s) = x := ⟨_, rfl⟩
        obtain ⟨⟨h, r⟩, e⟩ := x
        rw [hx] at HS hrl hno hh
        unfold brT at HS
        simp only at HS hrl hno
        have H3 := Lib.hid (fun hh c => sp_err (l := bs s) (h := h) (r := r) (e := e) hh c h0 c1)
        clear h0 c1 c2 hv ha hx
        obtain ⟨H, hH⟩ : ∃ H, str h = H := ⟨_, rfl⟩
        obtain ⟨R, hR⟩ : ∃ R, str r = R := ⟨_, rfl⟩
        have hRb : bs R = r := by rw [← hR, bs_str]
        have hRz : R.size = r.length := by rw [← hR, str_size]
        rw [hH, hR] at HS
        by_cases c1 : e = 0
        · subst c1
          have HPo := Lib.hid (fun w => port_any R w (by omega))
          rw [hRb] at HPo
          obtain ⟨y, hy⟩ : ∃ y, portS r = y := ⟨_, rfl⟩
          obtain ⟨p, f⟩ := y
          rw [hy] at HPo
          rw [decide_eq_true rfl] at HS
          simp only at HPo
          have HQ : Hid (Q = if f ≠ 0 then ([], 0, f) else (h, p, 0)) := Lib.hid (by
            rw [← hQ]
            split
            · rename_i hf; exact parse_port hh hy hf
            · rename_i hf; exact parse_parts hh (by rw [hy]; simp at hf; rw [hf]))
          clear hno hrl hh hy hQ hR hRb hRz H3
          go_enter Tryz.func31, Tryz.ntmps31
          go_wp2_with fail
          refine (HG.out _).mono ?_
          rintro e w1 ⟨rfl, rfl⟩
          go_wp2_with fail
          refine (HV.out _).mono ?_
          rintro e w1 ⟨rfl, hb1⟩
          go_wp2_with fail
          refine (HA.out _).mono ?_
          rintro e w2 ⟨rfl, rfl⟩
          go_wp2_with fail
          refine (HS.out _ (HE.out.on hb1)).mono ?_
          rintro e w2 ⟨rfl, hb2⟩
          have HB2 := Lib.hid (hb1.trans (hb2.mono hb1.size))
          clear hb1 hb2
          go_wp2_with fail
          refine (HPo.out _).mono ?_
          rintro e w3 ⟨rfl, hb3⟩
          have HB3 := Lib.hid (HB2.out.trans (hb3.mono HB2.out.size))
          clear hb3 HB2 HG HV HA HS HPo
          by_cases hf : f = 0
          · subst hf
            rw [if_neg (by simp)] at HQ
            go_wp2_with fail
            go_ret3
            exact ⟨by rw [HQ.out, ← hH]; rfl, HB3.out⟩
          · rw [if_pos hf] at HQ
            have nf : (f != 0) = true := by simpa using hf
            clear hf
            go_wp2_with fail
            go_ret3
            exact ⟨by rw [HQ.out]; rfl, HB3.out⟩
        · have hn := hno c1
          injection hn with e1 e2
          subst e1 e2
          have hsp : e = 3 := H3.out hh c1
          subst hsp
          have HQ : Hid (Q = ([], 0, 3)) := Lib.hid (by rw [← hQ]; exact parse_host hh c1)
          rw [decide_eq_false c1] at HS
          clear hQ hrl hRb hRz hno c1 hh hH hR
          go_enter Tryz.func31, Tryz.ntmps31
          go_wp2_with fail
          refine (HG.out _).mono ?_
          rintro e w1 ⟨rfl, rfl⟩
          go_wp2_with fail
          refine (HV.out _).mono ?_
          rintro e w1 ⟨rfl, hb1⟩
          go_wp2_with fail
          refine (HA.out _).mono ?_
          rintro e w2 ⟨rfl, rfl⟩
          go_wp2_with fail
          refine (HS.out _ (HE.out.on hb1)).mono ?_
          rintro e w2 ⟨rfl, hb2⟩
          have HB2 := Lib.hid (hb1.trans (hb2.mono hb1.size))
          clear hb1 hb2
          go_wp2_with fail
          go_ret3
          exact ⟨by rw [HQ.out]; rfl, HB2.out⟩
end Go.Proofs.YtgbhnjkigjecmaaGreatDoor.Au
