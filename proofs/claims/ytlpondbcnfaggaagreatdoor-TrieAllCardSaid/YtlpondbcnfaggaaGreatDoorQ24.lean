/-
  Contracts of hagioscoperef18's Matches and weight over this seat's translation: they answer what matchB and weightP say.
-/
import Derived.Test.YtlpondbcnfaggaaGreatDoorQ23
import Derived.Test.YtlpondbcnfaggaaGreatDoorQ12
namespace Go.Proofs.YtlpondbcnfaggaaGreatDoor.Tr
open Go.RowKit Go.Proofs.YtlpondbcnfaggaaGreatDoor.Wd Go.Proofs.YtlpondbcnfaggaaGreatDoor.Asc Go.Proofs.YtlpondbcnfaggaaGreatDoor.Tx Go.Proofs.YtlpondbcnfaggaaGreatDoor.St

theorem byte_46 (a : UInt8) : ((a.toNat : Int) == 46) = decide (a = 46) := by
  rw [Bool.eq_iff_iff, beq_iff_eq, decide_eq_true_eq]
  exact ⟨fun h => UInt8.toNat.inj (by show a.toNat = 46; omega), fun h => by rw [h]; rfl⟩
/-- cut's answer, its kind one of four -/
theorem rcut_at (s : ByteArray) (hs : s.size ≤ 2147483640) : ∃ (K : Nat) (N : ByteArray), cutP (bs s) = (K, bs N) ∧ (K = 0 ∨ K = 1 ∨ K = 2 ∨ K = 3) ∧ N.size ≤ s.size ∧
    ∀ w, Calls Tryz.prog 37 #[.string s] w fun e w' => e = .returned (.tuple #[.int .i64 (K : Nat), .string N]) ∧ Below w.heap.size w w' := by
  refine ⟨(cutP (bs s)).1, str (cutP (bs s)).2, rfl, ?_, ?_, fun w => rcutp_any s w hs⟩
  · rcases cut_cases (bs s) with ⟨_, c⟩ | ⟨n, _, _, _, _, c⟩ | ⟨_, _, c⟩ | c <;> rw [c] <;> simp
  · rw [str_size, ← bs_length s]
    rcases cut_cases (bs s) with ⟨_, c⟩ | ⟨n, e, _, _, _, c⟩ | ⟨_, _, c⟩ | c <;> rw [c]
    · exact Nat.zero_le _
    · rw [e]; simp only [List.length_cons]; omega
    · exact Nat.le_refl _
    · exact Nat.zero_le _
set_option linter.unusedSimpArgs false in
set_option maxRecDepth 100000 in
set_option maxHeartbeats 8000000 in
theorem rmatch_any (p h : ByteArray) (w : World) (hp : p.size ≤ 2147483640) (hh : h.size ≤ 2147483640) :
    Calls Tryz.prog 17 #[.string p, .string h] w fun e w' => e = .returned (.bool (matchB (bs p) (bs h))) ∧ Below w.heap.size w w' := by
  obtain ⟨K, N, hc, hK, hN, hC⟩ := rcut_at p hp
  have HC := Lib.hid hC
  clear hC
  rcases hK with rfl | rfl | rfl | rfl
  · have HM : Hid (matchB (bs p) (bs h) = true) := Lib.hid (by unfold matchB; rw [hc]; rfl)
    clear hc hp hh hN
    go_enter Tryz.func17, Tryz.ntmps17
    go_wp2_with fail
    refine (HC.out _).mono ?_
    rintro e w2 ⟨rfl, hb⟩
    have HB := Lib.hid hb
    clear hb HC
    go_wp2_with fail
    go_ret
    exact ⟨by rw [HM.out]; rfl, HB.out⟩
  · have HM : Hid (matchB (bs p) (bs h) = endB (bs N) (bs h)) := Lib.hid (by unfold matchB; rw [hc]; rfl)
    by_cases h1 : N.size < h.size
    · obtain ⟨a, m, ha, hm⟩ : ∃ a m, h.size - N.size = m ∧ m = a + 1 := ⟨h.size - N.size - 1, _, rfl, by omega⟩
      have i0 : (h.size : Int) - (N.size : Int) = (m : Int) := by omega
      have i1 : (0 : Int) < (m : Int) := by omega
      have i2 : (m : Int) ≤ (h.size : Int) := by omega
      have i3 : (m : Int) - 1 = (a : Int) := by omega
      have i4 : m ≤ h.size := by omega
      have hal : a < h.size := by omega
      have q1 := is_str (h.extract m h.size) N
      have e1 : bs (h.extract m h.size) = (bs h).drop m := by
        rw [bs_extract, List.take_of_length_le]
        rw [List.length_drop, bs_length]; omega
      rw [e1] at q1
      have q2 : (((h[a]'hal).toNat : Int) == 46) = decide ((bs h)[a]? = some 46) := by
        rw [byte_46, List.getElem?_eq_getElem (by rw [bs_length]; exact hal), bs_get h a hal]
        simp
      have HE : Hid (endB (bs N) (bs h) = (decide ((bs h).drop m = bs N) && decide ((bs h)[a]? = some 46))) := Lib.hid (by
        unfold endB
        rw [bs_length, bs_length, ha, decide_eq_true h1, Bool.true_and, hm]
        rfl)
      clear hc hp hN ha h1 e1 hm
      cases hd1 : decide ((bs h).drop m = bs N)
      · rw [hd1] at q1 HE
        clear hd1 q2
        go_enter Tryz.func17, Tryz.ntmps17
        go_wp2_with fail
        refine (HC.out _).mono ?_
        rintro e w2 ⟨rfl, hb⟩
        have HB := Lib.hid hb
        clear hb HC
        go_wp2_with fail
        go_ret
        exact ⟨by rw [HM.out, HE.out]; rfl, HB.out⟩
      · rw [hd1] at q1 HE
        obtain ⟨b, hb0⟩ : ∃ b, decide ((bs h)[a]? = some 46) = b := ⟨_, rfl⟩
        rw [hb0] at q2 HE
        clear hd1 hb0
        go_enter Tryz.func17, Tryz.ntmps17
        go_wp2_with fail
        refine (HC.out _).mono ?_
        rintro e w2 ⟨rfl, hb⟩
        have HB := Lib.hid hb
        clear hb HC
        go_wp2_with fail
        go_ret
        exact ⟨by rw [HM.out, HE.out]; rfl, HB.out⟩
    · obtain ⟨d, hd⟩ : ∃ d : Int, (h.size : Int) - (N.size : Int) = d := ⟨_, rfl⟩
      have i0 : ¬ (0 : Int) < d := by omega
      have i1 : -4294967296 < d := by omega
      have HE : Hid (endB (bs N) (bs h) = false) := Lib.hid (by
        unfold endB
        rw [bs_length, bs_length, decide_eq_false h1]
        rfl)
      clear hc hp hh hN h1
      have hd2 := hd
      go_enter Tryz.func17, Tryz.ntmps17
      go_wp2_with fail
      refine (HC.out _).mono ?_
      rintro e w2 ⟨rfl, hb⟩
      have HB := Lib.hid hb
      clear hb HC
      go_wp2_with fail
      go_ret
      exact ⟨by rw [HM.out, HE.out]; rfl, HB.out⟩
  · have HM : Hid (matchB (bs p) (bs h) = decide (bs h = bs N)) := Lib.hid (by unfold matchB; rw [hc]; rfl)
    have q1 := is_str h N
    obtain ⟨b, hb0⟩ : ∃ b, decide (bs h = bs N) = b := ⟨_, rfl⟩
    rw [hb0] at q1 HM
    clear hc hp hh hN hb0
    go_enter Tryz.func17, Tryz.ntmps17
    go_wp2_with fail
    refine (HC.out _).mono ?_
    rintro e w2 ⟨rfl, hb⟩
    have HB := Lib.hid hb
    clear hb HC
    go_wp2_with fail
    go_ret
    exact ⟨by rw [HM.out]; rfl, HB.out⟩
  · have HM : Hid (matchB (bs p) (bs h) = false) := Lib.hid (by unfold matchB; rw [hc]; rfl)
    clear hc hp hh hN
    go_enter Tryz.func17, Tryz.ntmps17
    go_wp2_with fail
    refine (HC.out _).mono ?_
    rintro e w2 ⟨rfl, hb⟩
    have HB := Lib.hid hb
    clear hb HC
    go_wp2_with fail
    go_ret
    exact ⟨by rw [HM.out]; rfl, HB.out⟩
set_option linter.unusedSimpArgs false in
set_option maxRecDepth 100000 in
set_option maxHeartbeats 8000000 in
theorem rweight_any (s : ByteArray) (w : World) (hs : s.size ≤ 2147483640) :
    Calls Tryz.prog 82 #[.string s] w fun e w' => e = .returned (.int .i64 (weightP (bs s) : Nat)) ∧ Below w.heap.size w w' := by
  obtain ⟨K, N, hc, hK, hN, hC⟩ := rcut_at s hs
  have HC := Lib.hid hC
  clear hC
  by_cases h0 : K = 0
  · subst h0
    have HM : Hid (weightP (bs s) = 0) := Lib.hid (by unfold weightP; rw [hc]; rfl)
    clear hc hs hN hK
    go_enter Tryz.func82, Tryz.ntmps82
    go_wp2_with fail
    refine (HC.out _).mono ?_
    rintro e w2 ⟨rfl, hb⟩
    have HB := Lib.hid hb
    clear hb HC
    go_wp2_with fail
    go_ret
    exact ⟨by rw [HM.out]; rfl, HB.out⟩
  · obtain ⟨L, hL⟩ : ∃ L, Nm.labelsS (bs N) = L := ⟨_, rfl⟩
    obtain ⟨n, hn⟩ : ∃ n, L.length = n := ⟨_, rfl⟩
    have HM : Hid (weightP (bs s) = 2 * n + K - 1) := Lib.hid (by unfold weightP; rw [hc]; show (if K = 0 then 0 else 2 * (Nm.labelsS (bs N)).length + K - 1) = _; rw [if_neg h0, hL, hn])
    have HL : Hid (∀ w, Calls Tryz.prog 122 #[.string N] w fun e w' => ∃ v, e = .returned v ∧ Nm.RowL w' v L ∧ Below w.heap.size w w') := Lib.hid (fun w => by rw [← hL]; exact Nm.rlabels_any N w (by omega))
    have hK3 : 1 ≤ K ∧ K ≤ 3 := by omega
    have hn9 : n ≤ 2147483641 := by
      rw [← hn, ← hL]
      unfold Nm.labelsS
      split
      · exact (by decide : 1 ≤ 2147483641)
      · have := Nm.spl_len 46 (bs N)
        rw [List.length_reverse]
        rw [bs_length] at this
        omega
    have q0 : ((K : Int) == 0) = false := by rw [beq_eq_false_iff_ne]; omega
    have HN := Lib.hid hn
    have HK := Lib.hid hK3
    clear hc hs hN hK h0 hL hn hK3
    go_enter Tryz.func82, Tryz.ntmps82
    go_wp2_with fail
    refine (HC.out _).mono ?_
    rintro e w2 ⟨rfl, hb⟩
    have HB := Lib.hid hb
    clear hb HC
    have hK4 := HK.out
    go_wp2_with (go_at_call 122; refine (HL.out _).mono ?_; rintro e w4 ⟨v, rfl, hr, hb4⟩; obtain ⟨g, c, rfl, _, _, _⟩ := hr; rw [HN.out]; have HB4 := Lib.hid (HB.out.trans (hb4.mono HB.out.size)); clear hb4)
    go_ret
    have h9 := HK.out
    exact ⟨by rw [HM.out, show ((2 * n + K - 1 : Nat) : Int) = 2 * (n : Int) + (K : Int) - 1 by omega]; rfl, HB4.out⟩
end Go.Proofs.YtlpondbcnfaggaaGreatDoor.Tr

/-
  Contract of hagioscoperef02's Visible over this seat's translation (XRefAsc's, for seats without the rest).
-/
namespace Go.Proofs.YtlpondbcnfaggaaGreatDoor.Asc
open Go.RowKit Go.Proofs.YtlpondbcnfaggaaGreatDoor.Wd

set_option maxHeartbeats 1000000 in
theorem rvisible_any (s : ByteArray) (w : World) (hs : s.size ≤ maxLen) :
    Calls Tryz.prog 38 #[.string s] w fun e w' => e = .returned (.bool (allS visI (bs s))) ∧ w = w' := by
  unfold maxLen at hs
  go_enter Tryz.func38, Tryz.ntmps38
  go_wp2
  go_loop [3] (fun x => ∃ k : Nat, x = .int .i64 k ∧ k ≤ s.size ∧ ((bs s).take k).all (fun c => visI (c.toNat : Int)) = true) (fun x => s.size - (intOf x).toNat)
  case atStart => exact ⟨0, rfl, Nat.zero_le _, rfl⟩
  case round =>
    obtain ⟨k, rfl, hk, ht⟩ := hrel
    have HT := Lib.hid ht
    clear ht
    by_cases hlt : k < s.size
    · by_cases c1 : ((s[k]'hlt).toNat : Int) < 33
      · go_wp2
        go_ret
        exact ⟨ret_b (allS_no visI s k hlt (by simp [visI]; omega)).symm, rfl⟩
      · by_cases c2 : 126 < ((s[k]'hlt).toNat : Int)
        · go_wp2
          go_ret
          exact ⟨ret_b (allS_no visI s k hlt (by simp [visI]; omega)).symm, rfl⟩
        · go_wp2
          go_round
          case rel => exact ⟨k + 1, by go_num, hlt, take_all visI s k hlt HT.out (by simp [visI]; omega)⟩
          case measure => simp [intOf]; omega
    · go_wp2
      go_ret
      exact ⟨ret_b (allS_nil visI s k hlt hk HT.out), rfl⟩

end Go.Proofs.YtlpondbcnfaggaaGreatDoor.Asc

/-
  Contracts of hagioscoperef18's Right, Less, Counts over this seat's translation: they answer what rightS, lt and countB say.
-/
namespace Go.Proofs.YtlpondbcnfaggaaGreatDoor.Tr
open Go.RowKit Go.Proofs.YtlpondbcnfaggaaGreatDoor.Wd Go.Proofs.YtlpondbcnfaggaaGreatDoor.Asc Go.Proofs.YtlpondbcnfaggaaGreatDoor.Tx Go.Proofs.YtlpondbcnfaggaaGreatDoor.St

/-- a rule boxed: its cells, one by one -/
theorem ru_box (w : World) (a : Bool) (p : Int) (PA : ByteArray) (o : Int) (AP : ByteArray) : ∃ w2, w.alloc (.cells #[.bool a, .int .i64 p, .string PA, .int .i64 o, .string AP] 23) = w2 ∧ w.heap.size < w2.heap.size ∧ Below w.heap.size w w2 ∧
    w2.cell? ⟨w.heap.size, 0, none⟩ = some (.bool a) ∧ w2.cell? ⟨w.heap.size, 1, none⟩ = some (.int .i64 p) ∧ w2.cell? ⟨w.heap.size, 2, none⟩ = some (.string PA) ∧ w2.cell? ⟨w.heap.size, 3, none⟩ = some (.int .i64 o) ∧ w2.cell? ⟨w.heap.size, 4, none⟩ = some (.string AP) := by
  have b := Blk.new w 23 #[.bool a, .int .i64 p, .string PA, .int .i64 o, .string AP]
  exact ⟨_, rfl, b.lt, (Below.refl _ _).alloc (Nat.le_refl _) _, b.cell 0, b.cell 1, b.cell 2, b.cell 3, b.cell 4⟩
set_option linter.unusedSimpArgs false in
set_option maxRecDepth 100000 in
set_option maxHeartbeats 8000000 in
theorem rright_any (r : Ru) (w : World) (h1 : r.pa.length ≤ 2147483640) (h2 : r.ap.length ≤ 2147483640) :
    Calls Tryz.prog 15 #[.agg (ruC r)] w fun e w' => e = .returned (.int .i64 (rightS r)) ∧ Below w.heap.size w w' := by
  obtain ⟨al, pr, pa, po, ap⟩ := r
  obtain ⟨PA, hPA⟩ : ∃ A, str pa = A := ⟨_, rfl⟩
  obtain ⟨AP, hAP⟩ : ∃ A, str ap = A := ⟨_, rfl⟩
  have hpa : bs PA = pa := by rw [← hPA, bs_str]
  have hap : bs AP = ap := by rw [← hAP, bs_str]
  have z1 : PA.size ≤ 2147483640 := by rw [← bs_length, hpa]; exact h1
  have z2 : AP.size ≤ 2147483640 := by rw [← bs_length, hap]; exact h2
  obtain ⟨K, N, hc, hK, _, hC⟩ := rcut_at PA z1
  have HC := Lib.hid hC
  obtain ⟨v, hv⟩ : ∃ v, allS visI (bs AP) = v := ⟨_, rfl⟩
  have HV : Hid (∀ w, Calls Tryz.prog 38 #[.string AP] w fun e w' => e = .returned (.bool v) ∧ w = w') := Lib.hid (fun w => by rw [← hv]; exact rvisible_any AP w (by unfold maxLen; omega))
  have HM : Hid (rightS ⟨al, pr, pa, po, ap⟩ = if pr < -1000 ∨ 1000 < pr then 1 else if K = 3 then 9 else if po < 0 ∨ 65535 < po then 10 else if (bs AP ≠ [] ∧ v = false) ∨ 255 < AP.size then 1 else 0) := Lib.hid (by
    unfold rightS
    simp only
    rw [← hpa, hc, ← hap, hv, bs_length])
  have e4 := is_lit AP []
  have hA : ruC ⟨al, pr, pa, po, ap⟩ = #[.bool al, .int .i64 pr, .string PA, .int .i64 po, .string AP] := by rw [← hPA, ← hAP]; rfl
  rw [hA]
  clear hA hPA hAP hpa hap hc hC hv h1 h2
  go_enter Tryz.func15, Tryz.ntmps15
  go_upto_region 1 with fail
  obtain ⟨w2, hw2, hlt, hbel, c0, c1, c2, c3, c4⟩ := ru_box w al pr PA po AP
  rw [hw2]
  generalize hG : w.heap.size = G at *
  have HG := Lib.hid hG
  have HB2 := Lib.hid hbel
  clear hw2 hbel hG c0
  have H1 := Lib.hid c1
  have H3 := Lib.hid c3
  have H4 := Lib.hid c4
  go_wp2_with fail
  refine (HC.out _).mono ?_
  rintro e w3 ⟨rfl, hb⟩
  clear c1 c2 c3 c4 HC
  have c1 := (hb.cell (p := ⟨G, 1, none⟩) hlt).trans H1.out
  have c3 := (hb.cell (p := ⟨G, 3, none⟩) hlt).trans H3.out
  have c4 := (hb.cell (p := ⟨G, 4, none⟩) hlt).trans H4.out
  have HB := Lib.hid (HB2.out.trans (hb.mono (Nat.le_of_lt hlt)))
  clear hb H1 H3 H4 HB2 hlt
  have hM := HM.out
  by_cases p1 : pr < -1000
  · have HQ := Lib.hid (hM.trans (if_pos (.inl p1)))
    clear hM e4
    clear HM
    go_wp2_with (go_at_call 38; refine (HV.out _).mono ?_; rintro e w4 ⟨rfl, rfl⟩)
    go_ret
    exact ⟨by rw [HQ.out]; rfl, by rw [HG.out]; exact HB.out⟩
  by_cases p2 : 1000 < pr
  · have HQ := Lib.hid (hM.trans (if_pos (.inr p2)))
    clear hM e4
    clear HM
    go_wp2_with (go_at_call 38; refine (HV.out _).mono ?_; rintro e w4 ⟨rfl, rfl⟩)
    go_ret
    exact ⟨by rw [HQ.out]; rfl, by rw [HG.out]; exact HB.out⟩
  rw [if_neg (by omega)] at hM
  by_cases p3 : K = 3
  · have HQ := Lib.hid (hM.trans (if_pos p3))
    have q3 : ((K : Int) == 3) = true := by rw [beq_iff_eq]; omega
    clear hM e4 p3 hK
    clear HM
    go_wp2_with (go_at_call 38; refine (HV.out _).mono ?_; rintro e w4 ⟨rfl, rfl⟩)
    go_ret
    exact ⟨by rw [HQ.out]; rfl, by rw [HG.out]; exact HB.out⟩
  rw [if_neg p3] at hM
  have q3 : ((K : Int) == 3) = false := by rw [beq_eq_false_iff_ne]; omega
  clear p3 hK
  by_cases p4 : po < 0
  · have HQ := Lib.hid (hM.trans (if_pos (.inl p4)))
    clear hM e4
    clear HM
    go_wp2_with (go_at_call 38; refine (HV.out _).mono ?_; rintro e w4 ⟨rfl, rfl⟩)
    go_ret
    exact ⟨by rw [HQ.out]; rfl, by rw [HG.out]; exact HB.out⟩
  by_cases p5 : 65535 < po
  · have HQ := Lib.hid (hM.trans (if_pos (.inr p5)))
    clear hM e4
    clear HM
    go_wp2_with (go_at_call 38; refine (HV.out _).mono ?_; rintro e w4 ⟨rfl, rfl⟩)
    go_ret
    exact ⟨by rw [HQ.out]; rfl, by rw [HG.out]; exact HB.out⟩
  rw [if_neg (by omega)] at hM
  have q6 : ∀ h : 255 < AP.size, (255 : Int) < (AP.size : Int) := fun h => by omega
  have q7 : ∀ h : ¬ 255 < AP.size, ¬ (255 : Int) < (AP.size : Int) := fun h => by omega
  by_cases p6 : bs AP = []
  · have e5 : (AP.toList != []) = false := by rw [bne, e4, decide_eq_true p6]; rfl
    rw [decide_eq_true p6] at e4
    by_cases p7 : 255 < AP.size
    · have HQ := Lib.hid (hM.trans (if_pos (.inr p7)))
      have i7 := q6 p7
      clear hM p6 p7 q6 q7
      clear HM
      go_wp2_with (go_at_call 38; refine (HV.out _).mono ?_; rintro e w4 ⟨rfl, rfl⟩)
      go_ret
      exact ⟨by rw [HQ.out]; rfl, by rw [HG.out]; exact HB.out⟩
    · have HQ := Lib.hid (hM.trans (if_neg (by rintro (⟨h, _⟩ | h); exact h p6; exact p7 h)))
      have i7 := q7 p7
      clear hM p6 p7 q6 q7
      clear HM
      go_wp2_with (go_at_call 38; refine (HV.out _).mono ?_; rintro e w4 ⟨rfl, rfl⟩)
      go_ret
      exact ⟨by rw [HQ.out]; rfl, by rw [HG.out]; exact HB.out⟩
  have e5 : (AP.toList != []) = true := by rw [bne, e4, decide_eq_false p6]; rfl
  rw [decide_eq_false p6] at e4
  cases v
  · have HQ := Lib.hid (hM.trans (if_pos (.inl ⟨p6, rfl⟩)))
    clear hM p6 q6 q7
    clear HM
    go_wp2_with (go_at_call 38; refine (HV.out _).mono ?_; rintro e w4 ⟨rfl, rfl⟩)
    go_ret
    exact ⟨by rw [HQ.out]; rfl, by rw [HG.out]; exact HB.out⟩
  · by_cases p7 : 255 < AP.size
    · have HQ := Lib.hid (hM.trans (if_pos (.inr p7)))
      have i7 := q6 p7
      clear hM p6 p7 q6 q7
      clear HM
      go_wp2_with (go_at_call 38; refine (HV.out _).mono ?_; rintro e w4 ⟨rfl, rfl⟩)
      go_ret
      exact ⟨by rw [HQ.out]; rfl, by rw [HG.out]; exact HB.out⟩
    · have HQ := Lib.hid (hM.trans (if_neg (by rintro (⟨_, h⟩ | h); cases h; exact p7 h)))
      have i7 := q7 p7
      clear hM p6 p7 q6 q7
      clear HM
      go_wp2_with (go_at_call 38; refine (HV.out _).mono ?_; rintro e w4 ⟨rfl, rfl⟩)
      go_ret
      exact ⟨by rw [HQ.out]; rfl, by rw [HG.out]; exact HB.out⟩
end Go.Proofs.YtlpondbcnfaggaaGreatDoor.Tr
