/-
  NameLabels: labels, turned again, with dots between, are the name, and each is short; else the small case comes out right. Conditions: none beyond the statement's own.
-/
import Derived.Test.YtdofipjjodijcaaDoorNmSmall
import Derived.Test.YtdofipjjodijcaaDoorLiftLaid5
import Derived.Test.YtdofipjjodijcaaDoorCards
import Derived.Test.YtdofipjjodijcaaDoorTie
set_option maxRecDepth 100000
namespace Go.Proofs.YtdofipjjodijcaaDoor.nameLabels
open Go.ChangeMaps (open_string shut_string)
open Go.ChangeShapes Go.WideShapes Go.ChangeAt Go.RowKit Go.Proofs.YtdofipjjodijcaaDoor.Wd Go.Proofs.YtdofipjjodijcaaDoor.Asc Go.Proofs.YtdofipjjodijcaaDoor.Ad Go.Proofs.YtdofipjjodijcaaDoor.Nm Go.Proofs.YtdofipjjodijcaaDoor.Lift

theorem join_tail (p : List UInt8) (L : List (List UInt8)) : (joinD L).length ≤ (joinD (p :: L)).length := by
  cases L with
  | nil => exact Nat.zero_le _
  | cons q r => rw [join_cons (p := p) (L := q :: r) (by simp), List.length_append, List.length_cons]; omega
theorem join_head (p : List UInt8) (L : List (List UInt8)) : p.length ≤ (joinD (p :: L)).length := by
  cases L with
  | nil => exact Nat.le_refl _
  | cons q r => rw [join_cons (p := p) (L := q :: r) (by simp), List.length_append]; omega
theorem join_drop : ∀ (L : List (List UInt8)) (j : Nat), (joinD (L.drop j)).length ≤ (joinD L).length
  | L, 0 => Nat.le_refl _
  | [], j + 1 => by simp
  | p :: L, j + 1 => Nat.le_trans (join_drop L j) (join_tail p L)

set_option linter.unusedSimpArgs false in
set_option maxHeartbeats 16000000 in
theorem walk (W : World) (S : ByteArray) (hS0 : S.size ≤ maxLen) (hE : Ad.Env W.heap.size W) :
    Calls Tryd.prog 4 #[.string S] W fun e w' => e = .returned (.bool true) ∧ Below W.heap.size W w' := by
  have sS : S.size ≤ 9223372036854775807 := hS0
  have HE := Lib.hid hE
  have HS := Lib.hid (small_any W hE)
  clear hE hS0
  go_enter Tryd.func4, Tryd.ntmps4
  go_wp2_with fail
  refine HS.out.mono ?_
  rintro e w1 ⟨rfl, hb⟩
  have HL1 := Lib.hid hb
  clear hb HS
  by_cases h1 : 600 < S.size
  · have i1 : (600 : Int) < (S.size : Int) := by omega
    go_wp2_with fail
    go_ret
    exact ⟨rfl, HL1.out⟩
  have i1 : ¬ (600 : Int) < (S.size : Int) := by omega
  have hs : S.size ≤ 600 := by omega
  obtain ⟨q, hq⟩ : ∃ q, normalS (bs S) = q := ⟨_, rfl⟩
  obtain ⟨n, e⟩ := q
  obtain ⟨N, hN⟩ : ∃ N, str n = N := ⟨_, rfl⟩
  have hNb : bs N = n := by rw [← hN]; rfl
  have HN := Lib.hid (fun w hE => norm_at (B := W.heap.size) S (by omega) n e N hq hN w hE)
  by_cases he : e = 0
  case neg =>
    have hn : n = [] := by have h := normal_no (l := bs S) (by rw [hq]; exact he); rw [hq] at h; exact h
    have f1 : (e != 0) = true := by rw [bne_iff_ne]; exact he
    have f2 : decide (e = 0) = false := decide_eq_false he
    have f3 : (e == 0) = false := by rw [beq_eq_false_iff_ne]; exact he
    obtain ⟨f4, f5⟩ := is_empty (T := N) (by rw [hNb]; exact hn)
    clear hq hN hNb hn he h1 hs
    go_wp2_with fail
    refine (HN.out w1 (HE.out.below HL1.out)).mono ?_
    rintro e' w2 ⟨rfl, hb⟩
    have HL2 := Lib.hid (HL1.out.trans (hb.mono HL1.out.size))
    clear hb HN HL1
    go_wp2_with fail
    go_ret
    exact ⟨rfl, HL2.out⟩
  subst he
  have hnl := normal_len hq
  have hNz : N.size ≤ 253 := by rw [← bs_length, hNb]; exact hnl.2
  have hnN : normalS (bs N) = (n, 0) := by rw [hNb]; exact normal_again hq
  have HLa := Lib.hid (fun w hE => labels_any (B := W.heap.size) N w hE (by omega))
  rw [hNb] at HLa
  obtain ⟨V, hV, hVa, hP⟩ := parse_at (B := W.heap.size) N (by omega) _ rfl
  clear hVa
  rw [hNb] at hP
  obtain ⟨b, hb0⟩ : ∃ b, (Ad.parseS n).isSome = b := ⟨_, rfl⟩
  have hrow : ∃ L : List (List UInt8), labelsS n = L.reverse ∧ joinD L = n ∧ L.length ≤ 254 ∧ ∀ p ∈ L, 1 ≤ p.length ∧ (p.length ≤ 63 ∨ b = true) := by
    rcases labels_of hq with ⟨a1, a2⟩ | ⟨a1, a2, a3⟩
    · refine ⟨[n], a2, rfl, by simp, fun p hp => ?_⟩
      rw [List.mem_singleton.1 hp]
      exact ⟨List.length_pos_iff.2 hnl.1, .inr (by rw [← hb0]; exact a1)⟩
    · exact ⟨splitS 46 n, a2, join_split n, Nat.le_trans (spl_len 46 n) (by have := hnl.2; omega), fun p hp => ⟨(a3 p hp).1, .inl (a3 p hp).2⟩⟩
  rw [hb0] at hP
  obtain ⟨L, hL, hJ, hL9, hF⟩ := hrow
  obtain ⟨m, hm⟩ : ∃ m, L.length = m := ⟨_, rfl⟩
  have hm9 : m ≤ 254 := by rw [← hm]; exact hL9
  clear hL9
  rw [hL] at HLa
  have hJl : ∀ j, (joinD (L.drop j)).length ≤ 253 := fun j => Nat.le_trans (join_drop L j) (by rw [hJ]; exact hnl.2)
  have HP := Lib.hid hP
  have HF := Lib.hid hF
  have HM := Lib.hid hm
  have HJl := Lib.hid hJl
  have HJ : Hid (str (joinD (L.drop 0)) = N) := Lib.hid (by rw [List.drop_zero, hJ]; exact hN)
  have fN : (N.toList == N.toList) = true := beq_self_eq_true _
  clear hq hN hNb hnl hnN hP hL hJ hF hm hJl hb0 h1
  go_wp2_with fail
  refine (HN.out w1 (HE.out.below HL1.out)).mono ?_
  rintro e' w2 ⟨rfl, hb⟩
  have HL2 := Lib.hid (HL1.out.trans (hb.mono HL1.out.size))
  clear hb HN HL1
  go_wp2_with fail
  refine (HLa.out w2 (HE.out.below HL2.out)).mono ?_
  rintro e' w3 ⟨v, rfl, hr, hb⟩
  obtain ⟨g, c, rfl, hc, hg, hcell⟩ := hr
  rw [List.length_reverse, HM.out]
  have HL3 := Lib.hid (HL2.out.trans (hb.mono HL2.out.size))
  have HC := Lib.hid hcell
  have hG : W.heap.size ≤ w3.heap.size := HL3.out.size
  have HG := Lib.hid hG
  clear hb hcell hc HLa HL2 hG
  go_wp2_with fail
  go_loopw [7, 8] (fun t i wr => ∃ (k : Nat) (T : ByteArray), k ≤ m ∧ i = .int .i64 (k : Int) ∧ t = .string T ∧ T.size ≤ 253 ∧ Hid (bs T = joinD (L.drop (m - k))) ∧ Hid (Below w3.heap.size w3 wr)) (fun _ i _ => m - (intOf i).toNat)
  case atStart => exact ⟨0, ⟨#[]⟩, Nat.zero_le _, rfl, rfl, by decide, Lib.hid (by rw [Nat.sub_zero, List.drop_of_length_le (by rw [HM.out]; exact Nat.le_refl _)]; rfl), Lib.hid (Below.refl _ _)⟩
  case round =>
    obtain ⟨k, T, hk, rfl, rfl, hTz, HT, HBk⟩ := hrel
    have HLk := Lib.hid (HL3.out.trans (HBk.out.mono HG.out))
    by_cases hlt : k < m
    · obtain ⟨p, hp⟩ : ∃ p, L.reverse[k]? = some p := ⟨_, List.getElem?_eq_getElem (by rw [List.length_reverse, HM.out]; exact hlt)⟩
      have hq : L[m - 1 - k]? = some p := by rw [rev_at HM.out hlt]; exact hp
      obtain ⟨hp1, hp2⟩ := HF.out p (List.mem_of_getElem? hq)
      obtain ⟨P, hP⟩ : ∃ P, str p = P := ⟨_, rfl⟩
      have hPb : bs P = p := by rw [← hP]; rfl
      have hcl : wr.cell? ⟨g, k, none⟩ = some (.string P) := by rw [HBk.out.cell (p := ⟨g, k, none⟩) hg, ← hP]; exact HC.out k p hp
      have hdr : L.drop (m - 1 - k) = p :: L.drop (m - k) := by
        rw [List.drop_eq_getElem_cons (by rw [HM.out]; omega), (List.getElem_eq_iff (h := by rw [HM.out]; omega)).2 hq, show m - 1 - k + 1 = m - k by omega]
      have hPz : P.size ≤ 253 := by
        have h := HJl.out (m - 1 - k)
        rw [hdr] at h
        rw [← bs_length, hPb]
        exact Nat.le_trans (join_head _ _) h
      have hki : (k : Int) < (m : Int) := by omega
      have Hp := Lib.hid hp
      have HPe : Hid (P = str p) := Lib.hid hP.symm
      obtain ⟨T2, hT2⟩ : ∃ T2 : ByteArray, T2 = if k = 0 then P ++ T else P ++ (⟨#[46]⟩ ++ T) := ⟨_, rfl⟩
      have hT2b : bs T2 = joinD (L.drop (m - (k + 1))) := by
        rw [show m - (k + 1) = m - 1 - k by omega, hdr, hT2]
        by_cases h0 : k = 0
        · subst h0
          have hd : L.drop (m - 0) = [] := List.drop_of_length_le (by rw [HM.out]; exact Nat.le_refl _)
          have ht := HT.out
          rw [hd] at ht ⊢
          rw [if_pos rfl, bs_add, ht, hPb]
          exact List.append_nil _
        · have hd : L.drop (m - k) ≠ [] := by
            intro h
            have := congrArg List.length h
            rw [List.length_drop, HM.out] at this
            simp at this
            omega
          rw [if_neg h0, bs_add, bs_add, HT.out, hPb, join_cons hd]
          rfl
      have hT2z : T2.size ≤ 253 := by rw [← bs_length, hT2b]; exact HJl.out _
      have HT2 := Lib.hid hT2b
      have i2 : decide ((P.size : Int) < 1) = false := decide_eq_false (by have : 1 ≤ P.size := (by rw [← bs_length, hPb]; exact hp1); omega)
      have hp3 : 63 < P.size → b = true := fun h => by
        rcases hp2 with h2 | h2
        · rw [← hPb, bs_length] at h2; omega
        · exact h2
      have HPk := Lib.hid HP.out
      have HTe := Lib.hid hT2
      clear hp hq hp1 hp2 hP hPb hdr hT2b hT2 hcl
      go_wp2_with fail
      refine (HPk.out wr (HE.out.below HLk.out)).mono ?_
      rintro e' w5 ⟨rfl, hb⟩
      have Lp := Lib.hid (HBk.out.trans (hb.mono HBk.out.size))
      clear hb HPk HLk
      go_upto_region 13 with (refine St.go_st 28 (Blk.new _ _ _) Ad.info16 rfl (by rw [Ad.cA_size, hV]) (Ad.cA_one _) rfl rfl rfl rfl ?_)
      obtain ⟨_, hbl⟩ := adr_new w5 V
      have HB6 := Lib.hid (Lp.out.trans (hbl.mono Lp.out.size))
      clear hbl Lp
      generalize (w5.alloc (.cells #[Value.int .u8 0, Value.int .u8 0, Value.int .u8 0, Value.int .u8 0, Value.int .u8 0, Value.int .u8 0, Value.int .u8 0, Value.int .u8 0, Value.int .u8 0, Value.int .u8 0, Value.int .u8 0, Value.int .u8 0, Value.int .u8 0, Value.int .u8 0, Value.int .u8 0, Value.int .u8 0] 28)).setRow w5.heap.size (Ad.cA V) = w6 at *
      have hcl : w6.cell? ⟨g, k, none⟩ = some (.string P) := by rw [HB6.out.cell (p := ⟨g, k, none⟩) hg, HPe.out]; exact HC.out k p Hp.out
      by_cases a : 63 < P.size
      · have hbt := hp3 a
        subst hbt
        have i3 : decide ((63 : Int) < (P.size : Int)) = true := decide_eq_true (by omega)
        clear hp3 a
        by_cases h0 : k = 0
        · have i4 : ¬ (0 : Int) < (k : Int) := by omega
          have i5 : ¬ 0 < k := by omega
          have hTk : P ++ T = T2 := by rw [HTe.out, if_pos h0]
          have HTk := Lib.hid hTk
          clear h0 hTk
          go_wp2_with fail
          rw [HTk.out]
          go_roundw
          case rel => exact ⟨k + 1, T2, hlt, by go_num, rfl, hT2z, HT2, HB6⟩
          case measure => simp [intOf]; omega
        · have i4 : (0 : Int) < (k : Int) := by omega
          have i5 : 0 < k := by omega
          have hTk : P ++ (⟨#[46]⟩ ++ T) = T2 := by rw [HTe.out, if_neg h0]
          have HTk := Lib.hid hTk
          clear h0 hTk
          go_wp2_with fail
          rw [HTk.out]
          go_roundw
          case rel => exact ⟨k + 1, T2, hlt, by go_num, rfl, hT2z, HT2, HB6⟩
          case measure => simp [intOf]; omega
      · have i3 : decide ((63 : Int) < (P.size : Int)) = false := decide_eq_false (by omega)
        clear hp3 a
        by_cases h0 : k = 0
        · have i4 : ¬ (0 : Int) < (k : Int) := by omega
          have i5 : ¬ 0 < k := by omega
          have hTk : P ++ T = T2 := by rw [HTe.out, if_pos h0]
          have HTk := Lib.hid hTk
          clear h0 hTk
          go_wp2_with fail
          rw [HTk.out]
          go_roundw
          case rel => exact ⟨k + 1, T2, hlt, by go_num, rfl, hT2z, HT2, HB6⟩
          case measure => simp [intOf]; omega
        · have i4 : (0 : Int) < (k : Int) := by omega
          have i5 : 0 < k := by omega
          have hTk : P ++ (⟨#[46]⟩ ++ T) = T2 := by rw [HTe.out, if_neg h0]
          have HTk := Lib.hid hTk
          clear h0 hTk
          go_wp2_with fail
          rw [HTk.out]
          go_roundw
          case rel => exact ⟨k + 1, T2, hlt, by go_num, rfl, hT2z, HT2, HB6⟩
          case measure => simp [intOf]; omega
    · obtain rfl : k = m := by omega
      have hTN : T = N := by
        rw [← HJ.out, ← str_bs T, HT.out, Nat.sub_self]
      subst hTN
      go_wp2_with fail
      go_ret
      exact ⟨rfl, HLk.out⟩

set_option maxRecDepth 100000 in
set_option linter.unusedVariables false in
theorem lifted (os : Os) (started : os.Started) (H : Type) (enc : TypeId × Value → H) :
    ReturnsInHanded {} Tryd.checked os 4 .any (fun w args => (Rows.nameLabelsSpec.pre enc Tryd.prog Tryd.f4 [] false w args ∧ laidMetH Tryd.prog laid5 w) ∧ sizedMet enc Tryd.prog Tryd.f4 (OpenSpec.ofChange Rows.nameLabelsSpec) false w args)
      (Rows.nameLabelsSpec.post enc Tryd.prog Tryd.f4 false true false false) := by
  refine returns_laid (C := Tryd.checked) (X := fun w _ => laidMetH Tryd.prog laid5 w) (fun _ _ _ hh h => h.of_heap hh) own started (by kernel_rfl) Tryd.func4
    (ChangeSpec.witness_shaped (enc := enc) (C := Tryd.checked) (os := os) (X := fun w _ => laidMetH Tryd.prog laid5 w) false (World.laidAll Tryd.prog os laid5) #[.string .empty] 8 (World.laidAll_os _ _ _)
      (World.shaped_of_ZipB (by kernel_rfl) (by kernel_rfl)) (by kernel_rfl) (by kernel_rfl) (by kernel_rfl) (door_met5 os _)) ?_
  intro W base args ds gs before hval0 hW hL hshp
  have hE := env_of5 hL hshp
  have hval : ∀ (j : Nat) t v, Tryd.f4.params[j]? = some t → args[j]? = some v → Value.okWide Tryd.prog W .any base t v := hval0
  have hW' := hW
  obtain ⟨p, q, hA0, hV, rfl, hfz, hnd⟩ := hW
  have hA : DataW.TrodAll enc Tryd.prog W 0 (fun _ => true) true Tryd.f4.params.toList args.toList ds p := hA0
  rw [Tryd.params4] at hA hval
  obtain ⟨v0, vs0, d0, ds0, p0, q0, hargs, rfl, rfl, h0, r0⟩ := trodAll_cons hA
  obtain ⟨rfl, rfl, rfl⟩ := trodAll_nil r0
  obtain rfl : args = #[v0] := by cases args; simp_all
  obtain ⟨rfl, rfl⟩ := trodVars_none hV
  have k0 := h0
  have lt0 : ∀ x ∈ p0, x.block < W.heap.size := by obtain ⟨m, hm⟩ := k0; exact DataW.trod_lt m _ _ _ hm
  obtain ⟨s0, rfl, rfl, rfl, hs0⟩ := open_string Tryd.underlying9 (hval 0 9 v0 rfl rfl) h0
  clear hA0 hval0
  refine (walk W s0 hs0 hE).mono fun e W' ⟨he, bel⟩ => ?_
  subst he
  exact ⟨_, rfl, _, _, _, [], _, [], hW', trodAll_mk1 (shut_bool Tryd.underlying4 _), (trodAll_cons_mk (Below.trod Lift.laidOut (by kernel_rfl) (of_decide_eq_true (by kernel_rfl)) k0 bel lt0) trodAll_mk0), rfl, bel.frame _, fun h => by cases h⟩

theorem over : Rows.nameLabelsRow.holds Tryd.pinned (OpenSpec.ofChange Rows.nameLabelsSpec) :=
  OpenClaim.holds_of_wide 4 Tryd.f4 rfl rfl rfl rfl rfl rfl rfl ⟨rfl, rfl, rfl, rfl, rfl⟩ rfl rfl rfl rfl rfl (by kernel_rfl) Tryd.func4 (by kernel_rfl)
    (of_decide_eq_true (by kernel_rfl)) (by unfold Func.isWrapper; first | (rw [if_pos (by decide +kernel)]; kernel_rfl) | (rw [if_neg (by decide +kernel)]; exact ⟨rfl, rfl⟩))
    (fun os started H enc _ => lifted os started H enc)

theorem proved : Rows.NameLabelsCardSaid :=
  Claim7.holds_tied_plain_at .later [] [.data, .data, .data, .data, .pinned] true (true, "449e5db609fe44d1ca4a7c747dab489d97c37c91738f9d421f8cf2ac4b3a7664") false
    over (fun _ h => by cases h) (by kernel_rfl) (fun _ h => by cases h) nameLabels_row_tie rfl ⟨rfl, rfl⟩ (by kernel_rfl) rfl
    (fun f fn hf hfn => by
      obtain rfl : f = 4 := Option.some.inj ((show Tryd.prog.funcNamed "hagioscope/hagioscopelaw14.NameLabels" = some 4 by kernel_rfl).symm.trans hf) |>.symm
      obtain rfl : fn = Tryd.f4 := (Option.some.inj (Tryd.func4.symm.trans hfn)).symm
      exact ⟨by kernel_rfl, fun j t ht => by
        rw [Tryd.params4] at ht
        have hm : t ∈ [9] := by simpa using Array.mem_of_getElem? ht
        have hall : ([9].all fun u => !Tryd.prog.wantsStandIn u) = true := by kernel_rfl
        exact (show Tryd.prog.wantsStandIn t = false by simpa using List.all_eq_true.1 hall t hm)⟩)
    (by kernel_rfl)
#print axioms proved
end Go.Proofs.YtdofipjjodijcaaDoor.nameLabels
