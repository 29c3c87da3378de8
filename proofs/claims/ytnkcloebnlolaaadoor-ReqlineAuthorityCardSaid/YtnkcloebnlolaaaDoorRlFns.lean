/-
  Contracts of package reqline's minorOf and Parse over this seat's translation.
-/
import Derived.Test.YtnkcloebnlolaaaDoorRlRef
import Derived.Test.YtnkcloebnlolaaaDoorTxEnv
import Derived.Test.YtnkcloebnlolaaaDoorClone
namespace Go.Proofs.YtnkcloebnlolaaaDoor.Rl
open Go.RowKit Go.Proofs.YtnkcloebnlolaaaDoor.Wd Go.Proofs.YtnkcloebnlolaaaDoor.Asc Go.Proofs.YtnkcloebnlolaaaDoor.Tx Go.Proofs.YtnkcloebnlolaaaDoor.St

/-- what minorOf answers -/
def minT (m : Option Int) : Value := .tuple #[.int .i64 (m.getD 0), .bool m.isSome]
theorem minor_any (c : List UInt8) (C : ByteArray) (hC : str c = C) (w : World) :
    Calls Tryd.prog 24 #[.string C] w fun e w' => e = .returned (minT (minorS c)) ∧ w = w' := by
  by_cases e0 : c = v1 ++ [48]
  · have hc0 : (C.toList == [72, 84, 84, 80, 47, 49, 46, 48]) = true := by rw [← hC, lit_beq, e0]; rfl
    have HF := Lib.hid (show minorS c = some 0 by rw [minorS, if_pos e0])
    clear e0 hC
    go_enter Tryd.func24, Tryd.ntmps24
    go_wp2
    go_ret2
    rw [HF.out]
    exact ⟨rfl, rfl⟩
  · have hc0 : (C.toList == [72, 84, 84, 80, 47, 49, 46, 48]) = false := by rw [← hC, lit_beq]; exact decide_eq_false e0
    by_cases e1 : c = v1 ++ [49]
    · have hc1 : (C.toList == [72, 84, 84, 80, 47, 49, 46, 49]) = true := by rw [← hC, lit_beq, e1]; rfl
      have HF := Lib.hid (show minorS c = some 1 by rw [minorS, if_neg e0, if_pos e1])
      clear e0 e1 hC
      go_enter Tryd.func24, Tryd.ntmps24
      go_wp2
      go_ret2
      rw [HF.out]
      exact ⟨rfl, rfl⟩
    · have hc1 : (C.toList == [72, 84, 84, 80, 47, 49, 46, 49]) = false := by rw [← hC, lit_beq]; exact decide_eq_false e1
      have HF := Lib.hid (show minorS c = none by rw [minorS, if_neg e0, if_neg e1])
      clear e0 e1 hC
      go_enter Tryd.func24, Tryd.ntmps24
      go_wp2
      go_ret2
      rw [HF.out]
      exact ⟨rfl, rfl⟩

set_option maxRecDepth 100000 in
set_option maxHeartbeats 4000000 in
theorem parse_any {N : Nat} (l : List UInt8) (w : World) (hE : Env N w) (hl : l.length < 4294967281) :
    Calls Tryd.prog 14 #[.string (str l)] w (ParP (parseS l) w) := by
  obtain ⟨q, hq⟩ : ∃ q, parseS l = q := ⟨_, rfl⟩
  rw [hq]
  have HQ := Lib.hid hq
  have HE := Lib.hid hE
  clear hq hE
  by_cases h2 : l.count 32 = 2
  · obtain ⟨a, b, c, rfl, fa, fb, fc⟩ := three h2
    have HP : Hid (partsS a b c = q) := Lib.hid (by rw [← HQ.out]; exact (parse_three fa fb fc).symm)
    have la : a.length ≤ 4294967280 := by simp at hl; omega
    have lb : b.length ≤ 4294967280 := by simp at hl; omega
    have lr : (b ++ 32 :: c).length < 4294967281 := by simp at hl ⊢; omega
    obtain ⟨A, hA⟩ : ∃ A, str a = A := ⟨_, rfl⟩
    obtain ⟨B, hB⟩ : ∃ B, str b = B := ⟨_, rfl⟩
    obtain ⟨C, hC⟩ : ∃ C, str c = C := ⟨_, rfl⟩
    obtain ⟨R, hR⟩ : ∃ R, str (b ++ 32 :: c) = R := ⟨_, rfl⟩
    obtain ⟨S, hS⟩ : ∃ S, str (a ++ 32 :: (b ++ 32 :: c)) = S := ⟨_, rfl⟩
    have zA : A.size = a.length := by rw [← hA, str_size]
    have zB : B.size = b.length := by rw [← hB, str_size]
    have zR : R.size < 4294967281 := by rw [← hR, str_size]; exact lr
    have zS : S.size < 4294967281 := by rw [← hS, str_size]; exact hl
    have hx : partsS a b c = if allS tokI a = false ∨ 32 < A.size then (Rq.zero, (11 : Int)) else if allS visI b = false then (Rq.zero, 3) else if 8000 < B.size then (Rq.zero, 6) else match minorS c with | none => (Rq.zero, 5) | some k => (⟨a, b, k⟩, 0) := by rw [zA, zB]; rfl
    rw [hx] at HP
    have K0 := Lib.hid (show ((bs S).count 32 : Nat) = 2 from by rw [← hS]; exact h2)
    have K1 := Lib.hid (fun w hE => cut_yes (B := N) a (b ++ 32 :: c) 32 S w hE hS zS fa)
    have K2 := Lib.hid (fun w hE => cut_yes (B := N) b c 32 R w hE hR zR fb)
    have K3 := Lib.hid (minor_any c C hC)
    have K4 := Lib.hid (token_any A)
    have K5 := Lib.hid (visible_any B)
    rw [show bs A = a by rw [← hA, bs_str]] at K4
    rw [show bs B = b by rw [← hB, bs_str]] at K5
    rw [hA, hR] at K1
    rw [hB, hC] at K2
    generalize allS tokI a = tk at *
    generalize allS visI b = vs at *
    obtain ⟨mi, hmi⟩ : ∃ mi, minorS c = mi := ⟨_, rfl⟩
    rw [hmi] at K3 HP
    have sA : A.size ≤ 4294967280 := by omega
    have sB : B.size ≤ 4294967280 := by omega
    have HA := Lib.hid hA
    have HB := Lib.hid hB
    clear h2 HQ hl fa fb fc la lb lr zA zB zR zS hx hA hB hC hR hmi
    rw [hS]
    clear hS
    go_enter Tryd.func14, Tryd.ntmps14
    go_upto_region 1 with fail
    have H0 := Lib.hid (PaAt.new w)
    generalize (w.alloc (.cells #[.string ⟨#[]⟩, .string ⟨#[]⟩, .int .i64 0] 23)) = w0 at *
    go_wp2_with fail
    refine (count_any S 32 w0).mono ?_
    rintro e w0' ⟨rfl, rfl⟩
    rw [K0.out]
    go_wp2_with fail
    refine (K1.out w0 (HE.out.on H0.out.bel)).mono ?_
    rintro e w1 ⟨rfl, hbl⟩
    have H1 := Lib.hid (H0.out.more hbl)
    clear K0 K1 hbl H0
    go_wp2_with fail
    refine (K2.out w1 (HE.out.on H1.out.bel)).mono ?_
    rintro e w2 ⟨rfl, hbl⟩
    have H2 := Lib.hid (H1.out.more hbl)
    clear K2 hbl H1
    go_wp2_with fail
    refine (K3.out w2).mono ?_
    rintro e w2' ⟨rfl, rfl⟩
    clear K3
    have HX : Hid (minT mi = .tuple #[.int .i64 (mi.getD 0), .bool mi.isSome]) := Lib.hid rfl
    rw [HX.out]
    have HN : Hid (mi.isSome = false → mi = none) := Lib.hid (fun h => by cases mi <;> first | rfl | cases h)
    have HY : Hid (mi.isSome = true → mi = some (mi.getD 0)) := Lib.hid (match mi with | none => fun h => by cases h | some _ => fun _ => rfl)
    generalize mi.isSome = kn at *
    generalize mi.getD 0 = k at *
    clear HX
    go_wp2_with fail
    refine (K4.out w2).mono ?_
    rintro e w3 ⟨rfl, hbl⟩
    have H3 := Lib.hid (H2.out.more hbl)
    clear K4 hbl H2
    cases tk with
    | false =>
      have HF : Hid (q = (Rq.zero, 11)) := Lib.hid (by rw [← HP.out, if_pos (.inl rfl)])
      have hk0 := H3.out.ob.cell 0
      have hk1 := H3.out.ob.cell 1
      have hk2 := H3.out.ob.cell 2
      have hf0 := H3.out.ob.frozen 0
      have hf1 := H3.out.ob.frozen 1
      have hf2 := H3.out.ob.frozen 2
      go_wp2_with fail
      obtain ⟨hbk, hbe⟩ := H3.out.set (.string ⟨#[]⟩) (.string ⟨#[]⟩) (.int .i64 0)
      refine ret_two Tryd.results14 hbk undR rfl infR rfl rfl rfl ?_ rfl
      rw [HF.out]
      exact ⟨rfl, hbe⟩
    | true =>
      by_cases hm : 32 < A.size
      · have HF : Hid (q = (Rq.zero, 11)) := Lib.hid (by rw [← HP.out, if_pos (.inr hm)])
        have hmi : (32 : Int) < (A.size : Int) := by omega
        have hk0 := H3.out.ob.cell 0
        have hk1 := H3.out.ob.cell 1
        have hk2 := H3.out.ob.cell 2
        have hf0 := H3.out.ob.frozen 0
        have hf1 := H3.out.ob.frozen 1
        have hf2 := H3.out.ob.frozen 2
        go_wp2_with fail
        obtain ⟨hbk, hbe⟩ := H3.out.set (.string ⟨#[]⟩) (.string ⟨#[]⟩) (.int .i64 0)
        refine ret_two Tryd.results14 hbk undR rfl infR rfl rfl rfl ?_ rfl
        rw [HF.out]
        exact ⟨rfl, hbe⟩
      · have hmi : ¬ (32 : Int) < (A.size : Int) := by omega
        rw [if_neg (show ¬ (true = false ∨ 32 < A.size) from fun h => h.elim (fun h => by cases h) hm)] at HP
        go_wp2_with fail
        refine (K5.out w3).mono ?_
        rintro e w4 ⟨rfl, hbl⟩
        have H4 := Lib.hid (H3.out.more hbl)
        clear K5 hbl H3
        cases vs with
        | false =>
          have HF : Hid (q = (Rq.zero, 3)) := Lib.hid (by rw [← HP.out, if_pos rfl])
          have hk0 := H4.out.ob.cell 0
          have hk1 := H4.out.ob.cell 1
          have hk2 := H4.out.ob.cell 2
          have hf0 := H4.out.ob.frozen 0
          have hf1 := H4.out.ob.frozen 1
          have hf2 := H4.out.ob.frozen 2
          go_wp2_with fail
          obtain ⟨hbk, hbe⟩ := H4.out.set (.string ⟨#[]⟩) (.string ⟨#[]⟩) (.int .i64 0)
          refine ret_two Tryd.results14 hbk undR rfl infR rfl rfl rfl ?_ rfl
          rw [HF.out]
          exact ⟨rfl, hbe⟩
        | true =>
          rw [if_neg (show ¬ true = false from fun h => by cases h)] at HP
          by_cases hn : 8000 < B.size
          · have HF : Hid (q = (Rq.zero, 6)) := Lib.hid (by rw [← HP.out, if_pos hn])
            have hni : (8000 : Int) < (B.size : Int) := by omega
            have hk0 := H4.out.ob.cell 0
            have hk1 := H4.out.ob.cell 1
            have hk2 := H4.out.ob.cell 2
            have hf0 := H4.out.ob.frozen 0
            have hf1 := H4.out.ob.frozen 1
            have hf2 := H4.out.ob.frozen 2
            go_wp2_with fail
            obtain ⟨hbk, hbe⟩ := H4.out.set (.string ⟨#[]⟩) (.string ⟨#[]⟩) (.int .i64 0)
            refine ret_two Tryd.results14 hbk undR rfl infR rfl rfl rfl ?_ rfl
            rw [HF.out]
            exact ⟨rfl, hbe⟩
          · have hni : ¬ (8000 : Int) < (B.size : Int) := by omega
            rw [if_neg hn] at HP
            cases kn with
            | false =>
              have HF : Hid (q = (Rq.zero, 5)) := Lib.hid (by rw [← HP.out, HN.out rfl])
              have hk0 := H4.out.ob.cell 0
              have hk1 := H4.out.ob.cell 1
              have hk2 := H4.out.ob.cell 2
              have hf0 := H4.out.ob.frozen 0
              have hf1 := H4.out.ob.frozen 1
              have hf2 := H4.out.ob.frozen 2
              go_wp2_with fail
              obtain ⟨hbk, hbe⟩ := H4.out.set (.string ⟨#[]⟩) (.string ⟨#[]⟩) (.int .i64 0)
              refine ret_two Tryd.results14 hbk undR rfl infR rfl rfl rfl ?_ rfl
              rw [HF.out]
              exact ⟨rfl, hbe⟩
            | true =>
              have HF : Hid (q = (⟨a, b, k⟩, 0)) := Lib.hid (by rw [← HP.out, HY.out rfl])
              clear HP HN HY hm hn
              have sA2 : A.size ≤ 140737488355328 := by omega
              have sB2 : B.size ≤ 140737488355328 := by omega
              go_wp2_with fail
              refine (clone_any A w4 sA2).mono ?_
              rintro e w5 ⟨rfl, hbl⟩
              have H5 := Lib.hid (H4.out.more hbl)
              clear hbl H4
              go_wp2_with fail
              refine (clone_any B w5 sB2).mono ?_
              rintro e w6 ⟨rfl, hbl⟩
              have H6 := Lib.hid (H5.out.more hbl)
              clear hbl H5
              have hk0 := H6.out.ob.cell 0
              have hk1 := H6.out.ob.cell 1
              have hk2 := H6.out.ob.cell 2
              have hf0 := H6.out.ob.frozen 0
              have hf1 := H6.out.ob.frozen 1
              have hf2 := H6.out.ob.frozen 2
              go_wp2_with fail
              obtain ⟨hbk, hbe⟩ := H6.out.set (.string A) (.string B) (.int .i64 k)
              refine ret_two Tryd.results14 hbk undR rfl infR rfl rfl rfl ?_ rfl
              rw [HF.out]
              exact ⟨by rw [← HA.out, ← HB.out]; rfl, hbe⟩
  · have HF : Hid (q = (Rq.zero, 3)) := Lib.hid (by rw [← HQ.out]; exact parse_few h2)
    obtain ⟨S, hS⟩ : ∃ S, str l = S := ⟨_, rfl⟩
    have hb : bs S = l := by rw [← hS, bs_str]
    subst hb
    rw [hS]
    have hne : (((bs S).count 32 : Nat) : Int) ≠ 2 := by omega
    have hnb : ((((bs S).count 32 : Nat) : Int) != 2) = true := bne_iff_ne.2 hne
    clear hS HQ h2
    go_enter Tryd.func14, Tryd.ntmps14
    go_upto_region 1 with fail
    have H0 := Lib.hid (PaAt.new w)
    generalize (w.alloc (.cells #[.string ⟨#[]⟩, .string ⟨#[]⟩, .int .i64 0] 23)) = w0 at *
    go_wp2_with fail
    refine (count_any S 32 w0).mono ?_
    rintro e w0' ⟨rfl, rfl⟩
    have hk0 := H0.out.ob.cell 0
    have hk1 := H0.out.ob.cell 1
    have hk2 := H0.out.ob.cell 2
    have hf0 := H0.out.ob.frozen 0
    have hf1 := H0.out.ob.frozen 1
    have hf2 := H0.out.ob.frozen 2
    generalize (bs S).count 32 = n at *
    go_wp2_with fail
    obtain ⟨hbk, hbe⟩ := H0.out.set (.string ⟨#[]⟩) (.string ⟨#[]⟩) (.int .i64 0)
    refine ret_two Tryd.results14 hbk undR rfl infR rfl rfl rfl ?_ rfl
    rw [HF.out]
    exact ⟨rfl, hbe⟩
end Go.Proofs.YtnkcloebnlolaaaDoor.Rl
