/-
  HttppeekFields: one more field of another name, ahead of the others, does not matter to what is known of a head of right lines; else the small case comes out right. Conditions: none beyond the statement's own.
-/
import Derived.Test.YtgbhnjkigjecmaaGreatDoorQ31
import Derived.Test.YtgbhnjkigjecmaaGreatDoorQ32
import Derived.Test.YtgbhnjkigjecmaaGreatDoorQ28
import Derived.Test.YtgbhnjkigjecmaaGreatDoorQ45
import Derived.Test.YtgbhnjkigjecmaaGreatDoorQ46
import Derived.Test.YtgbhnjkigjecmaaGreatDoorQ47
import Derived.Test.YtgbhnjkigjecmaaGreatDoorCards
import Derived.Test.YtgbhnjkigjecmaaGreatDoorTie
set_option maxRecDepth 100000
namespace Go.Proofs.YtgbhnjkigjecmaaGreatDoor.httppeekFields
open Go.ChangeMaps (open_string shut_string)
open Go.ChangeShapes Go.WideShapes Go.ChangeAt Go.RowKit Go.Proofs.YtgbhnjkigjecmaaGreatDoor.Wd Go.Proofs.YtgbhnjkigjecmaaGreatDoor.Hp Go.Proofs.YtgbhnjkigjecmaaGreatDoor.Lift

open Go.Proofs.YtgbhnjkigjecmaaGreatDoor.Asc Go.Proofs.YtgbhnjkigjecmaaGreatDoor.Tx
set_option linter.unusedSimpArgs false in
set_option maxHeartbeats 16000000 in
theorem walk (W : World) (a : Rl.Rq) (m0 : a.meth.length ≤ reachBytes) (t0 : a.targ.length ≤ reachBytes) (b0 : -9223372036854775808 ≤ a.minor ∧ a.minor ≤ 9223372036854775807) (A : Option Addr) (n cap : Nat) (l : List Fd.Fld) (le0 : n ≤ cap) (mx : cap ≤ maxLen) (ln : l.length = n) (sl : ∀ f ∈ l, ShortF reachBytes f) (src : Fd.SrcF W A l) (f0 : Fd.Fld) (sf : ShortF reachBytes f0) (hE : Ad.Env W.heap.size W) :
    Calls Tryz.prog 8 #[.agg (Rl.rqC a), .slice A n cap, .agg (Fd.fdC f0)] W fun e w' => e = .returned (.bool true) ∧ Below W.heap.size W w' := by
  have hM : ∀ f ∈ l, f.name.length ≤ 140737488355326 ∧ f.text.length ≤ 140737488355326 := fun f hf => ⟨Nat.le_trans (sl f hf).1 (by decide), Nat.le_trans (sl f hf).2 (by decide)⟩
  have hmr : a.meth.length ≤ 140737488355328 := Nat.le_trans m0 (by decide)
  have htr : a.targ.length ≤ 140737488355328 := Nat.le_trans t0 (by decide)
  have HP1 := Lib.hid (fun w hE => Rl.print_any (N := W.heap.size) a w hE hmr htr b0)
  have HPf := Lib.hid (fun f (hf : f ∈ l) w hE => Fd.print_any (N := W.heap.size) f w hE (hM f hf).1 (hM f hf).2)
  have HPg := Lib.hid (fun w hE => Fd.print_any (N := W.heap.size) f0 w hE (Nat.le_trans sf.1 (by decide)) (Nat.le_trans sf.2 (by decide)))
  have HS := Lib.hid src
  have HE := Lib.hid hE
  have HN := Lib.hid ln
  have hn9 : n ≤ 9223372036854775807 := Nat.le_trans le0 mx
  have HSm := Lib.hid (fun w hE => small_any (B := W.heap.size) w hE)
  clear hE mx src ln hM hmr htr m0 t0 b0 sl sf
  obtain ⟨R, hR⟩ : ∃ R, Rl.rqC a = R := ⟨_, rfl⟩
  have hRz : R.size = 3 := by rw [← hR]; rfl
  have hR1 := Rl.rqC_one a
  rw [hR] at HP1 hR1 ⊢
  have HR := Lib.hid hR
  clear hR
  obtain ⟨Nm, hNm⟩ : ∃ X, str f0.name = X := ⟨_, rfl⟩
  obtain ⟨Tt, hTt⟩ : ∃ X, str f0.text = X := ⟨_, rfl⟩
  have hC0 : Fd.fdC f0 = #[.string Nm, .string Tt] := by rw [← hNm, ← hTt]; rfl
  rw [hC0] at HPg ⊢
  have HNm := Lib.hid hNm
  clear hNm hTt hC0
  go_enter Tryz.func8, Tryz.ntmps8
  go_upto_region 1 with fail
  have b1 := (Blk.new W 39 R).alloc (.cells #[.string Nm, .string Tt] 45)
  have b2 := St.blk_at (W.alloc (.cells R 39)) 45 #[.string Nm, .string Tt] #[.string Nm, .string Tt] (W.heap.size + 1) (by rw [St.alloc_size]) rfl
  have hbel : Below W.heap.size W ((W.alloc (.cells R 39)).alloc (.cells #[.string Nm, .string Tt] 45)) := ((Below.refl _ _).alloc (Nat.le_refl _) _).alloc (by rw [St.alloc_size]; omega) _
  have HSr := Lib.hid (fun w' (hb : Below W.heap.size W w') => HS.out.below hb)
  generalize (W.alloc (.cells R 39)).alloc (.cells #[.string Nm, .string Tt] 45) = w1 at *
  obtain ⟨G, hG⟩ : ∃ G, W.heap.size = G := ⟨_, rfl⟩
  rw [hG] at b1 b2 hbel HE HSm HP1 HPf HPg HSr ⊢
  have HG := Lib.hid hG
  obtain ⟨G2, hG2⟩ : ∃ g, G + 1 = g := ⟨_, rfl⟩
  rw [hG2] at b2 ⊢
  clear hG2
  have HK1 := Lib.hid b1
  have HF1 := Lib.hid b2
  have HL1 := Lib.hid hbel
  clear b1 b2 hbel hG HS
  go_wp2_with fail
  refine (HSm.out w1 (HE.out.below HL1.out)).mono ?_
  rintro e w2 ⟨rfl, hb⟩
  have HK2 := Lib.hid (HK1.out.below hb HK1.out.lt)
  have HF2 := Lib.hid (HF1.out.below hb HF1.out.lt)
  have HL2 := Lib.hid (HL1.out.trans (hb.mono (Nat.le_of_lt HK1.out.lt)))
  clear hb HSm HK1 HF1 HL1
  have k2 := HK2.out
  go_wp2_with (refine St.go_ldg (x := .tmp 3) 39 k2 Rl.undR rfl Rl.infR hRz (by rfl) rfl rfl ?_)
  refine (HP1.out w2 (Au.tx_of (HE.out.below HL2.out))).mono ?_
  rintro e w3 ⟨rfl, hb⟩
  have HF3 := Lib.hid (HF2.out.below hb HF2.out.lt)
  have HL3 := Lib.hid (HL2.out.trans (hb.mono (Nat.le_of_lt HK2.out.lt)))
  have hg3 : G ≤ w3.heap.size := Nat.le_trans (Nat.le_of_lt HK2.out.lt) hb.size
  clear hb k2 HK2 HF2 HL2 HP1
  have c0 : w3.cell? ⟨G2, 0, none⟩ = some (.string Nm) := HF3.out.cell 0
  have c1 : w3.cell? ⟨G2, 1, none⟩ = some (.string Tt) := HF3.out.cell 1
  cases hp : Rl.printS a with
  | none =>
    unfold Rl.optT
    clear hp
    go_wp2_with fail
    refine (HPg.out w3 (Au.tx_of (HE.out.below HL3.out))).mono ?_
    rintro e w4 ⟨rfl, hb⟩
    have HL4 := Lib.hid (HL3.out.trans (hb.mono hg3))
    clear hb HPg HF3 c0 c1
    rw [Fd.opt_str]
    go_wp2_with fail
    go_ret
    exact ⟨rfl, by rw [HG.out]; exact HL4.out⟩
  | some s =>
    have HPr := Lib.hid hp
    clear hp
    obtain ⟨S, hS⟩ : ∃ S, str s = S := ⟨_, rfl⟩
    rw [show Rl.optT (some s) = .tuple #[.string S, .bool true] by rw [← hS]; rfl]
    have HSz : Hid (S.size = s.length) := Lib.hid (by rw [← hS, str_size])
    go_wp2_with fail
    refine (HPg.out w3 (Au.tx_of (HE.out.below HL3.out))).mono ?_
    rintro e w4 ⟨rfl, hb⟩
    have HF4 := Lib.hid (HF3.out.below hb HF3.out.lt)
    have HL4 := Lib.hid (HL3.out.trans (hb.mono hg3))
    have hg4 : G ≤ w4.heap.size := Nat.le_trans hg3 hb.size
    clear hb HPg HF3 HL3 hg3 c0 c1
    have c0 : w4.cell? ⟨G2, 0, none⟩ = some (.string Nm) := HF4.out.cell 0
    cases hq : Fd.printS f0 with
    | none =>
      unfold Fd.optT
      clear hq hS
      go_wp2_with fail
      go_ret
      exact ⟨rfl, by rw [HG.out]; exact HL4.out⟩
    | some t =>
      have HPt := Lib.hid hq
      clear hq
      obtain ⟨U, hU⟩ : ∃ U, str t = U := ⟨_, rfl⟩
      rw [show Fd.optT (some t) = .tuple #[.string U, .bool true] by rw [← hU]; rfl]
      have HUz : Hid (U.size = t.length) := Lib.hid (by rw [← hU, str_size])
      by_cases h1 : 2000 < S.size
      · have i1 : decide ((2000 : Int) < (S.size : Int)) = true := decide_eq_true (by omega)
        clear h1 hS hU
        go_wp2_with fail
        go_ret
        exact ⟨rfl, by rw [HG.out]; exact HL4.out⟩
      have i1 : decide ((2000 : Int) < (S.size : Int)) = false := decide_eq_false (by omega)
      by_cases h2 : 500 < U.size
      · have i2 : decide ((500 : Int) < (U.size : Int)) = true := decide_eq_true (by omega)
        clear h1 h2 hS hU
        go_wp2_with fail
        go_ret
        exact ⟨rfl, by rw [HG.out]; exact HL4.out⟩
      have i2 : decide ((500 : Int) < (U.size : Int)) = false := decide_eq_false (by omega)
      by_cases h3 : 90 < n
      · have i3 : decide ((90 : Int) < (n : Int)) = true := decide_eq_true (by omega)
        clear h1 h2 h3 hS hU
        go_wp2_with fail
        go_ret
        exact ⟨rfl, by rw [HG.out]; exact HL4.out⟩
      have i3 : decide ((90 : Int) < (n : Int)) = false := decide_eq_false (by omega)
      by_cases h4 : f0.name = Au.hostN
      · have i4 : (Nm.toList == [104, 111, 115, 116]) = true := by rw [← HNm.out, Rl.lit_beq]; exact decide_eq_true h4
        clear h1 h2 h3 h4 hS hU
        go_wp2_with fail
        go_ret
        exact ⟨rfl, by rw [HG.out]; exact HL4.out⟩
      have i4 : (Nm.toList == [104, 111, 115, 116]) = false := by rw [← HNm.out, Rl.lit_beq]; exact decide_eq_false h4
      have HNh := Lib.hid h4
      have HSs := Lib.hid hS
      have HUu := Lib.hid hU
      have hSle : S.size ≤ 2000 := by omega
      have hUle : U.size ≤ 500 := by omega
      have hn90 : n ≤ 90 := by omega
      have HT0 := Lib.hid (RsAt.start l)
      clear hS hU h1 h2 h3 h4
      go_wp2_with fail
      clear c0 HF4 i1 i2 i3 i4
      go_loopw [12, 13] (fun x6 x8 wr => ∃ (k : Nat) (T : ByteArray), k ≤ n ∧ x6 = .string T ∧ x8 = .int .i64 (k : Int) ∧ Hid (RsAt l k T) ∧ Hid (Below w4.heap.size w4 wr)) (fun _ x8 _ => n - (intOf x8).toNat)
      case atStart => exact ⟨0, _, Nat.zero_le _, rfl, rfl, HT0, Lib.hid (Below.refl _ _)⟩
      case round =>
        obtain ⟨k, T, hk, rfl, rfl, HT, HB⟩ := hrel
        have hTle : T.size ≤ 50000 := Nat.le_trans HT.out.le (by omega)
        have HLr := Lib.hid (HL4.out.trans (HB.out.mono hg4))
        have hgr : G ≤ wr.heap.size := HB.out.size |> Nat.le_trans hg4
        by_cases hlt : k < n
        · have hki : (k : Int) < (n : Int) := by omega
          obtain ⟨f, g, o, hf, rfl, hgw, c0, c1⟩ := (HSr.out w4 HL4.out).get (k := k) (by rw [HN.out]; exact hlt) HB.out
          have HF := Lib.hid hf
          have hfm : f ∈ l := List.mem_of_getElem? hf
          have HPk := Lib.hid (HPf.out f hfm)
          obtain ⟨X, hX⟩ : ∃ X, str f.name = X := ⟨_, rfl⟩
          obtain ⟨Y, hY⟩ : ∃ Y, str f.text = Y := ⟨_, rfl⟩
          have hC : Fd.fdC f = #[.string X, .string Y] := by rw [← hX, ← hY]; rfl
          rw [hX] at c0
          rw [hY] at c1
          rw [hC] at HPk
          clear hf hX hY hC hfm
          go_wp2_with fail
          refine (HPk.out wr (Au.tx_of (HE.out.below HLr.out))).mono ?_
          rintro e w5 ⟨rfl, hb⟩
          have HB5 := Lib.hid (HB.out.trans (hb.mono HB.out.size))
          have HL5 := Lib.hid (HLr.out.trans (hb.mono hgr))
          clear hb c0 c1 HPk HLr HB
          cases hq : Fd.printS f with
          | none =>
            unfold Fd.optT
            clear hq
            go_wp2_with fail
            go_ret
            exact ⟨rfl, by rw [HG.out]; exact HL5.out⟩
          | some x =>
            obtain ⟨V, hV⟩ : ∃ V, str x = V := ⟨_, rfl⟩
            rw [show Fd.optT (some x) = .tuple #[.string V, .bool true] by rw [← hV]; rfl]
            have hVz : V.size = x.length := by rw [← hV, str_size]
            by_cases h5 : 500 < V.size
            · have i5 : (500 : Int) < (V.size : Int) := by omega
              clear hV h5 hq
              go_wp2_with fail
              go_ret
              exact ⟨rfl, by rw [HG.out]; exact HL5.out⟩
            · have i5 : ¬ (500 : Int) < (V.size : Int) := by omega
              have HT5 := Lib.hid (HT.out.next HF.out hq (by omega))
              rw [hV] at HT5
              have hVle : V.size ≤ 500 := by omega
              have hTV : (T ++ V).size ≤ 60500 := by rw [ByteArray.size_append]; omega
              clear hV h5 hq HT
              go_wp2_with fail
              go_roundw
              case rel => exact ⟨k + 1, _, by omega, rfl, by go_num, HT5, HB5⟩
              case measure => simp [intOf]; omega
        · obtain rfl : k = n := by omega
          obtain ⟨ls, e1, e2, e3, e4⟩ := HT.out.ex
          have hln := HN.out
          have hTw := two_heads HPr.out HPt.out HNh.out e2 (by omega)
          have hY1 : S ++ (⟨#[13, 10]⟩ : ByteArray) ++ T ++ ⟨#[13, 10]⟩ = str (headS s ls) := by
            rw [e4, ← HSs.out]
            apply bs_inj
            simp only [Asc.bs_add, bs_str]
            simp [headS, bs]
          have hY2 : S ++ (⟨#[13, 10]⟩ : ByteArray) ++ U ++ ⟨#[13, 10]⟩ ++ T ++ ⟨#[13, 10]⟩ = str (headS s (t :: ls)) := by
            rw [e4, ← HSs.out, ← HUu.out]
            apply bs_inj
            simp only [Asc.bs_add, bs_str]
            simp [headS, linesS, bs]
          obtain ⟨Y1, hYd1⟩ : ∃ Y, headS s ls = Y := ⟨_, rfl⟩
          obtain ⟨Y2, hYd2⟩ : ∃ Y, headS s (t :: ls) = Y := ⟨_, rfl⟩
          rw [hYd1] at hTw hY1
          rw [hYd2] at hTw hY2
          have hl1 : Y1.length ≤ 100000 := by
            have h : (S ++ (⟨#[13, 10]⟩ : ByteArray) ++ T ++ ⟨#[13, 10]⟩).size = Y1.length := by rw [hY1]; exact str_size Y1
            rw [ByteArray.size_append, ByteArray.size_append, ByteArray.size_append, show (⟨#[13, 10]⟩ : ByteArray).size = 2 from rfl] at h
            omega
          have hl2 : Y2.length ≤ 100000 := by
            have h : (S ++ (⟨#[13, 10]⟩ : ByteArray) ++ U ++ ⟨#[13, 10]⟩ ++ T ++ ⟨#[13, 10]⟩).size = Y2.length := by rw [hY2]; exact str_size Y2
            rw [ByteArray.size_append, ByteArray.size_append, ByteArray.size_append, ByteArray.size_append, ByteArray.size_append, show (⟨#[13, 10]⟩ : ByteArray).size = 2 from rfl] at h
            omega
          have q1 : (S ++ (⟨#[13, 10]⟩ : ByteArray)).size ≤ 2002 := by rw [ByteArray.size_append]; show _ + 2 ≤ _; omega
          have q2 : (S ++ (⟨#[13, 10]⟩ : ByteArray) ++ T).size ≤ 60000 := by rw [ByteArray.size_append]; omega
          have q3 : (S ++ (⟨#[13, 10]⟩ : ByteArray) ++ U).size ≤ 2502 := by rw [ByteArray.size_append]; omega
          have q4 : (S ++ (⟨#[13, 10]⟩ : ByteArray) ++ U ++ ⟨#[13, 10]⟩).size ≤ 2504 := by rw [ByteArray.size_append]; show _ + 2 ≤ _; omega
          have q5 : (S ++ (⟨#[13, 10]⟩ : ByteArray) ++ U ++ ⟨#[13, 10]⟩ ++ T).size ≤ 60000 := by rw [ByteArray.size_append]; omega
          obtain ⟨d1, d2, d3, d4, d5, d6, d7⟩ := hTw
          obtain ⟨m1, hm1⟩ : ∃ m, Y1.length = m := ⟨_, rfl⟩
          obtain ⟨m2, hm2⟩ : ∃ m, Y2.length = m := ⟨_, rfl⟩
          obtain ⟨c, w5, hcv, hs5, hb5, hc5⟩ := bytes_str Y1 wr
          rw [← hY1, hm1] at hcv
          rw [hm1] at hs5 hc5 hl1 d1 d2
          rw [hm2] at hl2
          have HL5 := Lib.hid (HLr.out.trans (hb5.mono hgr))
          have hg5 : G ≤ w5.heap.size := Nat.le_trans hgr hb5.size
          have HA := Lib.hid (all_any (B := G) _ m1 c Y1 w5 (HE.out.below HL5.out) hs5 (by omega))
          unfold AllHP at HA
          obtain ⟨t1, ht1⟩ : ∃ t, allH Y1 = t := ⟨_, rfl⟩
          obtain ⟨t2, ht2⟩ : ∃ t, allH Y2 = t := ⟨_, rfl⟩
          rw [ht1] at HA d1 d3 d4 d5 d6 d7
          rw [ht2] at d2 d3 d4 d5 d6
          have HD := Lib.hid (show t1.u = m1 ∧ t2.u = m1 + U.size + 2 ∧ t2.z = t1.z ∧ t2.r = t1.r ∧ t2.h = t1.h ∧ t2.p = t1.p ∧ t1.z ≠ 0 from ⟨d1, by rw [HUz.out]; exact d2, d3, d4, d5, d6, d7⟩)
          have HY2 := Lib.hid hY2
          have HM2 := Lib.hid hm2
          have HT2 := Lib.hid ht2
          clear d1 d2 d3 d4 d5 d6 d7 hY1 hY2 hm1 hm2 ht1 ht2 hYd1 hYd2 e1 e2 e3 e4 hln hs5 hb5 HT HPf HB HLr hlt hk
          go_wp2_with fail
          refine HA.out.mono ?_
          rintro e' w6 ⟨rfl, hb⟩
          have HL6 := Lib.hid (HL5.out.trans (hb.mono hg5))
          have hg6 : G ≤ w6.heap.size := Nat.le_trans hg5 hb.size
          clear hb HA HL5 hcv
          go_upto_region 15 with (refine St.go_st 31 (Blk.new _ _ _) infV rfl (vH_size _ _ _ _ _ _) (vH_one _ _ _ _ _ _) rfl rfl rfl rfl ?_)
          obtain ⟨hk1, hb⟩ := verd_new w6 (vH (t1.z : Int) 2 (t1.u : Int) t1.r ⟨t1.h.toArray⟩ t1.p)
          have HL7 := Lib.hid (HL6.out.trans (hb.mono hg6))
          have hg7 := Nat.le_trans hg6 hb.size
          have HK7 := Lib.hid hk1
          clear hk1 hb HL6
          generalize (w6.alloc (.cells #[Value.int .i64 0, .int .i64 0, .int .i64 0, .int .i64 0, .string ⟨#[]⟩, .int .i64 0, .bool false, .string ⟨#[]⟩, .slice none 0 0, .slice none 0 0, .bool false] 31)).setRow w6.heap.size (vH (t1.z : Int) 2 (t1.u : Int) t1.r ⟨t1.h.toArray⟩ t1.p) = w7 at *
          obtain ⟨V1, hg⟩ : ∃ g, w6.heap.size = g := ⟨_, rfl⟩
          rw [hg] at HK7
          rw [hg]
          clear hg hg6
          obtain ⟨cc, w8, hcv, hs8, hb8, hc8⟩ := bytes_str Y2 w7
          rw [← HY2.out, HM2.out] at hcv
          rw [HM2.out] at hs8 hc8
          have HL8 := Lib.hid (HL7.out.trans (hb8.mono hg7))
          have HK8 := Lib.hid (HK7.out.below hb8 HK7.out.lt)
          have hg8 : G ≤ w8.heap.size := Nat.le_trans hg7 hb8.size
          have HA := Lib.hid (all_any (B := G) _ m2 cc Y2 w8 (HE.out.below HL8.out) hs8 (by omega))
          unfold AllHP at HA
          rw [HT2.out] at HA
          clear hs8 hb8 HY2 HM2 HT2 HL7 HK7
          go_wp2_with fail
          refine HA.out.mono ?_
          rintro e' w9 ⟨rfl, hb⟩
          have HL9 := Lib.hid (HL8.out.trans (hb.mono hg8))
          have HK9 := Lib.hid (HK8.out.below hb HK8.out.lt)
          have hg9 : G ≤ w9.heap.size := Nat.le_trans hg8 hb.size
          clear hb HA HL8 HK8 hcv
          go_upto_region 16 with (refine St.go_st 31 (Blk.new _ _ _) infV rfl (vH_size _ _ _ _ _ _) (vH_one _ _ _ _ _ _) rfl rfl rfl rfl ?_)
          obtain ⟨hk1, hb⟩ := verd_new w9 (vH (t2.z : Int) 2 (t2.u : Int) t2.r ⟨t2.h.toArray⟩ t2.p)
          have HLa := Lib.hid (HL9.out.trans (hb.mono hg9))
          have HJa := Lib.hid hk1
          have HKa := Lib.hid (HK9.out.below hb HK9.out.lt)
          clear hk1 hb HL9 HK9
          generalize (w9.alloc (.cells #[Value.int .i64 0, .int .i64 0, .int .i64 0, .int .i64 0, .string ⟨#[]⟩, .int .i64 0, .bool false, .string ⟨#[]⟩, .slice none 0 0, .slice none 0 0, .bool false] 31)).setRow w9.heap.size (vH (t2.z : Int) 2 (t2.u : Int) t2.r ⟨t2.h.toArray⟩ t2.p) = wa at *
          obtain ⟨V2, hg⟩ : ∃ g, w9.heap.size = g := ⟨_, rfl⟩
          rw [hg] at HJa
          rw [hg]
          clear hg
          obtain ⟨d1, d2, d3, d4, d5, d6, d7⟩ := HD.out
          obtain ⟨X, hX⟩ : ∃ X, (⟨t1.h.toArray⟩ : ByteArray) = X := ⟨_, rfl⟩
          have k0 : wa.cell? ⟨V1, 0, none⟩ = some (.int .i64 (t1.z : Int)) := by rw [HKa.out.cell]; rfl
          have k2 : wa.cell? ⟨V1, 2, none⟩ = some (.int .i64 (t1.u : Int)) := by rw [HKa.out.cell]; rfl
          have k3 : wa.cell? ⟨V1, 3, none⟩ = some (.int .i64 t1.r) := by rw [HKa.out.cell]; rfl
          have k4 : wa.cell? ⟨V1, 4, none⟩ = some (.string X) := by rw [HKa.out.cell, ← hX]; rfl
          have k5 : wa.cell? ⟨V1, 5, none⟩ = some (.int .i64 t1.p) := by rw [HKa.out.cell]; rfl
          have j0 : wa.cell? ⟨V2, 0, none⟩ = some (.int .i64 (t1.z : Int)) := by rw [HJa.out.cell, ← d3]; rfl
          have j2 : wa.cell? ⟨V2, 2, none⟩ = some (.int .i64 (t2.u : Int)) := by rw [HJa.out.cell]; rfl
          have j3 : wa.cell? ⟨V2, 3, none⟩ = some (.int .i64 t1.r) := by rw [HJa.out.cell, ← d4]; rfl
          have j4 : wa.cell? ⟨V2, 4, none⟩ = some (.string X) := by rw [HJa.out.cell, ← hX, ← d5]; rfl
          have j5 : wa.cell? ⟨V2, 5, none⟩ = some (.int .i64 t1.p) := by rw [HJa.out.cell, ← d6]; rfl
          obtain ⟨zz, hzz⟩ : ∃ z, t1.z = z := ⟨_, rfl⟩
          obtain ⟨u1, hu1⟩ : ∃ z, t1.u = z := ⟨_, rfl⟩
          obtain ⟨u2, hu2⟩ : ∃ z, t2.u = z := ⟨_, rfl⟩
          rw [hzz] at k0 j0 d7
          rw [hu1] at k2 d1
          rw [hu2] at j2 d2
          have e1 : ((zz : Int) == (zz : Int)) = true := beq_self_eq_true _
          have e2 : ((t1.r : Int) == t1.r) = true := beq_self_eq_true _
          have e3 : (X.toList == X.toList) = true := beq_self_eq_true _
          have e4 : ((t1.p : Int) == t1.p) = true := beq_self_eq_true _
          have e5 : ((zz : Int) != 0) = true := by rw [bne_iff_ne]; omega
          have e6 : ((u2 : Int) == (u1 : Int) + (U.size : Int) + 2) = true := by rw [beq_iff_eq]; omega
          have e7 : (u2 : Int) = (u1 : Int) + (U.size : Int) + 2 := by omega
          have hu3 : u1 ≤ 100000 := by omega
          have HE6 := Lib.hid e6
          generalize t1.r = rr at *
          generalize t1.p = pp at *
          clear d1 d2 d3 d4 d5 d6 d7 hzz hu1 hu2 hX HD HKa HJa e7
          go_wp2_with fail
          go_ret
          exact ⟨rfl, by rw [HG.out]; exact HLa.out⟩

set_option maxRecDepth 100000 in
set_option linter.unusedVariables false in
theorem lifted (os : Os) (started : os.Started) (H : Type) (enc : TypeId × Value → H) :
    ReturnsInHanded {} Tryz.checked os 8 .any (fun w args => (Rows.httppeekFieldsSpec.pre enc Tryz.prog Tryz.f8 [] false w args ∧ laidMetH Tryz.prog laid5 w) ∧ sizedMet enc Tryz.prog Tryz.f8 (OpenSpec.ofChange Rows.httppeekFieldsSpec) false w args)
      (Rows.httppeekFieldsSpec.post enc Tryz.prog Tryz.f8 false true false false) := by
  refine returns_laid_sized (C := Tryz.checked) (X := fun w _ => laidMetH Tryz.prog laid5 w) (fun _ _ _ hh h => h.of_heap hh) own started (by kernel_rfl) Tryz.func8
    (ChangeSpec.witness_shaped (enc := enc) (C := Tryz.checked) (os := os) (X := fun w _ => laidMetH Tryz.prog laid5 w) false (World.laidAll Tryz.prog os laid5) #[.agg #[.string .empty, .string .empty, .int .i64 0], .slice none 0 0, .agg #[.string .empty, .string .empty]] 8 (World.laidAll_os _ _ _)
      (World.shaped_of_ZipB (by kernel_rfl) (by kernel_rfl)) (by kernel_rfl) (by kernel_rfl) (by kernel_rfl) (door_met5 os _)) ?_
  intro W base args ds gs before hval0 hW hsz0 hL hshp
  have hE := env_of5 hL hshp
  have hval : ∀ (j : Nat) t v, Tryz.f8.params[j]? = some t → args[j]? = some v → Value.okWide Tryz.prog W .any base t v := hval0
  have hW' := hW
  obtain ⟨p, q, hA0, hV, rfl, hfz, hnd⟩ := hW
  have hA : DataW.TrodAll enc Tryz.prog W 0 (fun _ => true) true Tryz.f8.params.toList args.toList ds p := hA0
  have hsz : (DataW.weightsEach Tryz.prog (Tryz.f8.params.toList ++ Rows.httppeekFieldsSpec.plain.varTypes Tryz.prog) (ds ++ gs)).all (· ≤ reachBytes) = true := hsz0
  rw [Tryz.params8] at hA hval hsz
  obtain ⟨v0, vs0, d0, ds0, p0, q0, hargs, rfl, rfl, h0, r0⟩ := trodAll_cons hA
  obtain ⟨v1, vs1, d1, ds1, p1, q1, rfl, rfl, rfl, h1, r1⟩ := trodAll_cons r0
  obtain ⟨v2, vs2, d2, ds2, p2, q2, rfl, rfl, rfl, h2, r2⟩ := trodAll_cons r1
  obtain ⟨rfl, rfl, rfl⟩ := trodAll_nil r2
  obtain rfl : args = #[v0, v1, v2] := by cases args; simp_all
  obtain ⟨rfl, rfl⟩ := trodVars_none hV
  have k0 := h0
  have lt0 : ∀ x ∈ p0, x.block < W.heap.size := by obtain ⟨m, hm⟩ := k0; exact DataW.trod_lt m _ _ _ hm
  obtain ⟨a0, rfl, m0, t0, b0⟩ := open_request_sized (hval 0 39 v0 rfl rfl) h0 (reach_at hsz (j := 0) (t := 39) rfl rfl)
  have k1 := h1
  have lt1 : ∀ x ∈ p1, x.block < W.heap.size := by obtain ⟨m, hm⟩ := k1; exact DataW.trod_lt m _ _ _ hm
  obtain ⟨A1, n1, cap1, l1, rfl, le1, mx1, ln1, sl1, src1⟩ := open_fields (hval 1 40 v1 rfl rfl) h1 (reach_at hsz (j := 1) (t := 40) rfl rfl)
  have k2 := h2
  have lt2 : ∀ x ∈ p2, x.block < W.heap.size := by obtain ⟨m, hm⟩ := k2; exact DataW.trod_lt m _ _ _ hm
  obtain ⟨f2, rfl, sf2⟩ := open_field (hval 2 45 v2 rfl rfl) h2 (reach_at hsz (j := 2) (t := 45) rfl rfl)
  clear hA0 hval0 hsz0
  refine (walk W a0 m0 t0 b0 A1 n1 cap1 l1 le1 mx1 ln1 sl1 src1 f2 sf2 hE).mono fun e W' ⟨he, bel⟩ => ?_
  subst he
  exact ⟨_, rfl, _, _, _, [], _, [], hW', trodAll_mk1 (shut_bool Tryz.underlying4 _), (trodAll_cons_mk (Below.trod Lift.laidOut (by kernel_rfl) (of_decide_eq_true (by kernel_rfl)) k0 bel lt0) (trodAll_cons_mk (Below.trod Lift.laidOut (by kernel_rfl) (of_decide_eq_true (by kernel_rfl)) k1 bel lt1) (trodAll_cons_mk (Below.trod Lift.laidOut (by kernel_rfl) (of_decide_eq_true (by kernel_rfl)) k2 bel lt2) trodAll_mk0))), rfl, bel.frame _, fun h => by cases h⟩

theorem over : Rows.httppeekFieldsRow.holds Tryz.pinned (OpenSpec.ofChange Rows.httppeekFieldsSpec) :=
  OpenClaim.holds_of_wide 8 Tryz.f8 rfl rfl rfl rfl rfl rfl rfl ⟨rfl, rfl, rfl, rfl, rfl⟩ rfl rfl rfl rfl rfl (by kernel_rfl) Tryz.func8 (by kernel_rfl)
    (of_decide_eq_true (by kernel_rfl)) (by unfold Func.isWrapper; first | (rw [if_pos (by decide +kernel)]; kernel_rfl) | (rw [if_neg (by decide +kernel)]; exact ⟨rfl, rfl⟩))
    (fun os started H enc _ => lifted os started H enc)

theorem proved : Rows.HttppeekFieldsCardSaid :=
  Claim7.holds_tied_plain_at .later [] [.data, .data, .data, .data, .pinned] true (true, "dfae010f2981ed81a80978e863881a0f4d162522d3e968cd557793b55fa30f83") false
    over (fun _ h => by cases h) (by kernel_rfl) (fun _ h => by cases h) httppeekFields_row_tie rfl ⟨rfl, rfl⟩ (by kernel_rfl) rfl
    (fun f fn hf hfn => by
      obtain rfl : f = 8 := Option.some.inj ((show Tryz.prog.funcNamed "hagioscope/hagioscopelaw16.HttppeekFields" = some 8 by kernel_rfl).symm.trans hf) |>.symm
      obtain rfl : fn = Tryz.f8 := (Option.some.inj (Tryz.func8.symm.trans hfn)).symm
      exact ⟨by kernel_rfl, fun j t ht => by
        rw [Tryz.params8] at ht
        have hm : t ∈ [39, 40, 45] := by simpa using Array.mem_of_getElem? ht
        have hall : ([39, 40, 45].all fun u => !Tryz.prog.wantsStandIn u) = true := by kernel_rfl
        exact (show Tryz.prog.wantsStandIn t = false by simpa using List.all_eq_true.1 hall t hm)⟩)
    (by kernel_rfl)
#print axioms proved
end Go.Proofs.YtgbhnjkigjecmaaGreatDoor.httppeekFields
