/-
  HttppeekLines: a head of right lines is known by its last byte, with the host in its one form, and its port, or why not; else the small case comes out right. Conditions: none beyond the statement's own.
-/
import Derived.Test.YtgbhnjkigjecmaaGreatDoorQ31
import Derived.Test.YtgbhnjkigjecmaaGreatDoorQ32
import Derived.Test.YtgbhnjkigjecmaaGreatDoorQ28
import Derived.Test.YtgbhnjkigjecmaaGreatDoorQ45
import Derived.Test.YtgbhnjkigjecmaaGreatDoorQ46
import Derived.Test.YtgbhnjkigjecmaaGreatDoorQ47
import Derived.Test.YtgbhnjkigjecmaaGreatDoorQ25
import Derived.Test.YtgbhnjkigjecmaaGreatDoorQ27
import Derived.Test.YtgbhnjkigjecmaaGreatDoorCards
import Derived.Test.YtgbhnjkigjecmaaGreatDoorTie
set_option maxRecDepth 100000
namespace Go.Proofs.YtgbhnjkigjecmaaGreatDoor.httppeekLines
open Go.ChangeMaps (open_string shut_string)
open Go.ChangeShapes Go.WideShapes Go.ChangeAt Go.RowKit Go.Proofs.YtgbhnjkigjecmaaGreatDoor.Wd Go.Proofs.YtgbhnjkigjecmaaGreatDoor.Hp Go.Proofs.YtgbhnjkigjecmaaGreatDoor.Lift

open Go.Proofs.YtgbhnjkigjecmaaGreatDoor.Asc Go.Proofs.YtgbhnjkigjecmaaGreatDoor.Tx
set_option linter.unusedSimpArgs false in
set_option maxHeartbeats 16000000 in
theorem walk (W : World) (a : Rl.Rq) (m0 : a.meth.length ≤ reachBytes) (t0 : a.targ.length ≤ reachBytes) (b0 : -9223372036854775808 ≤ a.minor ∧ a.minor ≤ 9223372036854775807) (A : Option Addr) (n cap : Nat) (l : List Fd.Fld) (le0 : n ≤ cap) (mx : cap ≤ maxLen) (ln : l.length = n) (sl : ∀ f ∈ l, ShortF reachBytes f) (src : Fd.SrcF W A l) (hE : Ad.Env W.heap.size W) :
    Calls Tryz.prog 6 #[.agg (Rl.rqC a), .slice A n cap] W fun e w' => e = .returned (.bool true) ∧ Below W.heap.size W w' := by
  have hM : ∀ f ∈ l, f.name.length ≤ 140737488355326 ∧ f.text.length ≤ 140737488355326 := fun f hf => ⟨Nat.le_trans (sl f hf).1 (by decide), Nat.le_trans (sl f hf).2 (by decide)⟩
  have hmr : a.meth.length ≤ 140737488355328 := Nat.le_trans m0 (by decide)
  have htr : a.targ.length ≤ 140737488355328 := Nat.le_trans t0 (by decide)
  have HP1 := Lib.hid (fun w hE => Rl.print_any (N := W.heap.size) a w hE hmr htr b0)
  have HPf := Lib.hid (fun f (hf : f ∈ l) w hE => Fd.print_any (N := W.heap.size) f w hE (hM f hf).1 (hM f hf).2)
  have HS := Lib.hid src
  have HE := Lib.hid hE
  have HN := Lib.hid ln
  have hn9 : n ≤ 9223372036854775807 := Nat.le_trans le0 mx
  have HSm := Lib.hid (fun w hE => small_any (B := W.heap.size) w hE)
  clear hE mx src ln hM hmr htr m0 t0 b0 sl
  obtain ⟨R, hR⟩ : ∃ R, Rl.rqC a = R := ⟨_, rfl⟩
  have hRz : R.size = 3 := by rw [← hR]; rfl
  have hR1 := Rl.rqC_one a
  rw [hR] at HP1 hR1 ⊢
  have HR := Lib.hid hR
  clear hR
  go_enter Tryz.func6, Tryz.ntmps6
  go_upto_region 1 with fail
  have b1 := Blk.new W 39 R
  have hbel : Below W.heap.size W (W.alloc (.cells R 39)) := (Below.refl _ _).alloc (Nat.le_refl _) _
  have HSr := Lib.hid (fun w' (hb : Below W.heap.size W w') => HS.out.below hb)
  generalize W.alloc (.cells R 39) = w1 at *
  obtain ⟨G, hG⟩ : ∃ G, W.heap.size = G := ⟨_, rfl⟩
  rw [hG] at b1 hbel HE HSm HP1 HPf HSr ⊢
  have HG := Lib.hid hG
  have HK1 := Lib.hid b1
  have HL1 := Lib.hid hbel
  clear b1 hbel hG HS
  go_wp2_with fail
  refine (HSm.out w1 (HE.out.below HL1.out)).mono ?_
  rintro e w2 ⟨rfl, hb⟩
  have HK2 := Lib.hid (HK1.out.below hb HK1.out.lt)
  have HL2 := Lib.hid (HL1.out.trans (hb.mono (Nat.le_of_lt HK1.out.lt)))
  clear hb HSm HK1 HL1
  have k2 := HK2.out
  go_wp2_with (refine St.go_ldg (x := .tmp 2) 39 k2 Rl.undR rfl Rl.infR hRz (by rfl) rfl rfl ?_)
  refine (HP1.out w2 (Au.tx_of (HE.out.below HL2.out))).mono ?_
  rintro e w3 ⟨rfl, hb⟩
  have HK3 := Lib.hid (HK2.out.below hb HK2.out.lt)
  have HL3 := Lib.hid (HL2.out.trans (hb.mono (Nat.le_of_lt HK2.out.lt)))
  clear hb k2 HK2 HL2 HP1
  cases hp : Rl.printS a with
  | none =>
    unfold Rl.optT
    clear hp
    go_wp2_with fail
    go_ret
    exact ⟨rfl, by rw [HG.out]; exact HL3.out⟩
  | some s =>
    have HPr := Lib.hid hp
    clear hp
    obtain ⟨S, hS⟩ : ∃ S, str s = S := ⟨_, rfl⟩
    rw [show Rl.optT (some s) = .tuple #[.string S, .bool true] by rw [← hS]; rfl]
    have hSz : S.size = s.length := by rw [← hS, str_size]
    by_cases h1 : 2000 < S.size
    · have i1 : (2000 : Int) < (S.size : Int) := by omega
      clear h1 hS
      go_wp2_with fail
      go_ret
      exact ⟨rfl, by rw [HG.out]; exact HL3.out⟩
    have i1 : ¬ (2000 : Int) < (S.size : Int) := by omega
    by_cases h2 : 100 < n
    · have i2 : decide ((100 : Int) < (n : Int)) = true := decide_eq_true (by omega)
      clear h1 hS
      go_wp2_with fail
      go_ret
      exact ⟨rfl, by rw [HG.out]; exact HL3.out⟩
    have i2 : decide ((100 : Int) < (n : Int)) = false := decide_eq_false (by omega)
    have HT0 := Lib.hid (LnAt.start s l (by omega))
    rw [hS] at HT0
    have hSle : S.size ≤ 2000 := by omega
    have hn100 : n ≤ 100 := by omega
    clear hS h1 h2 hSz
    go_wp2_with fail
    go_loopw [6, 8] (fun x6 x8 wr => ∃ (k : Nat) (T : ByteArray), k ≤ n ∧ x6 = .string T ∧ x8 = .int .i64 (k : Int) ∧ Hid (LnAt s l k T) ∧ Hid (Below w3.heap.size w3 wr)) (fun _ x8 _ => n - (intOf x8).toNat)
    case atStart => exact ⟨0, _, Nat.zero_le _, rfl, rfl, HT0, Lib.hid (Below.refl _ _)⟩
    case round =>
      obtain ⟨k, T, hk, rfl, rfl, HT, HB⟩ := hrel
      have hTle : T.size ≤ 60000 := Nat.le_trans HT.out.le (by omega)
      have hg3 : G ≤ w3.heap.size := Nat.le_of_lt HK3.out.lt
      have HLr := Lib.hid (HL3.out.trans (HB.out.mono hg3))
      have hgr : G ≤ wr.heap.size := HB.out.size |> Nat.le_trans hg3
      by_cases hlt : k < n
      · have hki : (k : Int) < (n : Int) := by omega
        obtain ⟨f, g, o, hf, rfl, hgw, c0, c1⟩ := (HSr.out w3 HL3.out).get (k := k) (by rw [HN.out]; exact hlt) HB.out
        have HF := Lib.hid hf
        have hfm : f ∈ l := List.mem_of_getElem? hf
        have HPk := Lib.hid (HPf.out f hfm)
        obtain ⟨X, hX⟩ : ∃ X, str f.name = X := ⟨_, rfl⟩
        obtain ⟨Y, hY⟩ : ∃ Y, str f.text = Y := ⟨_, rfl⟩
        have hC : Fd.fdC f = #[.string X, .string Y] := by rw [← hX, ← hY]; rfl
        rw [hX] at c0
        rw [hY] at c1
        rw [hC] at HPk
        clear hf hX hY hC hfm
        go_wp2_with fail
        refine (HPk.out wr (Au.tx_of (HE.out.below HLr.out))).mono ?_
        rintro e w4 ⟨rfl, hb⟩
        have HB4 := Lib.hid (HB.out.trans (hb.mono HB.out.size))
        have HL4 := Lib.hid (HLr.out.trans (hb.mono hgr))
        clear hb c0 c1 HPk HLr HB
        cases hq : Fd.printS f with
        | none =>
          unfold Fd.optT
          clear hq
          go_wp2_with fail
          go_ret
          exact ⟨rfl, by rw [HG.out]; exact HL4.out⟩
        | some t =>
          obtain ⟨U, hU⟩ : ∃ U, str t = U := ⟨_, rfl⟩
          rw [show Fd.optT (some t) = .tuple #[.string U, .bool true] by rw [← hU]; rfl]
          have hUz : U.size = t.length := by rw [← hU, str_size]
          by_cases h5 : 500 < U.size
          · have i5 : (500 : Int) < (U.size : Int) := by omega
            clear hU h5 hq
            go_wp2_with fail
            go_ret
            exact ⟨rfl, by rw [HG.out]; exact HL4.out⟩
          · have i5 : ¬ (500 : Int) < (U.size : Int) := by omega
            have HT4 := Lib.hid (HT.out.next HF.out hq (by omega))
            rw [hU] at HT4
            have hUle : U.size ≤ 500 := by omega
            have hTU : (T ++ U).size ≤ 60500 := by rw [ByteArray.size_append]; omega
            clear hU h5 hq HT
            go_wp2_with fail
            go_roundw
            case rel => exact ⟨k + 1, _, by omega, rfl, by go_num, HT4, HB4⟩
            case measure => simp [intOf]; omega
      · obtain rfl : k = n := by omega
        obtain ⟨ls, e1, e2, e3, e4⟩ := HT.out.ex
        have hln := HN.out
        have e5 : ls.map fldOf = l := by rw [e3]; exact List.take_of_length_le (by omega)
        have hsm : ∀ f ∈ l, f.text.length ≤ 500 := fun f hf => HT.out.sm f (by rw [List.take_of_length_le (by omega)]; exact hf)
        have hok := first_is HPr.out
        obtain ⟨hu, hd⟩ := head_known (q := a) (s := s) (ls := ls) (by rw [hok.2]; exact line_plain hok.1) (Rl.print_is HPr.out) e2 (by omega)
        rw [e5] at hd
        have hY : T ++ (⟨#[13, 10]⟩ : ByteArray) = str (headS s ls) := by
          rw [e4]
          apply bs_inj
          simp only [Asc.bs_add, bs_str]
          simp [headS, bs]
        obtain ⟨Y, hYd⟩ : ∃ Y, headS s ls = Y := ⟨_, rfl⟩
        rw [hYd] at hu hd hY
        have hYl : Y.length = T.size + 2 := by
          have := congrArg ByteArray.size hY
          rw [ByteArray.size_append, str_size] at this
          exact this.symm
        obtain ⟨c, w5, hcv, hs5, hb5, hc5⟩ := bytes_str Y wr
        rw [← hY, hYl] at hcv
        have HL5 := Lib.hid (HLr.out.trans (hb5.mono hgr))
        have HB5 := Lib.hid (HB.out.trans (hb5.mono HB.out.size))
        have hg5 : G ≤ w5.heap.size := Nat.le_trans hgr hb5.size
        have HA := Lib.hid (all_any (B := G) _ Y.length c Y w5 (HE.out.below HL5.out) hs5 (by omega))
        unfold AllHP at HA
        rw [hYl] at HA
        rw [hYl] at hu
        obtain ⟨t, ht⟩ : ∃ t, allH Y = t := ⟨_, rfl⟩
        rw [ht] at HA hu hd
        have Hu := Lib.hid hu
        have Hd := Lib.hid hd
        have hta : a.targ.length ≤ 8000 := hok.1.2.2.2.1
        have hfs : (Fd.findS Au.hostN l).1.length ≤ 1000000 := Nat.le_trans (few_text l hsm) (by decide)
        have HO := Lib.hid (fun w hE hs => Au.of_any (B := G) a l A k cap w hE hs hln (by omega) (by omega) hfs)
        unfold Au.ResP Au.resT at HO
        have hl2 := of_len a l
        obtain ⟨J, hJ⟩ : ∃ J, Au.ofS a l = J := ⟨_, rfl⟩
        obtain ⟨h, p, er⟩ := J
        have HJ := Lib.hid (judge_of hJ)
        rw [hJ] at HO hl2
        simp only at HO hl2
        have HNo := Lib.hid (fun w hE => Nm.norm_any (B := G) (str h) w hE (by rw [str_size]; omega))
        rw [HR.out] at HO
        rw [bs_str] at HNo
        clear hJ ht hu hd hYd hY e1 e2 e3 e4 e5 hsm hok hb5 hs5 hta hfs hl2 hln hYl HT HPf
        go_wp2_with fail
        refine HA.out.mono ?_
        rintro e' w6 ⟨rfl, hb⟩
        have HL6 := Lib.hid (HL5.out.trans (hb.mono hg5))
        have HB6 := Lib.hid (HB5.out.trans (hb.mono HB5.out.size))
        have hg6 : G ≤ w6.heap.size := Nat.le_trans hg5 hb.size
        clear hb HA HL5 HB5 hcv
        go_upto_region 14 with (refine St.go_st 31 (Blk.new _ _ _) infV rfl (vH_size _ _ _ _ _ _) (vH_one _ _ _ _ _ _) rfl rfl rfl rfl ?_)
        obtain ⟨hk1, hb⟩ := verd_new w6 (vH (t.z : Int) 2 (t.u : Int) t.r ⟨t.h.toArray⟩ t.p)
        have HL7 := Lib.hid (HL6.out.trans (hb.mono hg6))
        have HB7 := Lib.hid (HB6.out.trans (hb.mono HB6.out.size))
        have hg7 := Nat.le_trans hg6 hb.size
        have HK := Lib.hid hk1
        clear hk1 hb HL6 HB6
        generalize (w6.alloc (.cells #[Value.int .i64 0, .int .i64 0, .int .i64 0, .int .i64 0, .string ⟨#[]⟩, .int .i64 0, .bool false, .string ⟨#[]⟩, .slice none 0 0, .slice none 0 0, .bool false] 31)).setRow w6.heap.size (vH (t.z : Int) 2 (t.u : Int) t.r ⟨t.h.toArray⟩ t.p) = w7 at *
        obtain ⟨V, hg⟩ : ∃ g, w6.heap.size = g := ⟨_, rfl⟩
        rw [hg] at HK
        rw [hg]
        clear hg hg6
        have k1 : w7.cell? ⟨V, 1, none⟩ = some (.int .i64 2) := by rw [HK.out.cell]; rfl
        have k2 : w7.cell? ⟨V, 2, none⟩ = some (.int .i64 (t.u : Int)) := by rw [HK.out.cell]; rfl
        rw [Hu.out] at k2
        have kR := HK3.out.below HB7.out HK3.out.lt
        have HS7 := Lib.hid (HSr.out w7 HL7.out)
        obtain ⟨⟨nm, ne⟩, hq⟩ : ∃ q, Nm.normalS h = q := ⟨_, rfl⟩
        rw [hq] at HNo HJ
        unfold Nm.resN at HNo
        simp only at HNo HJ
        obtain ⟨H0, hH0⟩ : ∃ H0, str h = H0 := ⟨_, rfl⟩
        obtain ⟨N0, hN0⟩ : ∃ N0, str nm = N0 := ⟨_, rfl⟩
        rw [hH0] at HO HNo
        rw [show Ad.str nm = N0 from hN0] at HNo
        have HN0 := Lib.hid hN0
        clear hq hH0 hN0 HB7
        go_wp2_with (refine St.go_ldg (x := .tmp 2) 39 kR Rl.undR rfl Rl.infR hRz (by rfl) rfl rfl ?_)
        refine (HO.out w7 (HE.out.below HL7.out) HS7.out).mono ?_
        rintro e' w8 ⟨rfl, hb⟩
        have HL8 := Lib.hid (HL7.out.trans (hb.mono hg7))
        have hg8 := Nat.le_trans hg7 hb.size
        have HK8 := Lib.hid (HK.out.below hb HK.out.lt)
        clear hb HO HL7 HK HS7 kR k1 k2
        go_wp2_with fail
        refine (HNo.out w8 (HE.out.below HL8.out)).mono ?_
        rintro e' w9 ⟨rfl, hb⟩
        have HL9 := Lib.hid (HL8.out.trans (hb.mono hg8))
        have HK9 := Lib.hid (HK8.out.below hb HK8.out.lt)
        clear hb HNo HL8 HK8
        have k0 : w9.cell? ⟨V, 0, none⟩ = some (.int .i64 (t.z : Int)) := by rw [HK9.out.cell]; rfl
        have k3 : w9.cell? ⟨V, 3, none⟩ = some (.int .i64 t.r) := by rw [HK9.out.cell]; rfl
        have k4 : w9.cell? ⟨V, 4, none⟩ = some (.string (str t.h)) := by rw [HK9.out.cell]; rfl
        have k5 : w9.cell? ⟨V, 5, none⟩ = some (.int .i64 t.p) := by rw [HK9.out.cell]; rfl
        have es : str [] = (⟨#[]⟩ : ByteArray) := rfl
        by_cases c1 : er = 0
        · by_cases c2 : ne = 0
          · have hj : judgeS a l = (nm, p, 0) := by rw [HJ.out, if_neg (fun hh => hh c1), if_neg (fun hh => hh c2)]
            have hd := Hd.out
            unfold doneS at hd
            rw [hj] at hd
            obtain ⟨z1, r1, h1, p1⟩ := hd
            have z2 : t.z = 1 := z1.trans (if_neg (fun hh => hh rfl))
            have r2 : t.r = 0 := r1
            have h2 : t.h = nm := h1
            have p2 : t.p = p := p1
            rw [z2] at k0
            rw [r2] at k3
            rw [h2, HN0.out] at k4
            rw [p2] at k5
            clear hj z1 r1 h1 p1 z2 r2 h2 p2
            have i1 : (er != 0) = false := by simp [c1]
            have i2 : (ne != 0) = false := by simp [c2]
            have i3 : (N0.toList == N0.toList) = true := beq_self_eq_true _
            clear c1 c2 Hd HJ Hu HK9 es
            go_wp2_with fail
            go_ret
            exact ⟨rfl, by rw [HG.out]; exact HL9.out⟩
          · have hj : judgeS a l = ([], 0, ne) := by rw [HJ.out, if_neg (fun hh => hh c1), if_pos c2]
            have hd := Hd.out
            unfold doneS at hd
            rw [hj] at hd
            obtain ⟨z1, r1, h1, p1⟩ := hd
            have z2 : t.z = 2 := z1.trans (if_pos c2)
            have r2 : t.r = ne := r1
            have h2 : t.h = [] := h1
            have p2 : t.p = 0 := p1
            rw [z2] at k0
            rw [r2] at k3
            rw [h2, es] at k4
            rw [p2] at k5
            clear hj z1 r1 h1 p1 z2 r2 h2 p2
            have i1 : (er != 0) = false := by simp [c1]
            have i2 : (ne != 0) = true := by simp [c2]
            clear c1 c2 Hd HJ Hu HK9 es
            go_wp2_with fail
            go_ret
            exact ⟨rfl, by rw [HG.out]; exact HL9.out⟩
        · have hj : judgeS a l = ([], 0, er) := by rw [HJ.out, if_pos c1]
          have hd := Hd.out
          unfold doneS at hd
          rw [hj] at hd
          obtain ⟨z1, r1, h1, p1⟩ := hd
          have z2 : t.z = 2 := z1.trans (if_pos c1)
          have r2 : t.r = er := r1
          have h2 : t.h = [] := h1
          have p2 : t.p = 0 := p1
          rw [z2] at k0
          rw [r2] at k3
          rw [h2, es] at k4
          rw [p2] at k5
          clear hj z1 r1 h1 p1 z2 r2 h2 p2
          have i1 : (er != 0) = true := by simp [c1]
          clear c1 Hd HJ Hu HK9 es
          go_wp2_with fail
          go_ret
          exact ⟨rfl, by rw [HG.out]; exact HL9.out⟩

set_option maxRecDepth 100000 in
set_option linter.unusedVariables false in
theorem lifted (os : Os) (started : os.Started) (H : Type) (enc : TypeId × Value → H) :
    ReturnsInHanded {} Tryz.checked os 6 .any (fun w args => (Rows.httppeekLinesSpec.pre enc Tryz.prog Tryz.f6 [] false w args ∧ laidMetH Tryz.prog laid5 w) ∧ sizedMet enc Tryz.prog Tryz.f6 (OpenSpec.ofChange Rows.httppeekLinesSpec) false w args)
      (Rows.httppeekLinesSpec.post enc Tryz.prog Tryz.f6 false true false false) := by
  refine returns_laid_sized (C := Tryz.checked) (X := fun w _ => laidMetH Tryz.prog laid5 w) (fun _ _ _ hh h => h.of_heap hh) own started (by kernel_rfl) Tryz.func6
    (ChangeSpec.witness_shaped (enc := enc) (C := Tryz.checked) (os := os) (X := fun w _ => laidMetH Tryz.prog laid5 w) false (World.laidAll Tryz.prog os laid5) #[.agg #[.string .empty, .string .empty, .int .i64 0], .slice none 0 0] 8 (World.laidAll_os _ _ _)
      (World.shaped_of_ZipB (by kernel_rfl) (by kernel_rfl)) (by kernel_rfl) (by kernel_rfl) (by kernel_rfl) (door_met5 os _)) ?_
  intro W base args ds gs before hval0 hW hsz0 hL hshp
  have hE := env_of5 hL hshp
  have hval : ∀ (j : Nat) t v, Tryz.f6.params[j]? = some t → args[j]? = some v → Value.okWide Tryz.prog W .any base t v := hval0
  have hW' := hW
  obtain ⟨p, q, hA0, hV, rfl, hfz, hnd⟩ := hW
  have hA : DataW.TrodAll enc Tryz.prog W 0 (fun _ => true) true Tryz.f6.params.toList args.toList ds p := hA0
  have hsz : (DataW.weightsEach Tryz.prog (Tryz.f6.params.toList ++ Rows.httppeekLinesSpec.plain.varTypes Tryz.prog) (ds ++ gs)).all (· ≤ reachBytes) = true := hsz0
  rw [Tryz.params6] at hA hval hsz
  obtain ⟨v0, vs0, d0, ds0, p0, q0, hargs, rfl, rfl, h0, r0⟩ := trodAll_cons hA
  obtain ⟨v1, vs1, d1, ds1, p1, q1, rfl, rfl, rfl, h1, r1⟩ := trodAll_cons r0
  obtain ⟨rfl, rfl, rfl⟩ := trodAll_nil r1
  obtain rfl : args = #[v0, v1] := by cases args; simp_all
  obtain ⟨rfl, rfl⟩ := trodVars_none hV
  have k0 := h0
  have lt0 : ∀ x ∈ p0, x.block < W.heap.size := by obtain ⟨m, hm⟩ := k0; exact DataW.trod_lt m _ _ _ hm
  obtain ⟨a0, rfl, m0, t0, b0⟩ := open_request_sized (hval 0 39 v0 rfl rfl) h0 (reach_at hsz (j := 0) (t := 39) rfl rfl)
  have k1 := h1
  have lt1 : ∀ x ∈ p1, x.block < W.heap.size := by obtain ⟨m, hm⟩ := k1; exact DataW.trod_lt m _ _ _ hm
  obtain ⟨A1, n1, cap1, l1, rfl, le1, mx1, ln1, sl1, src1⟩ := open_fields (hval 1 40 v1 rfl rfl) h1 (reach_at hsz (j := 1) (t := 40) rfl rfl)
  clear hA0 hval0 hsz0
  refine (walk W a0 m0 t0 b0 A1 n1 cap1 l1 le1 mx1 ln1 sl1 src1 hE).mono fun e W' ⟨he, bel⟩ => ?_
  subst he
  exact ⟨_, rfl, _, _, _, [], _, [], hW', trodAll_mk1 (shut_bool Tryz.underlying4 _), (trodAll_cons_mk (Below.trod Lift.laidOut (by kernel_rfl) (of_decide_eq_true (by kernel_rfl)) k0 bel lt0) (trodAll_cons_mk (Below.trod Lift.laidOut (by kernel_rfl) (of_decide_eq_true (by kernel_rfl)) k1 bel lt1) trodAll_mk0)), rfl, bel.frame _, fun h => by cases h⟩

theorem over : Rows.httppeekLinesRow.holds Tryz.pinned (OpenSpec.ofChange Rows.httppeekLinesSpec) :=
  OpenClaim.holds_of_wide 6 Tryz.f6 rfl rfl rfl rfl rfl rfl rfl ⟨rfl, rfl, rfl, rfl, rfl⟩ rfl rfl rfl rfl rfl (by kernel_rfl) Tryz.func6 (by kernel_rfl)
    (of_decide_eq_true (by kernel_rfl)) (by unfold Func.isWrapper; first | (rw [if_pos (by decide +kernel)]; kernel_rfl) | (rw [if_neg (by decide +kernel)]; exact ⟨rfl, rfl⟩))
    (fun os started H enc _ => lifted os started H enc)

theorem proved : Rows.HttppeekLinesCardSaid :=
  Claim7.holds_tied_plain_at .later [] [.data, .data, .data, .data, .pinned] true (true, "dfae010f2981ed81a80978e863881a0f4d162522d3e968cd557793b55fa30f83") false
    over (fun _ h => by cases h) (by kernel_rfl) (fun _ h => by cases h) httppeekLines_row_tie rfl ⟨rfl, rfl⟩ (by kernel_rfl) rfl
    (fun f fn hf hfn => by
      obtain rfl : f = 6 := Option.some.inj ((show Tryz.prog.funcNamed "hagioscope/hagioscopelaw16.HttppeekLines" = some 6 by kernel_rfl).symm.trans hf) |>.symm
      obtain rfl : fn = Tryz.f6 := (Option.some.inj (Tryz.func6.symm.trans hfn)).symm
      exact ⟨by kernel_rfl, fun j t ht => by
        rw [Tryz.params6] at ht
        have hm : t ∈ [39, 40] := by simpa using Array.mem_of_getElem? ht
        have hall : ([39, 40].all fun u => !Tryz.prog.wantsStandIn u) = true := by kernel_rfl
        exact (show Tryz.prog.wantsStandIn t = false by simpa using List.all_eq_true.1 hall t hm)⟩)
    (by kernel_rfl)
#print axioms proved
end Go.Proofs.YtgbhnjkigjecmaaGreatDoor.httppeekLines
