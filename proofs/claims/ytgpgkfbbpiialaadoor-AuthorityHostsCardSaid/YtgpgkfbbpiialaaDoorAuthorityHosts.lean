/-
  AuthorityHosts: an absolute target counts, whatever its one field host tells; without one that field counts, whatever the other fields are; two such fields are refused; else the small case comes out right. Conditions: none beyond the statement's own.
-/
import Derived.Test.YtgpgkfbbpiialaaDoorAuSmall
import Derived.Test.YtgpgkfbbpiialaaDoorAuRow
import Derived.Test.YtgpgkfbbpiialaaDoorMLi
import Derived.Test.YtgpgkfbbpiialaaDoorLiftFld
import Derived.Test.YtgpgkfbbpiialaaDoorCards
import Derived.Test.YtgpgkfbbpiialaaDoorTie
set_option maxRecDepth 100000
namespace Go.Proofs.YtgpgkfbbpiialaaDoor.authorityHosts
open Go.ChangeMaps (open_string shut_string)
open Go.ChangeShapes Go.WideShapes Go.ChangeAt Go.RowKit Go.Proofs.YtgpgkfbbpiialaaDoor.Wd Go.Proofs.YtgpgkfbbpiialaaDoor.Asc Go.Proofs.YtgpgkfbbpiialaaDoor.Tx Go.Proofs.YtgpgkfbbpiialaaDoor.St Go.Proofs.YtgpgkfbbpiialaaDoor.Au Go.Proofs.YtgpgkfbbpiialaaDoor.Lift

theorem mid_on {w0 w w' : World} {v : Value} {l : List Fd.Fld} (h : Fd.Mid w0 w v l) (hb : Below w.heap.size w w') : Fd.Mid w0 w' v l := ⟨h.bel.trans (hb.mono h.bel.size), h.own.below hb (Nat.le_refl _)⟩
theorem fold_two (x y : Value) : Array.foldl (fun (cs : Array Value) (x : Value × Nat) => cs.setIfInBounds x.snd x.fst) #[.string ⟨#[]⟩, .string ⟨#[]⟩] (#[x, y] : Array Value).zipIdx 0 (#[x, y] : Array Value).size = #[x, y] := rfl
theorem bsG (w : World) (S : ByteArray) (A : List UInt8) (hA : S = str A) : Fd.SrcF (w.alloc (.cells #[.string ⟨#[104, 111, 115, 116]⟩, .string S] 34)) (some ⟨w.heap.size, 0, none⟩) [⟨hostN, A⟩] := by
  subst hA
  exact Fd.SrcF.one ⟨hostN, A⟩ (Blk.new w _ _)

set_option linter.unusedSimpArgs false in
set_option maxHeartbeats 16000000 in
theorem walk (W : World) (AS : ByteArray) (hA0 : AS.size ≤ maxLen) (TS : ByteArray) (hT0 : TS.size ≤ maxLen) (A : Option Addr) (n cap : Nat) (l : List Fd.Fld) (le0 : n ≤ cap) (mx : cap ≤ maxLen) (hln : l.length = n) (_ : ∀ f ∈ l, ShortF maxLen f) (hsrc : Fd.SrcF W A l) (hE : Ad.Env W.heap.size W) :
    Calls Tryd.prog 6 #[.string AS, .string TS, .slice A n cap] W fun e w' => e = .returned (.bool true) ∧ Below W.heap.size W w' := by
  have sA : AS.size ≤ 9223372036854775807 := hA0
  have sT : TS.size ≤ 9223372036854775807 := hT0
  have sn : n ≤ 9223372036854775807 := Nat.le_trans le0 mx
  have HE := Lib.hid hE
  have HS := Lib.hid (small_any W hE)
  have HSrc := Lib.hid hsrc
  have HN := Lib.hid hln
  clear hE hA0 hT0 le0 mx hsrc hln
  go_enter Tryd.func6, Tryd.ntmps6
  go_wp2_with fail
  refine HS.out.mono ?_
  rintro e w1 ⟨rfl, hb⟩
  have HL1 := Lib.hid hb
  have HE1 := Lib.hid (HE.out.on hb)
  have HSr := Lib.hid (HSrc.out.below hb)
  clear hb HS HE HSrc
  by_cases h1 : 500 < AS.size
  · have i1 : (500 : Int) < (AS.size : Int) := by omega
    go_wp2_with fail
    go_ret
    exact ⟨rfl, HL1.out⟩
  have i1 : ¬ (500 : Int) < (AS.size : Int) := by omega
  by_cases h2 : 500 < TS.size
  · have i2 : (500 : Int) < (TS.size : Int) := by omega
    go_wp2_with fail
    go_ret
    exact ⟨rfl, HL1.out⟩
  have i2 : ¬ (500 : Int) < (TS.size : Int) := by omega
  by_cases h3 : 30 < n
  · have i3 : (30 : Int) < (n : Int) := by omega
    go_wp2_with fail
    go_ret
    exact ⟨rfl, HL1.out⟩
  have i3 : ¬ (30 : Int) < (n : Int) := by omega
  clear h1 h2 h3
  go_wp2_with fail
  go_loop [8] (fun x => ∃ k : Nat, x = .int .i64 k ∧ k ≤ AS.size ∧ Hid (∀ c ∈ (bs AS).take k, Rl.endB c = false)) (fun x => AS.size - (intOf x).toNat)
  case atStart => exact ⟨0, rfl, Nat.zero_le _, Lib.hid (by simp)⟩
  case round =>
    obtain ⟨k, rfl, hk, HT⟩ := hrel
    by_cases hlt : k < AS.size
    · have hki : (k : Int) < (AS.size : Int) := by omega
      have b1 : (((AS[k]'hlt).toNat : Int) == 47) = decide (AS[k]'hlt = 47) := byte_eq _ 47
      have b2 : (((AS[k]'hlt).toNat : Int) == 63) = decide (AS[k]'hlt = 63) := byte_eq _ 63
      have b3 : (((AS[k]'hlt).toNat : Int) == 35) = decide (AS[k]'hlt = 35) := byte_eq _ 35
      by_cases c1 : AS[k]'hlt = 47
      · rw [decide_eq_true c1] at b1
        clear c1 b2 b3
        go_wp2_with fail
        go_ret
        exact ⟨rfl, HL1.out⟩
      rw [decide_eq_false c1] at b1
      by_cases c2 : AS[k]'hlt = 63
      · rw [decide_eq_true c2] at b2
        clear c1 c2 b3
        go_wp2_with fail
        go_ret
        exact ⟨rfl, HL1.out⟩
      rw [decide_eq_false c2] at b2
      by_cases c3 : AS[k]'hlt = 35
      · rw [decide_eq_true c3] at b3
        clear c1 c2 c3
        go_wp2_with fail
        go_ret
        exact ⟨rfl, HL1.out⟩
      rw [decide_eq_false c3] at b3
      have HT2 : Hid (∀ c ∈ (bs AS).take (k + 1), Rl.endB c = false) := Lib.hid (fun c hc => by
        rw [bs_take AS k hlt, List.mem_append, List.mem_singleton] at hc
        rcases hc with hc | rfl
        · exact HT.out c hc
        · exact end3 _ c1 c2 c3)
      clear c1 c2 c3
      go_wp2_with fail
      go_round
      case rel => exact ⟨k + 1, by go_num, hlt, HT2⟩
      case measure => simp [intOf]; omega
    · have hki : ¬ (k : Int) < (AS.size : Int) := by omega
      have HA : Hid (∀ c ∈ bs AS, Rl.endB c = false) := Lib.hid (by
        have h := HT.out
        rwa [List.take_of_length_le (by rw [bs_length]; omega)] at h)
      go_wp2_with fail
      clear HT hki hlt
      go_loop [9] (fun x => ∃ k : Nat, x = .int .i64 k ∧ k ≤ n ∧ Hid (∀ f ∈ l.take k, f.name ≠ hostN)) (fun x => n - (intOf x).toNat)
      case atStart => exact ⟨0, rfl, Nat.zero_le _, Lib.hid (by simp)⟩
      case round =>
        obtain ⟨j, rfl, hj, HF⟩ := hrel
        by_cases hlt : j < n
        · have hji : (j : Int) < (n : Int) := by omega
          obtain ⟨f, g, o, hf, rfl, hgw, h0, _⟩ := HSr.out.get (k := j) (by rw [HN.out]; exact hlt) (Below.refl _ _)
          have HFj := Lib.hid hf
          have e1 := Rl.lit_beq f.name [104, 111, 115, 116]
          obtain ⟨X, hX⟩ : ∃ X, str f.name = X := ⟨_, rfl⟩
          rw [hX] at h0 e1
          clear hf hX
          by_cases c1 : f.name = [104, 111, 115, 116]
          · rw [decide_eq_true c1] at e1
            clear c1
            go_wp2_with fail
            go_ret
            exact ⟨rfl, HL1.out⟩
          · rw [decide_eq_false c1] at e1
            have HF2 : Hid (∀ f ∈ l.take (j + 1), f.name ≠ hostN) := Lib.hid (fun f' hf' => by
              rw [Fd.take_snoc HFj.out, List.mem_append, List.mem_singleton] at hf'
              rcases hf' with hf' | rfl
              · exact HF.out f' hf'
              · exact c1)
            clear c1
            go_wp2_with fail
            go_round
            case rel => exact ⟨j + 1, by go_num, hlt, HF2⟩
            case measure => simp [intOf]; omega
        · have hji : ¬ (j : Int) < (n : Int) := by omega
          have HF3 : Hid (∀ f ∈ l, f.name ≠ hostN) := Lib.hid (by
            have h := HF.out
            rwa [List.take_of_length_le (by rw [HN.out]; omega)] at h)
          go_upto_region 14 with fail
          clear HF hji hlt
          obtain ⟨q1, hq1⟩ : ∃ q, parseS (bs AS) = q := ⟨_, rfl⟩
          obtain ⟨y1, p1, e1⟩ := q1
          obtain ⟨q2, hq2⟩ : ∃ q, parseS (bs TS) = q := ⟨_, rfl⟩
          obtain ⟨y2, p2, e2⟩ := q2
          obtain ⟨H1, hH1⟩ : ∃ H, str y1 = H := ⟨_, rfl⟩
          obtain ⟨H2, hH2⟩ : ∃ H, str y2 = H := ⟨_, rfl⟩
          have lA : (bs AS).length ≤ 500 := by rw [bs_length]; omega
          have lT : (bs TS).length ≤ 500 := by rw [bs_length]; omega
          have lU : (urlS (bs AS)).length ≤ 1000000 := by
            rw [urlS, List.length_append, List.length_append]
            show 7 + (bs AS).length + 1 ≤ _
            omega
          have f1 := find_one HF3.out (bs TS)
          have f2 := find_two HF3.out (bs TS) []
          have O1 := Lib.hid (fun A c w hE hs => of_is (B := W.heap.size) ⟨getS, urlS (bs AS), 0⟩ (l ++ [⟨hostN, bs TS⟩]) A (n + 1) c (by rw [List.length_append, HN.out]; rfl) H1 y1 hH1 p1 e1 (by rw [of_url HA.out f1]; exact hq1) (by omega) lU (by rw [f1]; exact Nat.le_trans lT (by decide)) w hE hs)
          have O2 := Lib.hid (fun A c w hE hs => of_is (B := W.heap.size) ⟨getS, [47], 0⟩ (l ++ [⟨hostN, bs TS⟩]) A (n + 1) c (by rw [List.length_append, HN.out]; rfl) H2 y2 hH2 p2 e2 (by rw [of_root f1]; exact hq2) (by omega) (by decide) (by rw [f1]; exact Nat.le_trans lT (by decide)) w hE hs)
          have O3 := Lib.hid (fun A c w hE hs => of_is (B := W.heap.size) ⟨getS, [47], 0⟩ (l ++ [⟨hostN, bs TS⟩] ++ [⟨hostN, []⟩]) A (n + 1 + 1) c (by rw [List.length_append, List.length_append, HN.out]; rfl) ⟨#[]⟩ [] rfl 0 7 (of_two f2) (by omega) (by decide) (by rw [f2]; exact Nat.le_trans lT (by decide)) w hE hs)
          have P1 := Lib.hid (fun w hE => par_is (B := W.heap.size) (bs AS) AS (str_bs AS).symm H1 y1 hH1 p1 e1 hq1 (by omega) w hE)
          have P2 := Lib.hid (fun w hE => par_is (B := W.heap.size) (bs TS) TS (str_bs TS).symm H2 y2 hH2 p2 e2 hq2 (by omega) w hE)
          have HU : Hid ((⟨#[104, 116, 116, 112, 58, 47, 47]⟩ : ByteArray) ++ AS ++ (⟨#[47]⟩ : ByteArray) = str (urlS (bs AS))) := Lib.hid (by
            apply bs_inj
            rw [bs_str (urlS (bs AS))]
            simp only [bs_add]
            rfl)
          have B1 : Hid (Tryd.prog.built 37 [(0, .string ⟨#[71, 69, 84]⟩), (1, .string ((⟨#[104, 116, 116, 112, 58, 47, 47]⟩ : ByteArray) ++ AS ++ (⟨#[47]⟩ : ByteArray)))] = some (Rl.rqC ⟨getS, urlS (bs AS), 0⟩)) := Lib.hid (by rw [HU.out]; kernel_rfl)
          have B2 : Hid (Tryd.prog.built 37 [(0, .string ⟨#[71, 69, 84]⟩), (1, .string ⟨#[47]⟩)] = some (Rl.rqC ⟨getS, [47], 0⟩)) := Lib.hid (by kernel_rfl)
          have hTS : TS = str (bs TS) := (str_bs TS).symm
          have BF1 : Hid (Tryd.prog.built 34 [(0, .string ⟨#[104, 111, 115, 116]⟩), (1, .string TS)] = some (Fd.fdC ⟨hostN, bs TS⟩)) := Lib.hid (by
            show _ = some #[Value.string ⟨#[104, 111, 115, 116]⟩, Value.string (str (bs TS))]
            rw [← hTS]
            kernel_rfl)
          have BF2 : Hid (Tryd.prog.built 34 [(0, .string ⟨#[104, 111, 115, 116]⟩)] = some (Fd.fdC ⟨hostN, []⟩)) := Lib.hid (by kernel_rfl)
          have HFC1 : Hid (Fd.fdC ⟨hostN, bs TS⟩ = #[Value.string ⟨#[104, 111, 115, 116]⟩, Value.string TS]) := Lib.hid (by
            show #[Value.string ⟨#[104, 111, 115, 116]⟩, .string (str (bs TS))] = _
            rw [← hTS])
          have HFC2 : Hid (Fd.fdC ⟨hostN, []⟩ = #[Value.string ⟨#[104, 111, 115, 116]⟩, Value.string ⟨#[]⟩]) := Lib.hid rfl
          have HG1 := Lib.hid (fun w => bsG w TS (bs TS) hTS)
          have HG2 := Lib.hid (fun w => bsG w ⟨#[]⟩ [] rfl)
          have m1 : (H1.toList == H1.toList) = true := by simp
          have m2 : (p1 == p1) = true := by simp
          have m3 : (e1 == e1) = true := by simp
          have m4 : (H2.toList == H2.toList) = true := by simp
          have m5 : (p2 == p2) = true := by simp
          have m6 : (e2 == e2) = true := by simp
          have z1 : ((⟨#[104, 116, 116, 112, 58, 47, 47]⟩ : ByteArray) ++ AS).size ≤ 507 := by rw [ByteArray.size_append]; show 7 + AS.size ≤ _; omega
          have HM0 := Lib.hid (Fd.Mid.start (w0 := w1) (Below.refl _ w1))
          have HS0 := Lib.hid (HSr.out.below ((Below.refl _ _).alloc (Nat.le_refl _) (.cells #[] 34)))
          have hn30 : l.length + 2 ≤ 100000 := by rw [HN.out]; omega
          have HN30 := Lib.hid hn30
          clear hq1 hq2 hH1 hH2 lA lT lU f1 f2 hTS HU HA HF3 hn30 HSr
          go_upto_region 15 with (first
            | (refine Fd.wpList_appF rfl (.tmp 77) (.tmp 78) rfl w1.heap.size (.slice (some ⟨w1.heap.size, 0, none⟩) 0 0) [] rfl HM0.out.own A n cap l rfl HN.out.symm HS0.out (by have h := HN30.out; simp only [List.length_nil]; omega) HM0.out.bel.size ?_
               intro v2 w2 ho2 hg2
               rw [List.nil_append] at ho2
               have HM1 := Lib.hid (HM0.out.app ho2.out hg2.out)
               clear ho2 hg2 HM0 HS0
               have HM2 := Lib.hid (HM1.out.alloc (.cells #[.string ⟨#[104, 111, 115, 116]⟩, .string TS] 34))
               clear HM1)
            | (refine Fd.go_bdF _ ⟨hostN, bs TS⟩ BF1.out (by rfl) rfl (by simp only [List.map_toArray, List.map_cons, List.map_nil]; rfl) ?_; rw [HFC1.out])
            | (try rw [fold_two]
               refine Fd.wpList_appF rfl (.tmp 79) (.tmp 82) rfl w1.heap.size v2 l rfl HM2.out.own (some ⟨w2.heap.size, 0, none⟩) 1 1 [⟨hostN, bs TS⟩] rfl rfl (HG1.out w2) (by have h := HN30.out; simp only [List.length_cons, List.length_nil]; omega) HM2.out.bel.size ?_
               intro v4 w4 ho4 hg4
               have HM4 := Lib.hid (HM2.out.app ho4.out hg4.out)
               clear ho4 hg4 HM2))
          obtain ⟨A4, c4, hv4, _, hs4⟩ := HM4.out.own.src
          have hv : v4 = .slice A4 (n + 1) c4 := by rw [hv4, List.length_append, HN.out]; rfl
          subst hv
          have HS4 := Lib.hid hs4
          have HL4 := Lib.hid (HL1.out.trans (HM4.out.bel.mono HL1.out.size))
          have HE4 := Lib.hid (HE1.out.on HM4.out.bel)
          clear hv4 hs4 BF1 HFC1 HG1
          go_wp2_with (refine Rl.go_bdR _ ⟨getS, urlS (bs AS), 0⟩ B1.out (by rfl) rfl (by simp only [List.map_toArray, List.map_cons, List.map_nil]; rfl) ?_)
          refine (O1.out A4 c4 w4 HE4.out HS4.out).mono ?_
          rintro e w5 ⟨rfl, hb⟩
          have HM5 := Lib.hid (mid_on HM4.out hb)
          have HS5 := Lib.hid (HS4.out.below hb)
          have HL5 := Lib.hid (HL1.out.trans (HM5.out.bel.mono HL1.out.size))
          have HE5 := Lib.hid (HE1.out.on HM5.out.bel)
          clear hb O1 B1 HM4 HS4 HL4 HE4
          go_wp2_with fail
          refine (P1.out w5 HE5.out).mono ?_
          rintro e w6 ⟨rfl, hb⟩
          have HM6 := Lib.hid (mid_on HM5.out hb)
          have HS6 := Lib.hid (HS5.out.below hb)
          have HE6 := Lib.hid (HE1.out.on HM6.out.bel)
          clear hb P1 HM5 HS5 HL5 HE5
          go_wp2_with (refine Rl.go_bdR _ ⟨getS, [47], 0⟩ B2.out (by rfl) rfl (by simp only [List.map_toArray, List.map_cons, List.map_nil]; rfl) ?_)
          refine (O2.out A4 c4 w6 HE6.out HS6.out).mono ?_
          rintro e w7 ⟨rfl, hb⟩
          have HM7 := Lib.hid (mid_on HM6.out hb)
          have HE7 := Lib.hid (HE1.out.on HM7.out.bel)
          clear hb O2 HM6 HS6 HE6
          go_wp2_with fail
          refine (P2.out w7 HE7.out).mono ?_
          rintro e w8 ⟨rfl, hb⟩
          have HM8 := Lib.hid (mid_on HM7.out hb)
          clear hb P2 HM7 HE7
          have HM9 := Lib.hid (HM8.out.alloc (.cells #[.string ⟨#[104, 111, 115, 116]⟩, .string ⟨#[]⟩] 34))
          clear HM8
          go_wp2_with (first
            | (refine Rl.go_bdR _ ⟨getS, [47], 0⟩ B2.out (by rfl) rfl (by simp only [List.map_toArray, List.map_cons, List.map_nil]; rfl) ?_)
            | (refine Fd.go_bdF _ ⟨hostN, []⟩ BF2.out (by rfl) rfl (by simp only [List.map_toArray, List.map_cons, List.map_nil]; rfl) ?_; rw [HFC2.out])
            | (try rw [fold_two]
               refine Fd.wpList_appF rfl (.tmp 115) (.tmp 117) rfl w1.heap.size (.slice A4 (n + 1) c4) (l ++ [⟨hostN, bs TS⟩]) rfl HM9.out.own (some ⟨w8.heap.size, 0, none⟩) 1 1 [⟨hostN, []⟩] rfl rfl (HG2.out w8) (by have h := HN30.out; simp only [List.length_append, List.length_cons, List.length_nil]; omega) HM9.out.bel.size ?_
               intro v10 w10 ho10 hg10
               have HM10 := Lib.hid (HM9.out.app ho10.out hg10.out)
               clear ho10 hg10 HM9
               obtain ⟨A10, c10, hv10, _, hs10⟩ := HM10.out.own.src
               have hv : v10 = .slice A10 (n + 1 + 1) c10 := by rw [hv10, List.length_append, List.length_append, HN.out]; rfl
               subst hv
               have HS10 := Lib.hid hs10
               clear hv10 hs10))
          have HL10 := Lib.hid (HL1.out.trans (HM10.out.bel.mono HL1.out.size))
          have HE10 := Lib.hid (HE1.out.on HM10.out.bel)
          refine (O3.out A10 c10 w10 HE10.out HS10.out).mono ?_
          rintro e w11 ⟨rfl, hb⟩
          have HL11 := Lib.hid (HL10.out.trans (hb.mono HL10.out.size))
          clear hb O3 HM10 HS10 HL10 HE10 B2 BF2 HFC2 HG2
          go_wp2_with fail
          go_ret
          exact ⟨rfl, HL11.out⟩

set_option maxRecDepth 100000 in
set_option linter.unusedVariables false in
theorem lifted (os : Os) (started : os.Started) (H : Type) (enc : TypeId × Value → H) :
    ReturnsInHanded {} Tryd.checked os 6 .any (fun w args => (Rows.authorityHostsSpec.pre enc Tryd.prog Tryd.f6 [] false w args ∧ laidMetH Tryd.prog laid3 w) ∧ sizedMet enc Tryd.prog Tryd.f6 (OpenSpec.ofChange Rows.authorityHostsSpec) false w args)
      (Rows.authorityHostsSpec.post enc Tryd.prog Tryd.f6 false true false false) := by
  refine returns_laid (C := Tryd.checked) (X := fun w _ => laidMetH Tryd.prog laid3 w) (fun _ _ _ hh h => h.of_heap hh) own started (by kernel_rfl) Tryd.func6
    (ChangeSpec.witness_shaped (enc := enc) (C := Tryd.checked) (os := os) (X := fun w _ => laidMetH Tryd.prog laid3 w) false (World.doorLaid Tryd.prog 24 os) #[.string .empty, .string .empty, .slice none 0 0] 8 rfl (World.shaped_of_RefB (by kernel_rfl) (by kernel_rfl)) (by kernel_rfl) (by kernel_rfl) (by kernel_rfl) (door_met os _)) ?_
  intro W base args ds gs before hval0 hW hL hshp
  have hE := env_of hL hshp
  have hval : ∀ (j : Nat) t v, Tryd.f6.params[j]? = some t → args[j]? = some v → Value.okWide Tryd.prog W .any base t v := hval0
  have hW' := hW
  obtain ⟨p, q, hA0, hV, rfl, hfz, hnd⟩ := hW
  have hA : DataW.TrodAll enc Tryd.prog W 0 (fun _ => true) true Tryd.f6.params.toList args.toList ds p := hA0
  rw [Tryd.params6] at hA hval
  obtain ⟨v0, vs0, d0, ds0, p0, q0, hargs, rfl, rfl, h0, r0⟩ := trodAll_cons hA
  obtain ⟨v1, vs1, d1, ds1, p1, q1, rfl, rfl, rfl, h1, r1⟩ := trodAll_cons r0
  obtain ⟨v2, vs2, d2, ds2, p2, q2, rfl, rfl, rfl, h2, r2⟩ := trodAll_cons r1
  obtain ⟨rfl, rfl, rfl⟩ := trodAll_nil r2
  obtain rfl : args = #[v0, v1, v2] := by cases args; simp_all
  obtain ⟨rfl, rfl⟩ := trodVars_none hV
  have k0 := h0
  have lt0 : ∀ x ∈ p0, x.block < W.heap.size := by obtain ⟨m, hm⟩ := k0; exact DataW.trod_lt m _ _ _ hm
  obtain ⟨s0, rfl, rfl, rfl, hs0⟩ := open_string Tryd.underlying9 (hval 0 9 v0 rfl rfl) h0
  have k1 := h1
  have lt1 : ∀ x ∈ p1, x.block < W.heap.size := by obtain ⟨m, hm⟩ := k1; exact DataW.trod_lt m _ _ _ hm
  obtain ⟨s1, rfl, rfl, rfl, hs1⟩ := open_string Tryd.underlying9 (hval 1 9 v1 rfl rfl) h1
  have k2 := h2
  have lt2 : ∀ x ∈ p2, x.block < W.heap.size := by obtain ⟨m, hm⟩ := k2; exact DataW.trod_lt m _ _ _ hm
  obtain ⟨A2, n2, cap2, l2, rfl, le2, mx2, ln2, sl2, src2⟩ := open_fields_any (hval 2 32 v2 rfl rfl) h2
  clear hA0 hval0
  refine (walk W s0 hs0 s1 hs1 A2 n2 cap2 l2 le2 mx2 ln2 sl2 src2 hE).mono fun e W' ⟨he, bel⟩ => ?_
  subst he
  exact ⟨_, rfl, _, _, _, [], _, [], hW', trodAll_mk1 (shut_bool Tryd.underlying4 _), (trodAll_cons_mk (Below.trod Lift.laidOut (by kernel_rfl) (of_decide_eq_true (by kernel_rfl)) k0 bel lt0) (trodAll_cons_mk (Below.trod Lift.laidOut (by kernel_rfl) (of_decide_eq_true (by kernel_rfl)) k1 bel lt1) (trodAll_cons_mk (Below.trod Lift.laidOut (by kernel_rfl) (of_decide_eq_true (by kernel_rfl)) k2 bel lt2) trodAll_mk0))), rfl, bel.frame _, fun h => by cases h⟩

theorem over : Rows.authorityHostsRow.holds Tryd.pinned (OpenSpec.ofChange Rows.authorityHostsSpec) :=
  OpenClaim.holds_of_wide 6 Tryd.f6 rfl rfl rfl rfl rfl rfl rfl ⟨rfl, rfl, rfl, rfl, rfl⟩ rfl rfl rfl rfl rfl (by kernel_rfl) Tryd.func6 (by kernel_rfl)
    (of_decide_eq_true (by kernel_rfl)) (by unfold Func.isWrapper; first | (rw [if_pos (by decide +kernel)]; kernel_rfl) | (rw [if_neg (by decide +kernel)]; exact ⟨rfl, rfl⟩))
    (fun os started H enc _ => lifted os started H enc)

theorem proved : Rows.AuthorityHostsCardSaid :=
  Claim7.holds_tied_plain_at .later [] [.data, .data, .data] true (true, "2da1d9af285a88b4bc346a5297bdf1a14c96f7c78ae00913eb4d58b8133c6718") false
    over (fun _ h => by cases h) (by kernel_rfl) (fun _ h => by cases h) authorityHosts_row_tie rfl ⟨rfl, rfl⟩ (by kernel_rfl) rfl
    (fun f fn hf hfn => by
      obtain rfl : f = 6 := Option.some.inj ((show Tryd.prog.funcNamed "hagioscope/hagioscopelaw13.AuthorityHosts" = some 6 by kernel_rfl).symm.trans hf) |>.symm
      obtain rfl : fn = Tryd.f6 := (Option.some.inj (Tryd.func6.symm.trans hfn)).symm
      exact ⟨by kernel_rfl, fun j t ht => by
        rw [Tryd.params6] at ht
        have hm : t ∈ [9, 9, 32] := by simpa using Array.mem_of_getElem? ht
        have hall : ([9, 9, 32].all fun u => !Tryd.prog.wantsStandIn u) = true := by kernel_rfl
        exact (show Tryd.prog.wantsStandIn t = false by simpa using List.all_eq_true.1 hall t hm)⟩)
    (by kernel_rfl)
#print axioms proved
end Go.Proofs.YtgpgkfbbpiialaaDoor.authorityHosts
