/-
  FieldFinds: a field behind others is found by package field's Find, if no earlier one has its name, and all of a name are counted; else the small case comes out right. Conditions: none beyond the statement's own.
-/
import Derived.Test.YtkbankjnfedkdaaFdSmall
import Derived.Test.YtkbankjnfedkdaaLiftFd
import Derived.Test.YtkbankjnfedkdaaFdRow
set_option maxRecDepth 100000
namespace Go.Proofs.Ytkbankjnfedkdaa.fieldFinds
open Go.ChangeMaps (open_string)
open Go.ChangeShapes Go.WideShapes Go.ChangeAt Go.RowKit Go.Proofs.Ytkbankjnfedkdaa.Wd Go.Proofs.Ytkbankjnfedkdaa.Asc Go.Proofs.Ytkbankjnfedkdaa.Tx Go.Proofs.Ytkbankjnfedkdaa.St Go.Proofs.Ytkbankjnfedkdaa.Fd Go.Proofs.Ytkbankjnfedkdaa.Lift

set_option linter.unusedSimpArgs false in
set_option maxHeartbeats 8000000 in
theorem walk (W : World) (A : Option Addr) (n cap : Nat) (l : List Fld) (le0 : n ≤ cap) (mx : cap ≤ maxLen) (hln : l.length = n) (hsl : ∀ f ∈ l, ShortF reachBytes f) (hsrc : SrcF W A l) (f : Fld) (hF0 : ShortF reachBytes f) (hE : Env W.heap.size W) :
    Calls Try.prog 7 #[.slice A n cap, .agg (fdC f)] W fun e w' => e = .returned (.bool true) ∧ Below W.heap.size W w' := by
  obtain ⟨X, hX⟩ : ∃ X, str f.name = X := ⟨_, rfl⟩
  obtain ⟨Y, hY⟩ : ∃ Y, str f.text = Y := ⟨_, rfl⟩
  have hC : fdC f = #[.string X, .string Y] := by rw [← hX, ← hY]; rfl
  have zX : X.size = f.name.length := by rw [← hX, str_size]
  have zY : Y.size = f.text.length := by rw [← hY, str_size]
  have sX : X.size ≤ 140737488351232 := by rw [zX]; exact hF0.1
  have sY : Y.size ≤ 140737488351232 := by rw [zY]; exact hF0.2
  have sn : n ≤ 9223372036854775807 := Nat.le_trans le0 mx
  have HT0 := Lib.hid (show ∀ g ∈ l ++ [f], g.text.length ≤ 140737488355328 from fun g hg => by
    rcases List.mem_append.1 hg with hg | hg
    · exact Nat.le_trans (hsl g hg).2 (by decide)
    · rw [List.mem_singleton.1 hg]; exact Nat.le_trans hF0.2 (by decide))
  rw [hC]
  have HC := Lib.hid hC
  have HX := Lib.hid (show bs X = f.name by rw [← hX]; rfl)
  have HY := Lib.hid (show bs Y = f.text by rw [← hY]; rfl)
  have HYs := Lib.hid hY
  have HC0 := Lib.hid (show f.text = bs Y by rw [← hY]; rfl)
  have HXs := Lib.hid hX
  have HE := Lib.hid hE
  have HS := Lib.hid (fun w hE => small_any (N := W.heap.size) w hE)
  have HSrc := Lib.hid hsrc
  have HN := Lib.hid hln
  clear hE hsrc hln hsl le0 mx hX hY hC hF0 zX zY
  go_enter Try.func7, Try.ntmps7
  go_upto_region 1 with fail
  have b1 := Blk.new W 24 #[.string X, .string Y]
  have hbel : Below W.heap.size W (W.alloc (.cells #[.string X, .string Y] 24)) := (Below.refl _ _).alloc (Nat.le_refl _) _
  generalize W.alloc (.cells #[.string X, .string Y] 24) = w1 at *
  obtain ⟨G, hG⟩ : ∃ G, W.heap.size = G := ⟨_, rfl⟩
  have HSrc1 := Lib.hid (HSrc.out.below hbel)
  rw [hG] at b1 hbel HE HS ⊢
  have HG := Lib.hid hG
  have HK1 := Lib.hid b1
  have HL1 := Lib.hid hbel
  clear b1 hbel hG HSrc
  go_wp2_with fail
  refine (HS.out w1 (HE.out.below HL1.out)).mono ?_
  rintro e w2 ⟨rfl, hb⟩
  have HK2 := Lib.hid (HK1.out.below hb HK1.out.lt)
  have HL2 := Lib.hid (HL1.out.trans (hb.mono (Nat.le_of_lt HK1.out.lt)))
  have HSrc2 := Lib.hid (HSrc1.out.below hb)
  have c0 := HK2.out.cell 0
  have c1 := HK2.out.cell 1
  clear hb HS HK1 HL1 HSrc1
  by_cases h1 : 50 < n
  · have i1 : (50 : Int) < (n : Int) := by omega
    go_wp2_with fail
    go_ret
    exact ⟨rfl, by rw [HG.out]; exact HL2.out⟩
  have i1 : ¬ (50 : Int) < (n : Int) := by omega
  by_cases h2 : 500 < X.size
  · have i2 : (500 : Int) < (X.size : Int) := by omega
    go_wp2_with fail
    go_ret
    exact ⟨rfl, by rw [HG.out]; exact HL2.out⟩
  have i2 : ¬ (500 : Int) < (X.size : Int) := by omega
  have zn : n ≤ 50 := by omega
  clear h1 h2 sn
  obtain ⟨LX, hLX⟩ : ∃ LX, lowS X = LX := ⟨_, rfl⟩
  have HLX := Lib.hid (show bs LX = (bs X).map lowB by rw [← hLX]; rfl)
  have HLo := Lib.hid (fun w => lower_any X w)
  rw [hLX] at HLo
  have HEq := Lib.hid (eq_bytes LX X)
  obtain ⟨low, hlow⟩ : ∃ low, (LX.toList == X.toList) = low := ⟨_, rfl⟩
  have HLow := Lib.hid (show low = decide (f.name = (bs X).map lowB) by
    rw [← hlow, HEq.out]
    by_cases h : LX = X
    · rw [decide_eq_true h, decide_eq_true (by rw [← HLX.out, h, HX.out])]
    · rw [decide_eq_false h, decide_eq_false (fun e => h (bs_inj (by rw [HLX.out, ← e, HX.out])))])
  have F1 := Lib.hid (fun w hs => find_any l A n cap X w hs HN.out (by omega) (fun g hg => HT0.out g (List.mem_append_left _ hg)))
  have F2 := Lib.hid (fun A c w hs => find_any (l ++ [f]) A (n + 1) c X w hs (by rw [List.length_append, HN.out]; rfl) (by omega) HT0.out)
  have hle := find_le ((bs X).map lowB) l
  rw [HN.out] at hle
  have HNo := Lib.hid (fun h : low = false => (find_miss (nm := (bs X).map lowB) (l := l) (f := f) (of_decide_eq_false (by rw [← HLow.out]; exact h))))
  have HFi := Lib.hid (fun (h : low = true) h0 => find_first (nm := (bs X).map lowB) (l := l) (f := f) (of_decide_eq_true (by rw [← HLow.out]; exact h)) h0)
  have HMo := Lib.hid (fun (h : low = true) h0 => find_more (nm := (bs X).map lowB) (l := l) (f := f) (of_decide_eq_true (by rw [← HLow.out]; exact h)) h0)
  have HNn := Lib.hid (fun h0 => find_none (nm := (bs X).map lowB) (l := l) h0)
  generalize findS ((bs X).map lowB) l = p at *
  generalize findS ((bs X).map lowB) (l ++ [f]) = q at *
  clear hLX HLX HEq HLow HX
  go_upto_region 4 with fail
  refine wp_region_held_drew (S := fun w' => w'.cell? ⟨G, 0, none⟩ = some (.string X)) (by kernel_rfl) (show w2.drew.cell? ⟨G, 0, none⟩ = _ from HK2.out.cell 0) (fun h0 => ?_)
  refine hd_take 0 (some 22) (.pointer (some ⟨G, 0, none⟩)) rfl rfl (by kernel_rfl) (by kernel_rfl) (by kernel_rfl) (fun _ _ _ h => h) (Or.inl ⟨by rfl, fun w hw => by go_simp⟩) h0 ?_
  simp only [Act.put, List.setIfInBounds_toArray, List.set_cons_zero, List.set_cons_succ]
  refine hd_take 1 (some 23) (.string X) rfl rfl (by kernel_rfl) (by kernel_rfl) (by kernel_rfl) (fun _ _ _ h => h) (Or.inl ⟨by rfl, fun w hw => by have h9 := hw; go_simp⟩) h0 ?_
  simp only [Act.put, List.setIfInBounds_toArray, List.set_cons_zero, List.set_cons_succ]
  refine hd_take 3 (some 25) (.pointer (some ⟨G, 0, none⟩)) rfl rfl (by kernel_rfl) (by kernel_rfl) (by kernel_rfl) (fun _ _ _ h => h) (Or.inl ⟨by rfl, fun w hw => by go_simp⟩) h0 ?_
  simp only [Act.put, List.setIfInBounds_toArray, List.set_cons_zero, List.set_cons_succ]
  refine hd_take 4 (some 26) (.string X) rfl rfl (by kernel_rfl) (by kernel_rfl) (by kernel_rfl) (fun _ _ _ h => h) (Or.inl ⟨by rfl, fun w hw => by have h9 := hw; go_simp⟩) h0 ?_
  simp only [Act.put, List.setIfInBounds_toArray, List.set_cons_zero, List.set_cons_succ]
  refine wpAnyH_ready (rs := [2]) (by kernel_rfl) (by simp) (AllReadyH.cons rfl (fun K hK => ?_) AllReadyH.nil)
  go_simp
  go_wp2_with (go_at_call 15; refine (HLo.out _).mono ?_; rintro e w3 ⟨rfl, hb3⟩; have HB3 := Lib.hid (show Below w2.heap.size w2 w3 from (show Below w2.heap.size w2 w2.drew from (Below.refl _ _).drew).trans hb3); clear hb3)
  have HK3 := Lib.hid (HK2.out.below HB3.out HK2.out.lt)
  have HL3 := Lib.hid (HL2.out.trans (HB3.out.mono (Nat.le_of_lt HK2.out.lt)))
  have HSrc3 := Lib.hid (HSrc2.out.below HB3.out)
  have HG3 := Lib.hid (show G ≤ w3.heap.size from Nat.le_of_lt HK3.out.lt)
  refine hK.out _ _ (HK3.out.cell 0) (fun h2 => ?_)
  clear hK K HB3 HK2 HL2 HSrc2 h0 c0 c1
  refine hd_take 5 (some 27) (.bool low) rfl rfl (by kernel_rfl) (by kernel_rfl) (by kernel_rfl) (fun _ _ _ h => h) (Or.inl ⟨by rfl, fun w hw => by go_simp⟩) h2 ?_
  simp only [Act.put, List.setIfInBounds_toArray, List.set_cons_zero, List.set_cons_succ]
  refine hd_take 6 (some 6) (.bool low) rfl rfl (by kernel_rfl) (by kernel_rfl) (by kernel_rfl) (fun _ _ _ h => h) (Or.inl ⟨by rfl, fun w hw => by go_simp⟩) h2 ?_
  simp only [Act.put, List.setIfInBounds_toArray, List.set_cons_zero, List.set_cons_succ]
  refine wpAnyH_done (by kernel_rfl) ?_ _
  have c0 := HK3.out.cell 0
  go_wp2_with fail
  refine (F1.out w3 HSrc3.out).mono ?_
  rintro e w4 ⟨rfl, hb⟩
  have HK4 := Lib.hid (HK3.out.below hb HK3.out.lt)
  have HL4 := Lib.hid (HL3.out.trans (hb.mono HG3.out))
  have HSrc4 := Lib.hid (HSrc3.out.below hb)
  clear hb F1 c0 HK3 HL3 HSrc3 HG3 h2
  go_upto_region 6 with fail
  refine wp_region_held_drew (S := fun w' => w'.cell? ⟨G, 0, none⟩ = some (.string X) ∧ w'.cell? ⟨G, 1, none⟩ = some (.string Y)) (by kernel_rfl) (show w4.drew.cell? ⟨G, 0, none⟩ = _ ∧ w4.drew.cell? ⟨G, 1, none⟩ = _ from ⟨HK4.out.cell 0, HK4.out.cell 1⟩) (fun h0 => ?_)
  refine hd_take 1 (some 37) (.slice A n cap) rfl rfl (by kernel_rfl) (by kernel_rfl) (by kernel_rfl) (fun _ _ _ h => h) (Or.inl ⟨by rfl, fun w hw => by go_simp⟩) h0 ?_
  simp only [Act.put, List.setIfInBounds_toArray, List.set_cons_zero, List.set_cons_succ]
  refine hd_take 3 (some 39) (.agg #[.string X, .string Y]) rfl rfl (by kernel_rfl) (by kernel_rfl) (by kernel_rfl) (fun _ _ _ h => h) (Or.inl ⟨by rfl, fun w hw => by obtain ⟨y0, y1⟩ := hw; go_simp⟩) h0 ?_
  simp only [Act.put, List.setIfInBounds_toArray, List.set_cons_zero, List.set_cons_succ]
  refine hd_take 6 (some 42) (.pointer (some ⟨G, 0, none⟩)) rfl rfl (by kernel_rfl) (by kernel_rfl) (by kernel_rfl) (fun _ _ _ h => h) (Or.inl ⟨by rfl, fun w hw => by go_simp⟩) h0 ?_
  simp only [Act.put, List.setIfInBounds_toArray, List.set_cons_zero, List.set_cons_succ]
  refine hd_take 7 (some 43) (.string X) rfl rfl (by kernel_rfl) (by kernel_rfl) (by kernel_rfl) (fun _ _ _ h => h) (Or.inl ⟨by rfl, fun w hw => by have h9 := hw.1; go_simp⟩) h0 ?_
  simp only [Act.put, List.setIfInBounds_toArray, List.set_cons_zero, List.set_cons_succ]
  have HKd := Lib.hid (show Blk w4.drew G 24 #[.string X, .string Y] from HK4.out)
  have HSd := Lib.hid (show SrcF w4.drew A l from HSrc4.out)
  have HLd := Lib.hid (show Below G W w4.drew from HL4.out.drew)
  clear HK4 HSrc4 HL4
  generalize w4.drew = wd at *
  have HSS := Lib.hid (fun w (hb : Below wd.heap.size wd w) => show w.cell? ⟨G, 0, none⟩ = some (.string X) ∧ w.cell? ⟨G, 1, none⟩ = some (.string Y) from ⟨(hb.cell (p := ⟨G, 0, none⟩) HKd.out.lt).trans (HKd.out.cell 0), (hb.cell (p := ⟨G, 1, none⟩) HKd.out.lt).trans (HKd.out.cell 1)⟩)
  have HGd := Lib.hid (show G ≤ wd.heap.size from Nat.le_of_lt HKd.out.lt)
  have HB1 := Lib.hid (fun (w : World) => SrcF.one f (show Blk (w.alloc (.cells #[.string X, .string Y] 24)) w.heap.size 24 #[.string (str f.name), .string (str f.text)] by rw [HXs.out, HYs.out]; exact Blk.new _ _ _))
  have hnn : n = l.length := HN.out.symm
  have HNN := Lib.hid hnn
  clear hnn
  refine wpAnyH_ready (rs := [0, 4]) (by kernel_rfl) (by simp) (AllReadyH.cons rfl (fun K hK => ?_) (AllReadyH.cons rfl (fun K hK => ?_) (AllReadyH.nil)))
  · go_simp
    have HM4 := Lib.hid (Mid.start (w0 := wd) (Below.refl _ wd))
    refine hK.out _ _ (HSS.out _ HM4.out.bel) (fun h4 => ?_)
    clear hK K
    refine wpAnyH_ready (rs := [2, 4]) (by kernel_rfl) (by simp) (AllReadyH.cons rfl (fun K hK => ?_) (AllReadyH.cons rfl (fun K hK => ?_) (AllReadyH.nil)))
    · refine wp_appF (.tmp 36) (.tmp 37) rfl wd.heap.size (.slice (some ⟨wd.heap.size, 0, none⟩) 0 0) [] rfl HM4.out.own A n cap l rfl HNN.out (HSd.out.below HM4.out.bel) (by rw [← HNN.out]; simp only [List.length_nil]; omega) HM4.out.bel.size ?_
      intro v5 w5 ho5 hg5
      rw [List.nil_append] at ho5
      have HM5 := Lib.hid (HM4.out.app ho5.out hg5.out)
      clear ho5 hg5
      refine hK.out _ _ (HSS.out _ HM5.out.bel) (fun h5 => ?_)
      clear hK K
      refine wpAnyH_ready (rs := [4]) (by kernel_rfl) (by simp) (AllReadyH.cons rfl (fun K hK => ?_) AllReadyH.nil)
      go_simp
      have HM6 := Lib.hid (HM5.out.alloc (.cells #[.string X, .string Y] 24))
      have HSf := Lib.hid (HB1.out w5)
      refine hK.out _ _ (HSS.out _ HM6.out.bel) (fun h6 => ?_)
      clear hK K h4 h5 HM4 HM5
      refine wpAnyH_ready (rs := [5]) (by kernel_rfl) (by simp) (AllReadyH.cons rfl (fun K hK => ?_) AllReadyH.nil)
      refine wp_appF (.tmp 38) (.tmp 40) rfl wd.heap.size v5 l rfl HM6.out.own (some ⟨w5.heap.size, 0, none⟩) 1 1 [f] rfl rfl HSf.out (by rw [← HNN.out]; simp only [List.length_cons, List.length_nil]; omega) HM6.out.bel.size ?_
      intro v7 w7 ho7 hg7
      have HM7 := Lib.hid (HM6.out.app ho7.out hg7.out)
      clear ho7 hg7
      obtain ⟨A2, c2, hv2, _, hs2⟩ := HM7.out.own.src
      have hv3 : v7 = .slice A2 (n + 1) c2 := by rw [hv2, List.length_append, ← HNN.out]; rfl
      subst hv3
      have HS7 := Lib.hid hs2
      clear hv2 hs2
      refine hK.out _ _ (HSS.out _ HM7.out.bel) (fun h7 => ?_)
      clear hK K
      refine wpAnyH_ready (rs := [8]) (by kernel_rfl) (by simp) (AllReadyH.cons rfl (fun K hK => ?_) AllReadyH.nil)
      go_simp
      go_wp2_with (go_at_call 13; refine (F2.out A2 c2 _ HS7.out).mono ?_; rintro e w8 ⟨rfl, hb8⟩; have HB8 := Lib.hid (HM7.out.bel.trans (hb8.mono HM7.out.bel.size)); clear hb8)
      refine hK.out _ _ (HSS.out _ HB8.out) (fun h8 => ?_)
      clear hK K
      have HK8 := Lib.hid (HKd.out.below HB8.out HKd.out.lt)
      have HL8 := Lib.hid (HLd.out.trans (HB8.out.mono HGd.out))
      refine hd_take 9 (some 35) (.tuple #[.string (str q.1), .int .i64 (q.2 : Nat)]) rfl rfl (by kernel_rfl) (by kernel_rfl) (by kernel_rfl) (fun _ _ _ h => h) (Or.inl ⟨by rfl, fun w hw => by go_simp⟩) h8 ?_
      simp only [Act.put, List.setIfInBounds_toArray, List.set_cons_zero, List.set_cons_succ]
      refine hd_take 10 (some 45) (.string (str q.1)) rfl rfl (by kernel_rfl) (by kernel_rfl) (by kernel_rfl) (fun _ _ _ h => h) (Or.inl ⟨by rfl, fun w hw => by go_simp⟩) h8 ?_
      simp only [Act.put, List.setIfInBounds_toArray, List.set_cons_zero, List.set_cons_succ]
      refine hd_take 11 (some 46) (.int .i64 (q.2 : Nat)) rfl rfl (by kernel_rfl) (by kernel_rfl) (by kernel_rfl) (fun _ _ _ h => h) (Or.inl ⟨by rfl, fun w hw => by go_simp⟩) h8 ?_
      simp only [Act.put, List.setIfInBounds_toArray, List.set_cons_zero, List.set_cons_succ]
      refine hd_take 12 (some 9) (.string (str q.1)) rfl rfl (by kernel_rfl) (by kernel_rfl) (by kernel_rfl) (fun _ _ _ h => h) (Or.inl ⟨by rfl, fun w hw => by go_simp⟩) h8 ?_
      simp only [Act.put, List.setIfInBounds_toArray, List.set_cons_zero, List.set_cons_succ]
      refine hd_take 13 (some 10) (.int .i64 (q.2 : Nat)) rfl rfl (by kernel_rfl) (by kernel_rfl) (by kernel_rfl) (fun _ _ _ h => h) (Or.inl ⟨by rfl, fun w hw => by go_simp⟩) h8 ?_
      simp only [Act.put, List.setIfInBounds_toArray, List.set_cons_zero, List.set_cons_succ]
      refine wpAnyH_done (by kernel_rfl) ?_ _
      clear HB8 HM7 HS7 F2 HSS HB1 HKd HLd h7 h8 h0
      have c1 := HK8.out.cell 1
      cases low with
      | false =>
        have hq := HNo.out (by trivial)
        obtain ⟨p1, p2⟩ := p
        subst hq
        have e1 : (((p2 : Nat) : Int) == ((p2 : Nat) : Int)) = true := by simp
        have e2 : ((str p1).toList == (str p1).toList) = true := by simp
        clear HNo HFi HMo HNn
        go_wp2_with fail
        go_ret
        exact ⟨rfl, by rw [HG.out]; exact HL8.out⟩
      | true =>
        by_cases hp : p.2 = 0
        · have hq := HFi.out (by trivial) hp
          have hn := HNn.out hp
          rw [HC0.out] at hq
          subst hq
          obtain ⟨p1, p2⟩ := p
          simp only at hp hn
          subst hp hn
          have e1 : (Y.toList == Y.toList) = true := by simp
          have e2 : ((str []).toList == []) = true := by rw [Lib.toList_data]; rfl
          have e3 : (((1 : Nat) : Int) == ((0 : Nat) : Int) + 1) = true := by decide
          clear HNo HFi HMo HNn
          rw [str_bs]
          go_wp2_with fail
          go_ret
          exact ⟨rfl, by rw [HG.out]; exact HL8.out⟩
        · have hq := HMo.out (by trivial) hp
          obtain ⟨p1, p2⟩ := p
          subst hq
          simp only at hp hle
          have e1 : ((str p1).toList == (str p1).toList) = true := by simp
          have e3 : (((p2 + 1 : Nat) : Int) == ((p2 : Nat) : Int) + 1) = true := by simp
          have e4 : (0 : Int) < ((p2 : Nat) : Int) := by omega
          clear HNo HFi HMo HNn
          go_wp2_with fail
          go_ret
          exact ⟨rfl, by rw [HG.out]; exact HL8.out⟩
    · go_simp
      have HM4b := Lib.hid (HM4.out.alloc (.cells #[.string X, .string Y] 24))
      have HSf4 := Lib.hid (by have h := HB1.out (wd.alloc (.cells #[] 24)); rw [alloc_size] at h; exact h)
      refine hK.out _ _ (HSS.out _ HM4b.out.bel) (fun h4b => ?_)
      clear hK K HM4
      refine wpAnyH_ready (rs := [2]) (by kernel_rfl) (by simp) (AllReadyH.cons rfl (fun K hK => ?_) AllReadyH.nil)
      refine wp_appF (.tmp 36) (.tmp 37) rfl wd.heap.size (.slice (some ⟨wd.heap.size, 0, none⟩) 0 0) [] rfl HM4b.out.own A n cap l rfl HNN.out (HSd.out.below HM4b.out.bel) (by rw [← HNN.out]; simp only [List.length_nil]; omega) HM4b.out.bel.size ?_
      intro v5 w5 ho5 hg5
      rw [List.nil_append] at ho5
      have HM5 := Lib.hid (HM4b.out.app ho5.out hg5.out)
      have HSf := Lib.hid (HSf4.out.grown hg5.out (fun x hx => by injection hx with hx; subst hx; intro he; injection he with he; have he2 : wd.heap.size + 1 = wd.heap.size := he; omega))
      clear ho5 hg5
      refine hK.out _ _ (HSS.out _ HM5.out.bel) (fun h5 => ?_)
      clear hK K
      have HM6 := HM5
      refine wpAnyH_ready (rs := [5]) (by kernel_rfl) (by simp) (AllReadyH.cons rfl (fun K hK => ?_) AllReadyH.nil)
      refine wp_appF (.tmp 38) (.tmp 40) rfl wd.heap.size v5 l rfl HM6.out.own (some ⟨wd.heap.size + 1, 0, none⟩) 1 1 [f] rfl rfl HSf.out (by rw [← HNN.out]; simp only [List.length_cons, List.length_nil]; omega) HM6.out.bel.size ?_
      intro v7 w7 ho7 hg7
      have HM7 := Lib.hid (HM6.out.app ho7.out hg7.out)
      clear ho7 hg7
      obtain ⟨A2, c2, hv2, _, hs2⟩ := HM7.out.own.src
      have hv3 : v7 = .slice A2 (n + 1) c2 := by rw [hv2, List.length_append, ← HNN.out]; rfl
      subst hv3
      have HS7 := Lib.hid hs2
      clear hv2 hs2
      refine hK.out _ _ (HSS.out _ HM7.out.bel) (fun h7 => ?_)
      clear hK K
      refine wpAnyH_ready (rs := [8]) (by kernel_rfl) (by simp) (AllReadyH.cons rfl (fun K hK => ?_) AllReadyH.nil)
      go_simp
      go_wp2_with (go_at_call 13; refine (F2.out A2 c2 _ HS7.out).mono ?_; rintro e w8 ⟨rfl, hb8⟩; have HB8 := Lib.hid (HM7.out.bel.trans (hb8.mono HM7.out.bel.size)); clear hb8)
      refine hK.out _ _ (HSS.out _ HB8.out) (fun h8 => ?_)
      clear hK K
      have HK8 := Lib.hid (HKd.out.below HB8.out HKd.out.lt)
      have HL8 := Lib.hid (HLd.out.trans (HB8.out.mono HGd.out))
      refine hd_take 9 (some 35) (.tuple #[.string (str q.1), .int .i64 (q.2 : Nat)]) rfl rfl (by kernel_rfl) (by kernel_rfl) (by kernel_rfl) (fun _ _ _ h => h) (Or.inl ⟨by rfl, fun w hw => by go_simp⟩) h8 ?_
      simp only [Act.put, List.setIfInBounds_toArray, List.set_cons_zero, List.set_cons_succ]
      refine hd_take 10 (some 45) (.string (str q.1)) rfl rfl (by kernel_rfl) (by kernel_rfl) (by kernel_rfl) (fun _ _ _ h => h) (Or.inl ⟨by rfl, fun w hw => by go_simp⟩) h8 ?_
      simp only [Act.put, List.setIfInBounds_toArray, List.set_cons_zero, List.set_cons_succ]
      refine hd_take 11 (some 46) (.int .i64 (q.2 : Nat)) rfl rfl (by kernel_rfl) (by kernel_rfl) (by kernel_rfl) (fun _ _ _ h => h) (Or.inl ⟨by rfl, fun w hw => by go_simp⟩) h8 ?_
      simp only [Act.put, List.setIfInBounds_toArray, List.set_cons_zero, List.set_cons_succ]
      refine hd_take 12 (some 9) (.string (str q.1)) rfl rfl (by kernel_rfl) (by kernel_rfl) (by kernel_rfl) (fun _ _ _ h => h) (Or.inl ⟨by rfl, fun w hw => by go_simp⟩) h8 ?_
      simp only [Act.put, List.setIfInBounds_toArray, List.set_cons_zero, List.set_cons_succ]
      refine hd_take 13 (some 10) (.int .i64 (q.2 : Nat)) rfl rfl (by kernel_rfl) (by kernel_rfl) (by kernel_rfl) (fun _ _ _ h => h) (Or.inl ⟨by rfl, fun w hw => by go_simp⟩) h8 ?_
      simp only [Act.put, List.setIfInBounds_toArray, List.set_cons_zero, List.set_cons_succ]
      refine wpAnyH_done (by kernel_rfl) ?_ _
      clear HB8 HM7 HS7 F2 HSS HB1 HKd HLd h7 h8 h0
      have c1 := HK8.out.cell 1
      cases low with
      | false =>
        have hq := HNo.out (by trivial)
        obtain ⟨p1, p2⟩ := p
        subst hq
        have e1 : (((p2 : Nat) : Int) == ((p2 : Nat) : Int)) = true := by simp
        have e2 : ((str p1).toList == (str p1).toList) = true := by simp
        clear HNo HFi HMo HNn
        go_wp2_with fail
        go_ret
        exact ⟨rfl, by rw [HG.out]; exact HL8.out⟩
      | true =>
        by_cases hp : p.2 = 0
        · have hq := HFi.out (by trivial) hp
          have hn := HNn.out hp
          rw [HC0.out] at hq
          subst hq
          obtain ⟨p1, p2⟩ := p
          simp only at hp hn
          subst hp hn
          have e1 : (Y.toList == Y.toList) = true := by simp
          have e2 : ((str []).toList == []) = true := by rw [Lib.toList_data]; rfl
          have e3 : (((1 : Nat) : Int) == ((0 : Nat) : Int) + 1) = true := by decide
          clear HNo HFi HMo HNn
          rw [str_bs]
          go_wp2_with fail
          go_ret
          exact ⟨rfl, by rw [HG.out]; exact HL8.out⟩
        · have hq := HMo.out (by trivial) hp
          obtain ⟨p1, p2⟩ := p
          subst hq
          simp only at hp hle
          have e1 : ((str p1).toList == (str p1).toList) = true := by simp
          have e3 : (((p2 + 1 : Nat) : Int) == ((p2 : Nat) : Int) + 1) = true := by simp
          have e4 : (0 : Int) < ((p2 : Nat) : Int) := by omega
          clear HNo HFi HMo HNn
          go_wp2_with fail
          go_ret
          exact ⟨rfl, by rw [HG.out]; exact HL8.out⟩
  · go_simp
    have HBa := Lib.hid (show Below wd.heap.size wd (wd.alloc (.cells #[.string X, .string Y] 24)) from (Below.refl _ _).alloc (Nat.le_refl _) _)
    have HSf3 := Lib.hid (HB1.out wd)
    refine hK.out _ _ (HSS.out _ HBa.out) (fun h4 => ?_)
    clear hK K
    refine wpAnyH_ready (rs := [0]) (by kernel_rfl) (by simp) (AllReadyH.cons rfl (fun K hK => ?_) AllReadyH.nil)
    go_simp
    have HM4 := Lib.hid (by have h := Mid.start (w0 := wd) HBa.out; rw [alloc_size] at h; exact h)
    have HSf4 := Lib.hid (HSf3.out.below ((Below.refl _ _).alloc (Nat.le_refl _) (.cells #[] 24)))
    refine hK.out _ _ (HSS.out _ HM4.out.bel) (fun h4b => ?_)
    clear hK K
    refine wpAnyH_ready (rs := [2]) (by kernel_rfl) (by simp) (AllReadyH.cons rfl (fun K hK => ?_) AllReadyH.nil)
    refine wp_appF (.tmp 36) (.tmp 37) rfl wd.heap.size (.slice (some ⟨wd.heap.size + 1, 0, none⟩) 0 0) [] rfl HM4.out.own A n cap l rfl HNN.out (HSd.out.below HM4.out.bel) (by rw [← HNN.out]; simp only [List.length_nil]; omega) HM4.out.bel.size ?_
    intro v5 w5 ho5 hg5
    rw [List.nil_append] at ho5
    have HM5 := Lib.hid (HM4.out.app ho5.out hg5.out)
    have HSf := Lib.hid (HSf4.out.grown hg5.out (fun x hx => by injection hx with hx; subst hx; intro he; injection he with he; have he2 : wd.heap.size = wd.heap.size + 1 := he; omega))
    clear ho5 hg5
    refine hK.out _ _ (HSS.out _ HM5.out.bel) (fun h5 => ?_)
    clear hK K
    have HM6 := HM5
    refine wpAnyH_ready (rs := [5]) (by kernel_rfl) (by simp) (AllReadyH.cons rfl (fun K hK => ?_) AllReadyH.nil)
    refine wp_appF (.tmp 38) (.tmp 40) rfl wd.heap.size v5 l rfl HM6.out.own (some ⟨wd.heap.size, 0, none⟩) 1 1 [f] rfl rfl HSf.out (by rw [← HNN.out]; simp only [List.length_cons, List.length_nil]; omega) HM6.out.bel.size ?_
    intro v7 w7 ho7 hg7
    have HM7 := Lib.hid (HM6.out.app ho7.out hg7.out)
    clear ho7 hg7
    obtain ⟨A2, c2, hv2, _, hs2⟩ := HM7.out.own.src
    have hv3 : v7 = .slice A2 (n + 1) c2 := by rw [hv2, List.length_append, ← HNN.out]; rfl
    subst hv3
    have HS7 := Lib.hid hs2
    clear hv2 hs2
    refine hK.out _ _ (HSS.out _ HM7.out.bel) (fun h7 => ?_)
    clear hK K
    refine wpAnyH_ready (rs := [8]) (by kernel_rfl) (by simp) (AllReadyH.cons rfl (fun K hK => ?_) AllReadyH.nil)
    go_simp
    go_wp2_with (go_at_call 13; refine (F2.out A2 c2 _ HS7.out).mono ?_; rintro e w8 ⟨rfl, hb8⟩; have HB8 := Lib.hid (HM7.out.bel.trans (hb8.mono HM7.out.bel.size)); clear hb8)
    refine hK.out _ _ (HSS.out _ HB8.out) (fun h8 => ?_)
    clear hK K
    have HK8 := Lib.hid (HKd.out.below HB8.out HKd.out.lt)
    have HL8 := Lib.hid (HLd.out.trans (HB8.out.mono HGd.out))
    refine hd_take 9 (some 35) (.tuple #[.string (str q.1), .int .i64 (q.2 : Nat)]) rfl rfl (by kernel_rfl) (by kernel_rfl) (by kernel_rfl) (fun _ _ _ h => h) (Or.inl ⟨by rfl, fun w hw => by go_simp⟩) h8 ?_
    simp only [Act.put, List.setIfInBounds_toArray, List.set_cons_zero, List.set_cons_succ]
    refine hd_take 10 (some 45) (.string (str q.1)) rfl rfl (by kernel_rfl) (by kernel_rfl) (by kernel_rfl) (fun _ _ _ h => h) (Or.inl ⟨by rfl, fun w hw => by go_simp⟩) h8 ?_
    simp only [Act.put, List.setIfInBounds_toArray, List.set_cons_zero, List.set_cons_succ]
    refine hd_take 11 (some 46) (.int .i64 (q.2 : Nat)) rfl rfl (by kernel_rfl) (by kernel_rfl) (by kernel_rfl) (fun _ _ _ h => h) (Or.inl ⟨by rfl, fun w hw => by go_simp⟩) h8 ?_
    simp only [Act.put, List.setIfInBounds_toArray, List.set_cons_zero, List.set_cons_succ]
    refine hd_take 12 (some 9) (.string (str q.1)) rfl rfl (by kernel_rfl) (by kernel_rfl) (by kernel_rfl) (fun _ _ _ h => h) (Or.inl ⟨by rfl, fun w hw => by go_simp⟩) h8 ?_
    simp only [Act.put, List.setIfInBounds_toArray, List.set_cons_zero, List.set_cons_succ]
    refine hd_take 13 (some 10) (.int .i64 (q.2 : Nat)) rfl rfl (by kernel_rfl) (by kernel_rfl) (by kernel_rfl) (fun _ _ _ h => h) (Or.inl ⟨by rfl, fun w hw => by go_simp⟩) h8 ?_
    simp only [Act.put, List.setIfInBounds_toArray, List.set_cons_zero, List.set_cons_succ]
    refine wpAnyH_done (by kernel_rfl) ?_ _
    clear HB8 HM7 HS7 F2 HSS HB1 HKd HLd h7 h8 h0
    have c1 := HK8.out.cell 1
    cases low with
    | false =>
      have hq := HNo.out (by trivial)
      obtain ⟨p1, p2⟩ := p
      subst hq
      have e1 : (((p2 : Nat) : Int) == ((p2 : Nat) : Int)) = true := by simp
      have e2 : ((str p1).toList == (str p1).toList) = true := by simp
      clear HNo HFi HMo HNn
      go_wp2_with fail
      go_ret
      exact ⟨rfl, by rw [HG.out]; exact HL8.out⟩
    | true =>
      by_cases hp : p.2 = 0
      · have hq := HFi.out (by trivial) hp
        have hn := HNn.out hp
        rw [HC0.out] at hq
        subst hq
        obtain ⟨p1, p2⟩ := p
        simp only at hp hn
        subst hp hn
        have e1 : (Y.toList == Y.toList) = true := by simp
        have e2 : ((str []).toList == []) = true := by rw [Lib.toList_data]; rfl
        have e3 : (((1 : Nat) : Int) == ((0 : Nat) : Int) + 1) = true := by decide
        clear HNo HFi HMo HNn
        rw [str_bs]
        go_wp2_with fail
        go_ret
        exact ⟨rfl, by rw [HG.out]; exact HL8.out⟩
      · have hq := HMo.out (by trivial) hp
        obtain ⟨p1, p2⟩ := p
        subst hq
        simp only at hp hle
        have e1 : ((str p1).toList == (str p1).toList) = true := by simp
        have e3 : (((p2 + 1 : Nat) : Int) == ((p2 : Nat) : Int) + 1) = true := by simp
        have e4 : (0 : Int) < ((p2 : Nat) : Int) := by omega
        clear HNo HFi HMo HNn
        go_wp2_with fail
        go_ret
        exact ⟨rfl, by rw [HG.out]; exact HL8.out⟩

set_option maxRecDepth 100000 in
set_option linter.unusedVariables false in
theorem lifted (os : Os) (started : os.Started) (H : Type) (enc : TypeId × Value → H) :
    ReturnsInHanded {} Try.checked os 7 .any (Rows.fieldFindsSpec.pre6 enc Try.prog Try.f7 Rows.fieldFindsRow.domain false) (Rows.fieldFindsSpec.post enc Try.prog Try.f7 false true false false) := by
  refine returnsInHanded_of_change_shaped (C := Try.checked) own started (by kernel_rfl) Try.func7
    (ChangeSpec.witness6 (enc := enc) (C := Try.checked) false ⟨#[], #[.slice none 0 0, .agg #[.string .empty, .string .empty]], []⟩ 8 (by kernel_rfl) (by kernel_rfl) (by kernel_rfl) (by kernel_rfl)) ?_
  intro W base args ds gs before hval0 hW hcnd hsz0 hshp _
  have hE := env_of hshp
  have hval : ∀ (j : Nat) t v, Try.f7.params[j]? = some t → args[j]? = some v → Value.okWide Try.prog W .any base t v := hval0
  have hW' := hW
  obtain ⟨p, q, hA0, hV, rfl, hfz, hnd⟩ := hW
  have hA : DataW.TrodAll enc Try.prog W 0 (fun _ => true) true Try.f7.params.toList args.toList ds p := hA0
  have hsz : (DataW.weightsEach Try.prog (Try.f7.params.toList ++ Rows.fieldFindsSpec.plain.varTypes Try.prog) (ds ++ gs)).all (· ≤ reachBytes) = true := hsz0
  rw [Try.params7] at hA hval hsz
  obtain ⟨v0, vs0, d0, ds0, p0, q0, hargs, rfl, rfl, h0, r0⟩ := trodAll_cons hA
  obtain ⟨v1, vs1, d1, ds1, p1, q1, rfl, rfl, rfl, h1, r1⟩ := trodAll_cons r0
  obtain ⟨rfl, rfl, rfl⟩ := trodAll_nil r1
  obtain rfl : args = #[v0, v1] := by cases args; simp_all
  obtain ⟨rfl, rfl⟩ := trodVars_none hV
  have k0 := h0
  have lt0 : ∀ x ∈ p0, x.block < W.heap.size := by obtain ⟨m, hm⟩ := k0; exact DataW.trod_lt m _ _ _ hm
  obtain ⟨A0, n0, cap0, l0, rfl, le0, mx0, ln0, sl0, src0⟩ := open_fields (hval 0 29 v0 rfl rfl) h0 (reach_at hsz (j := 0) (t := 29) rfl rfl)
  have k1 := h1
  have lt1 : ∀ x ∈ p1, x.block < W.heap.size := by obtain ⟨m, hm⟩ := k1; exact DataW.trod_lt m _ _ _ hm
  obtain ⟨f1, rfl, sf1⟩ := open_field (hval 1 24 v1 rfl rfl) h1 (reach_at hsz (j := 1) (t := 24) rfl rfl)
  clear hA0 hval0 hsz0
  refine (walk W A0 n0 cap0 l0 le0 mx0 ln0 sl0 src0 f1 sf1 hE).mono fun e W' ⟨he, bel⟩ => ?_
  subst he
  exact ⟨_, rfl, _, _, _, [], _, [], hW', trodAll_mk1 (shut_bool Try.underlying4 _), (trodAll_cons_mk (Below.trod laidOut (by kernel_rfl) (of_decide_eq_true (by kernel_rfl)) k0 bel lt0) (trodAll_cons_mk (Below.trod laidOut (by kernel_rfl) (of_decide_eq_true (by kernel_rfl)) k1 bel lt1) trodAll_mk0)), rfl, bel.frame _, fun h => by cases h⟩

theorem over : Rows.fieldFindsRow.holds Try.pinned (OpenSpec.ofChange Rows.fieldFindsSpec) :=
  OpenClaim.holds_of_wide 7 Try.f7 rfl rfl rfl rfl rfl rfl rfl ⟨rfl, rfl, rfl, rfl, rfl⟩ rfl rfl rfl rfl rfl (by kernel_rfl) Try.func7 (by kernel_rfl)
    (of_decide_eq_true (by kernel_rfl)) (by unfold Func.isWrapper; first | (rw [if_pos (by decide +kernel)]; kernel_rfl) | (rw [if_neg (by decide +kernel)]; exact ⟨rfl, rfl⟩))
    (fun os started H enc _ => lifted os started H enc)

theorem proved : Rows.FieldFindsSaid := over
#print axioms proved
end Go.Proofs.Ytkbankjnfedkdaa.fieldFinds
