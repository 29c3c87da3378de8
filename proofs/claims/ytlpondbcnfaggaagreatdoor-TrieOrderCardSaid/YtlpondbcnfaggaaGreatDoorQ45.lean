/-
  The walk of TrieOrder over this seat's translation, over the contracts of package trie. No condition.
-/
import Derived.Test.YtlpondbcnfaggaaGreatDoorQ40
import Derived.Deep.QuietTactic
namespace Go.Proofs.YtlpondbcnfaggaaGreatDoor.Tr
open Go.RowKit Go.Proofs.YtlpondbcnfaggaaGreatDoor.Wd Go.Proofs.YtlpondbcnfaggaaGreatDoor.Asc Go.Proofs.YtlpondbcnfaggaaGreatDoor.Tx Go.Proofs.YtlpondbcnfaggaaGreatDoor.St

/-- what a round keeps: both tries -/
structure OrdIn (Tri : World → Nat → List Nat → List Ru → Prop) (W : World) (g1 : Nat) (S1 : List Nat) (L1 : List Ru) (g2 : Nat) (S2 : List Nat) (L2 : List Ru) (w : World) : Prop where
  two : Two Tri W.heap.size w g1 S1 L1 g2 S2 L2
  bel : Below W.heap.size W w
section
variable {Tri : World → Nat → List Nat → List Ru → Prop} {W w w' : World} {g1 g2 : Nat} {S1 S2 S : List Nat} {L1 L2 L : List Ru}
theorem OrdIn.on (C : TrC Tri) (h : OrdIn Tri W g1 S1 L1 g2 S2 L2 w) (hb : Below w.heap.size w w') : OrdIn Tri W g1 S1 L1 g2 S2 L2 w' := ⟨h.two.on C hb, h.bel.trans (hb.mono h.bel.size)⟩
theorem OrdIn.add (C : TrC Tri) (h : OrdIn Tri W g1 S1 L1 g2 S2 L2 w) (ht : Tri w' g1 S L) (hS : ∀ i ∈ S, i ∈ S1 ∨ w.heap.size ≤ i) (hb : But (g1 :: S1) w w') : OrdIn Tri W g1 S L g2 S2 L2 w' := by
  obtain ⟨k1, k2⟩ := h.two.add C h.bel.size ht hS hb
  exact ⟨k1, h.bel.trans k2⟩
theorem OrdIn.swap (h : OrdIn Tri W g1 S1 L1 g2 S2 L2 w) : OrdIn Tri W g2 S2 L2 g1 S1 L1 w := ⟨h.two.swap, h.bel⟩
end
theorem put_nextO {L l : List Ru} {k : Nat} {x : Ru} (h : l[k]? = some x) : putS L (l.take (k + 1)) = addS (putS L (l.take k)) x := by
  rw [List.take_add_one, h]
  exact put_snoc _ _ _
theorem dis_next {l : List Ru} {k : Nat} {x : Ru} (h : Dis (l.take k)) (hx : l[k]? = some x) (hd : ∀ z ∈ l.take k, z.pa ≠ x.pa) : Dis (l.take (k + 1)) := by
  unfold Dis at *
  rw [List.take_add_one, hx]
  refine List.pairwise_append.2 ⟨h, by simp, fun a ha b hb => ?_⟩
  have e : b = x := by simpa using hb
  rw [e]; exact hd a ha
theorem pa_next {l : List Ru} {m : Nat} {z : Ru} {p : List UInt8} (h : ∀ z ∈ l.take m, z.pa ≠ p) (hz : l[m]? = some z) (hne : z.pa ≠ p) : ∀ z ∈ l.take (m + 1), z.pa ≠ p := fun y hy => by
  rw [List.take_add_one, hz] at hy
  rcases List.mem_append.1 hy with hy | hy
  · exact h y hy
  · have e : y = z := by simpa using hy
    rw [e]; exact hne
theorem best_fst {o p : Option (Ru × Nat)} (h : o.map Prod.fst = p.map Prod.fst) : bestR o = bestR p ∧ o.isSome = p.isSome := by
  unfold bestR
  rw [h]
  refine ⟨rfl, ?_⟩
  have := congrArg Option.isSome h
  simpa using this
set_option linter.unusedSimpArgs false in
set_option maxRecDepth 100000 in
set_option maxHeartbeats 32000000 in
theorem order_walk {Tri : World → Nat → List Nat → List Ru → Prop} (C : TrC Tri) (hSm : SmallP) (W : World) (A : Option Addr) (n cap : Nat) (l : List Ru) (s : ByteArray) (hE : Ad.Env W.heap.size W) (h9 : n ≤ 9223372036854775807) (hn : l.length = n) (hz : ∀ x ∈ l, x.pa.length ≤ 9223372036854775807 ∧ x.ap.length ≤ 9223372036854775807) (hl : SrcU W A l)
    (hs : s.size ≤ 9223372036854775807) :
    Calls Tryz.prog 6 #[.slice A n cap, .string s] W fun e w' => e = .returned (.bool true) ∧ Below W.heap.size W w' := by
  have HE := Lib.hid hE
  have HSm : Hid SmallP := hSm
  have HC := Lib.hid C
  have HL := Lib.hid hl
  have HN := Lib.hid hn
  have HZ := Lib.hid hz
  clear hE hSm C hl hn hz
  go_enter Tryz.func6, Tryz.ntmps6
  go_wp2_with fail
  refine (HSm.out W HE.out).mono ?_
  rintro e w2 ⟨rfl, hb⟩
  have HB2 := Lib.hid hb
  clear hb HSm
  obtain ⟨b, hb⟩ : ∃ b, fewU l = b := ⟨_, rfl⟩
  have HFw := Lib.hid hb
  have HF := Lib.hid (few_any l A n cap w2 (HL.out.below HB2.out) HN.out h9 HZ.out)
  rw [hb] at HF
  clear hb
  go_wp2_with fail
  refine HF.out.mono ?_
  rintro e w3 ⟨rfl, rfl⟩
  clear HF
  go_wp2_with fail
  refine (HC.out.new_ w2).mono ?_
  rintro e w4 ⟨g1, S1, rfl, ht1, hf1, hb⟩
  have HT1 := Lib.hid ht1
  have HF1 := Lib.hid (show ∀ i ∈ g1 :: S1, W.heap.size ≤ i from fun i hi => Nat.le_trans HB2.out.size (hf1 i hi))
  have HB4 := Lib.hid (HB2.out.trans (hb.mono HB2.out.size))
  clear ht1 hf1 hb HB2
  go_wp2_with fail
  refine (HC.out.new_ w4).mono ?_
  rintro e w5 ⟨g2, S2, rfl, ht2, hf2, hb⟩
  have HI5 : Hid (OrdIn Tri W g1 S1 [] g2 S2 [] w5) := Lib.hid ⟨Two.new HC.out HT1.out HF1.out hb ht2 hf2 HB4.out.size, HB4.out.trans (hb.mono HB4.out.size)⟩
  clear ht2 hf2 hb HT1 HF1 HB4
  cases b
  · go_wp2_with fail
    go_ret
    exact ⟨rfl, HI5.out.bel⟩
  obtain ⟨f1, f2⟩ := few_len HFw.out
  have HF2 := Lib.hid f2
  clear f2 HFw
  by_cases p2 : 300 < s.size
  · have i2 : (300 : Int) < (s.size : Int) := by omega
    clear p2 f1
    go_wp2_with fail
    go_ret
    exact ⟨rfl, HI5.out.bel⟩
  have i2 : ¬ (300 : Int) < (s.size : Int) := by omega
  have HSs := Lib.hid (show s.size ≤ 1000000 by omega)
  have hn220 : n ≤ 220 := by rw [← HN.out]; exact f1
  clear p2 hs h9 f1
  have HRA := Lib.hid (fun (k : Nat) (x : Ru) (hx : l[k]? = some x) (w' : World) (hb : Below W.heap.size W w') => show ∃ g o, A = some ⟨g, o, none⟩ ∧ RuAt w' g (o + k * 5) x from by
    obtain ⟨r', g', p', hr', hA', hg', hra'⟩ := HL.out.get (wr := w') (k := k) (List.getElem?_eq_some_iff.1 hx).1 hb
    rw [hx] at hr'
    injection hr' with hr'
    subst hr'
    exact ⟨g', p', hA', hra'⟩)
  go_wp2_with fail
  clear i2
  go_loopw [9] (fun x9 wr => ∃ (k : Nat) (ww : World), ww = wr ∧ k ≤ n ∧ x9 = .int .i64 (k : Nat) ∧ Hid (Dis (l.take k)) ∧ Hid (OrdIn Tri W g1 S1 [] g2 S2 [] ww)) (fun x9 _ => n - (intOf x9).toNat)
  case atStart => exact ⟨0, w5, rfl, Nat.zero_le _, rfl, Lib.hid (by unfold Dis; simp), HI5⟩
  case round =>
    clear HI5
    obtain ⟨k, ww, rfl, hk, rfl, HD, HI⟩ := hrel
    by_cases hlt : k < n
    · have hki : (k : Int) < (n : Int) := by omega
      obtain ⟨x, hx⟩ : ∃ x, l[k]? = some x := ⟨_, List.getElem?_eq_getElem (by rw [HN.out]; exact hlt)⟩
      have HX := Lib.hid hx
      obtain ⟨g, o, rfl, h0, h1, h2, h3, h4⟩ := HRA.out k x hx ww HI.out.bel
      obtain ⟨PX, hPX⟩ : ∃ A, str x.pa = A := ⟨_, rfl⟩
      obtain ⟨AP, hAP⟩ : ∃ A, str x.ap = A := ⟨_, rfl⟩
      have hpb : bs PX = x.pa := by rw [← hPX]; rfl
      have HPX := Lib.hid hPX
      have HPb := Lib.hid hpb
      rw [hAP] at h4
      have q4 := lit_is AP []
      clear hx hPX hAP hpb h0 h1 h2
      obtain ⟨po, hpo⟩ : ∃ p, x.po = p := ⟨_, rfl⟩
      rw [hpo] at h3
      clear hpo
      rcases Decidable.em (po ≠ 0) with hp | hp
      · have q0 : (po != 0) = true := by rw [bne_iff_ne]; exact hp
        have d0 : decide (po = 0) = false := decide_eq_false hp
        clear hp q4 h4
        go_wp2_with fail
        go_ret
        exact ⟨rfl, HI.out.bel⟩
      have hp0 : po = 0 := Decidable.not_not.1 hp
      subst hp0
      clear hp
      rcases Decidable.em (bs AP = []) with hp | hp
      · rw [decide_eq_true hp] at q4
        have q5 : (AP.toList != []) = false := by rw [bne, q4]; rfl
        clear hp
        go_wp2_with fail
        clear h3 h4 q4 q5
        go_loopw [10] (fun x10 wr => ∃ (m : Nat) (wm : World), wm = wr ∧ m ≤ k ∧ x10 = .int .i64 (m : Nat) ∧ Hid (∀ z ∈ l.take m, z.pa ≠ x.pa) ∧ Hid (OrdIn Tri W g1 S1 [] g2 S2 [] wm)) (fun x10 _ => k - (intOf x10).toNat)
        case atStart => exact ⟨0, ww, rfl, Nat.zero_le _, rfl, Lib.hid (fun z h => by simp at h), HI⟩
        case round =>
          clear HI
          obtain ⟨m, wm, rfl, hm, rfl, HQ, HI⟩ := hrel
          by_cases hlm : m < k
          · have hmi : (m : Int) < (k : Int) := by omega
            have hmn : (m : Int) < (n : Int) := by omega
            obtain ⟨y, hy⟩ : ∃ y, l[m]? = some y := ⟨_, List.getElem?_eq_getElem (by rw [HN.out]; omega)⟩
            obtain ⟨g', o', hA', _, _, c2, _, _⟩ := HRA.out k x HX.out wm HI.out.bel
            injection hA' with hA'
            injection hA' with e1 e2
            subst e1 e2
            obtain ⟨g', o', hA', _, _, d2, _, _⟩ := HRA.out m y hy wm HI.out.bel
            injection hA' with hA'
            injection hA' with e1 e2
            subst e1 e2
            obtain ⟨PY, hPY⟩ : ∃ A, str y.pa = A := ⟨_, rfl⟩
            have hpy : bs PY = y.pa := by rw [← hPY]; rfl
            rw [hPY] at d2
            rw [HPX.out] at c2
            have q := str_is PY PX
            rw [hpy, HPb.out] at q
            have HYm := Lib.hid hy
            clear hy hPY hpy
            by_cases he : y.pa = x.pa
            · rw [decide_eq_true he] at q
              clear he
              go_wp2_with fail
              go_quiet (fail)
              all_goals (
                go_wp2_with fail
                go_ret
                exact ⟨rfl, HI.out.bel.trans ((Ad.below_drewN' _ _).mono HI.out.bel.size)⟩)
            · rw [decide_eq_false he] at q
              have HQ2 := Lib.hid (pa_next HQ.out HYm.out he)
              clear he
              go_wp2_with fail
              go_quiet (fail)
              all_goals (
                go_wp2_with fail
                go_roundw
                case rel => exact ⟨m + 1, _, rfl, by omega, by go_num, HQ2, Lib.hid (HI.out.on HC.out (Ad.below_drewN' _ _))⟩
                case measure => simp [intOf]; omega)
          · have hmi : ¬ (m : Int) < (k : Int) := by omega
            obtain rfl : m = k := by omega
            have HD2 := Lib.hid (dis_next HD.out HX.out HQ.out)
            go_wp2_with fail
            go_roundw
            case rel => exact ⟨m + 1, _, rfl, by omega, by go_num, HD2, HI⟩
            case measure => simp [intOf]; omega
      · rw [decide_eq_false hp] at q4
        have q5 : (AP.toList != []) = true := by rw [bne, q4]; rfl
        clear hp
        go_wp2_with fail
        go_ret
        exact ⟨rfl, HI.out.bel⟩
    · have hki : ¬ (k : Int) < (n : Int) := by omega
      have hkl : l.take k = l := List.take_of_length_le (by rw [HN.out]; omega)
      rw [hkl] at HD
      clear hkl
      go_wp2_with fail
      clear hki hk
      go_loopw [11] (fun x11 wr => ∃ (k : Nat) (ww : World) (S1 S2 : List Nat), ww = wr ∧ k ≤ n ∧ x11 = .int .i64 (k : Nat) ∧ Hid (OrdIn Tri W g1 S1 (putS [] (l.take k)) g2 S2 (putS [] (l.reverse.take k)) ww)) (fun x11 _ => n - (intOf x11).toNat)
      case atStart => exact ⟨0, _, S1, S2, rfl, Nat.zero_le _, rfl, HI⟩
      case round =>
        clear HI
        obtain ⟨k, ww, S1, S2, rfl, hk, rfl, HI⟩ := hrel
        by_cases hlt : k < n
        · have hki : (k : Int) < (n : Int) := by omega
          obtain ⟨j, hj⟩ : ∃ j, n = k + 1 + j := ⟨n - (k + 1), by omega⟩
          have hji : (n : Int) - 1 - (k : Int) = (j : Int) := by omega
          have hjn : j < n := by omega
          have hjn2 : (j : Int) < (n : Int) := by omega
          have HJ := Lib.hid hj
          clear hj
          obtain ⟨x, hx⟩ : ∃ x, l[k]? = some x := ⟨_, List.getElem?_eq_getElem (by rw [HN.out]; exact hlt)⟩
          obtain ⟨y, hy⟩ : ∃ y, l[j]? = some y := ⟨_, List.getElem?_eq_getElem (by rw [HN.out]; exact hjn)⟩
          have hyr : l.reverse[k]? = some y := by
            rw [List.getElem?_reverse (by rw [HN.out]; exact hlt), HN.out, show n - 1 - k = j by have := HJ.out; omega]
            exact hy
          have HX := Lib.hid hx
          have HY := Lib.hid hy
          have HYr := Lib.hid hyr
          obtain ⟨x1, x2⟩ := HF2.out x (List.mem_of_getElem? hx)
          obtain ⟨y1, y2⟩ := HF2.out y (List.mem_of_getElem? hy)
          have HX1 := Lib.hid x1
          have HX2 := Lib.hid x2
          have HY1 := Lib.hid y1
          have HY2 := Lib.hid y2
          clear hx hy hyr x1 x2 y1 y2 hjn
          obtain ⟨g, o, rfl, hra⟩ := HRA.out k x HX.out ww HI.out.bel
          go_wp2_with (refine go_ldr x hra (by rfl) rfl (by first | rfl | (go_simp; done)) ?_)
          clear hra
          refine (HC.out.add_ (HE.out.below HI.out.bel) HI.out.two.far1 HI.out.two.t1 x (Nat.le_trans HX1.out (by decide)) (Nat.le_trans HX2.out (by decide))).mono ?_
          rintro e w8 ⟨S4, rfl, ht, hS, hb⟩
          have HI8 := Lib.hid (HI.out.add HC.out ht hS hb)
          clear ht hS hb HI
          obtain ⟨g', o', hA', hra⟩ := HRA.out j y HY.out w8 HI8.out.bel
          injection hA' with hA'
          injection hA' with e1 e2
          subst e1 e2
          go_wp2_with (refine go_ldr y hra (by rfl) rfl (by first | rfl | (go_simp; done)) ?_)
          clear hra
          refine (HC.out.add_ (HE.out.below HI8.out.bel) HI8.out.two.far2 HI8.out.two.t2 y (Nat.le_trans HY1.out (by decide)) (Nat.le_trans HY2.out (by decide))).mono ?_
          rintro e w9 ⟨S5, rfl, ht, hS, hb⟩
          have HI9 := Lib.hid ((HI8.out.swap.add HC.out ht hS hb).swap)
          rw [← put_nextO HX.out, ← put_nextO HYr.out] at HI9
          clear ht hS hb HI8 hji hjn2
          go_wp2_with fail
          go_roundw
          case rel => exact ⟨k + 1, _, S4, S5, rfl, by omega, by go_num, HI9⟩
          case measure => simp [intOf]; omega
        · have hki : ¬ (k : Int) < (n : Int) := by omega
          have hkl : l.take k = l := List.take_of_length_le (by rw [HN.out]; omega)
          have hkr : l.reverse.take k = l.reverse := List.take_of_length_le (by rw [List.length_reverse, HN.out]; omega)
          rw [hkl, hkr] at HI
          clear hkl hkr
          by_cases hm : 200 < n
          · have i3 : (200 : Int) < (n : Int) := by omega
            clear hm
            go_wp2_with fail
            go_ret
            exact ⟨rfl, HI.out.bel⟩
          have i3 : ¬ (200 : Int) < (n : Int) := by omega
          have hT := put_turn HD.out (by rw [HN.out]; omega) (bs s) 1 []
          obtain ⟨o1, ho1⟩ : ∃ o, findS (putS [] l) (bs s) 1 [] = o := ⟨_, rfl⟩
          obtain ⟨o2, ho2⟩ : ∃ o, findS (putS [] l.reverse) (bs s) 1 [] = o := ⟨_, rfl⟩
          rw [ho1, ho2] at hT
          obtain ⟨hT1, hT2⟩ := best_fst hT
          have F1 := Lib.hid (fun (w' : World) (hI : OrdIn Tri W g1 S1 (putS [] l) g2 S2 (putS [] l.reverse) w') => HC.out.find_at (HE.out.below hI.bel) hI.two.t1 s 1 none 0 0 [] HSs.out (by decide) rfl (Nat.le_refl _) (by decide) (SrcS.nil _ _) o1 ho1)
          have F2 := Lib.hid (fun (w' : World) (hI : OrdIn Tri W g1 S1 (putS [] l) g2 S2 (putS [] l.reverse) w') => HC.out.find_at (HE.out.below hI.bel) hI.two.t2 s 1 none 0 0 [] HSs.out (by decide) rfl (Nat.le_refl _) (by decide) (SrcS.nil _ _) o2 ho2)
          rw [hT1, hT2] at F2
          clear hT ho1 ho2 hT1 hT2 hm
          obtain ⟨e, he⟩ : ∃ e, o1.isSome = e := ⟨_, rfl⟩
          obtain ⟨a, ha⟩ : ∃ a, bestR o1 = a := ⟨_, rfl⟩
          obtain ⟨i, hi⟩ : ∃ i, bestI o1 = i := ⟨_, rfl⟩
          obtain ⟨m, hm⟩ : ∃ m, bestI o2 = m := ⟨_, rfl⟩
          rw [he, ha, hi] at F1
          rw [he, ha, hm] at F2
          clear he ha hi hm
          go_wp2_with fail
          clear i3
          refine (F1.out _ HI.out).mono ?_
          rintro e' w8 ⟨rfl, hb⟩
          have HI8 := Lib.hid (HI.out.on HC.out hb)
          clear hb HI F1
          go_upto_region 25 with (refine go_st 23 (Blk.new _ _ _) infU rfl (ruC_size _) (ruC_one _) rfl rfl rfl rfl ?_)
          obtain ⟨hbA, hlA⟩ := ru_new w8 a
          have HI9 := Lib.hid (HI8.out.on HC.out hlA)
          have HbA := Lib.hid hbA
          clear hbA hlA HI8
          obtain ⟨X, hX⟩ : ∃ X, w8.heap.size = X := ⟨_, rfl⟩
          rw [hX] at HbA HI9 ⊢
          clear hX
          generalize (w8.alloc (.cells zU 23)).setRow X (ruC a) = w9 at *
          go_wp2_with fail
          refine (F2.out _ HI9.out).mono ?_
          rintro e' w10 ⟨rfl, hb⟩
          have HI10 := Lib.hid (HI9.out.on HC.out hb)
          have HbA10 := Lib.hid (HbA.out.below hb HbA.out.lt)
          clear hb HI9 HbA F2
          go_upto_region 26 with (refine go_st 23 (Blk.new _ _ _) infU rfl (ruC_size _) (ruC_one _) rfl rfl rfl rfl ?_)
          obtain ⟨hbB, hlB⟩ := ru_new w10 a
          have HI11 := Lib.hid (HI10.out.on HC.out hlB)
          have HbA11 := Lib.hid (HbA10.out.below hlB HbA10.out.lt)
          have HbB := Lib.hid hbB
          clear hbB hlB HI10 HbA10
          obtain ⟨Y, hY⟩ : ∃ Y, w10.heap.size = Y := ⟨_, rfl⟩
          rw [hY] at HbB HI11 HbA11 ⊢
          clear hY
          generalize (w10.alloc (.cells zU 23)).setRow Y (ruC a) = w11 at *
          have bA := HbA11.out
          have bB := HbB.out
          go_wp2_with (first | (refine go_ldg (x := .tmp 12) 23 bA undU rfl infU (ruC_size _) (by rfl) rfl rfl ?_) | (refine go_ldg (x := .tmp 15) 23 bB undU rfl infU (ruC_size _) (by rfl) rfl rfl ?_; refine Hid.out ?_))
          refine Lib.hid ?_
          refine go_eqlU a a true (decide_eq_true rfl) rfl (by rfl) rfl rfl ?_
          go_wp2_with fail
          go_ret
          exact ⟨rfl, HI11.out.bel⟩
end Go.Proofs.YtlpondbcnfaggaaGreatDoor.Tr
