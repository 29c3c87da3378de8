/-
  A row of strings that came in: what it leads to. Plain lemma.
-/
import Derived.Test.YtlpondbcnfaggaaGreatDoorQ39
import Derived.Test.YtlpondbcnfaggaaGreatDoorQ26
import Derived.SliceStrings
import Derived.Test.YtlpondbcnfaggaaGreatDoorQ40
import Derived.Deep.QuietTactic
import Derived.Deep.CutRange
set_option maxRecDepth 100000
namespace Go.Proofs.YtlpondbcnfaggaaGreatDoor.Lift
open Go.ChangeShapes Go.WideShapes Go.ChangeAt Go.RowKit Go.Proofs.YtlpondbcnfaggaaGreatDoor.Wd Go.Proofs.YtlpondbcnfaggaaGreatDoor.Tr

theorem open_ss {H : Type} {enc : TypeId × Value → H} {W : World} {sp : Nat → Bool} {hd : Bool} {base b0 : Nat} {v : Value} {d : DataW H} {p : List MemPlace}
    (hv : Value.okWide Tryz.prog W .any b0 30 v) (h : DataW.Trod enc Tryz.prog W base sp hd 30 v d p) :
    ∃ A n c, ∃ ss : List ByteArray, v = .slice A n c ∧ n ≤ c ∧ c ≤ maxLen ∧ (SrcS W A ss ∧ ss.length = n) := by
  obtain ⟨A, n, c, rfl⟩ := okWide_slice Tryz.underlying30 hv
  obtain ⟨fuel, hf⟩ := h
  rcases open_strings Tryz.underlying30 Tryz.underlying9 (by kernel_rfl) hf with ⟨hcs, _⟩ | ⟨x, l, c', ss, hcs, _, hl, hm, hz, hx, hcell, hws⟩
  · simp [Value.cells] at hcs
    obtain ⟨rfl, rfl, rfl⟩ := hcs
    exact ⟨none, 0, 0, [], rfl, Nat.le_refl _, Nat.zero_le _, SrcS.nil W _, rfl⟩
  · simp [Value.cells] at hcs
    obtain ⟨rfl, rfl, rfl⟩ := hcs
    have hnl : n ≤ ss.length := by rw [hz]; split <;> omega
    refine ⟨_, n, c, ss.take n, rfl, hl, hm, fun i y hy => ?_, by rw [List.length_take]; omega⟩
    rw [List.getElem?_take] at hy
    split at hy
    · have hi := (List.getElem?_eq_some_iff.1 hy).1
      have h1 := hcell i hi
      have h0 := hcell 0 (by omega)
      rw [List.getD_eq_getElem?_getD, hy] at h1
      obtain ⟨g, o, spot⟩ := x
      have hspot : spot = none := by simpa [Addr.add] using World.cell?_spot h0
      subst hspot
      have hlt : g < W.heap.size := by
        have hb := block_lt_of_cell h1
        rwa [block_of_add] at hb
      refine ⟨g, o, rfl, hlt, ?_⟩
      rw [show (⟨g, o, none⟩ : Addr).add i = ⟨g, o + i, none⟩ from Addr.add_mid g o i] at h1
      exact h1
    · cases hy
end Go.Proofs.YtlpondbcnfaggaaGreatDoor.Lift

/-
  The walk of TrieFinds over this seat's translation, over the contracts of package trie. No condition.
-/
namespace Go.Proofs.YtlpondbcnfaggaaGreatDoor.Tr
open Go.RowKit Go.Proofs.YtlpondbcnfaggaaGreatDoor.Wd Go.Proofs.YtlpondbcnfaggaaGreatDoor.Asc Go.Proofs.YtlpondbcnfaggaaGreatDoor.Tx Go.Proofs.YtlpondbcnfaggaaGreatDoor.St

/-- one trie -/
structure OneIn (Tri : World → Nat → List Nat → List Ru → Prop) (W : World) (g : Nat) (S : List Nat) (L : List Ru) (w : World) : Prop where
  t : Tri w g S L
  far : ∀ i ∈ g :: S, W.heap.size ≤ i
  bel : Below W.heap.size W w
/-- behind Rules: the rule that was found, all rules -/
structure FinIn (W : World) (X : Nat) (a : Ru) (A2 : Option Addr) (L : List Ru) (w : World) : Prop where
  box : Blk w X 23 (ruC a)
  src : SrcU w A2 L
  bel : Below W.heap.size W w
theorem FinIn.on {W w w' : World} {X : Nat} {a : Ru} {A2 : Option Addr} {L : List Ru} (h : FinIn W X a A2 L w) (hb : Below w.heap.size w w') : FinIn W X a A2 L w' := ⟨h.box.below hb h.box.lt, h.src.below hb, h.bel.trans (hb.mono h.bel.size)⟩
section
variable {Tri : World → Nat → List Nat → List Ru → Prop} {W w w' : World} {g : Nat} {S1 S : List Nat} {L1 L : List Ru}
theorem OneIn.on (C : TrC Tri) (h : OneIn Tri W g S1 L1 w) (hb : Below w.heap.size w w') : OneIn Tri W g S1 L1 w' := ⟨C.below h.t hb, h.far, h.bel.trans (hb.mono h.bel.size)⟩
theorem OneIn.add (h : OneIn Tri W g S1 L1 w) (ht : Tri w' g S L) (hS : ∀ i ∈ S, i ∈ S1 ∨ w.heap.size ≤ i) (hb : But (g :: S1) w w') : OneIn Tri W g S L w' :=
  ⟨ht, fun i hi => by
    rcases List.mem_cons.1 hi with hi | hi
    · rw [hi]; exact h.far g (by simp)
    · rcases hS i hi with hi | hi
      · exact h.far i (List.mem_cons_of_mem _ hi)
      · exact Nat.le_trans h.bel.size hi, h.bel.trans (hb.below h.far h.bel.size)⟩
end
theorem put_nextF {L l : List Ru} {k : Nat} {x : Ru} (h : l[k]? = some x) : putS L (l.take (k + 1)) = addS (putS L (l.take k)) x := by
  rw [List.take_add_one, h]
  exact put_snoc _ _ _
/-- what counts: the law's own order -/
theorem count_is (x : Ru) (h : List UInt8) (port : Int) (ss : List ByteArray) (AP : ByteArray) (hap : bs AP = x.ap) : countB x h port (ss.map bs) = (matchB x.pa h && (decide (x.po = 0) || decide (x.po = port)) && (decide (bs AP = []) || anyS AP ss)) := by
  unfold countB
  rw [← hap, anyS_map, Bool.and_right_comm]
/-- what a round of the last loop asks -/
theorem fnd_ask {L : List Ru} {h : List UInt8} {port : Int} {al : List (List UInt8)} {o : Option (Ru × Nat)} (ho : findS L h port al = o) {i : Nat} {x : Ru} (hx : L[i]? = some x) :
    (countB x h port al = true → o.isSome = true ∧ x.pr ≤ (bestR o).pr ∧ (x.pr = (bestR o).pr → x.pa.length ≤ (bestR o).pa.length + 1) ∧ (x.pr = (bestR o).pr → x.pa = (bestR o).pa → bestI o ≤ i)) ∧
    (countB x h port al = false → o.isSome = true → i ≠ bestI o) := by
  cases o with
  | none =>
    refine ⟨fun hc => ?_, fun _ h => by cases h⟩
    have := find_none.1 ho x (List.mem_of_getElem? hx)
    rw [hc] at this
    cases this
  | some y =>
    obtain ⟨y, j⟩ := y
    refine ⟨fun hc => ⟨rfl, find_most ho hx hc⟩, fun hc _ e => ?_⟩
    obtain ⟨h1, h2, _⟩ := find_some ho
    have e' : i = j := e
    rw [e', h1] at hx
    injection hx with hx
    rw [hx, hc] at h2
    cases h2
/-- a round of the last loop: the rule that is looked at, too -/
structure RndIn (W : World) (X : Nat) (a : Ru) (A2 : Option Addr) (L : List Ru) (Z : Nat) (x : Ru) (w : World) : Prop where
  fin : FinIn W X a A2 L w
  bz : Blk w Z 23 (ruC x)
theorem RndIn.on {W w w' : World} {X Z : Nat} {a x : Ru} {A2 : Option Addr} {L : List Ru} (h : RndIn W X a A2 L Z x w) (hb : Below w.heap.size w w') : RndIn W X a A2 L Z x w' := ⟨h.fin.on hb, h.bz.below hb h.bz.lt⟩
set_option linter.unusedSimpArgs false in
set_option maxRecDepth 100000 in
set_option maxHeartbeats 64000000 in
theorem finds_walk {Tri : World → Nat → List Nat → List Ru → Prop} (C : TrC Tri) (hSm : SmallP) (W : World) (A : Option Addr) (n cap : Nat) (l : List Ru) (s : ByteArray) (port : Int) (A1 : Option Addr) (n1 cap1 : Nat) (ss : List ByteArray) (hE : Ad.Env W.heap.size W) (h9 : n ≤ 9223372036854775807) (hn : l.length = n) (hz : ∀ x ∈ l, x.pa.length ≤ 9223372036854775807 ∧ x.ap.length ≤ 9223372036854775807) (hl : SrcU W A l)
    (hs : s.size ≤ 9223372036854775807) (hp : -9223372036854775808 ≤ port ∧ port ≤ 9223372036854775807) (le1 : n1 ≤ cap1) (h91 : n1 ≤ 9223372036854775807) (hn1 : ss.length = n1) (hss : SrcS W A1 ss) :
    Calls Tryz.prog 5 #[.slice A n cap, .string s, .int .i64 port, .slice A1 n1 cap1] W fun e w' => e = .returned (.bool true) ∧ Below W.heap.size W w' := by
  have HE := Lib.hid hE
  have HSm : Hid SmallP := hSm
  have HC := Lib.hid C
  have HL := Lib.hid hl
  have HN := Lib.hid hn
  have HZ := Lib.hid hz
  have HP := Lib.hid hp
  have HL1 := Lib.hid le1
  have HN1 := Lib.hid hn1
  have HSS := Lib.hid hss
  clear hE hSm C hl hn hz hp le1 hn1 hss
  go_enter Tryz.func5, Tryz.ntmps5
  go_wp2_with fail
  refine (HSm.out W HE.out).mono ?_
  rintro e w2 ⟨rfl, hb⟩
  have HB2 := Lib.hid hb
  clear hb HSm
  obtain ⟨b, hb⟩ : ∃ b, fewU l = b := ⟨_, rfl⟩
  have HFw := Lib.hid hb
  have HF := Lib.hid (few_any l A n cap w2 (HL.out.below HB2.out) HN.out h9 HZ.out)
  rw [hb] at HF
  clear hb
  go_wp2_with fail
  refine HF.out.mono ?_
  rintro e w3 ⟨rfl, rfl⟩
  clear HF
  obtain ⟨b1, hb1⟩ : ∃ b, decide (n1 ≤ 20) = b := ⟨_, rfl⟩
  have HAl := Lib.hid (fun w => alpns_any A1 n1 cap1 w b1 hb1 h91)
  have HB1 := Lib.hid hb1
  clear hb1
  go_wp2_with fail
  refine (HAl.out _).mono ?_
  rintro e w3 ⟨rfl, rfl⟩
  clear HAl
  go_wp2_with fail
  refine (HC.out.new_ w2).mono ?_
  rintro e w4 ⟨g, S, rfl, ht1, hf1, hb⟩
  have HI4 : Hid (OneIn Tri W g S [] w4) := Lib.hid ⟨ht1, fun i hi => Nat.le_trans HB2.out.size (hf1 i hi), HB2.out.trans (hb.mono HB2.out.size)⟩
  clear ht1 hf1 hb HB2
  cases b
  · go_wp2_with fail
    go_ret
    exact ⟨rfl, HI4.out.bel⟩
  obtain ⟨f1, f2⟩ := few_len HFw.out
  have HF2 := Lib.hid f2
  clear f2 HFw
  cases b1
  · go_wp2_with fail
    go_ret
    exact ⟨rfl, HI4.out.bel⟩
  have hn20 : n1 ≤ 20 := of_decide_eq_true HB1.out
  clear HB1
  by_cases p2 : 300 < s.size
  · have i2 : (300 : Int) < (s.size : Int) := by omega
    clear p2 f1
    go_wp2_with fail
    go_ret
    exact ⟨rfl, HI4.out.bel⟩
  have i2 : ¬ (300 : Int) < (s.size : Int) := by omega
  have HSs := Lib.hid (show s.size ≤ 1000000 by omega)
  have hn220 : n ≤ 220 := by rw [← HN.out]; exact f1
  clear p2 hs h9 h91 f1
  have HRA := Lib.hid (fun (k : Nat) (x : Ru) (hx : l[k]? = some x) (w' : World) (hb : Below W.heap.size W w') => show ∃ g o, A = some ⟨g, o, none⟩ ∧ RuAt w' g (o + k * 5) x from by
    obtain ⟨r', g', p', hr', hA', hg', hra'⟩ := HL.out.get (wr := w') (k := k) (List.getElem?_eq_some_iff.1 hx).1 hb
    rw [hx] at hr'
    injection hr' with hr'
    subst hr'
    exact ⟨g', p', hA', hra'⟩)
  go_wp2_with fail
  clear i2
  go_loopw [13] (fun x13 wr => ∃ (k : Nat) (ww : World) (S : List Nat), ww = wr ∧ k ≤ n ∧ x13 = .int .i64 (k : Nat) ∧ Hid (OneIn Tri W g S (putS [] (l.take k)) ww)) (fun x13 _ => n - (intOf x13).toNat)
  case atStart => exact ⟨0, w4, S, rfl, Nat.zero_le _, rfl, HI4⟩
  case round =>
    clear HI4
    obtain ⟨k, ww, S, rfl, hk, rfl, HI⟩ := hrel
    by_cases hlt : k < n
    · have hki : (k : Int) < (n : Int) := by omega
      obtain ⟨x, hx⟩ : ∃ x, l[k]? = some x := ⟨_, List.getElem?_eq_getElem (by rw [HN.out]; exact hlt)⟩
      have HX := Lib.hid hx
      obtain ⟨x1, x2⟩ := HF2.out x (List.mem_of_getElem? hx)
      have HX1 := Lib.hid x1
      have HX2 := Lib.hid x2
      clear hx x1 x2
      obtain ⟨g0, o0, rfl, hra⟩ := HRA.out k x HX.out ww HI.out.bel
      go_wp2_with (refine go_ldr x hra (by rfl) rfl (by first | rfl | (go_simp; done)) ?_)
      clear hra
      refine (HC.out.add_ (HE.out.below HI.out.bel) HI.out.far HI.out.t x (Nat.le_trans HX1.out (by decide)) (Nat.le_trans HX2.out (by decide))).mono ?_
      rintro e w8 ⟨S4, rfl, ht, hS, hb⟩
      have HI8 := Lib.hid (HI.out.add ht hS hb)
      rw [← put_nextF HX.out] at HI8
      clear ht hS hb HI
      go_wp2_with fail
      go_roundw
      case rel => exact ⟨k + 1, _, S4, rfl, by omega, by go_num, HI8⟩
      case measure => simp [intOf]; omega
    · have hki : ¬ (k : Int) < (n : Int) := by omega
      have hkl : l.take k = l := List.take_of_length_le (by rw [HN.out]; omega)
      rw [hkl] at HI
      clear hkl
      obtain ⟨L, hL⟩ : ∃ L, putS [] l = L := ⟨_, rfl⟩
      have hLl : L.length ≤ 220 := by have := (put_len l []).1; rw [hL, HN.out] at this; simp only [List.length_nil] at this; omega
      have HLp := Lib.hid (show ∀ x ∈ L, x.pa.length ≤ 300 ∧ x.ap.length ≤ 300 from fun x hx => by
        rcases (put_right l [] (fun _ h => by cases h) x (by rw [hL]; exact hx)).2 with h | h
        · cases h
        · exact HF2.out x h)
      rw [hL] at HI
      clear hL
      obtain ⟨N, hN⟩ : ∃ N, L.length = N := ⟨_, rfl⟩
      have HLN := Lib.hid hN
      rw [hN] at hLl
      clear hN
      obtain ⟨o, ho⟩ : ∃ o, findS L (bs s) port (ss.map bs) = o := ⟨_, rfl⟩
      have HO := Lib.hid ho
      have F1 := Lib.hid (HC.out.find_at (HE.out.below HI.out.bel) HI.out.t s port A1 n1 cap1 ss HSs.out HP.out HN1.out HL1.out (by omega) (HSS.out.below HI.out.bel) o ho)
      have HAsk := Lib.hid (fun (i : Nat) (x : Ru) (hx : L[i]? = some x) => fnd_ask ho hx)
      have HIs : Hid (o.isSome = true → bestI o < N ∧ L[bestI o]? = some (bestR o)) := Lib.hid (fun h => by
        cases o with
        | none => cases h
        | some y =>
          obtain ⟨h1, _, _⟩ := find_some ho
          exact ⟨by rw [← HLN.out]; exact (List.getElem?_eq_some_iff.1 h1).1, h1⟩)
      have HNo : Hid (o.isSome = false → bestR o = Ru.zero ∧ bestI o = 0) := Lib.hid (fun h => by
        cases o with
        | none => exact ⟨rfl, rfl⟩
        | some y => cases h)
      clear ho
      obtain ⟨e, he⟩ : ∃ e, o.isSome = e := ⟨_, rfl⟩
      obtain ⟨a, ha⟩ : ∃ a, bestR o = a := ⟨_, rfl⟩
      obtain ⟨at_, hat⟩ : ∃ i, bestI o = i := ⟨_, rfl⟩
      rw [he, ha, hat] at F1 HAsk HIs HNo
      clear he ha hat HO
      have HAl2 := Lib.hid (show (a.pa.length ≤ 300) from by
        cases e with
        | false => rw [(HNo.out rfl).1]; exact Nat.zero_le _
        | true => exact (HLp.out a (List.mem_of_getElem? (HIs.out rfl).2)).1)
      go_wp2_with fail
      refine F1.out.mono ?_
      rintro e' w8 ⟨rfl, hb⟩
      have HI8 := Lib.hid (HI.out.on HC.out hb)
      clear hb HI F1
      go_upto_region 12 with (refine go_st 23 (Blk.new _ _ _) infU rfl (ruC_size _) (ruC_one _) rfl rfl rfl rfl ?_)
      obtain ⟨hbA, hlA⟩ := ru_new w8 a
      have HI9 := Lib.hid (HI8.out.on HC.out hlA)
      have HbA := Lib.hid hbA
      clear hbA hlA HI8
      obtain ⟨X, hX⟩ : ∃ X, w8.heap.size = X := ⟨_, rfl⟩
      rw [hX] at HbA HI9 ⊢
      clear hX
      generalize (w8.alloc (.cells zU 23)).setRow X (ruC a) = w9 at *
      go_wp2_with fail
      refine (HC.out.rules_ HI9.out.t).mono ?_
      rintro e' w10 ⟨v, rfl, hv, hb⟩
      obtain ⟨A2, c2, rfl, _, hsrc⟩ := hv.src
      have HI : Hid (FinIn W X a A2 L w10) := Lib.hid ⟨HbA.out.below hb HbA.out.lt, hsrc, HI9.out.bel.trans (hb.mono HI9.out.bel.size)⟩
      rw [HLN.out]
      clear hv hsrc hb HbA HI9
      go_upto_region 13 with fail
      go_cut [90] from 72 to 90 (fun s90 wx => s90 = .bool false ∧ Hid (FinIn W X a A2 L wx))
      case first =>
        cases e with
        | false =>
          go_quiet (fail)
          all_goals (
            go_wp2_with fail
            go_meet
            exact ⟨rfl, Lib.hid (HI.out.on (Ad.below_drewN' _ _))⟩)
        | true =>
          obtain ⟨ha1, ha2⟩ := HIs.out rfl
          obtain ⟨a', g2, o2, ha', hA2, _, hra⟩ := HI.out.src.get (wr := w10) (k := at_) (by rw [HLN.out]; exact ha1) (Below.refl _ _)
          rw [ha2] at ha'
          injection ha' with ha'
          subst ha' hA2
          have HI2 : Hid (FinIn W X a (some ⟨g2, o2, none⟩) L w10.drew) := Lib.hid (HI.out.on (show Below w10.heap.size w10 w10.drew from (Below.refl _ _).drew))
          have hS : w10.drew.rangeAt g2 (o2 + at_ * 5) (ruC a).toList ∧ w10.drew.rangeAt X 0 (ruC a).toList := ⟨hra.range, range_b HI2.out.box⟩
          have ha3 : (at_ : Int) < (N : Int) := by omega
          clear hra ha2
          refine wp_region_held_drew (S := fun w' => w'.rangeAt g2 (o2 + at_ * 5) (ruC a).toList ∧ w'.rangeAt X 0 (ruC a).toList) (by kernel_rfl) hS (fun h0 => ?_)
          refine hd_take 0 (some 72) (.bool true) rfl rfl (by kernel_rfl) (by kernel_rfl) (by kernel_rfl) (fun _ _ _ h => h) (Or.inl ⟨by rfl, fun w hw => by go_simp⟩) h0 ?_
          simp only [Act.put, List.setIfInBounds_toArray, List.set_cons_zero, List.set_cons_succ]
          refine hd_take 1 (some 73) (.bool true) rfl rfl (by kernel_rfl) (by kernel_rfl) (by kernel_rfl) (fun _ _ _ h => h) (Or.inl ⟨by rfl, fun w hw => by go_simp⟩) h0 ?_
          simp only [Act.put, List.setIfInBounds_toArray, List.set_cons_zero, List.set_cons_succ]
          refine hd_take 2 (some 74) (.int .i64 (at_ : Int)) rfl rfl (by kernel_rfl) (by kernel_rfl) (by kernel_rfl) (fun _ _ _ h => h) (Or.inl ⟨by rfl, fun w hw => by go_simp⟩) h0 ?_
          simp only [Act.put, List.setIfInBounds_toArray, List.set_cons_zero, List.set_cons_succ]
          refine hd_take 3 (some 75) (.bool false) rfl rfl (by kernel_rfl) (by kernel_rfl) (by kernel_rfl) (fun _ _ _ h => h) (Or.inl ⟨by rfl, fun w hw => by have hx : ¬ (at_ : Int) < 0 := (by omega); go_simp⟩) h0 ?_
          simp only [Act.put, List.setIfInBounds_toArray, List.set_cons_zero, List.set_cons_succ]
          refine hd_take 4 (some 76) (.bool false) rfl rfl (by kernel_rfl) (by kernel_rfl) (by kernel_rfl) (fun _ _ _ h => h) (Or.inl ⟨by rfl, fun w hw => by go_simp⟩) h0 ?_
          simp only [Act.put, List.setIfInBounds_toArray, List.set_cons_zero, List.set_cons_succ]
          refine hd_take 5 (some 77) (.int .i64 (at_ : Int)) rfl rfl (by kernel_rfl) (by kernel_rfl) (by kernel_rfl) (fun _ _ _ h => h) (Or.inl ⟨by rfl, fun w hw => by go_simp⟩) h0 ?_
          simp only [Act.put, List.setIfInBounds_toArray, List.set_cons_zero, List.set_cons_succ]
          refine hd_take 6 (some 78) (.slice (some ⟨g2, o2, none⟩) N c2) rfl rfl (by kernel_rfl) (by kernel_rfl) (by kernel_rfl) (fun _ _ _ h => h) (Or.inl ⟨by rfl, fun w hw => by go_simp⟩) h0 ?_
          simp only [Act.put, List.setIfInBounds_toArray, List.set_cons_zero, List.set_cons_succ]
          refine hd_take 7 (some 79) (.int .i64 (N : Int)) rfl rfl (by kernel_rfl) (by kernel_rfl) (by kernel_rfl) (fun _ _ _ h => h) (Or.inl ⟨by rfl, fun w hw => by go_simp⟩) h0 ?_
          simp only [Act.put, List.setIfInBounds_toArray, List.set_cons_zero, List.set_cons_succ]
          refine hd_take 8 (some 80) (.bool false) rfl rfl (by kernel_rfl) (by kernel_rfl) (by kernel_rfl) (fun _ _ _ h => h) (Or.inl ⟨by rfl, fun w hw => by have hx : ¬ (N : Int) ≤ (at_ : Int) := (by omega); go_simp⟩) h0 ?_
          simp only [Act.put, List.setIfInBounds_toArray, List.set_cons_zero, List.set_cons_succ]
          refine hd_take 9 (some 81) (.bool false) rfl rfl (by kernel_rfl) (by kernel_rfl) (by kernel_rfl) (fun _ _ _ h => h) (Or.inl ⟨by rfl, fun w hw => by go_simp⟩) h0 ?_
          simp only [Act.put, List.setIfInBounds_toArray, List.set_cons_zero, List.set_cons_succ]
          refine hd_take 10 (some 82) (.bool false) rfl rfl (by kernel_rfl) (by kernel_rfl) (by kernel_rfl) (fun _ _ _ h => h) (Or.inl ⟨by rfl, fun w hw => by go_simp⟩) h0 ?_
          simp only [Act.put, List.setIfInBounds_toArray, List.set_cons_zero, List.set_cons_succ]
          refine hd_take 11 (some 83) (.slice (some ⟨g2, o2, none⟩) N c2) rfl rfl (by kernel_rfl) (by kernel_rfl) (by kernel_rfl) (fun _ _ _ h => h) (Or.inl ⟨by rfl, fun w hw => by go_simp⟩) h0 ?_
          simp only [Act.put, List.setIfInBounds_toArray, List.set_cons_zero, List.set_cons_succ]
          refine hd_take 12 (some 84) (.int .i64 (at_ : Int)) rfl rfl (by kernel_rfl) (by kernel_rfl) (by kernel_rfl) (fun _ _ _ h => h) (Or.inl ⟨by rfl, fun w hw => by go_simp⟩) h0 ?_
          simp only [Act.put, List.setIfInBounds_toArray, List.set_cons_zero, List.set_cons_succ]
          refine hd_take 13 (some 85) (.pointer (some ⟨g2, o2 + at_ * 5, none⟩)) rfl rfl (by kernel_rfl) (by kernel_rfl) (by kernel_rfl) (fun _ _ _ h => h) (Or.inl ⟨by rfl, fun w hw => by go_simp <;> omega⟩) h0 ?_
          simp only [Act.put, List.setIfInBounds_toArray, List.set_cons_zero, List.set_cons_succ]
          refine hd_take 14 (some 86) (.agg (ruC a)) rfl rfl (by kernel_rfl) (by kernel_rfl) (by kernel_rfl) (fun _ _ _ h => h) (yieldsIf_load_mid (by rfl) _ _ rfl g2 (o2 + at_ * 5) rfl (ruC a).toList _ (fun _ h => h.1) undU rfl (ruU_len a)) h0 ?_
          simp only [Act.put, List.setIfInBounds_toArray, List.set_cons_zero, List.set_cons_succ]
          refine hd_take 15 (some 87) (.agg (ruC a)) rfl rfl (by kernel_rfl) (by kernel_rfl) (by kernel_rfl) (fun _ _ _ h => h) (yieldsIf_load_mid (by rfl) _ _ rfl X 0 rfl (ruC a).toList _ (fun _ h => h.2) undU rfl (ruU_len a)) h0 ?_
          simp only [Act.put, List.setIfInBounds_toArray, List.set_cons_zero, List.set_cons_succ]
          refine hd_take 16 (some 88) (.bool (!true)) rfl rfl (by kernel_rfl) (by kernel_rfl) (by kernel_rfl) (fun _ _ _ h => h) (yields_neqU a a true (decide_eq_true rfl) (by rfl) (by rfl) rfl rfl) h0 ?_
          simp only [Act.put, List.setIfInBounds_toArray, List.set_cons_zero, List.set_cons_succ]
          refine hd_take 17 (some 89) (.bool false) rfl rfl (by kernel_rfl) (by kernel_rfl) (by kernel_rfl) (fun _ _ _ h => h) (Or.inl ⟨by rfl, fun w hw => by go_simp⟩) h0 ?_
          simp only [Act.put, List.setIfInBounds_toArray, List.set_cons_zero, List.set_cons_succ]
          refine hd_take 18 (some 90) (.bool false) rfl rfl (by kernel_rfl) (by kernel_rfl) (by kernel_rfl) (fun _ _ _ h => h) (Or.inl ⟨by rfl, fun w hw => by go_simp⟩) h0 ?_
          simp only [Act.put, List.setIfInBounds_toArray, List.set_cons_zero, List.set_cons_succ]
          refine wpAnyH_done (by kernel_rfl) ?_ _
          go_wp2_with fail
          go_meet
          exact ⟨rfl, HI2⟩
      case rest =>
        clear HI
        obtain ⟨rfl, HI⟩ := hcut
        go_wp2_with fail
        go_loopw [18] (fun x18 wr => ∃ (i : Nat) (ww : World), ww = wr ∧ i ≤ N ∧ x18 = .int .i64 (i : Nat) ∧ Hid (FinIn W X a A2 L ww)) (fun x18 _ => N - (intOf x18).toNat)
        case atStart => exact ⟨0, _, rfl, Nat.zero_le _, rfl, HI⟩
        case round =>
          clear HI
          obtain ⟨i, ww, rfl, hi, rfl, HI⟩ := hrel
          by_cases hlt : i < N
          · have hii : (i : Int) < (N : Int) := by omega
            obtain ⟨x, g2, o2, hx, hA2, _, hra⟩ := HI.out.src.get (wr := ww) (k := i) (by rw [HLN.out]; exact hlt) (Below.refl _ _)
            subst hA2
            obtain ⟨ask1, ask2⟩ := HAsk.out i x hx
            have HAsk1 := Lib.hid ask1
            have HAsk2 := Lib.hid ask2
            obtain ⟨x1, x2⟩ := HLp.out x (List.mem_of_getElem? hx)
            have HX1 := Lib.hid x1
            clear hx ask1 ask2 x1 x2
            go_upto_region 19 with (first | (refine go_ldr x hra (by rfl) rfl (by first | rfl | (go_simp; done)) ?_) | (refine go_st 23 (Blk.new _ _ _) infU rfl (ruC_size _) (ruC_one _) rfl rfl rfl rfl ?_))
            obtain ⟨hbZ, hlZ⟩ := ru_new ww x
            obtain ⟨Z, hZ⟩ : ∃ Z, ww.heap.size = Z := ⟨_, rfl⟩
            have HJ : Hid (RndIn W X a (some ⟨g2, o2, none⟩) L ww.heap.size x ((ww.alloc (.cells zU 23)).setRow ww.heap.size (ruC x))) := Lib.hid ⟨HI.out.on hlZ, hbZ⟩
            clear hbZ hlZ hra HI
            rw [hZ] at HJ ⊢
            clear hZ
            generalize (ww.alloc (.cells zU 23)).setRow Z (ruC x) = w3 at *
            obtain ⟨PX, hPX⟩ : ∃ A, str x.pa = A := ⟨_, rfl⟩
            obtain ⟨AP, hAP⟩ : ∃ A, str x.ap = A := ⟨_, rfl⟩
            obtain ⟨PA, hPA⟩ : ∃ A, str a.pa = A := ⟨_, rfl⟩
            have hpx : bs PX = x.pa := by rw [← hPX]; rfl
            have hpa : bs PA = a.pa := by rw [← hPA]; rfl
            have hap : bs AP = x.ap := by rw [← hAP]; rfl
            have HPX := Lib.hid hPX
            have HAP := Lib.hid hAP
            have HPA := Lib.hid hPA
            have zPX : PX.size ≤ 300 := by rw [← bs_length, hpx]; exact HX1.out
            have zPA : PA.size ≤ 300 := by rw [← bs_length, hpa]; exact HAl2.out
            have HC4 := Lib.hid (fun (w' : World) (h : RndIn W X a (some ⟨g2, o2, none⟩) L Z x w') => show w'.cell? ⟨Z, 4, none⟩ = some (.string AP) by rw [h.bz.cell, ← HAP.out]; rfl)
            have HC2 := Lib.hid (fun (w' : World) (h : RndIn W X a (some ⟨g2, o2, none⟩) L Z x w') => show w'.cell? ⟨Z, 2, none⟩ = some (.string PX) by rw [h.bz.cell, ← HPX.out]; rfl)
            have HC1 := Lib.hid (fun (w' : World) (h : RndIn W X a (some ⟨g2, o2, none⟩) L Z x w') => show w'.cell? ⟨Z, 1, none⟩ = some (.int .i64 x.pr) by rw [h.bz.cell]; rfl)
            have HC3 := Lib.hid (fun (w' : World) (h : RndIn W X a (some ⟨g2, o2, none⟩) L Z x w') => show w'.cell? ⟨Z, 3, none⟩ = some (.int .i64 x.po) by rw [h.bz.cell]; rfl)
            have HD2 := Lib.hid (fun (w' : World) (h : RndIn W X a (some ⟨g2, o2, none⟩) L Z x w') => show w'.cell? ⟨X, 2, none⟩ = some (.string PA) by rw [h.fin.box.cell, ← HPA.out]; rfl)
            have HD1 := Lib.hid (fun (w' : World) (h : RndIn W X a (some ⟨g2, o2, none⟩) L Z x w') => show w'.cell? ⟨X, 1, none⟩ = some (.int .i64 a.pr) by rw [h.fin.box.cell]; rfl)
            obtain ⟨b0, hb0⟩ : ∃ b, decide (bs AP = []) = b := ⟨_, rfl⟩
            obtain ⟨mm, hmm⟩ : ∃ m, matchB x.pa (bs s) = m := ⟨_, rfl⟩
            obtain ⟨z0, hz0⟩ : ∃ b, decide (x.po = 0) = b := ⟨_, rfl⟩
            obtain ⟨zp, hzp⟩ : ∃ b, decide (x.po = port) = b := ⟨_, rfl⟩
            obtain ⟨c, hc⟩ : ∃ c, countB x (bs s) port (ss.map bs) = c := ⟨_, rfl⟩
            have HCt := Lib.hid (show c = (mm && (z0 || zp) && (b0 || anyS AP ss)) by rw [← hc, count_is x (bs s) port ss AP hap, hmm, hz0, hzp, hb0])
            rw [hc] at HAsk1 HAsk2
            have HMt : Hid (∀ w', Below W.heap.size W w' → Calls Tryz.prog 16 #[.string PX, .string s] w' fun e w'' => e = .returned (.bool mm) ∧ Below w'.heap.size w' w'') := Lib.hid (fun w' hb => by rw [← hmm, ← hpx]; exact HC.out.matches_ (HE.out.below hb) PX s (by omega) HSs.out)
            have e4 := lit_is AP []
            rw [hb0] at e4
            have E5 := Lib.hid (show (x.po == 0) = z0 by rw [← hz0]; by_cases e : x.po = 0 <;> simp [e])
            have E6 := Lib.hid (show (x.po == port) = zp by rw [← hzp]; by_cases e : x.po = port <;> simp [e])
            have EP := Lib.hid (show (PX.toList == PA.toList) = decide (x.pa = a.pa) by rw [str_is, hpx, hpa])
            have LX := Lib.hid (show PX.size = x.pa.length by rw [← bs_length, hpx])
            have LA := Lib.hid (show PA.size = a.pa.length by rw [← bs_length, hpa])
            clear hPX hAP hPA hpx hpa hap hb0 hmm hz0 hzp hc
            have c4 := HC4.out _ HJ.out
            go_wp2_with fail
            clear c4 e4
            go_loopw [20, 21] (fun x20 x21 wr => ∃ (k : Nat) (b : Bool) (wk : World), wk = wr ∧ k ≤ n1 ∧ x20 = .bool b ∧ x21 = .int .i64 (k : Nat) ∧ Hid (b = (b0 || anyS AP (ss.take k))) ∧ Hid (RndIn W X a (some ⟨g2, o2, none⟩) L Z x wk)) (fun _ x21 _ => n1 - (intOf x21).toNat)
            case atStart => exact ⟨0, b0, w3, rfl, Nat.zero_le _, rfl, rfl, Lib.hid (by simp [anyS]), HJ⟩
            case round =>
              clear HJ
              obtain ⟨k, b, wk, rfl, hk1, rfl, rfl, HQ, HJ⟩ := hrel
              by_cases hlk : k < n1
              · have hki1 : (k : Int) < (n1 : Int) := by omega
                obtain ⟨t, g5, o5, htk, hA5, _, hct⟩ := HSS.out.get (wr := wk) (k := k) (by rw [HN1.out]; exact hlk) HJ.out.fin.bel
                subst hA5
                have q := str_is t AP
                have HQ2 := Lib.hid (anyS_next (ap := AP) htk)
                obtain ⟨d, hd⟩ : ∃ d, decide (bs t = bs AP) = d := ⟨_, rfl⟩
                rw [hd] at q HQ2
                have c4 := HC4.out _ HJ.out
                clear hd htk
                cases b
                · go_wp2_with fail
                  go_quiet (fail)
                  all_goals (
                    go_wp2_with fail
                    go_roundw
                    case rel => exact ⟨k + 1, d, _, rfl, by omega, rfl, by go_num, Lib.hid (by rw [HQ2.out, ← Bool.or_assoc, ← HQ.out]; rfl), Lib.hid (HJ.out.on (Ad.below_drewN' _ _))⟩
                    case measure => simp [intOf]; omega)
                · go_wp2_with fail
                  go_quiet (fail)
                  all_goals (
                    go_wp2_with fail
                    go_roundw
                    case rel => exact ⟨k + 1, true, _, rfl, by omega, rfl, by go_num, Lib.hid (by rw [HQ2.out, ← Bool.or_assoc, ← HQ.out]; rfl), Lib.hid (HJ.out.on (Ad.below_drewN' _ _))⟩
                    case measure => simp [intOf]; omega)
              · have hki1 : ¬ (k : Int) < (n1 : Int) := by omega
                have HQ3 := Lib.hid (show b = (b0 || anyS AP ss) by rw [HQ.out, List.take_of_length_le (by rw [HN1.out]; omega)])
                have HCt2 := Lib.hid (show c = (mm && (z0 || zp) && b) by rw [HQ3.out]; exact HCt.out)
                clear HQ HQ3 HCt
                go_upto_region 24 with fail
                clear hki1
                go_cut [22] from 91 to 198 (fun s22 wx => s22 = .bool c ∧ Hid (RndIn W X a (some ⟨g2, o2, none⟩) L Z x wx))
                case first =>
                  have c2 := HC2.out _ HJ.out
                  go_wp2_with fail
                  refine (HMt.out _ HJ.out.fin.bel).mono ?_
                  rintro e' w5 ⟨rfl, hb⟩
                  have HJ5 := Lib.hid (HJ.out.on hb)
                  have c3 := HC3.out _ HJ5.out
                  have e5 := E5.out
                  have e6 := E6.out
                  clear hb c2 HJ HMt
                  cases mm
                  · go_wp2_with fail
                    go_meet
                    exact ⟨by rw [HCt2.out]; rfl, HJ5⟩
                  · cases z0
                    · cases zp
                      · go_wp2_with fail
                        go_meet
                        exact ⟨by rw [HCt2.out]; rfl, HJ5⟩
                      · go_wp2_with fail
                        go_meet
                        exact ⟨by rw [HCt2.out]; rfl, HJ5⟩
                    · go_wp2_with fail
                      go_meet
                      exact ⟨by rw [HCt2.out]; rfl, HJ5⟩
                case rest =>
                  clear HJ HCt2 HMt E5 E6
                  obtain ⟨rfl, HJ⟩ := hcut
                  have c1 := HC1.out _ HJ.out
                  have d1 := HD1.out _ HJ.out
                  have c2 := HC2.out _ HJ.out
                  have d2 := HD2.out _ HJ.out
                  clear HC1 HC2 HC3 HC4 HD1 HD2
                  cases c
                  · have k2 := HAsk2.out rfl
                    clear HAsk1 HAsk2
                    cases e
                    · clear k2
                      go_wp2_with fail
                      go_roundw
                      case rel => exact ⟨i + 1, _, rfl, by omega, by go_num, Lib.hid HJ.out.fin⟩
                      case measure => simp [intOf]; omega
                    · have hne := k2 rfl
                      have hq : ((i : Int) == (at_ : Int)) = false := by rw [beq_eq_false_iff_ne]; omega
                      have hq2 : decide ((i : Int) = (at_ : Int)) = false := decide_eq_false (by omega)
                      clear k2 hne
                      go_wp2_with fail
                      go_roundw
                      case rel => exact ⟨i + 1, _, rfl, by omega, by go_num, Lib.hid HJ.out.fin⟩
                      case measure => simp [intOf]; omega
                  · obtain ⟨he, h1, h2, h3⟩ := HAsk1.out rfl
                    subst he
                    clear HAsk1 HAsk2
                    have i1 : ¬ a.pr < x.pr := by omega
                    by_cases hq : x.pr = a.pr
                    · have q1 : (x.pr == a.pr) = true := by rw [beq_iff_eq]; exact hq
                      have q2 : decide (x.pr = a.pr) = true := decide_eq_true hq
                      have l1 : ¬ (PA.size : Int) + 1 < (PX.size : Int) := by have h := h2 hq; have := LX.out; have := LA.out; omega
                      have h3 := h3 hq
                      have ep := EP.out
                      clear h1 h2 hq
                      by_cases hp : x.pa = a.pa
                      · rw [decide_eq_true hp] at ep
                        have h4 := h3 hp
                        have i5 : ¬ (i : Int) < (at_ : Int) := by omega
                        clear h3 hp
                        by_cases hi5 : i = at_
                        · have j1 : ((i : Int) == (at_ : Int)) = true := by rw [beq_iff_eq]; omega
                          have j2 : decide ((i : Int) = (at_ : Int)) = true := decide_eq_true (by omega)
                          clear hi5 h4
                          go_wp2_with fail
                          go_roundw
                          case rel => exact ⟨i + 1, _, rfl, by omega, by go_num, Lib.hid HJ.out.fin⟩
                          case measure => simp [intOf]; omega
                        · have j1 : ((i : Int) == (at_ : Int)) = false := by rw [beq_eq_false_iff_ne]; omega
                          have j2 : decide ((i : Int) = (at_ : Int)) = false := decide_eq_false (by omega)
                          clear hi5 h4
                          go_wp2_with fail
                          go_roundw
                          case rel => exact ⟨i + 1, _, rfl, by omega, by go_num, Lib.hid HJ.out.fin⟩
                          case measure => simp [intOf]; omega
                      · rw [decide_eq_false hp] at ep
                        clear h3 hp
                        by_cases hi5 : i = at_
                        · have j1 : ((i : Int) == (at_ : Int)) = true := by rw [beq_iff_eq]; omega
                          have j2 : decide ((i : Int) = (at_ : Int)) = true := decide_eq_true (by omega)
                          clear hi5
                          go_wp2_with fail
                          go_roundw
                          case rel => exact ⟨i + 1, _, rfl, by omega, by go_num, Lib.hid HJ.out.fin⟩
                          case measure => simp [intOf]; omega
                        · have j1 : ((i : Int) == (at_ : Int)) = false := by rw [beq_eq_false_iff_ne]; omega
                          have j2 : decide ((i : Int) = (at_ : Int)) = false := decide_eq_false (by omega)
                          clear hi5
                          go_wp2_with fail
                          go_roundw
                          case rel => exact ⟨i + 1, _, rfl, by omega, by go_num, Lib.hid HJ.out.fin⟩
                          case measure => simp [intOf]; omega
                    · have q1 : (x.pr == a.pr) = false := by rw [beq_eq_false_iff_ne]; exact hq
                      have q2 : decide (x.pr = a.pr) = false := decide_eq_false hq
                      clear h1 h2 h3 hq
                      by_cases hi5 : i = at_
                      · have j1 : ((i : Int) == (at_ : Int)) = true := by rw [beq_iff_eq]; omega
                        have j2 : decide ((i : Int) = (at_ : Int)) = true := decide_eq_true (by omega)
                        clear hi5
                        go_wp2_with fail
                        go_roundw
                        case rel => exact ⟨i + 1, _, rfl, by omega, by go_num, Lib.hid HJ.out.fin⟩
                        case measure => simp [intOf]; omega
                      · have j1 : ((i : Int) == (at_ : Int)) = false := by rw [beq_eq_false_iff_ne]; omega
                        have j2 : decide ((i : Int) = (at_ : Int)) = false := decide_eq_false (by omega)
                        clear hi5
                        go_wp2_with fail
                        go_roundw
                        case rel => exact ⟨i + 1, _, rfl, by omega, by go_num, Lib.hid HJ.out.fin⟩
                        case measure => simp [intOf]; omega
          · have hii : ¬ (i : Int) < (N : Int) := by omega
            have bX := HI.out.box
            cases e
            · obtain ⟨rfl, rfl⟩ := HNo.out rfl
              go_wp2_with (refine go_ldg (x := .tmp 14) 23 bX undU rfl infU (ruC_size _) (by rfl) rfl rfl ?_; refine Hid.out ?_)
              refine Lib.hid ?_
              refine go_bdU (fs := #[]) [] Ru.zero (by kernel_rfl) (by rfl) rfl (by simp only [List.map_toArray, List.map_nil]) ?_
              refine go_eqlU Ru.zero Ru.zero true (decide_eq_true rfl) rfl (by rfl) rfl rfl ?_
              go_wp2_with fail
              go_ret
              exact ⟨rfl, HI.out.bel⟩
            · go_wp2_with fail
              go_ret
              exact ⟨rfl, HI.out.bel⟩
end Go.Proofs.YtlpondbcnfaggaaGreatDoor.Tr
