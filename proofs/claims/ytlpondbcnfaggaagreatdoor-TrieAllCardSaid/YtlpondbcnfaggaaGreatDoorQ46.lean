/-
  The walk of TrieAll over this seat's translation, over the contracts of package trie. No condition.
-/
import Derived.Test.YtlpondbcnfaggaaGreatDoorQ40
namespace Go.Proofs.YtlpondbcnfaggaaGreatDoor.Tr
open Go.RowKit Go.Proofs.YtlpondbcnfaggaaGreatDoor.Wd Go.Proofs.YtlpondbcnfaggaaGreatDoor.Asc Go.Proofs.YtlpondbcnfaggaaGreatDoor.Tx Go.Proofs.YtlpondbcnfaggaaGreatDoor.St

/-- the rule for all -/
def allR (r : Ru) : Ru := ⟨r.al, r.pr, [42], 0, []⟩
theorem allR_is (r : Ru) : (((ruC r).setIfInBounds 2 (.string ⟨#[42]⟩)).setIfInBounds 3 (.int .i64 0)).setIfInBounds 4 (.string ⟨#[]⟩) = ruC (allR r) := by
  simp [ruC, allR]
/-- what a round keeps: both tries, the rule's block G -/
structure AllIn (Tri : World → Nat → List Nat → List Ru → Prop) (W : World) (G g1 : Nat) (S1 : List Nat) (L1 : List Ru) (g2 : Nat) (S2 : List Nat) (L2 : List Ru) (q : Ru) (w : World) : Prop where
  two : Two Tri (G + 1) w g1 S1 L1 g2 S2 L2
  box : Blk w G 23 (ruC q)
  lt : G + 1 ≤ w.heap.size
  bel : Below G W w
section
variable {Tri : World → Nat → List Nat → List Ru → Prop} {W w w' : World} {G g1 g2 : Nat} {S1 S2 S : List Nat} {L1 L2 L : List Ru} {q : Ru}
theorem AllIn.on (C : TrC Tri) (h : AllIn Tri W G g1 S1 L1 g2 S2 L2 q w) (hb : Below w.heap.size w w') : AllIn Tri W G g1 S1 L1 g2 S2 L2 q w' :=
  ⟨h.two.on C hb, h.box.below hb h.box.lt, Nat.le_trans h.lt hb.size, h.bel.trans (hb.mono (Nat.le_of_succ_le h.lt))⟩
theorem AllIn.add (C : TrC Tri) (h : AllIn Tri W G g1 S1 L1 g2 S2 L2 q w) (ht : Tri w' g1 S L) (hS : ∀ i ∈ S, i ∈ S1 ∨ w.heap.size ≤ i) (hb : But (g1 :: S1) w w') : AllIn Tri W G g1 S L g2 S2 L2 q w' := by
  obtain ⟨k1, k2⟩ := h.two.add C h.lt ht hS hb
  exact ⟨k1, h.box.but hb (fun hm => by have := h.two.far1 G hm; omega), Nat.le_trans h.lt hb.size, h.bel.trans (k2.mono (Nat.le_succ G))⟩
theorem AllIn.swap (h : AllIn Tri W G g1 S1 L1 g2 S2 L2 q w) : AllIn Tri W G g2 S2 L2 g1 S1 L1 q w := ⟨h.two.swap, h.box, h.lt, h.bel⟩
end
theorem put_next {L l : List Ru} {k : Nat} {x : Ru} (h : l[k]? = some x) : putS L (l.take (k + 1)) = addS (putS L (l.take k)) x := by
  rw [List.take_add_one, h]
  exact put_snoc _ _ _
set_option linter.unusedSimpArgs false in
set_option maxRecDepth 100000 in
set_option maxHeartbeats 32000000 in
theorem all_walk {Tri : World → Nat → List Nat → List Ru → Prop} (C : TrC Tri) (hSm : SmallP) (W : World) (A : Option Addr) (n cap : Nat) (l : List Ru) (r : Ru) (s : ByteArray) (port : Int) (hE : Ad.Env W.heap.size W) (h9 : n ≤ 9223372036854775807) (hn : l.length = n) (hz : ∀ x ∈ l, x.pa.length ≤ 9223372036854775807 ∧ x.ap.length ≤ 9223372036854775807) (hl : SrcU W A l)
    (hs : s.size ≤ 9223372036854775807) (hp : -9223372036854775808 ≤ port ∧ port ≤ 9223372036854775807) :
    Calls Tryz.prog 7 #[.slice A n cap, .agg (ruC r), .string s, .int .i64 port] W fun e w' => e = .returned (.bool true) ∧ Below W.heap.size W w' := by
  have HE := Lib.hid hE
  have HSm : Hid SmallP := hSm
  have HC := Lib.hid C
  have HL := Lib.hid hl
  have HN := Lib.hid hn
  have HZ := Lib.hid hz
  have HP := Lib.hid hp
  clear hE hSm C hl hn hz hp
  go_enter Tryz.func7, Tryz.ntmps7
  go_upto_region 1 with fail
  have hb0 := Blk.new W 23 (ruC r)
  have hl0 : Below W.heap.size W (W.alloc (.cells (ruC r) 23)) := (Below.refl _ _).alloc (Nat.le_refl _) _
  have HK := Lib.hid hb0
  have HB := Lib.hid hl0
  clear hb0 hl0
  generalize W.alloc (.cells (ruC r) 23) = w1 at *
  obtain ⟨G, hG⟩ : ∃ G, W.heap.size = G := ⟨_, rfl⟩
  have HG := Lib.hid hG
  rw [hG] at HK ⊢
  clear hG
  go_wp2_with fail
  refine (HSm.out w1 (HE.out.below HB.out)).mono ?_
  rintro e w2 ⟨rfl, hb⟩
  have HB2 := Lib.hid (HB.out.trans (hb.mono HB.out.size))
  have HK2 := Lib.hid (HK.out.below hb HK.out.lt)
  clear hb HSm HB HK
  obtain ⟨b, hb⟩ : ∃ b, fewU l = b := ⟨_, rfl⟩
  have HFw := Lib.hid hb
  have HF := Lib.hid (few_any l A n cap w2 (HL.out.below HB2.out) HN.out h9 HZ.out)
  rw [hb] at HF
  clear hb
  go_wp2_with fail
  refine HF.out.mono ?_
  rintro e w3 ⟨rfl, rfl⟩
  clear HF
  go_wp2_with fail
  refine (HC.out.new_ w2).mono ?_
  rintro e w4 ⟨g1, S1, rfl, ht1, hf1, hb⟩
  have HT1 := Lib.hid ht1
  have HF1 := Lib.hid (show ∀ i ∈ g1 :: S1, G + 1 ≤ i from fun i hi => Nat.le_trans HK2.out.lt (hf1 i hi))
  have HB4 := Lib.hid (HB2.out.trans (hb.mono HB2.out.size))
  have HK4 := Lib.hid (HK2.out.below hb HK2.out.lt)
  clear ht1 hf1 hb HB2 HK2
  go_wp2_with fail
  refine (HC.out.new_ w4).mono ?_
  rintro e w5 ⟨g2, S2, rfl, ht2, hf2, hb⟩
  have HI5 : Hid (AllIn Tri W G g1 S1 [] g2 S2 [] r w5) := Lib.hid ⟨Two.new HC.out HT1.out HF1.out hb ht2 hf2 HK4.out.lt, HK4.out.below hb HK4.out.lt, Nat.lt_of_lt_of_le HK4.out.lt hb.size, by rw [← HG.out]; exact HB4.out.trans (hb.mono HB4.out.size)⟩
  clear ht2 hf2 hb HT1 HF1 HB4 HK4
  have k1 : w5.cell? ⟨G, 1, none⟩ = some (.int .i64 r.pr) := by rw [HI5.out.box.cell]; rfl
  have HW := Lib.hid (fun (w' : World) (hb : Below G W w') => show Below W.heap.size W w' by rw [HG.out]; exact hb)
  cases b
  · go_wp2_with fail
    go_ret
    exact ⟨rfl, HW.out _ HI5.out.bel⟩
  obtain ⟨f1, f2⟩ := few_len HFw.out
  have HF2 := Lib.hid f2
  clear f1 f2 HFw
  by_cases p1 : 150 < n
  · have i1 : (150 : Int) < (n : Int) := by omega
    clear p1
    go_wp2_with fail
    go_ret
    exact ⟨rfl, HW.out _ HI5.out.bel⟩
  have i1 : ¬ (150 : Int) < (n : Int) := by omega
  by_cases p2 : 300 < s.size
  · have i2 : (300 : Int) < (s.size : Int) := by omega
    clear p1 p2
    go_wp2_with fail
    go_ret
    exact ⟨rfl, HW.out _ HI5.out.bel⟩
  have i2 : ¬ (300 : Int) < (s.size : Int) := by omega
  have HSs := Lib.hid (show s.size ≤ 1000000 by omega)
  have hn150 : n ≤ 150 := by omega
  clear p1 p2 hs h9
  by_cases p3 : r.pr < -1000
  · clear hn150
    go_wp2_with fail
    go_ret
    exact ⟨rfl, HW.out _ HI5.out.bel⟩
  by_cases p4 : 1000 < r.pr
  · clear hn150
    go_wp2_with fail
    go_ret
    exact ⟨rfl, HW.out _ HI5.out.bel⟩
  have HR0 := Lib.hid (show rightS (allR r) = 0 from right_all (by show -1000 ≤ r.pr; omega) (by show r.pr ≤ 1000; omega) rfl rfl rfl)
  have HN150 := Lib.hid hn150
  clear hn150
  go_upto_region 7 with fail
  clear i1 i2 p3 p4
  have k2 : w5.cell? ⟨G, 2, none⟩ = some (.string (str r.pa)) := by rw [HI5.out.box.cell]; rfl
  have k3 : w5.cell? ⟨G, 3, none⟩ = some (.int .i64 r.po) := by rw [HI5.out.box.cell]; rfl
  have k4 : w5.cell? ⟨G, 4, none⟩ = some (.string (str r.ap)) := by rw [HI5.out.box.cell]; rfl
  have z2 := HI5.out.box.frozen 2
  have z3 := HI5.out.box.frozen 3
  have z4 := HI5.out.box.frozen 4
  go_upto_region 10 with fail
  clear k1 k2 k3 k4 z2 z3 z4
  have HI6 : Hid (AllIn Tri W G g1 S1 [] g2 S2 [] (allR r) (((w5.setCell ⟨G, 2, none⟩ (.string ⟨#[42]⟩)).setCell ⟨G, 3, none⟩ (.int .i64 0)).setCell ⟨G, 4, none⟩ (.string ⟨#[]⟩))) := Lib.hid (by
    have kb : But [G] w5 (((w5.setCell ⟨G, 2, none⟩ (.string ⟨#[42]⟩)).setCell ⟨G, 3, none⟩ (.int .i64 0)).setCell ⟨G, 4, none⟩ (.string ⟨#[]⟩)) := (((But.refl [G] w5).set_ (p := ⟨G, 2, none⟩) (.inl (by simp)) _).set_ (p := ⟨G, 3, none⟩) (.inl (by simp)) _).set_ (p := ⟨G, 4, none⟩) (.inl (by simp)) _
    refine ⟨HI5.out.two.but HC.out kb (fun i hi => by rw [List.mem_singleton.1 hi]; exact Nat.lt_succ_self G), ?_, Nat.le_trans HI5.out.lt kb.size, HI5.out.bel.trans (kb.below (fun i hi => by rw [List.mem_singleton.1 hi]; exact Nat.le_refl G) (Nat.le_of_succ_le HI5.out.lt))⟩
    rw [← allR_is]
    exact ((HI5.out.box.set_ 2 _).set_ 3 _).set_ 4 _)
  clear HI5
  generalize ((w5.setCell ⟨G, 2, none⟩ (.string ⟨#[42]⟩)).setCell ⟨G, 3, none⟩ (.int .i64 0)).setCell ⟨G, 4, none⟩ (.string ⟨#[]⟩) = w6 at *
  have hbx := HI6.out.box
  go_wp2_with (refine go_ld (x := .tmp 5) 23 hbx undU rfl infU (ruC_size _) rfl rfl rfl ?_)
  clear hbx
  have HEn := Lib.hid (fun (w' : World) (hb : Below G W w') => HE.out.below (HW.out w' hb))
  have HEf := Lib.hid (show W.heap.size = G from HG.out)
  refine (HC.out.add_ (B := W.heap.size) (HEn.out _ HI6.out.bel) (fun i hi => by have := HI6.out.two.far2 i hi; have := HEf.out; omega) HI6.out.two.t2 (allR r) (by show 1 ≤ 1000000; decide) (Nat.zero_le _)).mono ?_
  rintro e w7 ⟨S3, rfl, ht, hS, hb⟩
  have HI7 := Lib.hid ((HI6.out.swap.add HC.out ht hS hb).swap)
  have ha : addS [] (allR r) = [allR r] := (add_yes HR0.out (by decide) rfl).2
  rw [ha] at HI7
  clear ht hS hb ha HI6
  go_wp2_with fail
  go_loopw [13] (fun x13 wr => ∃ (k : Nat) (ww : World) (S1 S2 : List Nat), ww = wr ∧ k ≤ n ∧ x13 = .int .i64 (k : Nat) ∧ Hid (∀ x ∈ l.take k, x.pa ≠ [42]) ∧ Hid (AllIn Tri W G g1 S1 (putS [] (l.take k)) g2 S2 (putS [allR r] (l.take k)) (allR r) ww)) (fun x13 _ => n - (intOf x13).toNat)
  case atStart => exact ⟨0, w7, S1, S3, rfl, Nat.zero_le _, rfl, Lib.hid (fun z h => by simp at h), HI7⟩
  case round =>
    clear HI7
    obtain ⟨k, ww, S1, S2, rfl, hk, rfl, HQ, HI⟩ := hrel
    by_cases hlt : k < n
    · have hki : (k : Int) < (n : Int) := by omega
      obtain ⟨x, g, o, hx, rfl, hg, hra⟩ := HL.out.get (wr := ww) (k := k) (by rw [HN.out]; exact hlt) (HW.out _ HI.out.bel)
      have HX := Lib.hid hx
      obtain ⟨hx1, hx2⟩ := HF2.out x (List.mem_of_getElem? hx)
      have HX1 := Lib.hid hx1
      have HX2 := Lib.hid hx2
      have HRA := Lib.hid (fun (w' : World) (hb : Below G W w') => show RuAt w' g (o + k * 5) x from by
        obtain ⟨r', g', p', hr', hA', hg', hra'⟩ := HL.out.get (wr := w') (k := k) (by rw [HN.out]; exact hlt) (HW.out _ hb)
        rw [hx] at hr'
        injection hr' with hr'
        injection hA' with hA'
        injection hA' with e1 e2
        subst hr' e1 e2
        exact hra')
      obtain ⟨h0, h1, h2, h3, h4⟩ := hra
      obtain ⟨PA, hPA⟩ : ∃ A, str x.pa = A := ⟨_, rfl⟩
      rw [hPA] at h2
      have hpb : bs PA = x.pa := by rw [← hPA]; rfl
      have q := lit_is PA [42]
      rw [hpb] at q
      clear h0 h1 h3 h4 hx hx1 hx2 hPA hpb hg
      by_cases hp : x.pa = [42]
      · rw [decide_eq_true hp] at q
        clear hp
        go_wp2_with fail
        go_ret
        exact ⟨rfl, HW.out _ HI.out.bel⟩
      · rw [decide_eq_false hp] at q
        have HQ2 := Lib.hid (show ∀ z ∈ l.take (k + 1), z.pa ≠ [42] from fun z hz => by
          rw [List.take_add_one, HX.out] at hz
          rcases List.mem_append.1 hz with hz | hz
          · exact HQ.out z hz
          · have e : z = x := by simpa using hz
            rw [e]; exact hp)
        clear hp
        go_upto_region 16 with fail
        clear h2 q
        have hra := HRA.out _ HI.out.bel
        go_wp2_with (refine go_ldr x hra (by rfl) rfl (by first | rfl | (go_simp; done)) ?_)
        clear hra
        refine (HC.out.add_ (B := W.heap.size) (HEn.out _ HI.out.bel) (fun i hi => by have := HI.out.two.far1 i hi; have := HEf.out; omega) HI.out.two.t1 x (Nat.le_trans HX1.out (by decide)) (Nat.le_trans HX2.out (by decide))).mono ?_
        rintro e w8 ⟨S4, rfl, ht, hS, hb⟩
        have HI8 := Lib.hid (HI.out.add HC.out ht hS hb)
        clear ht hS hb HI
        have hra := HRA.out _ HI8.out.bel
        go_wp2_with (refine go_ldr x hra (by rfl) rfl (by first | rfl | (go_simp; done)) ?_)
        clear hra
        refine (HC.out.add_ (B := W.heap.size) (HEn.out _ HI8.out.bel) (fun i hi => by have := HI8.out.two.far2 i hi; have := HEf.out; omega) HI8.out.two.t2 x (Nat.le_trans HX1.out (by decide)) (Nat.le_trans HX2.out (by decide))).mono ?_
        rintro e w9 ⟨S5, rfl, ht, hS, hb⟩
        have HI9 := Lib.hid ((HI8.out.swap.add HC.out ht hS hb).swap)
        rw [← put_next HX.out, ← put_next HX.out] at HI9
        clear ht hS hb HI8
        go_wp2_with fail
        go_roundw
        case rel => exact ⟨k + 1, _, S4, S5, rfl, by omega, by go_num, HQ2, HI9⟩
        case measure => simp [intOf]; omega
    · have hki : ¬ (k : Int) < (n : Int) := by omega
      have hkl : l.take k = l := List.take_of_length_le (by rw [HN.out]; omega)
      rw [hkl] at HQ HI
      have hln : l.length ≤ 150 := by rw [HN.out]; exact HN150.out
      have hpa : putS [allR r] l = allR r :: putS [] l := put_ahead l [] HQ.out (by simp only [List.length_nil]; omega)
      rw [hpa] at HI
      obtain ⟨L, hL⟩ : ∃ L, putS [] l = L := ⟨_, rfl⟩
      have hLl : L.length ≤ 150 := by have := (put_len l []).1; rw [hL] at this; simp only [List.length_nil] at this; omega
      have hLp : ∀ x ∈ L, x.pa ≠ [42] := fun x hx => by
        rcases (put_right l [] (fun _ h => by cases h) x (by rw [hL]; exact hx)).2 with h | h
        · cases h
        · exact HQ.out x h
      rw [hL] at HI
      have HFA := Lib.hid (find_all (r := allR r) rfl rfl rfl hLp (bs s) port [])
      have HFS := Lib.hid (fun (x : Ru) (i : Nat) (h : findS L (bs s) port [] = some (x, i)) => show i ≤ 150 by
        have := (List.getElem?_eq_some_iff.1 (find_some h).1).1
        omega)
      obtain ⟨o1, ho1⟩ : ∃ o, findS L (bs s) port [] = o := ⟨_, rfl⟩
      obtain ⟨o2, ho2⟩ : ∃ o, findS (allR r :: L) (bs s) port [] = o := ⟨_, rfl⟩
      have hFA := HFA.out
      rw [ho1, ho2] at hFA
      have HIb : bestI o1 ≤ 150 := by cases o1 with | none => exact Nat.zero_le _ | some x => exact HFS.out x.1 x.2 ho1
      have hf2 : o2.isSome = true := by
        rw [hFA]
        cases o1 with
        | none => rfl
        | some x => show (if (allR r).pr ≤ x.1.pr then some (x.1, x.2 + 1) else some (allR r, 0)).isSome = true; split <;> rfl
      have hyes : o1.isSome = true → r.pr ≤ (bestR o1).pr → bestR o2 = bestR o1 ∧ bestI o2 = bestI o1 + 1 := fun h1 h2 => by
        cases o1 with
        | none => cases h1
        | some x =>
          have e : o2 = some (x.1, x.2 + 1) := hFA.trans (if_pos h2)
          rw [e]; exact ⟨rfl, rfl⟩
      have hno : ¬ (o1.isSome = true ∧ r.pr ≤ (bestR o1).pr) → bestR o2 = allR r ∧ bestI o2 = 0 := fun h1 => by
        cases o1 with
        | none => rw [hFA]; exact ⟨rfl, rfl⟩
        | some x =>
          have e : o2 = some (allR r, 0) := hFA.trans (if_neg (fun h => h1 ⟨rfl, h⟩))
          rw [e]; exact ⟨rfl, rfl⟩
      have F1 := Lib.hid (fun (w' : World) (hI : AllIn Tri W G g1 S1 L g2 S2 (allR r :: L) (allR r) w') => HC.out.find_at (HEn.out _ hI.bel) hI.two.t1 s port none 0 0 [] HSs.out HP.out rfl (Nat.le_refl _) (by decide) (SrcS.nil _ _) o1 ho1)
      have F2 := Lib.hid (fun (w' : World) (hI : AllIn Tri W G g1 S1 L g2 S2 (allR r :: L) (allR r) w') => HC.out.find_at (HEn.out _ hI.bel) hI.two.t2 s port none 0 0 [] HSs.out HP.out rfl (Nat.le_refl _) (by decide) (SrcS.nil _ _) o2 ho2)
      rw [hf2] at F2
      clear ho1 ho2 hFA hf2
      obtain ⟨e, he⟩ : ∃ e, o1.isSome = e := ⟨_, rfl⟩
      obtain ⟨a, ha⟩ : ∃ a, bestR o1 = a := ⟨_, rfl⟩
      obtain ⟨i, hi⟩ : ∃ i, bestI o1 = i := ⟨_, rfl⟩
      obtain ⟨b, hb⟩ : ∃ b, bestR o2 = b := ⟨_, rfl⟩
      obtain ⟨m, hm⟩ : ∃ m, bestI o2 = m := ⟨_, rfl⟩
      rw [he, ha, hi] at F1
      rw [hb, hm] at F2
      rw [he, ha, hi, hb, hm] at hyes
      rw [he, ha, hb, hm] at hno
      rw [hi] at HIb
      have HYes := Lib.hid hyes
      have HNo := Lib.hid hno
      have HIb := Lib.hid HIb
      clear hkl hln hpa hL hLl hLp HFA HFS HQ he ha hi hb hm hyes hno
      clear o1 o2
      go_wp2_with fail
      refine (F1.out _ HI.out).mono ?_
      rintro e' w8 ⟨rfl, hb⟩
      have HI8 := Lib.hid (HI.out.on HC.out hb)
      clear hb HI F1
      go_upto_region 19 with (refine go_st 23 (Blk.new _ _ _) infU rfl (ruC_size _) (ruC_one _) rfl rfl rfl rfl ?_)
      obtain ⟨hbA, hlA⟩ := ru_new w8 a
      have HI9 := Lib.hid (HI8.out.on HC.out hlA)
      have HbA := Lib.hid hbA
      clear hbA hlA HI8
      obtain ⟨X, hX⟩ : ∃ X, w8.heap.size = X := ⟨_, rfl⟩
      rw [hX] at HbA HI9 ⊢
      clear hX
      generalize (w8.alloc (.cells zU 23)).setRow X (ruC a) = w9 at *
      go_wp2_with fail
      refine (F2.out _ HI9.out).mono ?_
      rintro e' w10 ⟨rfl, hb⟩
      have HI10 := Lib.hid (HI9.out.on HC.out hb)
      have HbA10 := Lib.hid (HbA.out.below hb HbA.out.lt)
      clear hb HI9 HbA F2
      go_upto_region 20 with (refine go_st 23 (Blk.new _ _ _) infU rfl (ruC_size _) (ruC_one _) rfl rfl rfl rfl ?_)
      obtain ⟨hbB, hlB⟩ := ru_new w10 b
      have HI11 := Lib.hid (HI10.out.on HC.out hlB)
      have HbA11 := Lib.hid (HbA10.out.below hlB HbA10.out.lt)
      have HbB := Lib.hid hbB
      clear hbB hlB HI10 HbA10
      obtain ⟨Y, hY⟩ : ∃ Y, w10.heap.size = Y := ⟨_, rfl⟩
      rw [hY] at HbB HI11 HbA11 ⊢
      clear hY
      generalize (w10.alloc (.cells zU 23)).setRow Y (ruC b) = w11 at *
      have k1 : w11.cell? ⟨X, 1, none⟩ = some (.int .i64 a.pr) := by rw [HbA11.out.cell]; rfl
      have k2 : w11.cell? ⟨G, 1, none⟩ = some (.int .i64 r.pr) := by rw [HI11.out.box.cell]; rfl
      have bA := HbA11.out
      have bB := HbB.out
      have bG := HI11.out.box
      have hi150 := HIb.out
      by_cases hc : e = true ∧ r.pr ≤ a.pr
      · obtain ⟨rfl, hc2⟩ := hc
        obtain ⟨rfl, rfl⟩ := HYes.out rfl hc2
        have j1 : (((i + 1 : Nat) : Int) == (i : Int) + 1) = true := by simp
        clear HYes HNo
        go_wp2_with (first | (refine go_ldg (x := .tmp 17) 23 bB undU rfl infU (ruC_size _) (by rfl) rfl rfl ?_) | (refine go_ldg (x := .tmp 14) 23 bA undU rfl infU (ruC_size _) (by rfl) rfl rfl ?_; refine Hid.out ?_))
        refine Lib.hid ?_
        refine go_eqlU b b true (decide_eq_true rfl) rfl (by rfl) rfl rfl ?_
        go_wp2_with fail
        go_ret
        exact ⟨rfl, HW.out _ HI11.out.bel⟩
      · obtain ⟨rfl, rfl⟩ := HNo.out hc
        cases e
        · clear HYes HNo hc
          go_wp2_with (first | (refine go_ldg (x := .tmp 17) 23 bB undU rfl infU (ruC_size _) (by rfl) rfl rfl ?_) | (refine go_ldg (x := .tmp 5) 23 bG undU rfl infU (ruC_size _) (by rfl) rfl rfl ?_; refine Hid.out ?_))
          refine Lib.hid ?_
          refine go_eqlU (allR r) (allR r) true (decide_eq_true rfl) rfl (by rfl) rfl rfl ?_
          go_wp2_with fail
          go_ret
          exact ⟨rfl, HW.out _ HI11.out.bel⟩
        · have hc3 : ¬ r.pr ≤ a.pr := fun h => hc ⟨rfl, h⟩
          clear HYes HNo hc
          go_wp2_with (first | (refine go_ldg (x := .tmp 17) 23 bB undU rfl infU (ruC_size _) (by rfl) rfl rfl ?_) | (refine go_ldg (x := .tmp 5) 23 bG undU rfl infU (ruC_size _) (by rfl) rfl rfl ?_; refine Hid.out ?_))
          refine Lib.hid ?_
          refine go_eqlU (allR r) (allR r) true (decide_eq_true rfl) rfl (by rfl) rfl rfl ?_
          go_wp2_with fail
          go_ret
          exact ⟨rfl, HW.out _ HI11.out.bel⟩
end Go.Proofs.YtlpondbcnfaggaaGreatDoor.Tr
