/-
  Contract of package policy's readRule over this seat's translation. Condition: a line of up to a million bytes.
-/
import Derived.Test.YtlpondbcnfaggaaGreatDoorR41
import Derived.Deep.MidRow
namespace Go.Proofs.YtlpondbcnfaggaaGreatDoor.Po
open Go.RowKit Go.Shelf Go.Proofs.YtlpondbcnfaggaaGreatDoor.Wd Go.Proofs.YtlpondbcnfaggaaGreatDoor.Asc Go.Proofs.YtlpondbcnfaggaaGreatDoor.Tx Go.Proofs.YtlpondbcnfaggaaGreatDoor.St Go.Proofs.YtlpondbcnfaggaaGreatDoor.Tr Go.Proofs.YtlpondbcnfaggaaGreatDoor.Te Go.Maps

/-- what reading a rule keeps: the rule so far, the words behind -/
structure RrI (w : World) (x R : Nat) (ws : List (List UInt8)) (b : Bool) (r : Ru) (ww : World) : Prop where
  box : Blk ww R 23 (ruC r)
  wd : WdI ww x ws b
  but : But [x] w ww
  lo : w.heap.size ≤ R
  ne : x ≠ R
section
variable {w : World} {x R : Nat} {ws ws' : List (List UInt8)} {b b' : Bool} {r : Ru} {ww w' : World}
theorem RrI.rd (h : RrI w x R ws b r ww) (k : WdI w' x ws' b') (hb : But [x] ww w') : RrI w x R ws' b' r w' :=
  ⟨h.box.but hb (fun hm => h.ne (List.mem_singleton.1 hm).symm), k, h.but.trans hb, h.lo, h.ne⟩
theorem RrI.set (h : RrI w x R ws b r ww) (i : Nat) (v : Value) (r' : Ru) (he : (ruC r).setIfInBounds i v = ruC r') : RrI w x R ws b r' (ww.setCell ⟨R, i, none⟩ v) := by
  have k : But [R] ww (ww.setCell ⟨R, i, none⟩ v) := (But.refl [R] ww).set_ (p := ⟨R, i, none⟩) (.inl (by simp)) v
  exact ⟨by rw [← he]; exact h.box.set_ i v, h.wd.but k (fun hm => h.ne (List.mem_singleton.1 hm)), but_more h.but k (fun i hi => .inr (by rw [List.mem_singleton.1 hi]; exact h.lo)), h.lo, h.ne⟩
theorem RrI.cel (h : RrI w x R ws b r ww) {i : Nat} {v : Value} (hv : (ruC r)[i]? = some v) : ww.cell? ⟨R, i, none⟩ = some v ∧ ww.frozen? ⟨R, i, none⟩ = false := ⟨(h.box.cell i).trans hv, h.box.frozen i⟩
end
/-- is it a rule: word by word -/
theorem ruleOk_is {ws : List (List UInt8)} (h : ∀ w ∈ ws, w ≠ []) (k1 k2 : Bool) (w3 w4 : List (List UInt8)) (h1 : isW kPort ws.tail.tail = k1) (h3 : (if k1 = true then ws.tail.tail.tail.tail else ws.tail.tail) = w3) (h2 : isW kAlpn w3 = k2) (h4 : (if k2 = true then w3.tail.tail else w3) = w4) :
    ruleOk ws = (!((((false || !sgnOk (headW ws)) || (headW ws.tail).isEmpty) || (k1 && !(numS (headW ws.tail.tail.tail) 65535).isSome)) || (k2 && (headW w3.tail).isEmpty)) && (headW w4).isEmpty) := by
  have e3 : takeW kPort ws.tail.tail = w3 := by
    unfold takeW
    unfold isW at h1
    rw [← h3, ← h1]
    by_cases hk : headW ws.tail.tail = kPort
    · rw [if_pos hk, if_pos (decide_eq_true hk)]
    · rw [if_neg hk, if_neg (by simp [hk])]
  have e4 : takeW kAlpn w3 = w4 := by
    unfold takeW
    unfold isW at h2
    rw [← h4, ← h2]
    by_cases hk : headW w3 = kAlpn
    · rw [if_pos hk, if_pos (decide_eq_true hk)]
    · rw [if_neg hk, if_neg (by simp [hk])]
  have n2 := tail_ne (tail_ne h)
  have n3 : ∀ w ∈ w3, w ≠ [] := by
    rw [← h3]
    split
    · exact tail_ne (tail_ne n2)
    · exact n2
  have n4 : ∀ w ∈ w4, w ≠ [] := by
    rw [← h4]
    split
    · exact tail_ne (tail_ne n3)
    · exact n3
  have d1 : decide (headW ws.tail ≠ []) = !(headW ws.tail).isEmpty := by
    rw [Bool.eq_iff_iff]; simp
  have d2 : decide (headW ws.tail.tail ≠ kPort) = !k1 := by
    rw [← h1]; unfold isW; simp
  have d3 : decide (headW w3 ≠ kAlpn) = !k2 := by
    rw [← h2]; unfold isW; simp
  have d4 : decide (headW w3.tail ≠ []) = !(headW w3.tail).isEmpty := by
    rw [Bool.eq_iff_iff]; simp
  have d5 : decide (w4 = []) = (headW w4).isEmpty := (empty_tail n4).symm
  unfold ruleOk
  rw [e3, e4, d1, d2, d3, d4, d5]
  cases sgnOk (headW ws) <;> cases (headW ws.tail).isEmpty <;> cases k1 <;> cases (numS (headW ws.tail.tail.tail) 65535).isSome <;> cases k2 <;> cases (headW w3.tail).isEmpty <;> cases (headW w4).isEmpty <;> rfl
theorem ruleV_is (al : Bool) (ws : List (List UInt8)) (k1 k2 : Bool) (w3 : List (List UInt8)) (h1 : isW kPort ws.tail.tail = k1) (h3 : (if k1 = true then ws.tail.tail.tail.tail else ws.tail.tail) = w3) (h2 : isW kAlpn w3 = k2) :
    ruleV al ws = ⟨al, sgnV (headW ws), headW ws.tail, if k1 = true then numV (headW ws.tail.tail.tail) 65535 else 0, if k2 = true then headW w3.tail else []⟩ := by
  have e3 : takeW kPort ws.tail.tail = w3 := by
    unfold takeW
    unfold isW at h1
    rw [← h3, ← h1]
    by_cases hk : headW ws.tail.tail = kPort
    · rw [if_pos hk, if_pos (decide_eq_true hk)]
    · rw [if_neg hk, if_neg (by simp [hk])]
  unfold ruleV
  rw [e3, ← h1, ← h2]
  unfold isW
  simp
set_option linter.unusedSimpArgs false in
set_option maxRecDepth 100000 in
set_option maxHeartbeats 16000000 in
theorem readRule_any {B : Nat} {w : World} {d x : Nat} {S : List Nat} {p : Pol} {ws : List (List UInt8)} (al : Bool) (hE : Ad.Env B w) (hD : DrP w d S p) (hge : ∀ i ∈ S, B ≤ i) (hBx : B ≤ x) (hxS : x ∉ S) (hW : WdI w x ws false) :
    Calls Tryz.prog 102 #[.pointer (some ⟨d, 0, none⟩), .pointer (some ⟨x, 0, none⟩), .bool al] w (RdP w d x S p ((ruleS al ws).map .ru)) := by
  have HNe := Lib.hid hW.ne
  obtain ⟨k1, hk1⟩ : ∃ k, isW kPort ws.tail.tail = k := ⟨_, rfl⟩
  obtain ⟨w3, hw3⟩ : ∃ w3, (if k1 = true then ws.tail.tail.tail.tail else ws.tail.tail) = w3 := ⟨_, rfl⟩
  obtain ⟨k2, hk2⟩ : ∃ k, isW kAlpn w3 = k := ⟨_, rfl⟩
  obtain ⟨w4, hw4⟩ : ∃ w4, (if k2 = true then w3.tail.tail else w3) = w4 := ⟨_, rfl⟩
  have HOk := Lib.hid (ruleOk_is hW.ne k1 k2 w3 w4 hk1 hw3 hk2 hw4)
  have HV := Lib.hid (ruleV_is al ws k1 k2 w3 hk1 hw3 hk2)
  have HO := Lib.hid (rule_is al hW.ne)
  have HK1 := Lib.hid hk1
  have HK2 := Lib.hid hk2
  have HW3 := Lib.hid hw3
  have HW4 := Lib.hid hw4
  -- the end, bad
  have HBad := Lib.hid (fun (w' : World) (hk : But [x] w w') (h : ruleOk ws = false) => show RdP w d x S p ((ruleS al ws).map .ru) (.returned (.int .i64 3)) w' from RdP.no (by rw [HO.out, h]; rfl) hk)
  -- the end, right: the rule is added
  have HAdd := Lib.hid (fun (w' : World) (r : Ru) (hk : But [x] w w') (h : ruleOk ws = true) (hr : ruleV al ws = r) (h1 : r.pa.length ≤ 1000000) (h2 : r.ap.length ≤ 1000000) => show Calls Tryz.prog 57 #[.pointer (some ⟨d, 0, none⟩), .agg (ruC r)] w' fun e w'' => (∃ z, e = .returned z) ∧ RdP w d x S p ((ruleS al ws).map .ru) e w'' from by
    refine (addRule_any (hE.below (hk.below (fun i hi => by rw [List.mem_singleton.1 hi]; exact hBx) hE.le)) (hD.but hk (fun i hi hm => hxS (by rw [← List.mem_singleton.1 hm]; exact hi))) hge r h1 h2).mono ?_
    intro e w'' k
    refine ⟨by obtain ⟨S', k1, _⟩ := k; exact ⟨_, k1⟩, RdP.of hk k ?_ ?_⟩
    · rw [HO.out, h, if_pos rfl, hr]
      exact app_ru hD.1 r
    · rw [HO.out, h, if_pos rfl, hr]
      rfl)
  have hHx := hW.lt
  obtain ⟨w1, hw1⟩ : ∃ w1, (w.alloc (.cells (ruC Ru.zero) 23)).setRow w.heap.size (ruC ⟨al, 0, [], 0, []⟩) = w1 := ⟨_, rfl⟩
  have hb1 : Below w.heap.size w w1 := by rw [← hw1]; exact setRow_below ((Below.refl _ _).alloc (Nat.le_refl _) _) (Blk.new _ _ _) (Nat.le_refl _) _
  have HI1 := Lib.hid (show RrI w x w.heap.size ws false ⟨al, 0, [], 0, []⟩ w1 from ⟨by rw [← hw1]; exact setRow_blk (Blk.new _ _ _), hW.on hb1, But.of_below hb1 _, Nat.le_refl _, by omega⟩)
  have HW1 := Lib.hid hw1
  clear hk1 hw3 hk2 hw4 hE hD hge hBx hxS hW hb1 hw1 hHx
  go_enter Tryz.func102, Tryz.ntmps102
  go_upto_region 2 with (refine go_st 23 (Blk.new _ _ _) infU rfl rfl (ruC_one ⟨al, 0, [], 0, []⟩) rfl rfl rfl rfl ?_)
  rw [show (w.alloc (.cells #[.bool false, .int .i64 0, .string ⟨#[]⟩, .int .i64 0, .string ⟨#[]⟩] 23)).setRow w.heap.size (ruC ⟨al, 0, [], 0, []⟩) = w1 from HW1.out]
  obtain ⟨R, hR⟩ : ∃ R, w.heap.size = R := ⟨_, rfl⟩
  rw [hR] at HI1 ⊢
  clear hR HW1
  obtain ⟨pr, hpr⟩ : ∃ pr, sgnV (headW ws) = pr := ⟨_, rfl⟩
  have HQ1 := Lib.hid (signed_any HI1.out.wd)
  rw [hpr] at HQ1
  have HPr := Lib.hid hpr
  clear hpr
  go_wp2_with fail
  refine HQ1.out.mono ?_
  rintro e wHI2 ⟨rfl, hw, hb⟩
  have HI2 := Lib.hid (HI1.out.rd hw hb)
  clear hw hb HQ1 HI1
  obtain ⟨pa, hpa⟩ : ∃ pa, headW ws.tail = pa := ⟨_, rfl⟩
  have HPa := Lib.hid hpa
  have HPl := Lib.hid HI2.out.wd.len
  obtain ⟨c9, f9⟩ := HI2.out.cel (i := 1) (v := .int .i64 0) rfl
  have HI3 := Lib.hid (HI2.out.set 1 (.int .i64 pr) ⟨al, pr, [], 0, []⟩ rfl)
  obtain ⟨uHI3, hu⟩ : ∃ u, wHI2.setCell ⟨R, 1, none⟩ (.int .i64 pr) = u := ⟨_, rfl⟩
  rw [hu] at HI3
  have HQ2 := Lib.hid (text_any HI3.out.wd)
  rw [hpa] at HQ2 HPl
  clear hpa HI2
  go_wp2_with fail
  clear hu c9 f9
  refine HQ2.out.mono ?_
  rintro e wHI4 ⟨rfl, hw, hb⟩
  have HI4 := Lib.hid (HI3.out.rd hw hb)
  clear hw hb HQ2 HI3
  obtain ⟨c9, f9⟩ := HI4.out.cel (i := 2) (v := .string ⟨#[]⟩) rfl
  have HI5 := Lib.hid (HI4.out.set 2 (.string (str pa)) ⟨al, pr, pa, 0, []⟩ rfl)
  obtain ⟨uHI5, hu⟩ : ∃ u, wHI4.setCell ⟨R, 2, none⟩ (.string (str pa)) = u := ⟨_, rfl⟩
  rw [hu] at HI5
  have HQ3 := Lib.hid (skip_any HI5.out.wd kPort)
  rw [HK1.out] at HQ3
  clear HI4
  go_wp2_with fail
  clear hu c9 f9
  refine HQ3.out.mono ?_
  rintro e wHI6 ⟨rfl, hw, hb⟩
  have HI6 := Lib.hid (HI5.out.rd hw hb)
  clear hw hb HQ3 HI5
  cases k1 with
  | true =>
    rw [skip_ne HK1.out] at HI6
    have hw3 : ws.tail.tail.tail.tail = w3 := HW3.out
    have HQ4 := Lib.hid (number_anyW HI6.out.wd 65535)
    rw [hw3] at HQ4
    clear hw3
    go_wp2_with fail
    refine HQ4.out.mono ?_
    rintro e wHI7 ⟨rfl, hw, hb⟩
    have HI7 := Lib.hid (HI6.out.rd hw hb)
    clear hw hb HQ4 HI6
    obtain ⟨c9, f9⟩ := HI7.out.cel (i := 3) (v := .int .i64 0) rfl
    have HI8 := Lib.hid (HI7.out.set 3 (.int .i64 (numV (headW ws.tail.tail.tail) 65535)) ⟨al, pr, pa, numV (headW ws.tail.tail.tail) 65535, []⟩ rfl)
    obtain ⟨uHI8, hu⟩ : ∃ u, wHI7.setCell ⟨R, 3, none⟩ (.int .i64 (numV (headW ws.tail.tail.tail) 65535)) = u := ⟨_, rfl⟩
    rw [hu] at HI8
    have HQ5 := Lib.hid (skip_any HI8.out.wd kAlpn)
    rw [HK2.out] at HQ5
    clear HI7
    go_wp2_with fail
    clear hu c9 f9
    refine HQ5.out.mono ?_
    rintro e wHIa ⟨rfl, hw, hb⟩
    have HIa := Lib.hid (HI8.out.rd hw hb)
    clear hw hb HQ5 HI8
    cases k2 with
    | true =>
      rw [skip_ne HK2.out] at HIa
      have hw4 : w3.tail.tail = w4 := HW4.out
      have HQ6 := Lib.hid (text_any HIa.out.wd)
      have HApl := Lib.hid HIa.out.wd.len
      rw [hw4] at HQ6
      clear hw4
      go_wp2_with fail
      refine HQ6.out.mono ?_
      rintro e wHIb ⟨rfl, hw, hb⟩
      have HIb := Lib.hid (HIa.out.rd hw hb)
      clear hw hb HQ6 HIa
      obtain ⟨c9, f9⟩ := HIb.out.cel (i := 4) (v := .string ⟨#[]⟩) rfl
      have HI9 := Lib.hid (HIb.out.set 4 (.string (str (headW w3.tail))) ⟨al, pr, pa, numV (headW ws.tail.tail.tail) 65535, headW w3.tail⟩ rfl)
      obtain ⟨uHI9, hu⟩ : ∃ u, wHIb.setCell ⟨R, 4, none⟩ (.string (str (headW w3.tail))) = u := ⟨_, rfl⟩
      rw [hu] at HI9
      have HQ9 := Lib.hid (done_any HI9.out.wd)
      clear HIb
      go_wp2_with fail
      clear hu c9 f9
      refine HQ9.out.mono ?_
      rintro e wz ⟨rfl, hb⟩
      have HBz := Lib.hid (HI9.out.but.trans hb)
      have hzx := HI9.out.box.but hb (fun hm => HI9.out.ne (List.mem_singleton.1 hm).symm)
      clear hb HQ9
      generalize hok : (!_ && (headW w4).isEmpty) = ok
      have hro : ruleOk ws = ok := by
        rw [HOk.out, HPa.out, ← hok]
        simp only [Bool.true_and, Bool.false_and, Bool.or_false]
      have HRo := Lib.hid hro
      clear hok hro HI9
      cases ok with
      | false =>
        clear hzx
        go_wp2_with fail
        go_ret
        exact HBad.out _ HBz.out HRo.out
      | true =>
        have HA9 := Lib.hid (HAdd.out _ ⟨al, pr, pa, numV (headW ws.tail.tail.tail) 65535, headW w3.tail⟩ HBz.out HRo.out (by rw [HV.out, HPr.out, HPa.out]; rfl) HPl.out HApl.out)
        go_wp2_with (refine go_ld (x := .tmp 7) 23 hzx undU rfl infU (ruC_size _) rfl rfl rfl ?_)
        refine HA9.out.mono ?_
        rintro e wy ⟨⟨z, rfl⟩, hk⟩
        have HK9 := Lib.hid hk
        clear hk hzx HA9
        go_wp2_with fail
        go_ret
        exact HK9.out
    | false =>
      rw [skip_no HK2.out] at HIa
      have hw4 : w3 = w4 := HW4.out
      have HApl := Lib.hid (show ([] : List UInt8).length ≤ 1000000 from Nat.zero_le _)
      have HI9 := HIa
      clear HIa
      have HQ9 := Lib.hid (done_any HI9.out.wd)
      rw [hw4] at HQ9
      clear hw4
      go_wp2_with fail
      refine HQ9.out.mono ?_
      rintro e wz ⟨rfl, hb⟩
      have HBz := Lib.hid (HI9.out.but.trans hb)
      have hzx := HI9.out.box.but hb (fun hm => HI9.out.ne (List.mem_singleton.1 hm).symm)
      clear hb HQ9
      generalize hok : (!_ && (headW w4).isEmpty) = ok
      have hro : ruleOk ws = ok := by
        rw [HOk.out, HPa.out, ← hok]
        simp only [Bool.true_and, Bool.false_and, Bool.or_false]
      have HRo := Lib.hid hro
      clear hok hro HI9
      cases ok with
      | false =>
        clear hzx
        go_wp2_with fail
        go_ret
        exact HBad.out _ HBz.out HRo.out
      | true =>
        have HA9 := Lib.hid (HAdd.out _ ⟨al, pr, pa, numV (headW ws.tail.tail.tail) 65535, []⟩ HBz.out HRo.out (by rw [HV.out, HPr.out, HPa.out]; rfl) HPl.out HApl.out)
        go_wp2_with (refine go_ld (x := .tmp 7) 23 hzx undU rfl infU (ruC_size _) rfl rfl rfl ?_)
        refine HA9.out.mono ?_
        rintro e wy ⟨⟨z, rfl⟩, hk⟩
        have HK9 := Lib.hid hk
        clear hk hzx HA9
        go_wp2_with fail
        go_ret
        exact HK9.out
  | false =>
    rw [skip_no HK1.out] at HI6
    have hw3 : ws.tail.tail = w3 := HW3.out
    rw [hw3] at HI6
    clear hw3
    have HQ5 := Lib.hid (skip_any HI6.out.wd kAlpn)
    rw [HK2.out] at HQ5
    go_wp2_with fail
    refine HQ5.out.mono ?_
    rintro e wHIa ⟨rfl, hw, hb⟩
    have HIa := Lib.hid (HI6.out.rd hw hb)
    clear hw hb HQ5 HI6
    cases k2 with
    | true =>
      rw [skip_ne HK2.out] at HIa
      have hw4 : w3.tail.tail = w4 := HW4.out
      have HQ6 := Lib.hid (text_any HIa.out.wd)
      have HApl := Lib.hid HIa.out.wd.len
      rw [hw4] at HQ6
      clear hw4
      go_wp2_with fail
      refine HQ6.out.mono ?_
      rintro e wHIb ⟨rfl, hw, hb⟩
      have HIb := Lib.hid (HIa.out.rd hw hb)
      clear hw hb HQ6 HIa
      obtain ⟨c9, f9⟩ := HIb.out.cel (i := 4) (v := .string ⟨#[]⟩) rfl
      have HI9 := Lib.hid (HIb.out.set 4 (.string (str (headW w3.tail))) ⟨al, pr, pa, 0, headW w3.tail⟩ rfl)
      obtain ⟨uHI9, hu⟩ : ∃ u, wHIb.setCell ⟨R, 4, none⟩ (.string (str (headW w3.tail))) = u := ⟨_, rfl⟩
      rw [hu] at HI9
      have HQ9 := Lib.hid (done_any HI9.out.wd)
      clear HIb
      go_wp2_with fail
      clear hu c9 f9
      refine HQ9.out.mono ?_
      rintro e wz ⟨rfl, hb⟩
      have HBz := Lib.hid (HI9.out.but.trans hb)
      have hzx := HI9.out.box.but hb (fun hm => HI9.out.ne (List.mem_singleton.1 hm).symm)
      clear hb HQ9
      generalize hok : (!_ && (headW w4).isEmpty) = ok
      have hro : ruleOk ws = ok := by
        rw [HOk.out, HPa.out, ← hok]
        simp only [Bool.true_and, Bool.false_and, Bool.or_false]
      have HRo := Lib.hid hro
      clear hok hro HI9
      cases ok with
      | false =>
        clear hzx
        go_wp2_with fail
        go_ret
        exact HBad.out _ HBz.out HRo.out
      | true =>
        have HA9 := Lib.hid (HAdd.out _ ⟨al, pr, pa, 0, headW w3.tail⟩ HBz.out HRo.out (by rw [HV.out, HPr.out, HPa.out]; rfl) HPl.out HApl.out)
        go_wp2_with (refine go_ld (x := .tmp 7) 23 hzx undU rfl infU (ruC_size _) rfl rfl rfl ?_)
        refine HA9.out.mono ?_
        rintro e wy ⟨⟨z, rfl⟩, hk⟩
        have HK9 := Lib.hid hk
        clear hk hzx HA9
        go_wp2_with fail
        go_ret
        exact HK9.out
    | false =>
      rw [skip_no HK2.out] at HIa
      have hw4 : w3 = w4 := HW4.out
      have HApl := Lib.hid (show ([] : List UInt8).length ≤ 1000000 from Nat.zero_le _)
      have HI9 := HIa
      clear HIa
      have HQ9 := Lib.hid (done_any HI9.out.wd)
      rw [hw4] at HQ9
      clear hw4
      go_wp2_with fail
      refine HQ9.out.mono ?_
      rintro e wz ⟨rfl, hb⟩
      have HBz := Lib.hid (HI9.out.but.trans hb)
      have hzx := HI9.out.box.but hb (fun hm => HI9.out.ne (List.mem_singleton.1 hm).symm)
      clear hb HQ9
      generalize hok : (!_ && (headW w4).isEmpty) = ok
      have hro : ruleOk ws = ok := by
        rw [HOk.out, HPa.out, ← hok]
        simp only [Bool.true_and, Bool.false_and, Bool.or_false]
      have HRo := Lib.hid hro
      clear hok hro HI9
      cases ok with
      | false =>
        clear hzx
        go_wp2_with fail
        go_ret
        exact HBad.out _ HBz.out HRo.out
      | true =>
        have HA9 := Lib.hid (HAdd.out _ ⟨al, pr, pa, 0, []⟩ HBz.out HRo.out (by rw [HV.out, HPr.out, HPa.out]; rfl) HPl.out HApl.out)
        go_wp2_with (refine go_ld (x := .tmp 7) 23 hzx undU rfl infU (ruC_size _) rfl rfl rfl ?_)
        refine HA9.out.mono ?_
        rintro e wy ⟨⟨z, rfl⟩, hk⟩
        have HK9 := Lib.hid hk
        clear hk hzx HA9
        go_wp2_with fail
        go_ret
        exact HK9.out
end Go.Proofs.YtlpondbcnfaggaaGreatDoor.Po

/-
  Contract of package policy's readPin over this seat's translation. Condition: a line of up to a million bytes.
-/
namespace Go.Proofs.YtlpondbcnfaggaaGreatDoor.Po
open Go.RowKit Go.Shelf Go.Proofs.YtlpondbcnfaggaaGreatDoor.Wd Go.Proofs.YtlpondbcnfaggaaGreatDoor.Asc Go.Proofs.YtlpondbcnfaggaaGreatDoor.Tx Go.Proofs.YtlpondbcnfaggaaGreatDoor.St Go.Proofs.YtlpondbcnfaggaaGreatDoor.Tr Go.Proofs.YtlpondbcnfaggaaGreatDoor.Te Go.Maps

/-! cells written one behind the other -/
def putA : Array Value → Nat → List Value → Array Value
  | cs, _, [] => cs
  | cs, o, v :: vs => putA (cs.setIfInBounds o v) (o + 1) vs
theorem blk_cells {g t : Nat} : ∀ (vs : List Value) (o : Nat) (cs : Array Value) (w : World), Blk w g t cs → Blk (w.setCells g o vs) g t (putA cs o vs)
  | [], _, _, _, h => h
  | v :: vs, o, _, _, h => blk_cells vs (o + 1) _ _ (h.set_ o v)
theorem but_cells {S : List Nat} {g : Nat} {a : World} : ∀ (vs : List Value) (o : Nat) (w : World), But S a w → (g ∈ S ∨ a.heap.size ≤ g) → But S a (w.setCells g o vs)
  | [], _, _, h, _ => h
  | v :: vs, o, _, h, hg => but_cells vs (o + 1) _ (h.set_ (p := ⟨g, o, none⟩) hg v) hg
theorem putA_mid : ∀ (vs m a b : List Value), vs.length = m.length → putA (a ++ (m ++ b)).toArray a.length vs = (a ++ (vs ++ b)).toArray
  | [], m, a, b, h => by
    have : m = [] := List.eq_nil_of_length_eq_zero h.symm
    subst this
    rfl
  | v :: vs, m, a, b, h => by
    match m, h with
    | y :: m, h =>
      have e : ((a ++ (y :: m ++ b)).toArray.setIfInBounds a.length v) = ((a ++ [v]) ++ (m ++ b)).toArray := by
        apply Array.ext'
        rw [Array.toList_setIfInBounds]
        show (a ++ (y :: m ++ b)).set a.length v = (a ++ [v]) ++ (m ++ b)
        rw [List.set_append_right _ _ (Nat.le_refl _), Nat.sub_self]
        simp
      have ih := putA_mid vs m (a ++ [v]) b (by simpa using h)
      rw [List.length_append, List.length_singleton] at ih
      show putA ((a ++ (y :: m ++ b)).toArray.setIfInBounds a.length v) (a.length + 1) vs = _
      rw [e, ih]
      simp
theorem pn_name (x : Pl) (s : List UInt8) : (pnC x.1).setIfInBounds 0 (.string (str s)) = pnC { x.1 with nm := s } := by
  apply Array.ext'
  rw [Array.toList_setIfInBounds]
  rfl
theorem pn_until (x : Pl) (u : Int) : (pnC x.1).setIfInBounds 18 (.int .i64 u) = pnC { x.1 with un := u } := by
  have hz := Ad.C_size x.1.ci x.2
  have hl : x.1.ci.cells.toList.length = 17 := by rw [Array.length_toList, hz]
  apply Array.ext'
  rw [Array.toList_setIfInBounds]
  show (Value.string (Tx.str x.1.nm) :: (x.1.ci.cells.toList ++ [.int .i64 x.1.un])).set 18 (.int .i64 u) = Value.string (Tx.str x.1.nm) :: (x.1.ci.cells.toList ++ [.int .i64 u])
  rw [List.set_cons_succ, List.set_append_right _ _ (by omega), hl]
  rfl
theorem pn_cidr (x : Pl) (c : Ad.C) (hc : c.a.length = 16) : putA (pnC x.1) 1 c.cells.toList = pnC { x.1 with ci := c } := by
  have h1 := Ad.C_size x.1.ci x.2
  have h2 := Ad.C_size c hc
  have := putA_mid c.cells.toList x.1.ci.cells.toList [.string (Tx.str x.1.nm)] [.int .i64 x.1.un] (by rw [Array.length_toList, Array.length_toList, h1, h2])
  exact this
/-- what reading a pin keeps: the pin so far, the words behind -/
structure RpI (w : World) (x R : Nat) (ws : List (List UInt8)) (b : Bool) (q : Pl) (ww : World) : Prop where
  box : Blk ww R 97 (pnC q.1)
  wd : WdI ww x ws b
  but : But [x] w ww
  lo : w.heap.size ≤ R
  ne : x ≠ R
section
variable {w : World} {x R : Nat} {ws ws' : List (List UInt8)} {b b' : Bool} {q : Pl} {ww w' : World}
theorem RpI.rd (h : RpI w x R ws b q ww) (k : WdI w' x ws' b') (hb : But [x] ww w') : RpI w x R ws' b' q w' :=
  ⟨h.box.but hb (fun hm => h.ne (List.mem_singleton.1 hm).symm), k, h.but.trans hb, h.lo, h.ne⟩
theorem RpI.set (h : RpI w x R ws b q ww) (i : Nat) (v : Value) (q' : Pl) (he : (pnC q.1).setIfInBounds i v = pnC q'.1) : RpI w x R ws b q' (ww.setCell ⟨R, i, none⟩ v) := by
  have k : But [R] ww (ww.setCell ⟨R, i, none⟩ v) := (But.refl [R] ww).set_ (p := ⟨R, i, none⟩) (.inl (by simp)) v
  exact ⟨by rw [← he]; exact h.box.set_ i v, h.wd.but k (fun hm => h.ne (List.mem_singleton.1 hm)), but_more h.but k (fun i hi => .inr (by rw [List.mem_singleton.1 hi]; exact h.lo)), h.lo, h.ne⟩
theorem RpI.cid (h : RpI w x R ws b q ww) (c : Ad.C) (q' : Pl) (he : putA (pnC q.1) 1 c.cells.toList = pnC q'.1) : RpI w x R ws b q' (ww.setCells R 1 c.cells.toList) := by
  have k : But [R] ww (ww.setCells R 1 c.cells.toList) := but_cells _ _ _ (But.refl [R] ww) (.inl (by simp))
  exact ⟨by rw [← he]; exact blk_cells _ _ _ _ h.box, h.wd.but k (fun hm => h.ne (List.mem_singleton.1 hm)), but_more h.but k (fun i hi => .inr (by rw [List.mem_singleton.1 hi]; exact h.lo)), h.lo, h.ne⟩
theorem RpI.cel (h : RpI w x R ws b q ww) {i : Nat} {v : Value} (hv : (pnC q.1)[i]? = some v) : ww.cell? ⟨R, i, none⟩ = some v ∧ ww.frozen? ⟨R, i, none⟩ = false := ⟨(h.box.cell i).trans hv, h.box.frozen i⟩
theorem RpI.there (h : RpI w x R ws b q ww) : ww.there R 1 17 := fun j hj => by
  have h1 := h.box.cell (1 + j)
  have h2 : 1 + j < (pnC q.1).size := by rw [pnC_size]; omega
  rw [Array.getElem?_eq_getElem h2] at h1
  exact ⟨by rw [h1]; rfl, h.box.frozen _⟩
end
theorem cparse_n {l : List UInt8} {c : Ad.C} (h : Ad.cparseS l = some c) : ∃ n : Int, c.n = ((Ad.bitN n : Nat) : Int) := by
  unfold Ad.cparseS at h
  split at h
  · cases h
  · split at h
    · cases h
    · injection h with h
      exact ⟨_, by rw [← h]; rfl⟩
theorem cidW_n (ws : List (List UInt8)) : -9223372036854775808 ≤ (cidW ws).n ∧ (cidW ws).n ≤ 9223372036854775807 := by
  unfold cidW
  cases h : Ad.cparseS (headW ws) with
  | none => exact ⟨by decide, by decide⟩
  | some c =>
    obtain ⟨n, e⟩ := cparse_n h
    have := Ad.bitN_le n
    show _ ≤ c.n ∧ c.n ≤ _
    omega
theorem numV_bd (w : List UInt8) (most : Int) (h0 : 0 ≤ most) : 0 ≤ numV w most ∧ numV w most ≤ most := by
  unfold numV
  cases h : numS w most with
  | none => exact ⟨Int.le_refl _, h0⟩
  | some m => exact Ad.numS_bd h
/-- is it a pin: word by word -/
theorem pinOk_is {ws : List (List UInt8)} (h : ∀ w ∈ ws, w ≠ []) (k1 : Bool) (w3 : List (List UInt8)) (h1 : isW kUntil ws.tail.tail = k1) (h3 : (if k1 = true then ws.tail.tail.tail.tail else ws.tail.tail) = w3) :
    pinOk ws = (!((((false || (headW ws).isEmpty) || !(Ad.cparseS (headW ws.tail)).isSome) || (k1 && !(numS (headW ws.tail.tail.tail) 1099511627776).isSome))) && (headW w3).isEmpty) := by
  have e3 : takeW kUntil ws.tail.tail = w3 := by
    unfold takeW
    unfold isW at h1
    rw [← h3, ← h1]
    by_cases hk : headW ws.tail.tail = kUntil
    · rw [if_pos hk, if_pos (decide_eq_true hk)]
    · rw [if_neg hk, if_neg (by simp [hk])]
  have n2 := tail_ne (tail_ne h)
  have n3 : ∀ w ∈ w3, w ≠ [] := by
    rw [← h3]
    split
    · exact tail_ne (tail_ne n2)
    · exact n2
  have d1 : decide (headW ws ≠ []) = !(headW ws).isEmpty := by
    rw [Bool.eq_iff_iff]; simp
  have d2 : decide (headW ws.tail.tail ≠ kUntil) = !k1 := by
    rw [← h1]; unfold isW; simp
  have d5 : decide (w3 = []) = (headW w3).isEmpty := (empty_tail n3).symm
  unfold pinOk
  rw [e3, d1, d2, d5]
  cases (headW ws).isEmpty <;> cases (Ad.cparseS (headW ws.tail)).isSome <;> cases k1 <;> cases (numS (headW ws.tail.tail.tail) 1099511627776).isSome <;> cases (headW w3).isEmpty <;> rfl
theorem pinV_is (ws : List (List UInt8)) (k1 : Bool) (h1 : isW kUntil ws.tail.tail = k1) : pinV Ad.C0 ws = ⟨headW ws, cidW ws.tail, if k1 = true then numV (headW ws.tail.tail.tail) 1099511627776 else 0⟩ := by
  unfold pinV
  rw [← h1]
  unfold isW cidW
  simp
/-- a pin's zero -/
def pl0 : Pl := ⟨⟨[], Ad.C0, 0⟩, rfl⟩
set_option linter.unusedSimpArgs false in
set_option maxRecDepth 100000 in
set_option maxHeartbeats 16000000 in
theorem readPin_any {B : Nat} {w : World} {d x : Nat} {S : List Nat} {p : Pol} {ws : List (List UInt8)} (hE : Ad.Env B w) (hD : DrP w d S p) (hge : ∀ i ∈ S, B ≤ i) (hBx : B ≤ x) (hxS : x ∉ S) (hW : WdI w x ws false) :
    Calls Tryz.prog 104 #[.pointer (some ⟨d, 0, none⟩), .pointer (some ⟨x, 0, none⟩)] w (RdP w d x S p ((pinS ws).map .pn)) := by
  obtain ⟨k1, hk1⟩ : ∃ k, isW kUntil ws.tail.tail = k := ⟨_, rfl⟩
  obtain ⟨w3, hw3⟩ : ∃ w3, (if k1 = true then ws.tail.tail.tail.tail else ws.tail.tail) = w3 := ⟨_, rfl⟩
  have HOk := Lib.hid (pinOk_is hW.ne k1 w3 hk1 hw3)
  have HV := Lib.hid (pinV_is ws k1 hk1)
  have HO := Lib.hid (pin_is Ad.C0 hW.ne rfl)
  have HK1 := Lib.hid hk1
  have HW3 := Lib.hid hw3
  have HEn := Lib.hid (fun (w' : World) (hk : But [x] w w') => show Ad.Env B w' from hE.below (hk.below (fun i hi => by rw [List.mem_singleton.1 hi]; exact hBx) hE.le))
  have HBx := Lib.hid hBx
  have HBad := Lib.hid (fun (w' : World) (hk : But [x] w w') (h : pinOk ws = false) => show RdP w d x S p ((pinS ws).map .pn) (.returned (.int .i64 3)) w' from RdP.no (by rw [HO.out, h]; rfl) hk)
  have HAdd := Lib.hid (fun (w' : World) (q : Pl) (hk : But [x] w w') (h : pinOk ws = true) (hr : pinV Ad.C0 ws = q.1) (ho : OkP q) => show Calls Tryz.prog 58 #[.pointer (some ⟨d, 0, none⟩), .agg (pnC q.1)] w' fun e w'' => (∃ z, e = .returned z) ∧ RdP w d x S p ((pinS ws).map .pn) e w'' from by
    refine (addPin_any (HEn.out _ hk) (hD.but hk (fun i hi hm => hxS (by rw [← List.mem_singleton.1 hm]; exact hi))) hge q ho).mono ?_
    intro e w'' k
    refine ⟨by obtain ⟨S', k1, _⟩ := k; exact ⟨_, k1⟩, RdP.of hk k ?_ ?_⟩
    · rw [HO.out, h, if_pos rfl, hr]
      exact app_pn hD.1 q.1
    · rw [HO.out, h, if_pos rfl, hr]
      rfl)
  have hHx := hW.lt
  obtain ⟨w1, hw1⟩ : ∃ w1, w.alloc (.cells #[Value.string ⟨#[]⟩, Value.int .u8 0, Value.int .u8 0, Value.int .u8 0, Value.int .u8 0, Value.int .u8 0, Value.int .u8 0, Value.int .u8 0, Value.int .u8 0, Value.int .u8 0, Value.int .u8 0, Value.int .u8 0, Value.int .u8 0, Value.int .u8 0, Value.int .u8 0, Value.int .u8 0, Value.int .u8 0, Value.int .i64 0, Value.int .i64 0] 97) = w1 := ⟨_, rfl⟩
  have hb1 : Below w.heap.size w w1 := by rw [← hw1]; exact (Below.refl _ _).alloc (Nat.le_refl _) _
  have HI1 := Lib.hid (show RpI w x w.heap.size ws false pl0 w1 from ⟨by rw [← hw1]; exact Blk.new w _ #[Value.string ⟨#[]⟩, Value.int .u8 0, Value.int .u8 0, Value.int .u8 0, Value.int .u8 0, Value.int .u8 0, Value.int .u8 0, Value.int .u8 0, Value.int .u8 0, Value.int .u8 0, Value.int .u8 0, Value.int .u8 0, Value.int .u8 0, Value.int .u8 0, Value.int .u8 0, Value.int .u8 0, Value.int .u8 0, Value.int .i64 0, Value.int .i64 0], hW.on hb1, But.of_below hb1 _, Nat.le_refl _, by omega⟩)
  have HW1 := Lib.hid hw1
  clear hk1 hw3 hE hD hge hBx hxS hW hb1 hw1 hHx
  go_enter Tryz.func104, Tryz.ntmps104
  go_upto_region 2 with fail
  rw [HW1.out]
  obtain ⟨R, hR⟩ : ∃ R, w.heap.size = R := ⟨_, rfl⟩
  rw [hR] at HI1 ⊢
  clear hR HW1
  obtain ⟨nm, hnm⟩ : ∃ nm, headW ws = nm := ⟨_, rfl⟩
  have HQ1 := Lib.hid (text_any HI1.out.wd)
  have HNl := Lib.hid HI1.out.wd.len
  rw [hnm] at HQ1 HNl
  have HNm := Lib.hid hnm
  clear hnm
  go_wp2_with fail
  refine HQ1.out.mono ?_
  rintro e wHI2 ⟨rfl, hw, hb⟩
  have HI2 := Lib.hid (HI1.out.rd hw hb)
  clear hw hb HQ1 HI1
  obtain ⟨c9, f9⟩ := HI2.out.cel (i := 0) (v := .string ⟨#[]⟩) rfl
  have HI3 := Lib.hid (HI2.out.set 0 (.string (str nm)) ⟨⟨nm, Ad.C0, 0⟩, rfl⟩ (pn_name pl0 nm))
  obtain ⟨u3, hu⟩ : ∃ u, wHI2.setCell ⟨R, 0, none⟩ (.string (str nm)) = u := ⟨_, rfl⟩
  rw [hu] at HI3
  obtain ⟨c, hc⟩ : ∃ c, cidW ws.tail = c := ⟨_, rfl⟩
  have hc16 : c.a.length = 16 := by rw [← hc]; exact cidW_len _
  have HCn := Lib.hid (show -9223372036854775808 ≤ c.n ∧ c.n ≤ 9223372036854775807 from by rw [← hc]; exact cidW_n _)
  have HQ2 := Lib.hid (cidr_anyW (HEn.out _ HI3.out.but) HBx.out HI3.out.wd)
  rw [hc] at HQ2
  have HCc := Lib.hid hc
  clear HI2 hc
  go_wp2_with fail
  clear hu c9 f9
  refine HQ2.out.mono ?_
  rintro e wHI4 ⟨rfl, hw, hb⟩
  have HI4 := Lib.hid (HI3.out.rd hw hb)
  clear hw hb HQ2 HI3
  have hcs := Ad.C_size c hc16
  have hth : wHI4.there R 1 c.cells.size := by rw [hcs]; exact HI4.out.there
  have hci : (Tryz.prog.info? 95).map (·.size) = some c.cells.size := by rw [hcs]; exact Ad.info17
  have HC16 := Lib.hid hc16
  have HI5 := Lib.hid (HI4.out.cid c ⟨⟨nm, c, 0⟩, HC16.out⟩ (pn_cidr ⟨⟨nm, Ad.C0, 0⟩, rfl⟩ c HC16.out))
  obtain ⟨u5, hu⟩ : ∃ u, wHI4.setCells R 1 c.cells.toList = u := ⟨_, rfl⟩
  rw [hu] at HI5
  have HQ3 := Lib.hid (skip_any HI5.out.wd kUntil)
  rw [HK1.out] at HQ3
  clear HI4
  go_upto_region 4 with (refine wpList_store_mid rfl 95 _ _ rfl R 1 c.cells rfl rfl hth hci (Ad.C_one c) ?_)
  first | rw [hu] | skip
  clear hu hth hci hcs hc16
  go_wp2_with fail
  refine HQ3.out.mono ?_
  rintro e wHI6 ⟨rfl, hw, hb⟩
  have HI6 := Lib.hid (HI5.out.rd hw hb)
  clear hw hb HQ3 HI5
  cases k1 with
  | true =>
    rw [skip_ne HK1.out] at HI6
    have hw3 : ws.tail.tail.tail.tail = w3 := HW3.out
    have HQ4 := Lib.hid (number_anyW HI6.out.wd 1099511627776)
    rw [hw3] at HQ4
    clear hw3
    go_wp2_with fail
    refine HQ4.out.mono ?_
    rintro e wHI7 ⟨rfl, hw, hb⟩
    have HI7 := Lib.hid (HI6.out.rd hw hb)
    clear hw hb HQ4 HI6
    obtain ⟨c9, f9⟩ := HI7.out.cel (i := 18) (v := .int .i64 0) (pn_18 ⟨⟨nm, c, 0⟩, HC16.out⟩)
    have HI9 := Lib.hid (HI7.out.set 18 (.int .i64 (numV (headW ws.tail.tail.tail) 1099511627776)) ⟨⟨nm, c, numV (headW ws.tail.tail.tail) 1099511627776⟩, HC16.out⟩ (pn_until ⟨⟨nm, c, 0⟩, HC16.out⟩ _))
    obtain ⟨u8, hu⟩ : ∃ u, wHI7.setCell ⟨R, 18, none⟩ (.int .i64 (numV (headW ws.tail.tail.tail) 1099511627776)) = u := ⟨_, rfl⟩
    rw [hu] at HI9
    have HQ9 := Lib.hid (done_any HI9.out.wd)
    clear HI7
    go_wp2_with fail
    clear hu c9 f9
    refine HQ9.out.mono ?_
    rintro e wz ⟨rfl, hb⟩
    have HBz := Lib.hid (HI9.out.but.trans hb)
    have hzx := HI9.out.box.but hb (fun hm => HI9.out.ne (List.mem_singleton.1 hm).symm)
    clear hb HQ9
    generalize hok : (!_ && (headW w3).isEmpty) = ok
    have hro : pinOk ws = ok := by
      rw [HOk.out, HNm.out, ← hok]
      simp only [Bool.true_and, Bool.false_and, Bool.or_false]
    have HRo := Lib.hid hro
    clear hok hro HI9
    cases ok with
    | false =>
      clear hzx
      go_wp2_with fail
      go_ret
      exact HBad.out _ HBz.out HRo.out
    | true =>
      have HA9 := Lib.hid (HAdd.out _ ⟨⟨nm, c, numV (headW ws.tail.tail.tail) 1099511627776⟩, HC16.out⟩ HBz.out HRo.out (by rw [HV.out, HNm.out, HCc.out]; rfl) ⟨HNl.out, HCn.out.1, HCn.out.2, Int.le_trans (by decide) (numV_bd (headW ws.tail.tail.tail) 1099511627776 (by decide)).1, Int.le_trans (numV_bd (headW ws.tail.tail.tail) 1099511627776 (by decide)).2 (by decide)⟩)
      go_wp2_with (refine go_ld (x := .tmp 5) 97 hzx undPn rfl infPn (pnC_size ⟨⟨nm, c, numV (headW ws.tail.tail.tail) 1099511627776⟩, HC16.out⟩) rfl rfl rfl ?_)
      refine HA9.out.mono ?_
      rintro e wy ⟨⟨z, rfl⟩, hk⟩
      have HK9 := Lib.hid hk
      clear hk hzx HA9
      go_wp2_with fail
      go_ret
      exact HK9.out
  | false =>
    rw [skip_no HK1.out] at HI6
    have hw3 : ws.tail.tail = w3 := HW3.out
    rw [hw3] at HI6
    clear hw3
    have HI9 := HI6
    clear HI6
    have HQ9 := Lib.hid (done_any HI9.out.wd)
    go_wp2_with fail
    refine HQ9.out.mono ?_
    rintro e wz ⟨rfl, hb⟩
    have HBz := Lib.hid (HI9.out.but.trans hb)
    have hzx := HI9.out.box.but hb (fun hm => HI9.out.ne (List.mem_singleton.1 hm).symm)
    clear hb HQ9
    generalize hok : (!_ && (headW w3).isEmpty) = ok
    have hro : pinOk ws = ok := by
      rw [HOk.out, HNm.out, ← hok]
      simp only [Bool.true_and, Bool.false_and, Bool.or_false]
    have HRo := Lib.hid hro
    clear hok hro HI9
    cases ok with
    | false =>
      clear hzx
      go_wp2_with fail
      go_ret
      exact HBad.out _ HBz.out HRo.out
    | true =>
      have HA9 := Lib.hid (HAdd.out _ ⟨⟨nm, c, 0⟩, HC16.out⟩ HBz.out HRo.out (by rw [HV.out, HNm.out, HCc.out]; rfl) ⟨HNl.out, HCn.out.1, HCn.out.2, show (-9223372036854775808 : Int) ≤ 0 from by decide, show (0 : Int) ≤ 9223372036854775807 from by decide⟩)
      go_wp2_with (refine go_ld (x := .tmp 5) 97 hzx undPn rfl infPn (pnC_size ⟨⟨nm, c, 0⟩, HC16.out⟩) rfl rfl rfl ?_)
      refine HA9.out.mono ?_
      rintro e wy ⟨⟨z, rfl⟩, hk⟩
      have HK9 := Lib.hid hk
      clear hk hzx HA9
      go_wp2_with fail
      go_ret
      exact HK9.out
end Go.Proofs.YtlpondbcnfaggaaGreatDoor.Po
