/-
 Contract of package exts' read over this seat's translation, at []string.
-/
import Derived.Test.YthfknndjdfofgaaGreatDoorQ06
namespace Go.Proofs.YthfknndjdfofgaaGreatDoor.Ex
open Go.RowKit Go.Proofs.YthfknndjdfofgaaGreatDoor.Wd Go.Proofs.YthfknndjdfofgaaGreatDoor.Be Go.Proofs.YthfknndjdfofgaaGreatDoor.He Go.Proofs.YthfknndjdfofgaaGreatDoor.Ro

structure rdSAt (w : World) (B r1 r : Nat) (st1 : Option (List UInt8)) (xs : List UInt8) (v : Value) (st : Option (List UInt8)) (wr : World) : Prop where
 rd : Rd wr r st
 whole : Rd wr r1 st1
 all : ∃ l f, OwnE wr elS B v l ∧ leftS st < f ∧ itemsS proO xs = (l ++ (itemsF proO f st).1, (itemsF proO f st).2) ∧ l.length + leftS st ≤ 65535
 bel : Below w.heap.size w wr

set_option maxRecDepth 100000 in
set_option maxHeartbeats 1000000 in
theorem rdS_any (A : Option Addr) (n c : Nat) (size : Int) (xs : List UInt8) (w : World) (hs : Src w A n xs) (hn : n ≤ 140737488355320) (hz : size = 1 ∨ size = 2) :
   Calls Tryz.prog 173 #[.slice A n c, .int .i64 size, .func (.func 174) #[] #[]] w fun e w' => ∃ v, e = .returned (.tuple #[v, .bool (readS proO size xs).2]) ∧ OwnE w' elS w.heap.size v (readS proO size xs).1 ∧ (readS proO size xs).1.length ≤ 65535 ∧ Below w.heap.size w w' := by
 have HR := Lib.hid (show readS proO size xs = ((itemsS proO (vecS (some xs) size).1).1, doneS (vecS (some xs) size).2 && (itemsS proO (vecS (some xs) size).1).2 && decide (0 < (itemsS proO (vecS (some xs) size).1).1.length)) from rfl)
 have hsm : (vecS (some xs) size).1.length ≤ 65535 := by
   rcases hz with rfl | rfl
   · have := vec_small1 (some xs); omega
   · have := vec_small (some xs); omega
 have hrest := Lib.hid (show leftS (vecS (some xs) size).2 ≤ 140737488355320 from Nat.le_trans (Nat.le_trans (take_less _ _) (take_less _ _)) (by show xs.length ≤ _; rw [hs.1]; exact hn))
 go_enter Tryz.func173, Tryz.ntmps173
 go_wp2_with fail
 refine (read_any A n c xs w hs hn).mono ?_
 rintro e w1 ⟨r1, rfl, hr1, hrd1, hb1⟩
 have H1 := Lib.hid hrd1
 have HB1 := Lib.hid hb1
 clear hrd1 hb1
 go_wp2_with fail
 refine (rvec_any r1 size (some xs) w1 H1.out (fun rest h => by injection h with h; subst h; rw [hs.1]; exact hn)).mono ?_
 rintro e w2 ⟨v2, rfl, hsl, hrd2, hg2⟩
 generalize vecS (some xs) size = p at *
 have H2 := Lib.hid hrd2
 have HB2 := Lib.hid (HB1.out.grown hg2 HB1.out.size (fun j hj => by injection hj with hj; omega))
 obtain ⟨A2, c2, rfl, _, hs2⟩ := hsl.src
 clear hrd2 hg2 hsl H1 HB1 hs
 go_wp2_with fail
 refine (read_any A2 _ c2 p.1 w2 hs2 (by omega)).mono ?_
 rintro e w3 ⟨r, rfl, hr, hrd, hb3⟩
 have hlt := H2.out.lt
 have hr1r : r1 ≠ r := by omega
 have hwr : w.heap.size ≤ r := Nat.le_trans HB2.out.size hr
 have H0 : Hid (rdSAt w w.heap.size r1 r p.2 p.1 (.slice none 0 0) (some p.1) w3) := ⟨hrd, H2.out.below hb3 (Nat.le_refl _), ⟨[], p.1.length + 1, OwnE.nil _ _ _, by show p.1.length < _; omega, rfl, by show 0 + p.1.length ≤ _; omega⟩, HB2.out.trans (hb3.mono HB2.out.size)⟩
 clear hrd hb3 H2 HB2 hs2 hlt hr
 go_wp2_with fail
 go_loopw [10] (fun v wr => ∃ st, Hid (rdSAt w w.heap.size r1 r p.2 p.1 v st wr)) (fun _ wr => lenAt wr r)
 case atStart => exact ⟨_, H0⟩
 case round =>
   clear H0
   obtain ⟨st, HN⟩ := hrel
   go_wp2_with fail
   refine (left_any r st wr HN.out.rd).mono ?_
   rintro e w4 ⟨rfl, rfl⟩
   by_cases h0 : 0 < leftS st
   · have h0' : (0 : Int) < (leftS st : Int) := by omega
     have HL := Lib.hid h0
     have hk := Lib.hid (Rd.lenAt HN.out.rd)
     generalize hq : leftS st = q at *
     have HQ := Lib.hid hq
     clear hq
     go_wp2_with fail
     refine (pro_any r st wr HN.out.rd (by have := HQ.out; obtain ⟨l, f, _, _, _, h⟩ := HN.out.all; omega)).mono ?_
     rintro e w4 ⟨rfl, hrd4, hg4⟩
     obtain ⟨cs, hblk⟩ := HN.out.rd.blk
     have HK := Lib.hid (show leftS (proO st).2 < q from by have := proO_less st (by rw [HQ.out]; exact HL.out); rw [HQ.out] at this; exact this)
     obtain ⟨l, f, hOw, hf, hall, hlen⟩ := HN.out.all
     have HOw := Lib.hid (hOw.off hg4 (OffT.of_blk hblk (by decide)))
     obtain ⟨f', rfl⟩ : ∃ f', f = f' + 1 := ⟨f - 1, by omega⟩
     have HA : Hid (itemsS proO p.1 = ((l ++ [(proO st).1]) ++ (itemsF proO f' (proO st).2).1, (itemsF proO f' (proO st).2).2)) := by
       rw [hall, itemsF_step (by rw [HQ.out]; exact HL.out), List.append_assoc]; rfl
     have HF := Lib.hid (show leftS (proO st).2 < f' by have := HK.out; have := HQ.out; omega)
     have HLn := Lib.hid (show (l ++ [(proO st).1]).length + leftS (proO st).2 ≤ 65535 by rw [List.length_append]; have := HK.out; have := HQ.out; simp only [List.length_cons, List.length_nil]; omega)
     have hlen' : l.length ≤ 65535 := by omega
     have HW := Lib.hid (HN.out.whole.grown hblk hr1r hg4)
     have HB4 := Lib.hid (HN.out.bel.grown hg4 HN.out.bel.size (fun j hj => by injection hj with hj; omega))
     have HRd := Lib.hid hrd4
     have hsz := HB4.out.size
     clear hrd4 hg4 hOw hf hall hlen hblk h0 h0' HN HQ HL
     generalize proO st = y at *
     obtain ⟨x, st'⟩ := y
     simp only at HRd HK HA HF HLn
     have hC : (#[.string (str8 x)] : Array Value) = (Ro.flat elS [x]).toArray := by rw [Ro.flat_one]; rfl
     have HSr := Lib.hid (SrcE.new fineS w4 [x] #[.string (str8 x)] hC 9)
     have HOa := Lib.hid (HOw.out.alloc (.cells #[.string (str8 x)] 9))
     have HGe := Lib.hid (OwnE.ge HOa.out)
     have HOff := Lib.hid (HOa.out.block (T := TB) (by unfold TB; decide))
     have HBa := Lib.hid (HB4.out.alloc hsz (.cells #[.string (str8 x)] 9))
     have HRa := Lib.hid (HRd.out.below (Below.refl w4.heap.size w4 |>.alloc (Nat.le_refl _) (.cells #[.string (str8 x)] 9)) (Nat.le_refl _))
     have HWa := Lib.hid (HW.out.below (Below.refl w4.heap.size w4 |>.alloc (Nat.le_refl _) (.cells #[.string (str8 x)] 9)) (Nat.le_refl _))
     clear HW HB4 HRd HOw hC
     unfold valS
     go_wp2_with (at_builtin; refine wpList_appE fineS rfl _ _ rfl w.heap.size _ l rfl (by exact HOa.out) _ 1 1 [x] rfl rfl (by simp) (by exact HSr.out) (by simp; omega) (by decide) (by simp; omega) ?_; intro v5 w5 ho5 hg5)
     have HB5 := Lib.hid (HBa.out.grown hg5.out (by simp; omega) (fun j hj => HGe.out j hj))
     have HRd5 := Lib.hid (Rd.off (T := TB) HRa.out hg5.out HOff.out (.inl rfl) (.inr rfl))
     have HWd5 := Lib.hid (Rd.off (T := TB) HWa.out hg5.out HOff.out (.inl rfl) (.inr rfl))
     clear hg5 HBa HRa HWa HGe HOff HSr HOa
     go_roundw
     case rel => exact ⟨st', Lib.hid ⟨HRd5.out, HWd5.out, ⟨_, f', ho5.out, HF.out, HA.out, HLn.out⟩, HB5.out⟩⟩
     case measure => rw [Rd.lenAt HRd5.out, hk.out]; exact HK.out
   · have hz0 : leftS st = 0 := by omega
     have HZ := Lib.hid hz0
     have h0' : ¬ (0 : Int) < (leftS st : Int) := by omega
     obtain ⟨l, f, hOw, hf, hall, hlen⟩ := HN.out.all
     have HE := Lib.hid (show itemsS proO p.1 = (l, doneS st) by rw [hall, itemsF_end HZ.out, List.append_nil])
     have HOw := Lib.hid hOw
     have HLn := Lib.hid (show l.length ≤ 65535 by omega)
     obtain ⟨A5, c5, hv5⟩ := hOw.form
     subst hv5
     have HN1 := Lib.hid HN.out.rd
     have HN2 := Lib.hid HN.out.whole
     have HN3 := Lib.hid HN.out.bel
     clear hOw hall hlen hf HN h0 hz0 hsm
     generalize leftS st = q at *
     rw [HE.out] at HR
     go_wp2_with fail
     refine (done_any r1 p.2 wr HN2.out).mono ?_
     rintro e w4 ⟨rfl, rfl⟩
     obtain ⟨b1, hb1⟩ : ∃ b, doneS p.2 = b := ⟨_, rfl⟩
     rw [hb1] at HR ⊢
     obtain ⟨m, hm⟩ : ∃ m, l.length = m := ⟨_, rfl⟩
     rw [hm]
     have HM := Lib.hid hm
     have HB1 := Lib.hid hb1
     clear hm hb1
     cases b1 with
     | false =>
       go_wp2_with fail
       go_ret2
       rw [HR.out]
       exact ⟨.slice A5 m c5, rfl, by rw [← HM.out]; exact HOw.out, HLn.out, HN3.out⟩
     | true =>
       go_wp2_with fail
       refine (done_any r st wr HN1.out).mono ?_
       rintro e w4 ⟨rfl, rfl⟩
       obtain ⟨b2, hb2⟩ : ∃ b, doneS st = b := ⟨_, rfl⟩
       rw [hb2] at HR HE ⊢
       clear hb2
       cases b2 with
       | false =>
         go_wp2_with fail
         go_ret2
         rw [HR.out]
         exact ⟨.slice A5 m c5, rfl, by rw [← HM.out]; exact HOw.out, HLn.out, HN3.out⟩
       | true =>
         by_cases hm0 : 0 < m
         · have hmi : (0 : Int) < (m : Int) := by omega
           have HD := Lib.hid (show (true && true && decide (0 < l.length)) = true by rw [HM.out]; simpa using hm0)
           simp only [HD.out] at HR
           go_wp2_with fail
           go_ret2
           rw [HR.out]
           exact ⟨.slice A5 m c5, rfl, by rw [← HM.out]; exact HOw.out, HLn.out, HN3.out⟩
         · have hmi : ¬ (0 : Int) < (m : Int) := by omega
           have HD := Lib.hid (show (true && true && decide (0 < l.length)) = false by rw [HM.out]; simpa using hm0)
           simp only [HD.out] at HR
           go_wp2_with fail
           go_ret2
           rw [HR.out]
           exact ⟨.slice A5 m c5, rfl, by rw [← HM.out]; exact HOw.out, HLn.out, HN3.out⟩
end Go.Proofs.YthfknndjdfofgaaGreatDoor.Ex

/-
 Contract of package exts' read over this seat's translation, at []int.
-/
namespace Go.Proofs.YthfknndjdfofgaaGreatDoor.Ex
open Go.RowKit Go.Proofs.YthfknndjdfofgaaGreatDoor.Wd Go.Proofs.YthfknndjdfofgaaGreatDoor.Be Go.Proofs.YthfknndjdfofgaaGreatDoor.He Go.Proofs.YthfknndjdfofgaaGreatDoor.Ro

structure rdIAt (w : World) (B r1 r : Nat) (st1 : Option (List UInt8)) (xs : List UInt8) (v : Value) (st : Option (List UInt8)) (wr : World) : Prop where
 rd : Rd wr r st
 whole : Rd wr r1 st1
 all : ∃ l f, OwnE wr elI B v l ∧ leftS st < f ∧ itemsS verO xs = (l ++ (itemsF verO f st).1, (itemsF verO f st).2) ∧ l.length + leftS st ≤ 65535
 bel : Below w.heap.size w wr

set_option maxRecDepth 100000 in
set_option maxHeartbeats 1000000 in
theorem rdI_any (A : Option Addr) (n c : Nat) (size : Int) (xs : List UInt8) (w : World) (hs : Src w A n xs) (hn : n ≤ 140737488355320) (hz : size = 1 ∨ size = 2) :
   Calls Tryz.prog 176 #[.slice A n c, .int .i64 size, .func (.func 177) #[] #[]] w fun e w' => ∃ v, e = .returned (.tuple #[v, .bool (readS verO size xs).2]) ∧ OwnE w' elI w.heap.size v (readS verO size xs).1 ∧ (readS verO size xs).1.length ≤ 65535 ∧ Below w.heap.size w w' := by
 have HR := Lib.hid (show readS verO size xs = ((itemsS verO (vecS (some xs) size).1).1, doneS (vecS (some xs) size).2 && (itemsS verO (vecS (some xs) size).1).2 && decide (0 < (itemsS verO (vecS (some xs) size).1).1.length)) from rfl)
 have hsm : (vecS (some xs) size).1.length ≤ 65535 := by
   rcases hz with rfl | rfl
   · have := vec_small1 (some xs); omega
   · have := vec_small (some xs); omega
 have hrest := Lib.hid (show leftS (vecS (some xs) size).2 ≤ 140737488355320 from Nat.le_trans (Nat.le_trans (take_less _ _) (take_less _ _)) (by show xs.length ≤ _; rw [hs.1]; exact hn))
 go_enter Tryz.func176, Tryz.ntmps176
 go_wp2_with fail
 refine (read_any A n c xs w hs hn).mono ?_
 rintro e w1 ⟨r1, rfl, hr1, hrd1, hb1⟩
 have H1 := Lib.hid hrd1
 have HB1 := Lib.hid hb1
 clear hrd1 hb1
 go_wp2_with fail
 refine (rvec_any r1 size (some xs) w1 H1.out (fun rest h => by injection h with h; subst h; rw [hs.1]; exact hn)).mono ?_
 rintro e w2 ⟨v2, rfl, hsl, hrd2, hg2⟩
 generalize vecS (some xs) size = p at *
 have H2 := Lib.hid hrd2
 have HB2 := Lib.hid (HB1.out.grown hg2 HB1.out.size (fun j hj => by injection hj with hj; omega))
 obtain ⟨A2, c2, rfl, _, hs2⟩ := hsl.src
 clear hrd2 hg2 hsl H1 HB1 hs
 go_wp2_with fail
 refine (read_any A2 _ c2 p.1 w2 hs2 (by omega)).mono ?_
 rintro e w3 ⟨r, rfl, hr, hrd, hb3⟩
 have hlt := H2.out.lt
 have hr1r : r1 ≠ r := by omega
 have hwr : w.heap.size ≤ r := Nat.le_trans HB2.out.size hr
 have H0 : Hid (rdIAt w w.heap.size r1 r p.2 p.1 (.slice none 0 0) (some p.1) w3) := ⟨hrd, H2.out.below hb3 (Nat.le_refl _), ⟨[], p.1.length + 1, OwnE.nil _ _ _, by show p.1.length < _; omega, rfl, by show 0 + p.1.length ≤ _; omega⟩, HB2.out.trans (hb3.mono HB2.out.size)⟩
 clear hrd hb3 H2 HB2 hs2 hlt hr
 go_wp2_with fail
 go_loopw [10] (fun v wr => ∃ st, Hid (rdIAt w w.heap.size r1 r p.2 p.1 v st wr)) (fun _ wr => lenAt wr r)
 case atStart => exact ⟨_, H0⟩
 case round =>
   clear H0
   obtain ⟨st, HN⟩ := hrel
   go_wp2_with fail
   refine (left_any r st wr HN.out.rd).mono ?_
   rintro e w4 ⟨rfl, rfl⟩
   by_cases h0 : 0 < leftS st
   · have h0' : (0 : Int) < (leftS st : Int) := by omega
     have HL := Lib.hid h0
     have hk := Lib.hid (Rd.lenAt HN.out.rd)
     generalize hq : leftS st = q at *
     have HQ := Lib.hid hq
     clear hq
     go_wp2_with fail
     refine (ver_any r st wr HN.out.rd (by have := HQ.out; obtain ⟨l, f, _, _, _, h⟩ := HN.out.all; omega)).mono ?_
     rintro e w4 ⟨rfl, hrd4, hg4⟩
     obtain ⟨cs, hblk⟩ := HN.out.rd.blk
     have HK := Lib.hid (show leftS (verO st).2 < q from by have := verO_less st (by rw [HQ.out]; exact HL.out); rw [HQ.out] at this; exact this)
     obtain ⟨l, f, hOw, hf, hall, hlen⟩ := HN.out.all
     have HOw := Lib.hid (hOw.off hg4 (OffT.of_blk hblk (by decide)))
     obtain ⟨f', rfl⟩ : ∃ f', f = f' + 1 := ⟨f - 1, by omega⟩
     have HA : Hid (itemsS verO p.1 = ((l ++ [(verO st).1]) ++ (itemsF verO f' (verO st).2).1, (itemsF verO f' (verO st).2).2)) := by
       rw [hall, itemsF_step (by rw [HQ.out]; exact HL.out), List.append_assoc]; rfl
     have HF := Lib.hid (show leftS (verO st).2 < f' by have := HK.out; have := HQ.out; omega)
     have HLn := Lib.hid (show (l ++ [(verO st).1]).length + leftS (verO st).2 ≤ 65535 by rw [List.length_append]; have := HK.out; have := HQ.out; simp only [List.length_cons, List.length_nil]; omega)
     have hlen' : l.length ≤ 65535 := by omega
     have HW := Lib.hid (HN.out.whole.grown hblk hr1r hg4)
     have HB4 := Lib.hid (HN.out.bel.grown hg4 HN.out.bel.size (fun j hj => by injection hj with hj; omega))
     have HRd := Lib.hid hrd4
     have hsz := HB4.out.size
     clear hrd4 hg4 hOw hf hall hlen hblk h0 h0' HN HQ HL
     generalize verO st = y at *
     obtain ⟨x, st'⟩ := y
     simp only at HRd HK HA HF HLn
     have hC : (#[.int .i64 x] : Array Value) = (Ro.flat elI [x]).toArray := by rw [Ro.flat_one]; rfl
     have HSr := Lib.hid (SrcE.new fineI w4 [x] #[.int .i64 x] hC 3)
     have HOa := Lib.hid (HOw.out.alloc (.cells #[.int .i64 x] 3))
     have HGe := Lib.hid (OwnE.ge HOa.out)
     have HOff := Lib.hid (HOa.out.block (T := TB) (by unfold TB; decide))
     have HBa := Lib.hid (HB4.out.alloc hsz (.cells #[.int .i64 x] 3))
     have HRa := Lib.hid (HRd.out.below (Below.refl w4.heap.size w4 |>.alloc (Nat.le_refl _) (.cells #[.int .i64 x] 3)) (Nat.le_refl _))
     have HWa := Lib.hid (HW.out.below (Below.refl w4.heap.size w4 |>.alloc (Nat.le_refl _) (.cells #[.int .i64 x] 3)) (Nat.le_refl _))
     clear HW HB4 HRd HOw hC
     unfold valI
     go_wp2_with (at_builtin; refine wpList_appE fineI rfl _ _ rfl w.heap.size _ l rfl (by exact HOa.out) _ 1 1 [x] rfl rfl (by simp) (by exact HSr.out) (by simp; omega) (by decide) (by simp; omega) ?_; intro v5 w5 ho5 hg5)
     have HB5 := Lib.hid (HBa.out.grown hg5.out (by simp; omega) (fun j hj => HGe.out j hj))
     have HRd5 := Lib.hid (Rd.off (T := TB) HRa.out hg5.out HOff.out (.inl rfl) (.inr rfl))
     have HWd5 := Lib.hid (Rd.off (T := TB) HWa.out hg5.out HOff.out (.inl rfl) (.inr rfl))
     clear hg5 HBa HRa HWa HGe HOff HSr HOa
     go_roundw
     case rel => exact ⟨st', Lib.hid ⟨HRd5.out, HWd5.out, ⟨_, f', ho5.out, HF.out, HA.out, HLn.out⟩, HB5.out⟩⟩
     case measure => rw [Rd.lenAt HRd5.out, hk.out]; exact HK.out
   · have hz0 : leftS st = 0 := by omega
     have HZ := Lib.hid hz0
     have h0' : ¬ (0 : Int) < (leftS st : Int) := by omega
     obtain ⟨l, f, hOw, hf, hall, hlen⟩ := HN.out.all
     have HE := Lib.hid (show itemsS verO p.1 = (l, doneS st) by rw [hall, itemsF_end HZ.out, List.append_nil])
     have HOw := Lib.hid hOw
     have HLn := Lib.hid (show l.length ≤ 65535 by omega)
     obtain ⟨A5, c5, hv5⟩ := hOw.form
     subst hv5
     have HN1 := Lib.hid HN.out.rd
     have HN2 := Lib.hid HN.out.whole
     have HN3 := Lib.hid HN.out.bel
     clear hOw hall hlen hf HN h0 hz0 hsm
     generalize leftS st = q at *
     rw [HE.out] at HR
     go_wp2_with fail
     refine (done_any r1 p.2 wr HN2.out).mono ?_
     rintro e w4 ⟨rfl, rfl⟩
     obtain ⟨b1, hb1⟩ : ∃ b, doneS p.2 = b := ⟨_, rfl⟩
     rw [hb1] at HR ⊢
     obtain ⟨m, hm⟩ : ∃ m, l.length = m := ⟨_, rfl⟩
     rw [hm]
     have HM := Lib.hid hm
     have HB1 := Lib.hid hb1
     clear hm hb1
     cases b1 with
     | false =>
       go_wp2_with fail
       go_ret2
       rw [HR.out]
       exact ⟨.slice A5 m c5, rfl, by rw [← HM.out]; exact HOw.out, HLn.out, HN3.out⟩
     | true =>
       go_wp2_with fail
       refine (done_any r st wr HN1.out).mono ?_
       rintro e w4 ⟨rfl, rfl⟩
       obtain ⟨b2, hb2⟩ : ∃ b, doneS st = b := ⟨_, rfl⟩
       rw [hb2] at HR HE ⊢
       clear hb2
       cases b2 with
       | false =>
         go_wp2_with fail
         go_ret2
         rw [HR.out]
         exact ⟨.slice A5 m c5, rfl, by rw [← HM.out]; exact HOw.out, HLn.out, HN3.out⟩
       | true =>
         by_cases hm0 : 0 < m
         · have hmi : (0 : Int) < (m : Int) := by omega
           have HD := Lib.hid (show (true && true && decide (0 < l.length)) = true by rw [HM.out]; simpa using hm0)
           simp only [HD.out] at HR
           go_wp2_with fail
           go_ret2
           rw [HR.out]
           exact ⟨.slice A5 m c5, rfl, by rw [← HM.out]; exact HOw.out, HLn.out, HN3.out⟩
         · have hmi : ¬ (0 : Int) < (m : Int) := by omega
           have HD := Lib.hid (show (true && true && decide (0 < l.length)) = false by rw [HM.out]; simpa using hm0)
           simp only [HD.out] at HR
           go_wp2_with fail
           go_ret2
           rw [HR.out]
           exact ⟨.slice A5 m c5, rfl, by rw [← HM.out]; exact HOw.out, HLn.out, HN3.out⟩
end Go.Proofs.YthfknndjdfofgaaGreatDoor.Ex
