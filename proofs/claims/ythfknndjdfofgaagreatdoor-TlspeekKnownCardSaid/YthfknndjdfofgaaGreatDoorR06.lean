/-
 Results that are structs, in a block; one operation of a region that draws, taken by hand; what stays while a row is stored whole. Plain lemmas, no condition.
-/
import Derived.Test.YthfknndjdfofgaaGreatDoorR03
import Derived.Deep.RegionHeldLaw
import Derived.Deep.RegionHeld3
import Derived.Test.YthfknndjdfofgaaGreatDoorR04
import Derived.Test.YthfknndjdfofgaaGreatDoorR05
import Derived.Laws.IdiomCopy
namespace Go.Proofs.YthfknndjdfofgaaGreatDoor.Ro
open Go.RowKit Go.Proofs.YthfknndjdfofgaaGreatDoor.Wd Go.Proofs.YthfknndjdfofgaaGreatDoor.He

theorem ret_one {fn : Func} {p : Tmp} {ty t : TypeId} {a : Act} {w : World} {g n : Nat} {C : Array Value} {d : TypeDesc} {R : Ending → World → Prop} (hf : fn.results = #[.cell p ty]) (hb : Blk w g t C) (hu : Tryz.prog.underlying ty = some d)
   (hd : d.isRow = true) (hi : (Tryz.prog.info? ty).map (·.size) = some n) (hn : C.size = n) (hp : a.tmps.getD p undef = .pointer (some ⟨g, 0, none⟩)) (h : R (.returned (.agg C)) w) (hdf : a.defers = []) : bodyPost Tryz.prog fn R .ret a w :=
 bodyPost_ret (results_cell_row hf _ _ g t C (0, 0) d hp hb hu (by cases d <;> first | rfl | cases hd) (by rw [hi, hn])) hdf h
theorem ret_two {fn : Func} {p q : Tmp} {ty t : TypeId} {a : Act} {w : World} {g n : Nat} {C : Array Value} {v : Value} {d : TypeDesc} {R : Ending → World → Prop} (hf : fn.results = #[.cell p ty, .tmp q]) (hb : Blk w g t C) (hu : Tryz.prog.underlying ty = some d)
   (hd : d.isRow = true) (hi : (Tryz.prog.info? ty).map (·.size) = some n) (hn : C.size = n) (hp : a.tmps.getD p undef = .pointer (some ⟨g, 0, none⟩)) (hq : a.tmps.getD q undef = v) (h : R (.returned (.tuple #[.agg C, v])) w) (hdf : a.defers = []) : bodyPost Tryz.prog fn R .ret a w := by
 have hp' : a.tmps[p]?.getD undef = .pointer (some ⟨g, 0, none⟩) := by simpa using hp
 have hq' : a.tmps[q]?.getD undef = v := by simpa using hq
 have hl := run_loadVar_row w g t ty C (0, 0) d hb hu (by cases d <;> first | rfl | cases hd) (by rw [hi, hn])
 exact bodyPost_ret (v := .tuple #[.agg C, v]) (by simp [results, hf, hp', hq', asAddr, hl]) hdf h
theorem only_new {a w w' : World} {row : Option Nat} {g : Nat} (h : a.grownBy w row) (hb : w.grownBy w' (some g)) (hg : a.heap.size ≤ g) : a.grownBy w' row :=
 ⟨hb.os.trans h.os, hb.tape.trans h.tape, hb.output.trans h.output, Nat.le_trans h.size hb.size, fun i hi hne => (hb.block i (Nat.lt_of_lt_of_le hi h.size) (fun e => by injection e with e; omega)).trans (h.block i hi hne)⟩
end Go.Proofs.YthfknndjdfofgaaGreatDoor.Ro

/-
 Contracts of package exts' readers of one item over this seat's translation: readTyped, readProtocol, readVersion.
-/
namespace Go.Proofs.YthfknndjdfofgaaGreatDoor.Ex
open Go.RowKit Go.Proofs.YthfknndjdfofgaaGreatDoor.Wd Go.Proofs.YthfknndjdfofgaaGreatDoor.Be Go.Proofs.YthfknndjdfofgaaGreatDoor.He Go.Proofs.YthfknndjdfofgaaGreatDoor.Ro

def OneP {α : Type} (val : α → Value) (r : Nat) (w : World) (p : α × Option (List UInt8)) (e : Ending) (w' : World) : Prop := e = .returned (val p.1) ∧ Rd w' r p.2 ∧ w.grownBy w' (some r)
def valS (x : List UInt8) : Value := .string (str8 x)
def valI (n : Int) : Value := .int .i64 n
def valT (x : Int × List UInt8) : Value := .agg #[.int .i64 x.1, .string (str8 x.2)]

theorem undT : Tryz.prog.underlying 188 = some (.struct (Tryz.prog.fieldsOf 188)) := by kernel_rfl
theorem infT : (Tryz.prog.info? 188).map (·.size) = some 2 := by kernel_rfl

set_option maxHeartbeats 400000 in
theorem ver_any (r : Nat) (st : Option (List UInt8)) (w : World) (hr : Rd w r st) (hl : leftS st ≤ 65535) :
   Calls Tryz.prog 177 #[.pointer (some ⟨r, 0, none⟩)] w (OneP valI r w (verO st)) := by
 go_enter Tryz.func177, Tryz.ntmps177
 go_wp2_with fail
 refine (num_any r 2 st w hr (left_bd (by omega))).mono ?_
 rintro e w1 ⟨rfl, hrd, hg⟩
 have H := Lib.hid hrd
 clear hrd hr
 go_wp2_with fail
 go_ret
 exact ⟨rfl, H.out, hg⟩

set_option maxHeartbeats 400000 in
theorem pro_any (r : Nat) (st : Option (List UInt8)) (w : World) (hr : Rd w r st) (hl : leftS st ≤ 65535) :
   Calls Tryz.prog 174 #[.pointer (some ⟨r, 0, none⟩)] w (OneP valS r w (proO st)) := by
 go_enter Tryz.func174, Tryz.ntmps174
 go_wp2_with fail
 refine (rvec_any r 1 st w hr (left_bd (by omega))).mono ?_
 rintro e w1 ⟨v, rfl, hsl, hrd, hg⟩
 obtain ⟨A, c, rfl, _, hs⟩ := hsl.src
 have hcv := con8 (c := c) hs
 have H := Lib.hid hrd
 have HG := Lib.hid hg
 have HV := Lib.hid (show proO st = vecS st 1 from rfl)
 clear hrd hr hsl hs hg
 generalize vecS st 1 = p at *
 go_wp2_with fail
 go_ret
 rw [HV.out]
 exact ⟨rfl, H.out, HG.out⟩

set_option maxRecDepth 100000 in
set_option maxHeartbeats 800000 in
theorem typ_any (r : Nat) (st : Option (List UInt8)) (w : World) (hr : Rd w r st) (hl : leftS st ≤ 65535) :
   Calls Tryz.prog 170 #[.pointer (some ⟨r, 0, none⟩)] w (OneP valT r w (typO st)) := by
 have HT := Lib.hid (show typO st = ((((numS st 1).1 : Int), (vecS (numS st 1).2 2).1), (vecS (numS st 1).2 2).2) from rfl)
 have hl2 : leftS (numS st 1).2 ≤ 65535 := Nat.le_trans (take_less _ _) hl
 have HR := Lib.hid hr
 have hlt := hr.lt
 clear hr
 go_enter Tryz.func170, Tryz.ntmps170
 go_wp2_with fail
 refine (num_any r 1 st _ (HR.out.below ((Below.refl w.heap.size w).alloc (Nat.le_refl _) _) (Nat.le_refl _)) (left_bd (by omega))).mono ?_
 rintro e w1 ⟨rfl, hrd, hg⟩
 have hb0 : Blk w1 w.heap.size 188 #[.int .i64 0, .string .empty] := (Blk.new w 188 #[.int .i64 0, .string .empty]).grown hg (by simp; omega)
 have hg1 : w.grownBy w1 (some r) := only_trans (only_alloc (only_refl w (some r)) _) hg
 have H := Lib.hid hrd
 have HG := Lib.hid hg1
 have HB := Lib.hid hb0
 clear hrd hg hg1 hb0 HR
 generalize numS st 1 = p at *
 go_wp2_with fail
 refine (rvec_any r 2 p.2 w1 H.out (left_bd (by omega))).mono ?_
 rintro e w2 ⟨v, rfl, hsl, hrd, hg⟩
 obtain ⟨A, c, rfl, _, hs⟩ := hsl.src
 have hcv := con8 (c := c) hs
 have hne : w.heap.size ≠ r := by omega
 have hb2 : Blk w2 w.heap.size 188 #[.int .i64 0, .string .empty] := HB.out.grown hg (by simp [hne])
 have HB2 := Lib.hid hb2
 have hc0 := hb2.cell 0
 have hc1 := hb2.cell 1
 have hf0 := hb2.frozen 0
 have hf1 := hb2.frozen 1
 have H2 := Lib.hid hrd
 have HG2 := Lib.hid (only_trans HG.out hg)
 clear hrd hsl hs hg HB HG H hb2
 generalize vecS p.2 2 = q at *
 go_wp2_with fail
 have hb3 := (HB2.out.set_ 0 (.int .i64 (p.1 : Int))).set_ 1 (.string ⟨q.1.toArray⟩)
 rw [set2_0, set2_1] at hb3
 have hgg := only_setCell (p := ⟨w.heap.size, 1, none⟩) (only_setCell (p := ⟨w.heap.size, 0, none⟩) (only_refl w2 (some w.heap.size)) (.inl rfl) (.int .i64 (p.1 : Int))) (.inl rfl) (.string ⟨q.1.toArray⟩)
 have hrd3 := Rd.off (T := TB) H2.out hgg (OffT.of_blk HB2.out (by unfold TB; decide)) (.inl rfl) (.inr rfl)
 have hg3 := Ro.only_new HG2.out hgg (Nat.le_refl _)
 refine Ro.ret_one Tryz.results170 hb3 undT rfl infT rfl rfl ?_ rfl
 rw [HT.out]
 exact ⟨rfl, hrd3, hg3⟩
end Go.Proofs.YthfknndjdfofgaaGreatDoor.Ex

/-
 Contract of package exts' read over this seat's translation, at []exts.typed.
-/
namespace Go.Proofs.YthfknndjdfofgaaGreatDoor.Ex
open Go.RowKit Go.Proofs.YthfknndjdfofgaaGreatDoor.Wd Go.Proofs.YthfknndjdfofgaaGreatDoor.Be Go.Proofs.YthfknndjdfofgaaGreatDoor.He Go.Proofs.YthfknndjdfofgaaGreatDoor.Ro

structure rdTAt (w : World) (B r1 r : Nat) (st1 : Option (List UInt8)) (xs : List UInt8) (v : Value) (st : Option (List UInt8)) (wr : World) : Prop where
 rd : Rd wr r st
 whole : Rd wr r1 st1
 all : ∃ l f, OwnE wr elT B v l ∧ leftS st < f ∧ itemsS typO xs = (l ++ (itemsF typO f st).1, (itemsF typO f st).2) ∧ l.length + leftS st ≤ 65535
 bel : Below w.heap.size w wr

set_option maxRecDepth 100000 in
set_option maxHeartbeats 1000000 in
theorem rdT_any (A : Option Addr) (n c : Nat) (size : Int) (xs : List UInt8) (w : World) (hs : Src w A n xs) (hn : n ≤ 140737488355320) (hz : size = 1 ∨ size = 2) :
   Calls Tryz.prog 169 #[.slice A n c, .int .i64 size, .func (.func 170) #[] #[]] w fun e w' => ∃ v, e = .returned (.tuple #[v, .bool (readS typO size xs).2]) ∧ OwnE w' elT w.heap.size v (readS typO size xs).1 ∧ (readS typO size xs).1.length ≤ 65535 ∧ Below w.heap.size w w' := by
 have HR := Lib.hid (show readS typO size xs = ((itemsS typO (vecS (some xs) size).1).1, doneS (vecS (some xs) size).2 && (itemsS typO (vecS (some xs) size).1).2 && decide (0 < (itemsS typO (vecS (some xs) size).1).1.length)) from rfl)
 have hsm : (vecS (some xs) size).1.length ≤ 65535 := by
   rcases hz with rfl | rfl
   · have := vec_small1 (some xs); omega
   · have := vec_small (some xs); omega
 have hrest := Lib.hid (show leftS (vecS (some xs) size).2 ≤ 140737488355320 from Nat.le_trans (Nat.le_trans (take_less _ _) (take_less _ _)) (by show xs.length ≤ _; rw [hs.1]; exact hn))
 go_enter Tryz.func169, Tryz.ntmps169
 go_wp2_with fail
 refine (read_any A n c xs w hs hn).mono ?_
 rintro e w1 ⟨r1, rfl, hr1, hrd1, hb1⟩
 have H1 := Lib.hid hrd1
 have HB1 := Lib.hid hb1
 clear hrd1 hb1
 go_wp2_with fail
 refine (rvec_any r1 size (some xs) w1 H1.out (fun rest h => by injection h with h; subst h; rw [hs.1]; exact hn)).mono ?_
 rintro e w2 ⟨v2, rfl, hsl, hrd2, hg2⟩
 generalize vecS (some xs) size = p at *
 have H2 := Lib.hid hrd2
 have HB2 := Lib.hid (HB1.out.grown hg2 HB1.out.size (fun j hj => by injection hj with hj; omega))
 obtain ⟨A2, c2, rfl, _, hs2⟩ := hsl.src
 clear hrd2 hg2 hsl H1 HB1 hs
 go_wp2_with fail
 refine (read_any A2 _ c2 p.1 w2 hs2 (by omega)).mono ?_
 rintro e w3 ⟨r, rfl, hr, hrd, hb3⟩
 have hlt := H2.out.lt
 have hr1r : r1 ≠ r := by omega
 have hwr : w.heap.size ≤ r := Nat.le_trans HB2.out.size hr
 have H0 : Hid (rdTAt w w.heap.size r1 r p.2 p.1 (.slice none 0 0) (some p.1) w3) := ⟨hrd, H2.out.below hb3 (Nat.le_refl _), ⟨[], p.1.length + 1, OwnE.nil _ _ _, by show p.1.length < _; omega, rfl, by show 0 + p.1.length ≤ _; omega⟩, HB2.out.trans (hb3.mono HB2.out.size)⟩
 clear hrd hb3 H2 HB2 hs2 hlt hr
 go_wp2_with fail
 go_loopw [10] (fun v wr => ∃ st, Hid (rdTAt w w.heap.size r1 r p.2 p.1 v st wr)) (fun _ wr => lenAt wr r)
 case atStart => exact ⟨_, H0⟩
 case round =>
   clear H0
   obtain ⟨st, HN⟩ := hrel
   go_wp2_with fail
   refine (left_any r st wr HN.out.rd).mono ?_
   rintro e w4 ⟨rfl, rfl⟩
   by_cases h0 : 0 < leftS st
   · have h0' : (0 : Int) < (leftS st : Int) := by omega
     have HL := Lib.hid h0
     have hk := Lib.hid (Rd.lenAt HN.out.rd)
     generalize hq : leftS st = q at *
     have HQ := Lib.hid hq
     clear hq
     go_wp2_with fail
     refine (typ_any r st wr HN.out.rd (by have := HQ.out; obtain ⟨l, f, _, _, _, h⟩ := HN.out.all; omega)).mono ?_
     rintro e w4 ⟨rfl, hrd4, hg4⟩
     obtain ⟨cs, hblk⟩ := HN.out.rd.blk
     have HK := Lib.hid (show leftS (typO st).2 < q from by have := typO_less st (by rw [HQ.out]; exact HL.out); rw [HQ.out] at this; exact this)
     obtain ⟨l, f, hOw, hf, hall, hlen⟩ := HN.out.all
     have HOw := Lib.hid (hOw.off hg4 (OffT.of_blk hblk (by decide)))
     obtain ⟨f', rfl⟩ : ∃ f', f = f' + 1 := ⟨f - 1, by omega⟩
     have HA : Hid (itemsS typO p.1 = ((l ++ [(typO st).1]) ++ (itemsF typO f' (typO st).2).1, (itemsF typO f' (typO st).2).2)) := by
       rw [hall, itemsF_step (by rw [HQ.out]; exact HL.out), List.append_assoc]; rfl
     have HF := Lib.hid (show leftS (typO st).2 < f' by have := HK.out; have := HQ.out; omega)
     have HLn := Lib.hid (show (l ++ [(typO st).1]).length + leftS (typO st).2 ≤ 65535 by rw [List.length_append]; have := HK.out; have := HQ.out; simp only [List.length_cons, List.length_nil]; omega)
     have hlen' : l.length ≤ 65535 := by omega
     have HW := Lib.hid (HN.out.whole.grown hblk hr1r hg4)
     have HB4 := Lib.hid (HN.out.bel.grown hg4 HN.out.bel.size (fun j hj => by injection hj with hj; omega))
     have HRd := Lib.hid hrd4
     have hsz := HB4.out.size
     clear hrd4 hg4 hOw hf hall hlen hblk h0 h0' HN HQ HL
     generalize typO st = y at *
     obtain ⟨x, st'⟩ := y
     simp only at HRd HK HA HF HLn
     have hC : (#[.int .i64 x.1, .string (str8 x.2)] : Array Value) = (Ro.flat elT [x]).toArray := by rw [Ro.flat_one]; rfl
     have HSr := Lib.hid (SrcE.new fineT w4 [x] #[.int .i64 x.1, .string (str8 x.2)] hC 188)
     have HOa := Lib.hid (HOw.out.alloc (.cells #[.int .i64 x.1, .string (str8 x.2)] 188))
     have HGe := Lib.hid (OwnE.ge HOa.out)
     have HOff := Lib.hid (HOa.out.block (T := TB) (by unfold TB; decide))
     have HBa := Lib.hid (HB4.out.alloc hsz (.cells #[.int .i64 x.1, .string (str8 x.2)] 188))
     have HRa := Lib.hid (HRd.out.below (Below.refl w4.heap.size w4 |>.alloc (Nat.le_refl _) (.cells #[.int .i64 x.1, .string (str8 x.2)] 188)) (Nat.le_refl _))
     have HWa := Lib.hid (HW.out.below (Below.refl w4.heap.size w4 |>.alloc (Nat.le_refl _) (.cells #[.int .i64 x.1, .string (str8 x.2)] 188)) (Nat.le_refl _))
     clear HW HB4 HRd HOw hC
     unfold valT
     go_wp2_with (at_builtin; refine wpList_appE fineT rfl _ _ rfl w.heap.size _ l rfl (by exact HOa.out) _ 1 1 [x] rfl rfl (by simp) (by exact HSr.out) (by simp; omega) (by decide) (by simp; omega) ?_; intro v5 w5 ho5 hg5)
     have HB5 := Lib.hid (HBa.out.grown hg5.out (by simp; omega) (fun j hj => HGe.out j hj))
     have HRd5 := Lib.hid (Rd.off (T := TB) HRa.out hg5.out HOff.out (.inl rfl) (.inr rfl))
     have HWd5 := Lib.hid (Rd.off (T := TB) HWa.out hg5.out HOff.out (.inl rfl) (.inr rfl))
     clear hg5 HBa HRa HWa HGe HOff HSr HOa
     go_roundw
     case rel => exact ⟨st', Lib.hid ⟨HRd5.out, HWd5.out, ⟨_, f', ho5.out, HF.out, HA.out, HLn.out⟩, HB5.out⟩⟩
     case measure => rw [Rd.lenAt HRd5.out, hk.out]; exact HK.out
   · have hz0 : leftS st = 0 := by omega
     have HZ := Lib.hid hz0
     have h0' : ¬ (0 : Int) < (leftS st : Int) := by omega
     obtain ⟨l, f, hOw, hf, hall, hlen⟩ := HN.out.all
     have HE := Lib.hid (show itemsS typO p.1 = (l, doneS st) by rw [hall, itemsF_end HZ.out, List.append_nil])
     have HOw := Lib.hid hOw
     have HLn := Lib.hid (show l.length ≤ 65535 by omega)
     obtain ⟨A5, c5, hv5⟩ := hOw.form
     subst hv5
     have HN1 := Lib.hid HN.out.rd
     have HN2 := Lib.hid HN.out.whole
     have HN3 := Lib.hid HN.out.bel
     clear hOw hall hlen hf HN h0 hz0 hsm
     generalize leftS st = q at *
     rw [HE.out] at HR
     go_wp2_with fail
     refine (done_any r1 p.2 wr HN2.out).mono ?_
     rintro e w4 ⟨rfl, rfl⟩
     obtain ⟨b1, hb1⟩ : ∃ b, doneS p.2 = b := ⟨_, rfl⟩
     rw [hb1] at HR ⊢
     obtain ⟨m, hm⟩ : ∃ m, l.length = m := ⟨_, rfl⟩
     rw [hm]
     have HM := Lib.hid hm
     have HB1 := Lib.hid hb1
     clear hm hb1
     cases b1 with
     | false =>
       go_wp2_with fail
       go_ret2
       rw [HR.out]
       exact ⟨.slice A5 m c5, rfl, by rw [← HM.out]; exact HOw.out, HLn.out, HN3.out⟩
     | true =>
       go_wp2_with fail
       refine (done_any r st wr HN1.out).mono ?_
       rintro e w4 ⟨rfl, rfl⟩
       obtain ⟨b2, hb2⟩ : ∃ b, doneS st = b := ⟨_, rfl⟩
       rw [hb2] at HR HE ⊢
       clear hb2
       cases b2 with
       | false =>
         go_wp2_with fail
         go_ret2
         rw [HR.out]
         exact ⟨.slice A5 m c5, rfl, by rw [← HM.out]; exact HOw.out, HLn.out, HN3.out⟩
       | true =>
         by_cases hm0 : 0 < m
         · have hmi : (0 : Int) < (m : Int) := by omega
           have HD := Lib.hid (show (true && true && decide (0 < l.length)) = true by rw [HM.out]; simpa using hm0)
           simp only [HD.out] at HR
           go_wp2_with fail
           go_ret2
           rw [HR.out]
           exact ⟨.slice A5 m c5, rfl, by rw [← HM.out]; exact HOw.out, HLn.out, HN3.out⟩
         · have hmi : ¬ (0 : Int) < (m : Int) := by omega
           have HD := Lib.hid (show (true && true && decide (0 < l.length)) = false by rw [HM.out]; simpa using hm0)
           simp only [HD.out] at HR
           go_wp2_with fail
           go_ret2
           rw [HR.out]
           exact ⟨.slice A5 m c5, rfl, by rw [← HM.out]; exact HOw.out, HLn.out, HN3.out⟩
end Go.Proofs.YthfknndjdfofgaaGreatDoor.Ex

/-
 Contract of package exts' read over this seat's translation, at []string.
-/
namespace Go.Proofs.YthfknndjdfofgaaGreatDoor.Ex
open Go.RowKit Go.Proofs.YthfknndjdfofgaaGreatDoor.Wd Go.Proofs.YthfknndjdfofgaaGreatDoor.Be Go.Proofs.YthfknndjdfofgaaGreatDoor.He Go.Proofs.YthfknndjdfofgaaGreatDoor.Ro

structure rdSAt (w : World) (B r1 r : Nat) (st1 : Option (List UInt8)) (xs : List UInt8) (v : Value) (st : Option (List UInt8)) (wr : World) : Prop where
 rd : Rd wr r st
 whole : Rd wr r1 st1
 all : ∃ l f, OwnE wr elS B v l ∧ leftS st < f ∧ itemsS proO xs = (l ++ (itemsF proO f st).1, (itemsF proO f st).2) ∧ l.length + leftS st ≤ 65535
 bel : Below w.heap.size w wr

set_option maxRecDepth 100000 in
set_option maxHeartbeats 1000000 in
theorem rdS_any (A : Option Addr) (n c : Nat) (size : Int) (xs : List UInt8) (w : World) (hs : Src w A n xs) (hn : n ≤ 140737488355320) (hz : size = 1 ∨ size = 2) :
   Calls Tryz.prog 173 #[.slice A n c, .int .i64 size, .func (.func 174) #[] #[]] w fun e w' => ∃ v, e = .returned (.tuple #[v, .bool (readS proO size xs).2]) ∧ OwnE w' elS w.heap.size v (readS proO size xs).1 ∧ (readS proO size xs).1.length ≤ 65535 ∧ Below w.heap.size w w' := by
 have HR := Lib.hid (show readS proO size xs = ((itemsS proO (vecS (some xs) size).1).1, doneS (vecS (some xs) size).2 && (itemsS proO (vecS (some xs) size).1).2 && decide (0 < (itemsS proO (vecS (some xs) size).1).1.length)) from rfl)
 have hsm : (vecS (some xs) size).1.length ≤ 65535 := by
   rcases hz with rfl | rfl
   · have := vec_small1 (some xs); omega
   · have := vec_small (some xs); omega
 have hrest := Lib.hid (show leftS (vecS (some xs) size).2 ≤ 140737488355320 from Nat.le_trans (Nat.le_trans (take_less _ _) (take_less _ _)) (by show xs.length ≤ _; rw [hs.1]; exact hn))
 go_enter Tryz.func173, Tryz.ntmps173
 go_wp2_with fail
 refine (read_any A n c xs w hs hn).mono ?_
 rintro e w1 ⟨r1, rfl, hr1, hrd1, hb1⟩
 have H1 := Lib.hid hrd1
 have HB1 := Lib.hid hb1
 clear hrd1 hb1
 go_wp2_with fail
 refine (rvec_any r1 size (some xs) w1 H1.out (fun rest h => by injection h with h; subst h; rw [hs.1]; exact hn)).mono ?_
 rintro e w2 ⟨v2, rfl, hsl, hrd2, hg2⟩
 generalize vecS (some xs) size = p at *
 have H2 := Lib.hid hrd2
 have HB2 := Lib.hid (HB1.out.grown hg2 HB1.out.size (fun j hj => by injection hj with hj; omega))
 obtain ⟨A2, c2, rfl, _, hs2⟩ := hsl.src
 clear hrd2 hg2 hsl H1 HB1 hs
 go_wp2_with fail
 refine (read_any A2 _ c2 p.1 w2 hs2 (by omega)).mono ?_
 rintro e w3 ⟨r, rfl, hr, hrd, hb3⟩
 have hlt := H2.out.lt
 have hr1r : r1 ≠ r := by omega
 have hwr : w.heap.size ≤ r := Nat.le_trans HB2.out.size hr
 have H0 : Hid (rdSAt w w.heap.size r1 r p.2 p.1 (.slice none 0 0) (some p.1) w3) := ⟨hrd, H2.out.below hb3 (Nat.le_refl _), ⟨[], p.1.length + 1, OwnE.nil _ _ _, by show p.1.length < _; omega, rfl, by show 0 + p.1.length ≤ _; omega⟩, HB2.out.trans (hb3.mono HB2.out.size)⟩
 clear hrd hb3 H2 HB2 hs2 hlt hr
 go_wp2_with fail
 go_loopw [10] (fun v wr => ∃ st, Hid (rdSAt w w.heap.size r1 r p.2 p.1 v st wr)) (fun _ wr => lenAt wr r)
 case atStart => exact ⟨_, H0⟩
 case round =>
   clear H0
   obtain ⟨st, HN⟩ := hrel
   go_wp2_with fail
   refine (left_any r st wr HN.out.rd).mono ?_
   rintro e w4 ⟨rfl, rfl⟩
   by_cases h0 : 0 < leftS st
   · have h0' : (0 : Int) < (leftS st : Int) := by omega
     have HL := Lib.hid h0
     have hk := Lib.hid (Rd.lenAt HN.out.rd)
     generalize hq : leftS st = q at *
     have HQ := Lib.hid hq
     clear hq
     go_wp2_with fail
     refine (pro_any r st wr HN.out.rd (by have := HQ.out; obtain ⟨l, f, _, _, _, h⟩ := HN.out.all; omega)).mono ?_
     rintro e w4 ⟨rfl, hrd4, hg4⟩
     obtain ⟨cs, hblk⟩ := HN.out.rd.blk
     have HK := Lib.hid (show leftS (proO st).2 < q from by have := proO_less st (by rw [HQ.out]; exact HL.out); rw [HQ.out] at this; exact this)
     obtain ⟨l, f, hOw, hf, hall, hlen⟩ := HN.out.all
     have HOw := Lib.hid (hOw.off hg4 (OffT.of_blk hblk (by decide)))
     obtain ⟨f', rfl⟩ : ∃ f', f = f' + 1 := ⟨f - 1, by omega⟩
     have HA : Hid (itemsS proO p.1 = ((l ++ [(proO st).1]) ++ (itemsF proO f' (proO st).2).1, (itemsF proO f' (proO st).2).2)) := by
       rw [hall, itemsF_step (by rw [HQ.out]; exact HL.out), List.append_assoc]; rfl
     have HF := Lib.hid (show leftS (proO st).2 < f' by have := HK.out; have := HQ.out; omega)
     have HLn := Lib.hid (show (l ++ [(proO st).1]).length + leftS (proO st).2 ≤ 65535 by rw [List.length_append]; have := HK.out; have := HQ.out; simp only [List.length_cons, List.length_nil]; omega)
     have hlen' : l.length ≤ 65535 := by omega
     have HW := Lib.hid (HN.out.whole.grown hblk hr1r hg4)
     have HB4 := Lib.hid (HN.out.bel.grown hg4 HN.out.bel.size (fun j hj => by injection hj with hj; omega))
     have HRd := Lib.hid hrd4
     have hsz := HB4.out.size
     clear hrd4 hg4 hOw hf hall hlen hblk h0 h0' HN HQ HL
     generalize proO st = y at *
     obtain ⟨x, st'⟩ := y
     simp only at HRd HK HA HF HLn
     have hC : (#[.string (str8 x)] : Array Value) = (Ro.flat elS [x]).toArray := by rw [Ro.flat_one]; rfl
     have HSr := Lib.hid (SrcE.new fineS w4 [x] #[.string (str8 x)] hC 9)
     have HOa := Lib.hid (HOw.out.alloc (.cells #[.string (str8 x)] 9))
     have HGe := Lib.hid (OwnE.ge HOa.out)
     have HOff := Lib.hid (HOa.out.block (T := TB) (by unfold TB; decide))
     have HBa := Lib.hid (HB4.out.alloc hsz (.cells #[.string (str8 x)] 9))
     have HRa := Lib.hid (HRd.out.below (Below.refl w4.heap.size w4 |>.alloc (Nat.le_refl _) (.cells #[.string (str8 x)] 9)) (Nat.le_refl _))
     have HWa := Lib.hid (HW.out.below (Below.refl w4.heap.size w4 |>.alloc (Nat.le_refl _) (.cells #[.string (str8 x)] 9)) (Nat.le_refl _))
     clear HW HB4 HRd HOw hC
     unfold valS
     go_wp2_with (at_builtin; refine wpList_appE fineS rfl _ _ rfl w.heap.size _ l rfl (by exact HOa.out) _ 1 1 [x] rfl rfl (by simp) (by exact HSr.out) (by simp; omega) (by decide) (by simp; omega) ?_; intro v5 w5 ho5 hg5)
     have HB5 := Lib.hid (HBa.out.grown hg5.out (by simp; omega) (fun j hj => HGe.out j hj))
     have HRd5 := Lib.hid (Rd.off (T := TB) HRa.out hg5.out HOff.out (.inl rfl) (.inr rfl))
     have HWd5 := Lib.hid (Rd.off (T := TB) HWa.out hg5.out HOff.out (.inl rfl) (.inr rfl))
     clear hg5 HBa HRa HWa HGe HOff HSr HOa
     go_roundw
     case rel => exact ⟨st', Lib.hid ⟨HRd5.out, HWd5.out, ⟨_, f', ho5.out, HF.out, HA.out, HLn.out⟩, HB5.out⟩⟩
     case measure => rw [Rd.lenAt HRd5.out, hk.out]; exact HK.out
   · have hz0 : leftS st = 0 := by omega
     have HZ := Lib.hid hz0
     have h0' : ¬ (0 : Int) < (leftS st : Int) := by omega
     obtain ⟨l, f, hOw, hf, hall, hlen⟩ := HN.out.all
     have HE := Lib.hid (show itemsS proO p.1 = (l, doneS st) by rw [hall, itemsF_end HZ.out, List.append_nil])
     have HOw := Lib.hid hOw
     have HLn := Lib.hid (show l.length ≤ 65535 by omega)
     obtain ⟨A5, c5, hv5⟩ := hOw.form
     subst hv5
     have HN1 := Lib.hid HN.out.rd
     have HN2 := Lib.hid HN.out.whole
     have HN3 := Lib.hid HN.out.bel
     clear hOw hall hlen hf HN h0 hz0 hsm
     generalize leftS st = q at *
     rw [HE.out] at HR
     go_wp2_with fail
     refine (done_any r1 p.2 wr HN2.out).mono ?_
     rintro e w4 ⟨rfl, rfl⟩
     obtain ⟨b1, hb1⟩ : ∃ b, doneS p.2 = b := ⟨_, rfl⟩
     rw [hb1] at HR ⊢
     obtain ⟨m, hm⟩ : ∃ m, l.length = m := ⟨_, rfl⟩
     rw [hm]
     have HM := Lib.hid hm
     have HB1 := Lib.hid hb1
     clear hm hb1
     cases b1 with
     | false =>
       go_wp2_with fail
       go_ret2
       rw [HR.out]
       exact ⟨.slice A5 m c5, rfl, by rw [← HM.out]; exact HOw.out, HLn.out, HN3.out⟩
     | true =>
       go_wp2_with fail
       refine (done_any r st wr HN1.out).mono ?_
       rintro e w4 ⟨rfl, rfl⟩
       obtain ⟨b2, hb2⟩ : ∃ b, doneS st = b := ⟨_, rfl⟩
       rw [hb2] at HR HE ⊢
       clear hb2
       cases b2 with
       | false =>
         go_wp2_with fail
         go_ret2
         rw [HR.out]
         exact ⟨.slice A5 m c5, rfl, by rw [← HM.out]; exact HOw.out, HLn.out, HN3.out⟩
       | true =>
         by_cases hm0 : 0 < m
         · have hmi : (0 : Int) < (m : Int) := by omega
           have HD := Lib.hid (show (true && true && decide (0 < l.length)) = true by rw [HM.out]; simpa using hm0)
           simp only [HD.out] at HR
           go_wp2_with fail
           go_ret2
           rw [HR.out]
           exact ⟨.slice A5 m c5, rfl, by rw [← HM.out]; exact HOw.out, HLn.out, HN3.out⟩
         · have hmi : ¬ (0 : Int) < (m : Int) := by omega
           have HD := Lib.hid (show (true && true && decide (0 < l.length)) = false by rw [HM.out]; simpa using hm0)
           simp only [HD.out] at HR
           go_wp2_with fail
           go_ret2
           rw [HR.out]
           exact ⟨.slice A5 m c5, rfl, by rw [← HM.out]; exact HOw.out, HLn.out, HN3.out⟩
end Go.Proofs.YthfknndjdfofgaaGreatDoor.Ex

/-
 Contract of package exts' read over this seat's translation, at []int.
-/
namespace Go.Proofs.YthfknndjdfofgaaGreatDoor.Ex
open Go.RowKit Go.Proofs.YthfknndjdfofgaaGreatDoor.Wd Go.Proofs.YthfknndjdfofgaaGreatDoor.Be Go.Proofs.YthfknndjdfofgaaGreatDoor.He Go.Proofs.YthfknndjdfofgaaGreatDoor.Ro

structure rdIAt (w : World) (B r1 r : Nat) (st1 : Option (List UInt8)) (xs : List UInt8) (v : Value) (st : Option (List UInt8)) (wr : World) : Prop where
 rd : Rd wr r st
 whole : Rd wr r1 st1
 all : ∃ l f, OwnE wr elI B v l ∧ leftS st < f ∧ itemsS verO xs = (l ++ (itemsF verO f st).1, (itemsF verO f st).2) ∧ l.length + leftS st ≤ 65535
 bel : Below w.heap.size w wr

set_option maxRecDepth 100000 in
set_option maxHeartbeats 1000000 in
theorem rdI_any (A : Option Addr) (n c : Nat) (size : Int) (xs : List UInt8) (w : World) (hs : Src w A n xs) (hn : n ≤ 140737488355320) (hz : size = 1 ∨ size = 2) :
   Calls Tryz.prog 176 #[.slice A n c, .int .i64 size, .func (.func 177) #[] #[]] w fun e w' => ∃ v, e = .returned (.tuple #[v, .bool (readS verO size xs).2]) ∧ OwnE w' elI w.heap.size v (readS verO size xs).1 ∧ (readS verO size xs).1.length ≤ 65535 ∧ Below w.heap.size w w' := by
 have HR := Lib.hid (show readS verO size xs = ((itemsS verO (vecS (some xs) size).1).1, doneS (vecS (some xs) size).2 && (itemsS verO (vecS (some xs) size).1).2 && decide (0 < (itemsS verO (vecS (some xs) size).1).1.length)) from rfl)
 have hsm : (vecS (some xs) size).1.length ≤ 65535 := by
   rcases hz with rfl | rfl
   · have := vec_small1 (some xs); omega
   · have := vec_small (some xs); omega
 have hrest := Lib.hid (show leftS (vecS (some xs) size).2 ≤ 140737488355320 from Nat.le_trans (Nat.le_trans (take_less _ _) (take_less _ _)) (by show xs.length ≤ _; rw [hs.1]; exact hn))
 go_enter Tryz.func176, Tryz.ntmps176
 go_wp2_with fail
 refine (read_any A n c xs w hs hn).mono ?_
 rintro e w1 ⟨r1, rfl, hr1, hrd1, hb1⟩
 have H1 := Lib.hid hrd1
 have HB1 := Lib.hid hb1
 clear hrd1 hb1
 go_wp2_with fail
 refine (rvec_any r1 size (some xs) w1 H1.out (fun rest h => by injection h with h; subst h; rw [hs.1]; exact hn)).mono ?_
 rintro e w2 ⟨v2, rfl, hsl, hrd2, hg2⟩
 generalize vecS (some xs) size = p at *
 have H2 := Lib.hid hrd2
 have HB2 := Lib.hid (HB1.out.grown hg2 HB1.out.size (fun j hj => by injection hj with hj; omega))
 obtain ⟨A2, c2, rfl, _, hs2⟩ := hsl.src
 clear hrd2 hg2 hsl H1 HB1 hs
 go_wp2_with fail
 refine (read_any A2 _ c2 p.1 w2 hs2 (by omega)).mono ?_
 rintro e w3 ⟨r, rfl, hr, hrd, hb3⟩
 have hlt := H2.out.lt
 have hr1r : r1 ≠ r := by omega
 have hwr : w.heap.size ≤ r := Nat.le_trans HB2.out.size hr
 have H0 : Hid (rdIAt w w.heap.size r1 r p.2 p.1 (.slice none 0 0) (some p.1) w3) := ⟨hrd, H2.out.below hb3 (Nat.le_refl _), ⟨[], p.1.length + 1, OwnE.nil _ _ _, by show p.1.length < _; omega, rfl, by show 0 + p.1.length ≤ _; omega⟩, HB2.out.trans (hb3.mono HB2.out.size)⟩
 clear hrd hb3 H2 HB2 hs2 hlt hr
 go_wp2_with fail
 go_loopw [10] (fun v wr => ∃ st, Hid (rdIAt w w.heap.size r1 r p.2 p.1 v st wr)) (fun _ wr => lenAt wr r)
 case atStart => exact ⟨_, H0⟩
 case round =>
   clear H0
   obtain ⟨st, HN⟩ := hrel
   go_wp2_with fail
   refine (left_any r st wr HN.out.rd).mono ?_
   rintro e w4 ⟨rfl, rfl⟩
   by_cases h0 : 0 < leftS st
   · have h0' : (0 : Int) < (leftS st : Int) := by omega
     have HL := Lib.hid h0
     have hk := Lib.hid (Rd.lenAt HN.out.rd)
     generalize hq : leftS st = q at *
     have HQ := Lib.hid hq
     clear hq
     go_wp2_with fail
     refine (ver_any r st wr HN.out.rd (by have := HQ.out; obtain ⟨l, f, _, _, _, h⟩ := HN.out.all; omega)).mono ?_
     rintro e w4 ⟨rfl, hrd4, hg4⟩
     obtain ⟨cs, hblk⟩ := HN.out.rd.blk
     have HK := Lib.hid (show leftS (verO st).2 < q from by have := verO_less st (by rw [HQ.out]; exact HL.out); rw [HQ.out] at this; exact this)
     obtain ⟨l, f, hOw, hf, hall, hlen⟩ := HN.out.all
     have HOw := Lib.hid (hOw.off hg4 (OffT.of_blk hblk (by decide)))
     obtain ⟨f', rfl⟩ : ∃ f', f = f' + 1 := ⟨f - 1, by omega⟩
     have HA : Hid (itemsS verO p.1 = ((l ++ [(verO st).1]) ++ (itemsF verO f' (verO st).2).1, (itemsF verO f' (verO st).2).2)) := by
       rw [hall, itemsF_step (by rw [HQ.out]; exact HL.out), List.append_assoc]; rfl
     have HF := Lib.hid (show leftS (verO st).2 < f' by have := HK.out; have := HQ.out; omega)
     have HLn := Lib.hid (show (l ++ [(verO st).1]).length + leftS (verO st).2 ≤ 65535 by rw [List.length_append]; have := HK.out; have := HQ.out; simp only [List.length_cons, List.length_nil]; omega)
     have hlen' : l.length ≤ 65535 := by omega
     have HW := Lib.hid (HN.out.whole.grown hblk hr1r hg4)
     have HB4 := Lib.hid (HN.out.bel.grown hg4 HN.out.bel.size (fun j hj => by injection hj with hj; omega))
     have HRd := Lib.hid hrd4
     have hsz := HB4.out.size
     clear hrd4 hg4 hOw hf hall hlen hblk h0 h0' HN HQ HL
     generalize verO st = y at *
     obtain ⟨x, st'⟩ := y
     simp only at HRd HK HA HF HLn
     have hC : (#[.int .i64 x] : Array Value) = (Ro.flat elI [x]).toArray := by rw [Ro.flat_one]; rfl
     have HSr := Lib.hid (SrcE.new fineI w4 [x] #[.int .i64 x] hC 3)
     have HOa := Lib.hid (HOw.out.alloc (.cells #[.int .i64 x] 3))
     have HGe := Lib.hid (OwnE.ge HOa.out)
     have HOff := Lib.hid (HOa.out.block (T := TB) (by unfold TB; decide))
     have HBa := Lib.hid (HB4.out.alloc hsz (.cells #[.int .i64 x] 3))
     have HRa := Lib.hid (HRd.out.below (Below.refl w4.heap.size w4 |>.alloc (Nat.le_refl _) (.cells #[.int .i64 x] 3)) (Nat.le_refl _))
     have HWa := Lib.hid (HW.out.below (Below.refl w4.heap.size w4 |>.alloc (Nat.le_refl _) (.cells #[.int .i64 x] 3)) (Nat.le_refl _))
     clear HW HB4 HRd HOw hC
     unfold valI
     go_wp2_with (at_builtin; refine wpList_appE fineI rfl _ _ rfl w.heap.size _ l rfl (by exact HOa.out) _ 1 1 [x] rfl rfl (by simp) (by exact HSr.out) (by simp; omega) (by decide) (by simp; omega) ?_; intro v5 w5 ho5 hg5)
     have HB5 := Lib.hid (HBa.out.grown hg5.out (by simp; omega) (fun j hj => HGe.out j hj))
     have HRd5 := Lib.hid (Rd.off (T := TB) HRa.out hg5.out HOff.out (.inl rfl) (.inr rfl))
     have HWd5 := Lib.hid (Rd.off (T := TB) HWa.out hg5.out HOff.out (.inl rfl) (.inr rfl))
     clear hg5 HBa HRa HWa HGe HOff HSr HOa
     go_roundw
     case rel => exact ⟨st', Lib.hid ⟨HRd5.out, HWd5.out, ⟨_, f', ho5.out, HF.out, HA.out, HLn.out⟩, HB5.out⟩⟩
     case measure => rw [Rd.lenAt HRd5.out, hk.out]; exact HK.out
   · have hz0 : leftS st = 0 := by omega
     have HZ := Lib.hid hz0
     have h0' : ¬ (0 : Int) < (leftS st : Int) := by omega
     obtain ⟨l, f, hOw, hf, hall, hlen⟩ := HN.out.all
     have HE := Lib.hid (show itemsS verO p.1 = (l, doneS st) by rw [hall, itemsF_end HZ.out, List.append_nil])
     have HOw := Lib.hid hOw
     have HLn := Lib.hid (show l.length ≤ 65535 by omega)
     obtain ⟨A5, c5, hv5⟩ := hOw.form
     subst hv5
     have HN1 := Lib.hid HN.out.rd
     have HN2 := Lib.hid HN.out.whole
     have HN3 := Lib.hid HN.out.bel
     clear hOw hall hlen hf HN h0 hz0 hsm
     generalize leftS st = q at *
     rw [HE.out] at HR
     go_wp2_with fail
     refine (done_any r1 p.2 wr HN2.out).mono ?_
     rintro e w4 ⟨rfl, rfl⟩
     obtain ⟨b1, hb1⟩ : ∃ b, doneS p.2 = b := ⟨_, rfl⟩
     rw [hb1] at HR ⊢
     obtain ⟨m, hm⟩ : ∃ m, l.length = m := ⟨_, rfl⟩
     rw [hm]
     have HM := Lib.hid hm
     have HB1 := Lib.hid hb1
     clear hm hb1
     cases b1 with
     | false =>
       go_wp2_with fail
       go_ret2
       rw [HR.out]
       exact ⟨.slice A5 m c5, rfl, by rw [← HM.out]; exact HOw.out, HLn.out, HN3.out⟩
     | true =>
       go_wp2_with fail
       refine (done_any r st wr HN1.out).mono ?_
       rintro e w4 ⟨rfl, rfl⟩
       obtain ⟨b2, hb2⟩ : ∃ b, doneS st = b := ⟨_, rfl⟩
       rw [hb2] at HR HE ⊢
       clear hb2
       cases b2 with
       | false =>
         go_wp2_with fail
         go_ret2
         rw [HR.out]
         exact ⟨.slice A5 m c5, rfl, by rw [← HM.out]; exact HOw.out, HLn.out, HN3.out⟩
       | true =>
         by_cases hm0 : 0 < m
         · have hmi : (0 : Int) < (m : Int) := by omega
           have HD := Lib.hid (show (true && true && decide (0 < l.length)) = true by rw [HM.out]; simpa using hm0)
           simp only [HD.out] at HR
           go_wp2_with fail
           go_ret2
           rw [HR.out]
           exact ⟨.slice A5 m c5, rfl, by rw [← HM.out]; exact HOw.out, HLn.out, HN3.out⟩
         · have hmi : ¬ (0 : Int) < (m : Int) := by omega
           have HD := Lib.hid (show (true && true && decide (0 < l.length)) = false by rw [HM.out]; simpa using hm0)
           simp only [HD.out] at HR
           go_wp2_with fail
           go_ret2
           rw [HR.out]
           exact ⟨.slice A5 m c5, rfl, by rw [← HM.out]; exact HOw.out, HLn.out, HN3.out⟩
end Go.Proofs.YthfknndjdfofgaaGreatDoor.Ex

/-
 Contracts over this seat's translation: slices.IndexFunc and slices.DeleteFunc at names with their types, with the closure that tells those that are no hosts.
-/
namespace Go.Proofs.YthfknndjdfofgaaGreatDoor.Ex
open Go.RowKit Go.Proofs.YthfknndjdfofgaaGreatDoor.Wd Go.Proofs.YthfknndjdfofgaaGreatDoor.Be Go.Proofs.YthfknndjdfofgaaGreatDoor.He Go.Proofs.YthfknndjdfofgaaGreatDoor.Ro

set_option maxHeartbeats 400000 in
theorem other_any (x : Int × List UInt8) (w : World) :
   Calls Tryz.prog 172 #[valT x] w fun e w' => e = .returned (.bool (!hostB x)) ∧ Below w.heap.size w w' := by
 have HB := Lib.hid ((Below.refl w.heap.size w).alloc (Nat.le_refl _) (.cells #[Value.int .i64 x.1, .string (str8 x.2)] 188))
 unfold valT
 by_cases h : x.1 = 0
 · have hb : (x.1 != 0) = false := by simp [h]
   have H := Lib.hid (show (!hostB x) = false by unfold hostB; simp [h])
   clear h
   go_enter Tryz.func172, Tryz.ntmps172
   go_wp2_with fail
   go_ret
   rw [H.out]
   exact ⟨rfl, HB.out⟩
 · have hb : (x.1 != 0) = true := by simp [h]
   have H := Lib.hid (show (!hostB x) = true by unfold hostB; simp [h])
   clear h
   go_enter Tryz.func172, Tryz.ntmps172
   go_wp2_with fail
   go_ret
   rw [H.out]
   exact ⟨rfl, HB.out⟩

def IdxPost (l : List (Int × List UInt8)) (w : World) (e : Ending) (w' : World) : Prop :=
 ((e = .returned (.int .i64 (-1)) ∧ ∀ x ∈ l, hostB x = true) ∨ ∃ k : Nat, e = .returned (.int .i64 (k : Int)) ∧ k < l.length ∧ (∀ x ∈ l.take k, hostB x = true) ∧ ∀ x, l[k]? = some x → hostB x = false) ∧ Below w.heap.size w w'

set_option maxRecDepth 100000 in
set_option maxHeartbeats 1000000 in
theorem idx_any (A : Option Addr) (n c : Nat) (l : List (Int × List UInt8)) (w : World) (hs : SrcE w elT A l) (hn : l.length = n) (hm : n ≤ 65535) :
   Calls Tryz.prog 195 #[.slice A n c, .func (.func 172) #[] #[]] w (IdxPost l w) := by
 have HS := Lib.hid hs
 have HN := Lib.hid hn
 clear hs hn
 go_enter Tryz.func195, Tryz.ntmps195
 go_wp2_with fail
 go_loopw [8] (fun i wr => ∃ k, k ≤ n ∧ i = .int .i64 (k : Int) ∧ Hid (∀ x ∈ l.take k, hostB x = true) ∧ Hid (Below w.heap.size w wr)) (fun i _ => n - (intOf i).toNat)
 case atStart => exact ⟨0, Nat.zero_le _, rfl, Lib.hid (by simp), Lib.hid (Below.refl _ _)⟩
 case round =>
   obtain ⟨k, hk, rfl, HA, HB⟩ := hrel
   by_cases hlt : k < n
   · have hki : (k : Int) < (n : Int) := by omega
     obtain ⟨x, hx⟩ : ∃ x, l[k]? = some x := ⟨_, List.getElem?_eq_getElem (by have := HN.out; omega)⟩
     obtain ⟨g, o, hA, hg, hc⟩ := HS.out k x hx
     have hc0 : wr.cell? ⟨g, o + k * 2, none⟩ = some (.int .i64 x.1) := (HB.out.cell (p := ⟨g, _, none⟩) hg).trans (hc 0 _ rfl)
     have hc1 : wr.cell? ⟨g, o + k * 2 + 1, none⟩ = some (.string (str8 x.2)) := (HB.out.cell (p := ⟨g, _, none⟩) hg).trans (by have := hc 1 _ rfl; rwa [← Nat.add_assoc] at this)
     rw [hA]
     have HX := Lib.hid hx
     clear hA hc hx
     go_wp2_with fail
     refine (other_any x wr).mono ?_
     rintro e w1 ⟨rfl, hb1⟩
     have HB1 := Lib.hid (HB.out.trans (hb1.mono HB.out.size))
     clear hb1 hc0 hc1
     obtain ⟨b, hb⟩ : ∃ b, hostB x = b := ⟨_, rfl⟩
     rw [hb]
     have Hb := Lib.hid hb
     clear hb
     cases b with
     | true =>
       go_wp2_with fail
       go_roundw
       case rel => exact ⟨k + 1, by omega, by go_num, Lib.hid (fun y hy => by
         rw [List.take_add_one, HX.out] at hy
         rcases List.mem_append.1 hy with hy | hy
         · exact HA.out y hy
         · simp at hy; subst hy; exact Hb.out), HB1⟩
       case measure => simp [intOf]; omega
     | false =>
       go_wp2_with fail
       go_ret
       exact ⟨.inr ⟨k, rfl, by have := HN.out; omega, HA.out, fun y hy => by rw [HX.out] at hy; injection hy with hy; subst hy; exact Hb.out⟩, HB1.out⟩
   · obtain rfl : k = n := by omega
     go_wp2_with fail
     go_ret
     exact ⟨.inl ⟨rfl, fun x hx => HA.out x (by rw [← HN.out, List.take_length]; exact hx)⟩, HB.out⟩

theorem only_setCells (g : Nat) : ∀ (vs : List Value) (o : Nat) (a w : World), a.grownBy w (some g) → a.grownBy (w.setCells g o vs) (some g)
 | [], _, _, _, h => h
 | v :: r, o, a, _, h => only_setCells g r (o + 1) a _ (only_setCell (p := ⟨g, o, none⟩) h (.inl rfl) v)
theorem run_clear {w : World} {g o n c : Nat} {cur : Array Value} {t : TypeId} (hb : Blk w g t cur) (hn : 0 < n) (hf : o + n * 2 ≤ cur.size) (ty : TypeId) :
   ∃ w', (Builtin.clear_ #[184] ty #[.slice (some ⟨g, o, none⟩) n c]).run Tryz.prog w = .ok (.tuple #[]) w' ∧ w.grownBy w' (some g) ∧ ∀ k, k < o → w'.cell? ⟨g, k, none⟩ = w.cell? ⟨g, k, none⟩ := by
 have hz : ∀ w, (zeroValue 188).run Tryz.prog w = .ok (.agg #[.int .i64 0, .string .empty]) w := fun w => by kernel_rfl
 have hzs : ((.agg #[.int .i64 0, .string .empty] : Value).cells) = #[.int .i64 0, .string .empty] := rfl
 have hlen : (Builtin.zeroCells #[.int .i64 0, .string .empty] n).toList.length = n * 2 := by simp [Builtin.zeroCells]
 have hone : ∀ v ∈ (Builtin.zeroCells #[.int .i64 0, .string .empty] n).toList, v.oneCell' = true := by
   intro v hv
   simp only [Builtin.zeroCells, Array.toList_map, List.mem_map] at hv
   obtain ⟨i, _, rfl⟩ := hv
   have : i % 2 = 0 ∨ i % 2 = 1 := by omega
   rcases this with h | h
   · simp [h]; rfl
   · simp [h]; rfl
 have hst := run_storeCells_cells (P := Tryz.prog) g o (Builtin.zeroCells #[.int .i64 0, .string .empty] n).toList 0 w (fun j hj => by
   rw [hb.cell, Array.getElem?_eq_getElem (by rw [hlen] at hj; omega)]; rfl) (fun j hj => hb.frozen _) hone
 simp only [Nat.add_zero] at hst
 obtain ⟨m, rfl⟩ : ∃ m, n = m + 1 := ⟨n - 1, by omega⟩
 refine ⟨w.setCells g o (Builtin.zeroCells #[.int .i64 0, .string .empty] (m + 1)).toList, ?_, only_setCells g _ o w w (only_refl w _), fun k hk => ?_⟩
 · simp [Builtin.clear_, run_underlying Tryz.underlying184, hz, hzs, hst]
 · exact World.cell?_setCells_out g _ o w ⟨g, k, none⟩ (fun _ _ => .inl hk)

theorem slice_fromT {A : Addr} (hA : A.spot = none) (n c l : Nat) (w : World) (hl : l < n) (hc : n ≤ c) :
   (Instr.sliceAt 184 (.slice (some A) n c) (some (.int .i64 (l : Int))) none none).run Tryz.prog w = .ok (.slice (some ⟨A.block, A.off + l * 2, none⟩) (n - l) (c - l)) w := by
 obtain ⟨g, o, sp⟩ := A
 subst hA
 have hne : ¬ c = l := by omega
 simp [Instr.sliceAt, Instr.slice, run_underlying Tryz.underlying184, Instr.sliceBounds, run_sliceBound, (by omega : (l : Int) ≤ (n : Int)), hne, add_flat]
theorem slice_toT {A : Option Addr} (n c h : Nat) (w : World) (hh : h ≤ c) :
   (Instr.sliceAt 184 (.slice A n c) none (some (.int .i64 (h : Int))) none).run Tryz.prog w = .ok (.slice A h c) w := by
 simp [Instr.sliceAt, Instr.slice, run_underlying Tryz.underlying184, Instr.sliceBounds, run_sliceBound, (by omega : (h : Int) ≤ (c : Int)), Addr.add]

def AtC (cur : Array Value) (m : Nat) (x : Int × List UInt8) : Prop := cur[m * 2]? = some (.int .i64 x.1) ∧ cur[m * 2 + 1]? = some (.string (str8 x.2))
structure DelAt (w : World) (g cap : Nat) (l : List (Int × List UInt8)) (i j : Nat) (cur : Array Value) (wr : World) : Prop where
 blk : Blk wr g 188 cur
 size : cur.size = cap * 2
 cnt : ((l.take j).filter hostB).length = i
 lo : ∀ m x, ((l.take j).filter hostB)[m]? = some x → AtC cur m x
 hi : ∀ m x, j ≤ m → l[m]? = some x → AtC cur m x
 only : w.grownBy wr (some g)
theorem AtC.set {cur : Array Value} {m i : Nat} {x y : Int × List UInt8} (h : AtC cur m x) (hne : m ≠ i) : AtC ((cur.setIfInBounds (i * 2) (.int .i64 y.1)).setIfInBounds (i * 2 + 1) (.string (str8 y.2))) m x := by
 unfold AtC at h ⊢
 simp only [Array.getElem?_setIfInBounds]
 rw [if_neg (by omega), if_neg (by omega), if_neg (by omega), if_neg (by omega)]
 exact h
theorem AtC.put (cur : Array Value) (i : Nat) (y : Int × List UInt8) (hi : i * 2 + 1 < cur.size) : AtC ((cur.setIfInBounds (i * 2) (.int .i64 y.1)).setIfInBounds (i * 2 + 1) (.string (str8 y.2))) i y := by
 unfold AtC
 simp only [Array.getElem?_setIfInBounds, Array.size_setIfInBounds, if_true]
 rw [if_neg (by omega), if_pos (by omega), if_pos hi]
 exact ⟨rfl, rfl⟩
theorem DelAt.keep {w wr : World} {g cap i j : Nat} {l : List (Int × List UInt8)} {cur : Array Value} (h : DelAt w g cap l i j cur wr) (hij : i < j) {x : Int × List UInt8} (hx : l[j]? = some x) (hb : hostB x = true) (hj : j < cap)
   {w' : World} (hw : Blk w' g 188 cur) (ho : w.grownBy w' (some g)) :
   DelAt w g cap l (i + 1) (j + 1) ((cur.setIfInBounds (i * 2) (.int .i64 x.1)).setIfInBounds (i * 2 + 1) (.string (str8 x.2))) ((w'.setCell ⟨g, i * 2, none⟩ (.int .i64 x.1)).setCell ⟨g, i * 2 + 1, none⟩ (.string (str8 x.2))) := by
 have e : (l.take (j + 1)).filter hostB = (l.take j).filter hostB ++ [x] := by
   rw [List.take_add_one, hx]
   simp [List.filter_append, hb]
 refine ⟨(hw.set_ _ _).set_ _ _, by simp [h.size], by rw [e, List.length_append, h.cnt]; rfl, fun m y hm => ?_, fun m y hm hy => ?_, only_setCell (p := ⟨g, i * 2 + 1, none⟩) (only_setCell (p := ⟨g, i * 2, none⟩) ho (.inl rfl) _) (.inl rfl) _⟩
 · rw [e] at hm
   by_cases hmi : m < i
   · rw [List.getElem?_append_left (by rw [h.cnt]; exact hmi)] at hm
     exact (h.lo m y hm).set (by omega)
   · have hl := (List.getElem?_eq_some_iff.1 hm).1
     rw [List.length_append, h.cnt, List.length_singleton] at hl
     obtain rfl : m = i := by omega
     rw [List.getElem?_append_right (by rw [h.cnt]; exact Nat.le_refl _), h.cnt, Nat.sub_self] at hm
     simp at hm
     subst hm
     exact AtC.put cur m x (by rw [h.size]; omega)
 · exact (h.hi m y (by omega) hy).set (by omega)
theorem DelAt.skip {w wr : World} {g cap i j : Nat} {l : List (Int × List UInt8)} {cur : Array Value} (h : DelAt w g cap l i j cur wr) {x : Int × List UInt8} (hx : l[j]? = some x) (hb : hostB x = false)
   {w' : World} (hw : Blk w' g 188 cur) (ho : w.grownBy w' (some g)) : DelAt w g cap l i (j + 1) cur w' := by
 have e : (l.take (j + 1)).filter hostB = (l.take j).filter hostB := by
   rw [List.take_add_one, hx]
   simp [List.filter_append, hb]
 exact ⟨hw, h.size, by rw [e]; exact h.cnt, fun m y hm => h.lo m y (by rw [e] at hm; exact hm), fun m y hm hy => h.hi m y (by omega) hy, ho⟩

def DelPost (v : Value) (l : List (Int × List UInt8)) (w : World) (e : Ending) (w' : World) : Prop :=
 ∃ A c, e = .returned (.slice A (l.filter hostB).length c) ∧ SrcE w' elT A (l.filter hostB) ∧ w.grownBy w' v.ownBlock

set_option maxRecDepth 100000 in
set_option maxHeartbeats 2000000 in
theorem del_any (v : Value) (B : Nat) (l : List (Int × List UInt8)) (w : World) (ho : OwnE w elT B v l) (hm : l.length ≤ 65535) :
   Calls Tryz.prog 171 #[v, .func (.func 172) #[] #[]] w (DelPost v l w) := by
 have HO := Lib.hid ho
 rcases ho.row with ⟨rfl, rfl⟩ | ⟨g, cap, cur, rfl, hg, hblk, hcap, hmax, hsz, htk⟩
 · clear ho
   go_enter Tryz.func171, Tryz.ntmps171
   go_wp2_with fail
   refine (idx_any none 0 0 [] w (SrcE.nil _ _) rfl (by omega)).mono ?_
   rintro e w1 ⟨⟨rfl, _⟩ | ⟨k, _, hk, _⟩, hb⟩
   · go_wp2_with fail
     go_ret
     exact ⟨none, 0, rfl, SrcE.nil _ _, only_of_below hb _⟩
   · exact absurd hk (Nat.not_lt_zero _)
 · obtain ⟨A', c', hv', _, _, hsrc⟩ := ho.src fineT
   injection hv' with e1 e2 e3
   subst e1 e3
   have HS := Lib.hid hsrc
   have HBk := Lib.hid hblk
   have HSz := Lib.hid hsz
   have HTk := Lib.hid htk
   obtain ⟨n, hn⟩ : ∃ n, l.length = n := ⟨_, rfl⟩
   rw [hn] at hcap hm ⊢
   have HN := Lib.hid hn
   clear ho hsrc hblk hsz htk hn e2
   go_enter Tryz.func171, Tryz.ntmps171
   go_wp2_with fail
   refine (idx_any (some ⟨g, 0, none⟩) n cap l w HS.out HN.out hm).mono ?_
   rintro e w1 ⟨⟨rfl, hall⟩ | ⟨k, rfl, hk, hall, hno⟩, hb⟩
   · have HF := Lib.hid (show l.filter hostB = l from List.filter_eq_self.2 hall)
     clear hall
     go_wp2_with fail
     go_ret
     refine ⟨some ⟨g, 0, none⟩, cap, by rw [HF.out, HN.out]; rfl, by rw [HF.out]; exact HS.out.below hb, only_of_below hb _⟩
   · have hsz := HSz.out
     have HAt0 : Hid (DelAt w g cap l k (k + 1) cur w1) := by
       have ek : (l.take k).filter hostB = l.take k := List.filter_eq_self.2 hall
       obtain ⟨x, hx⟩ : ∃ x, l[k]? = some x := ⟨_, List.getElem?_eq_getElem hk⟩
       have e : (l.take (k + 1)).filter hostB = l.take k := by
         rw [List.take_add_one, hx, List.filter_append, ek]
         simp [hno x hx]
       have hat : ∀ m x, l[m]? = some x → AtC cur m x := fun m x hm => by
         have h1 := flat_at fineT l m x hm 0 _ rfl
         have h2 := flat_at fineT l m x hm 1 _ rfl
         rw [← HTk.out, List.getElem?_take] at h1 h2
         split at h1
         · split at h2
           · exact ⟨by simpa [elT] using h1, by simpa [elT] using h2⟩
           · cases h2
         · cases h1
       refine ⟨HBk.out.below hb HBk.out.lt, HSz.out, by rw [e, List.length_take]; omega, fun m y hm => ?_, fun m y _ hy => hat m y hy, only_of_below hb _⟩
       rw [e, List.getElem?_take] at hm
       split at hm
       · exact hat m y hm
       · cases hm
     have hkn : k < n := by have := HN.out; omega
     have hk1 : ((k : Int) == -1) = false := beq_eq_false_iff_ne.2 (by omega)
     clear hall hno hk hb HTk HBk HS
     go_wp2_with fail
     go_loopw [5, 6] (fun a b wr => ∃ (i j : Nat) (cu : Array Value), a = .int .i64 (i : Int) ∧ b = .int .i64 (j : Int) ∧ i < j ∧ j ≤ n ∧ Hid (DelAt w g cap l i j cu wr)) (fun _ b _ => n - (intOf b).toNat)
     case atStart => exact ⟨k, k + 1, cur, rfl, by go_num, by omega, by omega, HAt0⟩
     case round =>
       clear HAt0
       obtain ⟨i, j, cu, rfl, rfl, hij, hjn, HAt⟩ := hrel
       by_cases hlt : j < n
       · have hji : (j : Int) < (n : Int) := by omega
         obtain ⟨x, hx⟩ : ∃ x, l[j]? = some x := ⟨_, List.getElem?_eq_getElem (by have := HN.out; omega)⟩
         obtain ⟨h0, h1⟩ := HAt.out.hi j x (Nat.le_refl _) hx
         have hc0 : wr.cell? ⟨g, j * 2, none⟩ = some (.int .i64 x.1) := by rw [HAt.out.blk.cell]; exact h0
         have hc1 : wr.cell? ⟨g, j * 2 + 1, none⟩ = some (.string (str8 x.2)) := by rw [HAt.out.blk.cell]; exact h1
         have HX := Lib.hid hx
         clear h0 h1 hx
         go_upto_region 8 with fail
         have HZ1 := Lib.hid (Blk.new wr 188 #[Value.int .i64 x.1, .string (str8 x.2)])
         have hz0 : (wr.alloc (.cells #[Value.int .i64 x.1, .string (str8 x.2)] 188)).cell? ⟨wr.heap.size, 0, none⟩ = some (.int .i64 x.1) := by rw [HZ1.out.cell]; rfl
         have hz1 : (wr.alloc (.cells #[Value.int .i64 x.1, .string (str8 x.2)] 188)).cell? ⟨wr.heap.size, 1, none⟩ = some (.string (str8 x.2)) := by rw [HZ1.out.cell]; rfl
         have HBk := Lib.hid (HAt.out.blk.alloc (.cells #[Value.int .i64 x.1, .string (str8 x.2)] 188))
         have HOn := Lib.hid (only_alloc HAt.out.only (.cells #[Value.int .i64 x.1, .string (str8 x.2)] 188))
         have HCu := Lib.hid HAt.out.size
         clear hc0 hc1
         generalize wr.alloc (.cells #[Value.int .i64 x.1, .string (str8 x.2)] 188) = w2 at *
         generalize wr.heap.size = z at *
         go_wp2_with fail
         refine (other_any x w2).mono ?_
         rintro e w3 ⟨rfl, hb3⟩
         have HBk3 := Lib.hid (HBk.out.below hb3 HBk.out.lt)
         have HOn3 := Lib.hid (only_trans HOn.out (only_of_below hb3 (some g)))
         have HZ3 := Lib.hid (HZ1.out.below hb3 HZ1.out.lt)
         clear hb3 hz0 hz1 HBk HOn HZ1
         obtain ⟨b, hb⟩ : ∃ b, hostB x = b := ⟨_, rfl⟩
         rw [hb]
         have Hb := Lib.hid hb
         clear hb
         cases b with
         | true =>
           have hz0 : w3.cell? ⟨z, 0, none⟩ = some (.int .i64 x.1) := by rw [HZ3.out.cell]; rfl
           have hz1 : w3.cell? ⟨z, 1, none⟩ = some (.string (str8 x.2)) := by rw [HZ3.out.cell]; rfl
           have hf0 := HBk3.out.frozen (i * 2)
           have hf1 := HBk3.out.frozen (i * 2 + 1)
           obtain ⟨u0, hu0⟩ : ∃ u, cu[i * 2]? = some u := ⟨_, Array.getElem?_eq_getElem (by have := HCu.out; omega)⟩
           obtain ⟨u1, hu1⟩ : ∃ u, cu[i * 2 + 1]? = some u := ⟨_, Array.getElem?_eq_getElem (by have := HCu.out; omega)⟩
           have hd0 : w3.cell? ⟨g, i * 2, none⟩ = some u0 := by rw [HBk3.out.cell]; exact hu0
           have hd1 : w3.cell? ⟨g, i * 2 + 1, none⟩ = some u1 := by rw [HBk3.out.cell]; exact hu1
           have HK := Lib.hid (HAt.out.keep hij HX.out Hb.out (by omega) HBk3.out HOn3.out)
           clear hu0 hu1 HCu
           go_wp2_with fail
           go_roundw
           case rel => exact ⟨i + 1, j + 1, _, by go_num, by go_num, by omega, by omega, HK⟩
           case measure => simp [intOf]; omega
         | false =>
           have HK := Lib.hid (HAt.out.skip HX.out Hb.out HBk3.out HOn3.out)
           go_wp2_with fail
           go_roundw
           case rel => exact ⟨i, j + 1, cu, rfl, by go_num, by omega, by omega, HK⟩
           case measure => simp [intOf]; omega
       · obtain rfl : j = n := by omega
         have hin : i < j := hij
         have hs1 := slice_fromT (A := ⟨g, 0, none⟩) rfl j cap i wr hin hcap
         simp only [Nat.zero_add] at hs1
         obtain ⟨w4, hcl, hg4, hc4⟩ := run_clear (o := i * 2) (n := j - i) (c := cap - i) HAt.out.blk (by omega) (by have := HAt.out.size; omega) 0
         have hs2 := slice_toT (A := some ⟨g, 0, none⟩) j cap i w4 (by omega)
         have HF := Lib.hid (show (l.filter hostB).length = i by have := HAt.out.cnt; rwa [← HN.out, List.take_length] at this)
         have HC4 := Lib.hid hc4
         have HG4 := Lib.hid hg4
         have hjn' : ¬ (j : Int) < (j : Int) := by omega
         clear hc4 hg4
         go_wp2_with fail
         go_ret
         refine ⟨some ⟨g, 0, none⟩, cap, by rw [HF.out]; rfl, fun m x hx => ⟨g, 0, rfl, Nat.lt_of_lt_of_le HAt.out.blk.lt HG4.out.size, fun q u hu => ?_⟩, only_trans HAt.out.only HG4.out⟩
         have hml := (List.getElem?_eq_some_iff.1 hx).1
         rw [HF.out] at hml
         have hat := HAt.out.lo m x (by rw [← HN.out, List.take_length]; exact hx)
         rw [Nat.zero_add]
         match q, hu with
         | 0, hu => rw [show m * elT.n + 0 = m * 2 from rfl, HC4.out _ (by omega), HAt.out.blk.cell, hat.1]; exact hu
         | 1, hu => rw [show m * elT.n + 1 = m * 2 + 1 from rfl, HC4.out _ (by omega), HAt.out.blk.cell, hat.2]; exact hu
         | q + 2, hu => simp [elT] at hu
end Go.Proofs.YthfknndjdfofgaaGreatDoor.Ex
