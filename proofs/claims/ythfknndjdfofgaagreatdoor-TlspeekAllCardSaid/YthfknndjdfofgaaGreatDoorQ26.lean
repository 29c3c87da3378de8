/-
 Contract of package hello's Parse over this seat's translation.
-/
import Derived.Test.YthfknndjdfofgaaGreatDoorQ25
namespace Go.Proofs.YthfknndjdfofgaaGreatDoor.He
open Go.RowKit Go.Proofs.YthfknndjdfofgaaGreatDoor.Wd Go.Proofs.YthfknndjdfofgaaGreatDoor.Be

theorem go_bd0 {ops : Array Oper} {rest : List Oper} {o : Oper} {a : Act} {w : World} {Q : Exit → Act → World → Prop} (ty : TypeId) (C : Array Value) (hB : Tryz.prog.built ty [] = some C) (hg : o.guard = none) (ho : o.op = .build ty #[])
   (h : wpList Tryz.prog ops Q rest (a.put o.dst (.agg C)) w) : wpList Tryz.prog ops Q (o :: rest) a w := by
 have e : Tryz.prog.built ty ((#[] : Array (Nat × Operand)).map fun (i, x) => (i, a.eval x)).toList = some C := by simpa using hB
 refine wpList_build hg _ _ ho (by rw [e]; rfl) ?_
 rw [e]
 exact h
theorem builtH : Tryz.prog.built 68 [] = some Hv.zero.C := by kernel_rfl

def ParsePost (xs : List UInt8) (w : World) (e : Ending) (w' : World) : Prop :=
 ∃ H, e = .returned (.tuple #[.agg H.C, .int .i64 (parseS xs).2]) ∧ HOwn w' H ∧ H.hel = (parseS xs).1 ∧ Below w.heap.size w w'
theorem zero_row {w : World} {g : Nat} {H : Hv} (h : HOwn w H) {t : TypeId} {cs : Array Value} (hb : Blk w g t cs) (ht : ¬ TW t) (C : Array Value) : HOwn (w.setRow g C) H := h.off (only_row _ _ _) (OffT.of_blk hb ht)

set_option maxRecDepth 100000 in
set_option maxHeartbeats 1000000 in
theorem parse_any (A : Option Addr) (n c : Nat) (xs : List UInt8) (w : World) (hs : Src w A n xs) (hn : n ≤ 140737488355320) :
   Calls Tryz.prog 77 #[.slice A n c] w (ParsePost xs w) := by
 have HS := Lib.hid hs
 clear hs
 go_enter Tryz.func77, Tryz.ntmps77
 go_wp2_with fail
 refine (hread_any A n c xs _ (HS.out.alloc _) hn).mono ?_
 rintro e w1 ⟨H, rfl, hown, hhel, hb⟩
 rw [← zeroC] at hb
 have hr1 : Blk w1 w.heap.size 68 Hv.zero.C := Blk.below (Blk.new _ _ _) hb (by simp)
 have hb1 : Below w.heap.size w w1 := ((Below.refl _ _).alloc (Nat.le_refl _) _).trans (hb.mono (by simp))
 have hlt := hr1.lt
 have HB1 := Lib.hid hb1
 have HR1 := Lib.hid hr1
 have HO1 := Lib.hid hown
 have HH := Lib.hid hhel
 have hsz := Hv.size hown.rnd
 clear hb hb1 hr1 hown hhel
 go_upto_region 2 with (refine go_st 68 (Blk.new _ _ _) infH rfl hsz (Hv.one _) rfl rfl rfl rfl ?_)
 rw [← zeroC]
 have HK := Lib.hid (setRow_blk (new := H.C) (Blk.new w1 68 Hv.zero.C))
 have HR2 := Lib.hid (Blk.row_far (HR1.out.alloc (.cells Hv.zero.C 68)) (g' := w1.heap.size) (by omega) H.C)
 have HB2 := Lib.hid (setRow_below (HB1.out.alloc (by omega) (.cells Hv.zero.C 68)) (g := w1.heap.size) (by omega) H.C)
 have HO2 := Lib.hid (zero_row (HO1.out.below ((Below.refl _ _).alloc (Nat.le_refl _) (.cells Hv.zero.C 68))) (Blk.new w1 68 Hv.zero.C) (by unfold TW; decide) H.C)
 have hne : w.heap.size ≠ w1.heap.size := by omega
 have hle : w.heap.size ≤ w1.heap.size := by omega
 generalize (w1.alloc (.cells Hv.zero.C 68)).setRow w1.heap.size H.C = w2 at *
 generalize w1.heap.size = g at *
 clear HO1 HR1 HB1 hlt
 have hg2 := HK.out.lt
 cases hok : okS xs with
 | false =>
   have HP := Lib.hid (parse_form hok)
   go_wp2_with (first
     | (refine go_bd0 68 _ builtH rfl rfl ?_)
     | (refine go_st 68 HR2.out infH (Hv.size rfl) (Hv.size rfl) (Hv.one _) rfl rfl rfl rfl ?_))
   exact ret_two Tryz.results77 (setRow_blk HR2.out) undH rfl infH (Hv.size rfl) rfl rfl ⟨Hv.zero, by rw [HP.out]; rfl, HOwn.zero _, by rw [HP.out]; rfl, setRow_below HB2.out (Nat.le_refl _) _⟩ rfl
 | true =>
   go_wp2_with (refine go_ld 68 HK.out undH rfl infH hsz rfl rfl rfl ?_)
   refine (wrong_any H w2 HO2.out.ok).mono ?_
   rintro e w3 ⟨rfl, hb3⟩
   have hwr : wrongS H.hel = wrongS (helS xs) := by rw [HH.out]
   have HK3 := Lib.hid (HK.out.below hb3 hg2)
   have HR3 := Lib.hid (HR2.out.below hb3 HR2.out.lt)
   have HO3 := Lib.hid (HO2.out.below hb3)
   have HB3 := Lib.hid (HB2.out.trans (hb3.mono HB2.out.size))
   rw [hwr]
   clear hwr hb3 HK HR2 HO2 HB2
   by_cases hz : wrongS (helS xs) = 0
   · have HP := Lib.hid (parse_is hok hz)
     have HZ := Lib.hid hz
     rw [hz]
     clear hz
     go_wp2_with (first
       | (refine go_ld 68 HK3.out undH rfl infH hsz rfl rfl rfl ?_)
       | (refine go_st 68 HR3.out infH (Hv.size rfl) hsz (Hv.one _) rfl rfl rfl rfl ?_))
     exact ret_two Tryz.results77 (setRow_blk HR3.out) undH rfl infH hsz rfl rfl ⟨H, by rw [HP.out]; rfl, zero_row HO3.out HR3.out (by unfold TW; decide) _, by rw [HP.out]; exact HH.out, setRow_below HB3.out (Nat.le_refl _) _⟩ rfl
   · have HP := Lib.hid (show parseS xs = (Hel.zero, wrongS (helS xs)) by rw [parseS, if_pos hok, if_neg hz])
     generalize wrongS (helS xs) = e at *
     have hz' : (e == (0 : Int)) = false := by simpa using hz
     have hz2 : (e != (0 : Int)) = true := by simpa using hz
     go_wp2_with (first
       | (refine go_bd0 68 _ builtH rfl rfl ?_)
       | (refine go_st 68 HR3.out infH (Hv.size rfl) (Hv.size rfl) (Hv.one _) rfl rfl rfl rfl ?_))
     exact ret_two Tryz.results77 (setRow_blk HR3.out) undH rfl infH (Hv.size rfl) rfl rfl ⟨Hv.zero, by rw [HP.out]; rfl, HOwn.zero _, by rw [HP.out]; rfl, setRow_below HB3.out (Nat.le_refl _) _⟩ rfl
end Go.Proofs.YthfknndjdfofgaaGreatDoor.He
