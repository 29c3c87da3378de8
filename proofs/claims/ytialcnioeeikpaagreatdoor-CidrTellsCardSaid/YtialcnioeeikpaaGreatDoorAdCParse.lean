/-
  Contract of package cidr's Parse over this seat's translation.
-/
import Derived.Test.YtialcnioeeikpaaGreatDoorAdParse
namespace Go.Proofs.YtialcnioeeikpaaGreatDoor.Ad
open Go.RowKit Go.Proofs.YtialcnioeeikpaaGreatDoor.Wd Go.Proofs.YtialcnioeeikpaaGreatDoor.Asc

theorem builtC : Tryz.prog.built 25 [] = some (C.cells ⟨List.replicate 16 0, 0⟩) := by kernel_rfl
theorem cparseS_is (l : List UInt8) : cparseS l = (match parseS (Lib.cut l [47]).1 with
  | none => none
  | some a => match numS (Lib.cut l [47]).2.1 (if 0 ≤ Lib.indexByte (Lib.cut l [47]).1 58 then 128 else 32) with
    | none => none
    | some n => some (ofS a ((if 0 ≤ Lib.indexByte (Lib.cut l [47]).1 58 then 0 else 96) + n))) := rfl
def C0 : C := ⟨List.replicate 16 0, 0⟩
def CParsePost (l : List UInt8) (w : World) (e : Ending) (w' : World) : Prop :=
  e = .returned (.tuple #[.agg ((cparseS l).getD C0).cells, .bool (cparseS l).isSome]) ∧ Below w.heap.size w w'

set_option maxRecDepth 100000 in
set_option maxHeartbeats 4000000 in
theorem cparse_any {B : Nat} (l : List UInt8) (w : World) (hE : Env B w) (hl : l.length < 4294967281) :
    Calls Tryz.prog 5 #[.string (str l)] w (CParsePost l w) := by
  have HE := Lib.hid hE
  have hcl := cut_le l [47]
  have HC := Lib.hid (cparseS_is l)
  clear hE
  go_enter Tryz.func5, Tryz.ntmps5
  go_wp2_with fail
  have hR : Blk (w.alloc (.cells (C.cells ⟨List.replicate 16 0, 0⟩) 25)) w.heap.size 25 (C.cells ⟨List.replicate 16 0, 0⟩) := Blk.new _ _ _
  have hL : Below w.heap.size w (w.alloc (.cells (C.cells ⟨List.replicate 16 0, 0⟩) 25)) := (Below.refl _ _).alloc (Nat.le_refl _) _
  refine (cut_any l [47] _ (HE.out.on hL) hl).mono ?_
  rintro e w1 ⟨rfl, hb1⟩
  have R1 := hR.below hb1 hR.lt
  have L1 := hL.trans (hb1.mono hL.size)
  have E1 := HE.out.on L1
  clear hb1 hR hL
  generalize hcut : Lib.cut l [47] = cu at *
  obtain ⟨p1, p2, mo⟩ := cu
  simp only at HC hcl
  clear hcut
  go_wp2_with fail
  refine (parse_any p1 _ E1 (by omega)).mono ?_
  rintro e w2 ⟨rfl, hb2⟩
  have R2 := R1.below hb2 R1.lt
  have L2 := L1.trans (hb2.mono L1.size)
  have E2 := E1.on hb2
  have HV : Hid (∀ b, parseS p1 = some b → (parseS p1).getD (List.replicate 16 0) = b) := fun b hb => by rw [hb]; rfl
  have hV16 : ((parseS p1).getD (List.replicate 16 0)).length = 16 := by
    cases h : parseS p1 with
    | none => rfl
    | some a => exact parseS_len h
  generalize (parseS p1).getD (List.replicate 16 0) = V at *
  clear hb2 R1 L1 E1
  go_upto_region 3 with (refine go_st 23 (Blk.new _ _ _) info16 rfl (by rw [cA_size, hV16]) (cA_one _) rfl rfl rfl rfl ?_)
  have hn := new_below w2 23 #[Value.int .u8 0, Value.int .u8 0, Value.int .u8 0, Value.int .u8 0, Value.int .u8 0, Value.int .u8 0, Value.int .u8 0, Value.int .u8 0, Value.int .u8 0, Value.int .u8 0, Value.int .u8 0, Value.int .u8 0, Value.int .u8 0, Value.int .u8 0, Value.int .u8 0, Value.int .u8 0] (cA V)
  have b7 := new_blk w2 23 #[Value.int .u8 0, Value.int .u8 0, Value.int .u8 0, Value.int .u8 0, Value.int .u8 0, Value.int .u8 0, Value.int .u8 0, Value.int .u8 0, Value.int .u8 0, Value.int .u8 0, Value.int .u8 0, Value.int .u8 0, Value.int .u8 0, Value.int .u8 0, Value.int .u8 0, Value.int .u8 0] (cA V)
  generalize (w2.alloc (.cells #[Value.int .u8 0, Value.int .u8 0, Value.int .u8 0, Value.int .u8 0, Value.int .u8 0, Value.int .u8 0, Value.int .u8 0, Value.int .u8 0, Value.int .u8 0, Value.int .u8 0, Value.int .u8 0, Value.int .u8 0, Value.int .u8 0, Value.int .u8 0, Value.int .u8 0, Value.int .u8 0] 23)).setRow w2.heap.size (cA V) = w3 at *
  have R3 := Lib.hid (R2.below hn R2.lt)
  have L3 := Lib.hid (L2.trans (hn.mono L2.size))
  have E3 := Lib.hid (E2.on hn)
  have B7 := Lib.hid b7
  clear R2 L2 E2 hn b7
  have h27 : w.heap.size < w2.heap.size ∨ True := .inr trivial
  cases hp : parseS p1 with
  | none =>
    have HY := Lib.hid (show cparseS l = none by rw [HC.out, hp])
    have RR := R3
    have LL := L3
    clear HC hp
    go_wp2_with (first
      | (refine go_bd0 25 _ builtC rfl rfl ?_)
      | (refine go_st 25 RR.out info17 rfl rfl (C_one _) rfl rfl rfl rfl ?_))
    refine ret_two Tryz.results5 (setRow_blk RR.out) und17 rfl info17 rfl rfl rfl ?_ rfl
    exact ⟨by rw [HY.out]; rfl, setRow_below LL.out RR.out (Nat.le_refl _) _⟩
  | some a =>
    obtain rfl := HV.out a hp
    rw [hp] at HC
    simp only at HC
    have hsz : (str p2).size ≤ maxLen := by rw [str_size]; unfold maxLen; omega
    have hbs : bs (str p2) = p2 := rfl
    clear hp
    by_cases hc : 0 ≤ Lib.indexByte p1 58
    · rw [if_pos hc, if_pos hc] at HC
      have HD := Lib.hid (show decide (0 ≤ Lib.indexByte p1 58) = true from decide_eq_true hc)
      clear hc
      go_wp2_with fail
      refine (contains_any p1 58 _).mono ?_
      rintro e w4 ⟨rfl, hw4⟩
      subst hw4
      rw [HD.out]
      go_wp2_with fail
      refine (number_any (str p2) 128 _ hsz).mono ?_
      rintro e w5 ⟨rfl, hb5⟩
      rw [hbs]
      have RR := Lib.hid (R3.out.below hb5 R3.out.lt)
      have LL := Lib.hid (L3.out.trans (hb5.mono L3.out.size))
      have B75 := B7.out.below hb5 B7.out.lt
      clear hb5
      cases hn : numS p2 128 with
      | none =>
        have HY := Lib.hid (show cparseS l = none by rw [HC.out, hn])
        rw [dTup]
        clear HC hn
        go_wp2_with (first
          | (refine go_bd0 25 _ builtC rfl rfl ?_)
          | (refine go_st 25 RR.out info17 rfl rfl (C_one _) rfl rfl rfl rfl ?_))
        refine ret_two Tryz.results5 (setRow_blk RR.out) und17 rfl info17 rfl rfl rfl ?_ rfl
        exact ⟨by rw [HY.out]; rfl, setRow_below LL.out RR.out (Nat.le_refl _) _⟩
      | some n =>
        obtain ⟨n0, n1⟩ := numS_bd hn
        have HY := Lib.hid (show cparseS l = some (ofS V n) by rw [HC.out, hn]; simp only [Int.zero_add])
        rw [dTup]
        clear HC hn
        have hz := ofS_len V n
        rw [hV16] at hz
        go_wp2_with (refine go_ld 23 B75 und16 rfl info16 (by rw [cA_size, hV16]) rfl rfl rfl ?_)
        refine (of_any V hV16 n _).mono ?_
        rintro e w6 ⟨rfl, hb6⟩
        have R6 := RR.out.below hb6 RR.out.lt
        have L6 := LL.out.trans (hb6.mono LL.out.size)
        clear hb6
        go_wp2_with (refine go_st 25 R6 info17 rfl (C_size _ hz) (C_one _) rfl rfl rfl rfl ?_)
        refine ret_two Tryz.results5 (setRow_blk R6) und17 rfl info17 (C_size _ hz) rfl rfl ?_ rfl
        exact ⟨by rw [HY.out]; rfl, setRow_below L6 R6 (Nat.le_refl _) _⟩
    · rw [if_neg hc, if_neg hc] at HC
      have HD := Lib.hid (show decide (0 ≤ Lib.indexByte p1 58) = false from decide_eq_false hc)
      clear hc
      go_wp2_with fail
      refine (contains_any p1 58 _).mono ?_
      rintro e w4 ⟨rfl, hw4⟩
      subst hw4
      rw [HD.out]
      go_wp2_with fail
      refine (number_any (str p2) 32 _ hsz).mono ?_
      rintro e w5 ⟨rfl, hb5⟩
      rw [hbs]
      have RR := Lib.hid (R3.out.below hb5 R3.out.lt)
      have LL := Lib.hid (L3.out.trans (hb5.mono L3.out.size))
      have B75 := B7.out.below hb5 B7.out.lt
      clear hb5
      cases hn : numS p2 32 with
      | none =>
        have HY := Lib.hid (show cparseS l = none by rw [HC.out, hn])
        rw [dTup]
        clear HC hn
        go_wp2_with (first
          | (refine go_bd0 25 _ builtC rfl rfl ?_)
          | (refine go_st 25 RR.out info17 rfl rfl (C_one _) rfl rfl rfl rfl ?_))
        refine ret_two Tryz.results5 (setRow_blk RR.out) und17 rfl info17 rfl rfl rfl ?_ rfl
        exact ⟨by rw [HY.out]; rfl, setRow_below LL.out RR.out (Nat.le_refl _) _⟩
      | some n =>
        obtain ⟨n0, n1⟩ := numS_bd hn
        have HY := Lib.hid (show cparseS l = some (ofS V (96 + n)) by rw [HC.out, hn])
        rw [dTup]
        clear HC hn
        have hz := ofS_len V (96 + n)
        rw [hV16] at hz
        go_wp2_with (refine go_ld 23 B75 und16 rfl info16 (by rw [cA_size, hV16]) rfl rfl rfl ?_)
        refine (of_any V hV16 (96 + n) _).mono ?_
        rintro e w6 ⟨rfl, hb6⟩
        have R6 := RR.out.below hb6 RR.out.lt
        have L6 := LL.out.trans (hb6.mono LL.out.size)
        clear hb6
        go_wp2_with (refine go_st 25 R6 info17 rfl (C_size _ hz) (C_one _) rfl rfl rfl rfl ?_)
        refine ret_two Tryz.results5 (setRow_blk R6) und17 rfl info17 (C_size _ hz) rfl rfl ?_ rfl
        exact ⟨by rw [HY.out]; rfl, setRow_below L6 R6 (Nat.le_refl _) _⟩
end Go.Proofs.YtialcnioeeikpaaGreatDoor.Ad
