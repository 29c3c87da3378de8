/-
  Where addr's contracts may be used, those over texts may, too: what the library's variables hold. Plain lemma.
-/
import Derived.Test.YtlpondbcnfaggaaGreatDoorR03
import Derived.Test.YtlpondbcnfaggaaGreatDoorR22
import Derived.Test.YtlpondbcnfaggaaGreatDoorR07
namespace Go.Proofs.YtlpondbcnfaggaaGreatDoor.Au
open Go.RowKit

theorem tx_of {B : Nat} {w : World} (h : Ad.Env B w) : Tx.Env B w := ⟨h.max, h.tab, h.low, h.le⟩
end Go.Proofs.YtlpondbcnfaggaaGreatDoor.Au

/-
  Contracts of package addr's parseGroups and Parse over this seat's translation.
-/
namespace Go.Proofs.YtlpondbcnfaggaaGreatDoor.Ad
open Go.RowKit Go.Proofs.YtlpondbcnfaggaaGreatDoor.Wd Go.Proofs.YtlpondbcnfaggaaGreatDoor.Asc

def AddrPost (o : Option (List UInt8)) (w : World) (e : Ending) (w' : World) : Prop :=
  e = .returned (.tuple #[.agg (cA (o.getD (List.replicate 16 0))), .bool o.isSome]) ∧ Below w.heap.size w w'

set_option maxRecDepth 100000 in
set_option maxHeartbeats 4000000 in
theorem groups_any {B : Nat} (l : List UInt8) (w : World) (hE : Env B w) (hl : l.length < 4294967281) :
    Calls Tryz.prog 53 #[.string (str l)] w (AddrPost (groupsS l) w) := by
  have HE := Lib.hid hE
  have hcl := cut_le l [58, 58]
  clear hE
  go_enter Tryz.func53, Tryz.ntmps53
  go_wp2_with fail
  have hR : Blk (w.alloc (.cells (cA (List.replicate 16 0)) 48)) w.heap.size 48 (cA (List.replicate 16 0)) := Blk.new _ _ _
  have hL : Below w.heap.size w (w.alloc (.cells (cA (List.replicate 16 0)) 48)) := (Below.refl _ _).alloc (Nat.le_refl _) _
  refine (cut_any l [58, 58] _ (HE.out.on hL) hl).mono ?_
  rintro e w1 ⟨rfl, hb1⟩
  have R1 := Lib.hid (hR.below hb1 hR.lt)
  have L1 := Lib.hid (hL.trans (hb1.mono hL.size))
  have E1 := Lib.hid (HE.out.on L1.out)
  clear hb1 hR hL HE
  have HG := Lib.hid (show groupsS l = if (Lib.cut l [58, 58]).2.2 then shortS (Lib.cut l [58, 58]).1 (Lib.cut l [58, 58]).2.1 else match sideS l true with
    | some x => if x.length < 16 then none else some x
    | none => none from rfl)
  generalize hcut : Lib.cut l [58, 58] = cu at *
  obtain ⟨p1, p2, mo⟩ := cu
  simp only at HG hcl
  clear hcut
  cases mo with
  | true =>
    have HZ := Lib.hid (HG.out.trans (if_pos rfl))
    have hlen : ((shortS p1 p2).getD (List.replicate 16 0)).length = 16 := by
      cases h : shortS p1 p2 with
      | none => rfl
      | some a => exact groupsS_len (l := l) (a := a) (by rw [HZ.out, h])
    clear HG
    go_wp2_with fail
    refine (short_any p1 p2 _ E1.out (by omega) (by omega)).mono ?_
    rintro e w2 ⟨rfl, hb2⟩
    have HV : Hid (∀ V, V = (shortS p1 p2).getD (List.replicate 16 0) → V = (groupsS l).getD (List.replicate 16 0)) := fun V h => by rw [HZ.out, h]
    generalize hV : (shortS p1 p2).getD (List.replicate 16 0) = V at *
    have HV2 := Lib.hid (HV.out V rfl)
    clear HV hV
    have R2 := Lib.hid (R1.out.below hb2 R1.out.lt)
    have L2 := Lib.hid (L1.out.trans (hb2.mono L1.out.size))
    clear hb2
    go_wp2_with (refine go_st 48 R2.out info16 rfl (by rw [cA_size, hlen]) (cA_one _) rfl rfl rfl rfl ?_)
    refine ret_two Tryz.results53 (setRow_blk R2.out) und16 rfl info16 (by rw [cA_size, hlen]) rfl rfl ?_ rfl
    exact ⟨by rw [HV2.out, HZ.out]; rfl, setRow_below L2.out R2.out (Nat.le_refl _) _⟩
  | false =>
    have HZ := Lib.hid (HG.out.trans (if_neg (by simp)))
    have hX16 : (sideC ((sideS l true).getD [])).a.length = 16 := sideC_len (by cases e : sideS l true with | none => simp | some x => exact sideS_le e)
    clear HG
    go_wp2_with fail
    refine (side_any l true _ E1.out hl).mono ?_
    rintro e w2 ⟨rfl, hb2⟩
    have R2 := R1.out.below hb2 R1.out.lt
    have L2 := L1.out.trans (hb2.mono L1.out.size)
    clear hb2
    go_upto_region 5 with (refine go_st 147 (Blk.new _ _ _) infoS rfl (C_size _ hX16) (C_one _) rfl rfl rfl rfl ?_)
    have hn : Below w2.heap.size w2 ((w2.alloc (.cells #[Value.int .u8 0, Value.int .u8 0, Value.int .u8 0, Value.int .u8 0, Value.int .u8 0, Value.int .u8 0, Value.int .u8 0, Value.int .u8 0, Value.int .u8 0, Value.int .u8 0, Value.int .u8 0, Value.int .u8 0, Value.int .u8 0, Value.int .u8 0, Value.int .u8 0, Value.int .u8 0, Value.int .i64 0] 147)).setRow w2.heap.size (sideC ((sideS l true).getD [])).cells) := new_below _ _ _ _
    have b8 := new_blk w2 147 #[Value.int .u8 0, Value.int .u8 0, Value.int .u8 0, Value.int .u8 0, Value.int .u8 0, Value.int .u8 0, Value.int .u8 0, Value.int .u8 0, Value.int .u8 0, Value.int .u8 0, Value.int .u8 0, Value.int .u8 0, Value.int .u8 0, Value.int .u8 0, Value.int .u8 0, Value.int .u8 0, Value.int .i64 0] (sideC ((sideS l true).getD [])).cells
    generalize (w2.alloc (.cells #[Value.int .u8 0, Value.int .u8 0, Value.int .u8 0, Value.int .u8 0, Value.int .u8 0, Value.int .u8 0, Value.int .u8 0, Value.int .u8 0, Value.int .u8 0, Value.int .u8 0, Value.int .u8 0, Value.int .u8 0, Value.int .u8 0, Value.int .u8 0, Value.int .u8 0, Value.int .u8 0, Value.int .i64 0] 147)).setRow w2.heap.size (sideC ((sideS l true).getD [])).cells = w3 at *
    have R3 := Lib.hid (R2.below hn R2.lt)
    have L3 := Lib.hid (L2.trans (hn.mono L2.size))
    have B8 := Lib.hid b8
    clear R2 L2 hn b8 R1 L1 E1
    cases hx : sideS l true with
    | none =>
      have HY := Lib.hid (show groupsS l = none by rw [HZ.out, hx])
      clear hx
      go_wp2_with (first
        | (refine go_bd0 48 _ built16 rfl rfl ?_)
        | (refine go_st 48 R3.out info16 rfl rfl (cA_one _) rfl rfl rfl rfl ?_))
      refine ret_two Tryz.results53 (setRow_blk R3.out) und16 rfl info16 rfl rfl rfl ?_ rfl
      exact ⟨by rw [HY.out]; rfl, setRow_below L3.out R3.out (Nat.le_refl _) _⟩
    | some x =>
      have hx16 := sideS_le hx
      have hux := C_cell16 B8.out hX16
      rw [show (sideC ((sideS l true).getD [])).n = (x.length : Int) by rw [hx]; rfl] at hux
      by_cases hbig : x.length < 16
      · have HY := Lib.hid (show groupsS l = none by rw [HZ.out, hx]; simp only [if_pos hbig])
        have hbi : (x.length : Int) < 16 := by omega
        clear hx
        go_wp2_with (first
          | (refine go_bd0 48 _ built16 rfl rfl ?_)
          | (refine go_st 48 R3.out info16 rfl rfl (cA_one _) rfl rfl rfl rfl ?_))
        refine ret_two Tryz.results53 (setRow_blk R3.out) und16 rfl info16 rfl rfl rfl ?_ rfl
        exact ⟨by rw [HY.out]; rfl, setRow_below L3.out R3.out (Nat.le_refl _) _⟩
      · have HY := Lib.hid (show groupsS l = some x by rw [HZ.out, hx]; simp only [if_neg hbig])
        have hbi : ¬ (x.length : Int) < 16 := by omega
        have BX := B8.out
        rw [show (sideS l true).getD [] = x by rw [hx]; rfl] at BX
        have hrx := range_a (rangeC BX)
        have ex : (sideC x).a = x := by
          rw [sideC, show 16 - x.length = 0 by omega]; simp
        rw [ex] at hrx
        have h16 : x.length = 16 := by omega
        clear hx
        go_wp2_with (first
          | (refine wpList_load_mid rfl 48 _ rfl w2.heap.size 0 rfl (cellsOf x) _ hrx und16 rfl (by rw [cellsOf_length, h16]; exact info16) ?_)
          | (refine go_st 48 R3.out info16 rfl (by rw [cA_size, h16]) (cA_one x) rfl rfl rfl rfl ?_))
        refine ret_two Tryz.results53 (setRow_blk R3.out) und16 rfl info16 (by rw [cA_size, h16]) rfl rfl ?_ rfl
        exact ⟨by rw [HY.out]; rfl, setRow_below L3.out R3.out (Nat.le_refl _) _⟩

set_option maxRecDepth 100000 in
set_option maxHeartbeats 4000000 in
theorem parse_any {B : Nat} (l : List UInt8) (w : World) (hE : Env B w) (hl : l.length < 4294967281) :
    Calls Tryz.prog 28 #[.string (str l)] w (AddrPost (parseS l) w) := by
  have HE := Lib.hid hE
  clear hE
  by_cases hc : 0 ≤ Lib.indexByte l 58
  · have HZ := Lib.hid (show parseS l = groupsS l from if_pos hc)
    have HC := Lib.hid (show decide (0 ≤ Lib.indexByte l 58) = true from decide_eq_true hc)
    have hlen : ((groupsS l).getD (List.replicate 16 0)).length = 16 := by
      cases h : groupsS l with
      | none => rfl
      | some a => exact groupsS_len h
    clear hc
    go_enter Tryz.func28, Tryz.ntmps28
    go_wp2_with fail
    refine (contains_any l 58 _).mono ?_
    rintro e w1 ⟨rfl, hw⟩
    have hR : Blk w1 w.heap.size 48 (cA (List.replicate 16 0)) := by rw [hw]; exact Blk.new _ _ _
    have hL : Below w.heap.size w w1 := by rw [hw]; exact (Below.refl _ _).alloc (Nat.le_refl _) _
    rw [HC.out]
    have E1 := HE.out.on hL
    clear hw
    go_wp2_with fail
    refine (groups_any l _ E1 hl).mono ?_
    rintro e w2 ⟨rfl, hb2⟩
    have HV : Hid (∀ V, V = (groupsS l).getD (List.replicate 16 0) → V = (parseS l).getD (List.replicate 16 0)) := fun V h => by rw [HZ.out, h]
    generalize hV : (groupsS l).getD (List.replicate 16 0) = V at *
    have HV2 := Lib.hid (HV.out V rfl)
    clear HV hV
    have R2 := Lib.hid (hR.below hb2 hR.lt)
    have L2 := Lib.hid (hL.trans (hb2.mono hL.size))
    clear hb2 hR hL E1
    go_wp2_with (refine go_st 48 R2.out info16 rfl (by rw [cA_size, hlen]) (cA_one _) rfl rfl rfl rfl ?_)
    refine ret_two Tryz.results28 (setRow_blk R2.out) und16 rfl info16 (by rw [cA_size, hlen]) rfl rfl ?_ rfl
    exact ⟨by rw [HV2.out, HZ.out]; rfl, setRow_below L2.out R2.out (Nat.le_refl _) _⟩
  · have HC := Lib.hid (show decide (0 ≤ Lib.indexByte l 58) = false from decide_eq_false hc)
    have hlen : ((dotS 4 l).getD (List.replicate 4 0)).length = 4 := by
      cases h : dotS 4 l with
      | none => rfl
      | some b => exact dotS_len 4 l b h
    have HP := Lib.hid (show parseS l = (dotS 4 l).map of4S from if_neg hc)
    clear hc
    go_enter Tryz.func28, Tryz.ntmps28
    go_wp2_with fail
    refine (contains_any l 58 _).mono ?_
    rintro e w1 ⟨rfl, hw⟩
    have hR : Blk w1 w.heap.size 48 (cA (List.replicate 16 0)) := by rw [hw]; exact Blk.new _ _ _
    have hL : Below w.heap.size w w1 := by rw [hw]; exact (Below.refl _ _).alloc (Nat.le_refl _) _
    rw [HC.out]
    have E1 := HE.out.on hL
    clear hw
    go_wp2_with fail
    refine (dotted_any l _ E1 hl).mono ?_
    rintro e w2 ⟨rfl, hb2⟩
    have HV : Hid (∀ V, V = (dotS 4 l).getD (List.replicate 4 0) → ∀ b, dotS 4 l = some b → V = b) := fun V h b hb => by rw [h, hb]; rfl
    generalize hV : (dotS 4 l).getD (List.replicate 4 0) = V at *
    have HV2 := Lib.hid (HV.out V rfl)
    clear HV hV
    have R2 := hR.below hb2 hR.lt
    have L2 := hL.trans (hb2.mono hL.size)
    clear hb2 hR hL E1
    go_upto_region 4 with (refine go_st 90 (Blk.new _ _ _) info4 rfl (by rw [cA_size, hlen]) (cA_one _) rfl rfl rfl rfl ?_)
    have hn := new_below w2 90 #[Value.int .u8 0, Value.int .u8 0, Value.int .u8 0, Value.int .u8 0] (cA V)
    have b4 := new_blk w2 90 #[Value.int .u8 0, Value.int .u8 0, Value.int .u8 0, Value.int .u8 0] (cA V)
    generalize (w2.alloc (.cells #[Value.int .u8 0, Value.int .u8 0, Value.int .u8 0, Value.int .u8 0] 90)).setRow w2.heap.size (cA V) = w3 at *
    have R3 := Lib.hid (R2.below hn R2.lt)
    have L3 := Lib.hid (L2.trans (hn.mono L2.size))
    have B4 := Lib.hid b4
    clear R2 L2 hn b4
    cases hd : dotS 4 l with
    | none =>
      have HY := Lib.hid (show parseS l = none by rw [HP.out, hd]; rfl)
      clear hd
      go_wp2_with (first
        | (refine go_bd0 48 _ built16 rfl rfl ?_)
        | (refine go_st 48 R3.out info16 rfl rfl (cA_one _) rfl rfl rfl rfl ?_))
      refine ret_two Tryz.results28 (setRow_blk R3.out) und16 rfl info16 rfl rfl rfl ?_ rfl
      exact ⟨by rw [HY.out]; rfl, setRow_below L3.out R3.out (Nat.le_refl _) _⟩
    | some b =>
      have hb4 := dotS_len 4 l b hd
      have HY := Lib.hid (show parseS l = some (of4S b) by rw [HP.out, hd]; rfl)
      have h16 := of4S_len hb4
      have BB := B4.out
      rw [HV2.out b hd] at BB
      clear hd
      go_wp2_with (refine go_ld 90 BB und4 rfl info4 (by rw [cA_size, hb4]) rfl rfl rfl ?_)
      refine (of4_any b hb4 _).mono ?_
      rintro e w4 ⟨rfl, hb5⟩
      have R4 := R3.out.below hb5 R3.out.lt
      have L4 := L3.out.trans (hb5.mono L3.out.size)
      clear hb5
      go_wp2_with (refine go_st 48 R4 info16 rfl (by rw [cA_size, h16]) (cA_one _) rfl rfl rfl rfl ?_)
      refine ret_two Tryz.results28 (setRow_blk R4) und16 rfl info16 (by rw [cA_size, h16]) rfl rfl ?_ rfl
      exact ⟨by rw [HY.out]; rfl, setRow_below L4 R4 (Nat.le_refl _) _⟩
end Go.Proofs.YtlpondbcnfaggaaGreatDoor.Ad
