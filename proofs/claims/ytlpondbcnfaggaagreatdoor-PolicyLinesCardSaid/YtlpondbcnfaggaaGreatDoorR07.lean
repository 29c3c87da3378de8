/-
  Contract of package addr's parseShort over this seat's translation.
-/
import Derived.Test.YtlpondbcnfaggaaGreatDoorR06
import Derived.Test.YtlpondbcnfaggaaGreatDoorR05
import Derived.Deep.Cut
import Derived.Test.YtlpondbcnfaggaaGreatDoorR04
import Derived.Lib.ItoaLen
namespace Go.Proofs.YtlpondbcnfaggaaGreatDoor.Ad
open Go.RowKit Go.Proofs.YtlpondbcnfaggaaGreatDoor.Wd Go.Proofs.YtlpondbcnfaggaaGreatDoor.Asc

theorem built16 : Tryz.prog.built 48 [] = some (cA (List.replicate 16 0)) := by kernel_rfl
theorem new_blk (w : World) (t : TypeId) (Z X : Array Value) : Blk ((w.alloc (.cells Z t)).setRow w.heap.size X) w.heap.size t X := setRow_blk (Blk.new w t Z)
theorem new_below (w : World) (t : TypeId) (Z X : Array Value) : Below w.heap.size w ((w.alloc (.cells Z t)).setRow w.heap.size X) :=
  setRow_below ((Below.refl _ _).alloc (Nat.le_refl _) _) (Blk.new w t Z) (Nat.le_refl _) X
theorem src_side {w : World} {g t : Nat} {y : List UInt8} (h : Blk w g t (sideC y).cells) : Src w (some ⟨g, 0, none⟩) y.length y :=
  Src.of_blk (off := 0) (xs := y) h (fun j c hj => by
    have hjl : j < y.length := (List.getElem?_eq_some_iff.1 hj).1
    simp only [Nat.zero_add, C.cells, List.getElem?_toArray, sideC, cellsOf_append, List.append_assoc]
    rw [List.getElem?_append_left (by rw [cellsOf_length]; exact hjl)]
    exact cellsOf_get hj)

def shV (x y : List UInt8) : List UInt8 := x ++ List.replicate (16 - x.length - y.length) 0 ++ y
theorem shV_len (x y : List UInt8) (h : x.length + y.length ≤ 16) : (shV x y).length = 16 := by simp [shV]; omega
theorem side_spl (x y : List UInt8) (h : x.length + y.length ≤ 16) : splB (sideC x).a (16 - y.length) y = shV x y := by
  have e2 : List.replicate (16 - x.length) (0 : UInt8) = List.replicate (16 - x.length - y.length) 0 ++ List.replicate y.length 0 := by
    rw [List.replicate_append_replicate, show 16 - x.length - y.length + y.length = 16 - x.length by omega]
  have e : (sideC x).a = (x ++ List.replicate (16 - x.length - y.length) 0) ++ List.replicate y.length 0 := by
    rw [List.append_assoc, ← e2]; rfl
  have hl : (x ++ List.replicate (16 - x.length - y.length) (0 : UInt8)).length = 16 - y.length := by simp; omega
  rw [splB, e, List.take_append_of_le_length (by omega), List.take_of_length_le (by omega), List.drop_of_length_le (by simp; omega), shV]
  simp

def ShortPost (h t : List UInt8) (w : World) (e : Ending) (w' : World) : Prop :=
  e = .returned (.tuple #[.agg (cA ((shortS h t).getD (List.replicate 16 0))), .bool (shortS h t).isSome]) ∧ Below w.heap.size w w'

set_option linter.unusedSimpArgs false in
set_option maxRecDepth 100000 in
set_option maxHeartbeats 4000000 in
theorem short_any {B : Nat} (h t : List UInt8) (w : World) (hE : Env B w) (hh : h.length < 4294967281) (ht : t.length < 4294967281) :
    Calls Tryz.prog 94 #[.string (str h), .string (str t)] w (ShortPost h t w) := by
  have HE := Lib.hid hE
  have hX16 : (sideC ((sideS h false).getD [])).a.length = 16 := sideC_len (by cases e : sideS h false with | none => simp | some x => exact sideS_le e)
  have hY16 : (sideC ((sideS t true).getD [])).a.length = 16 := sideC_len (by cases e : sideS t true with | none => simp | some x => exact sideS_le e)
  clear hE
  go_enter Tryz.func94, Tryz.ntmps94
  go_wp2_with fail
  have hR : Blk (w.alloc (.cells (cA (List.replicate 16 0)) 48)) w.heap.size 48 (cA (List.replicate 16 0)) := Blk.new _ _ _
  have hL : Below w.heap.size w (w.alloc (.cells (cA (List.replicate 16 0)) 48)) := (Below.refl _ _).alloc (Nat.le_refl _) _
  refine (side_any h false _ (HE.out.on hL) hh).mono ?_
  rintro e w1 ⟨rfl, hb1⟩
  have R1 := Lib.hid (hR.below hb1 hR.lt)
  have L1 := Lib.hid (hL.trans (hb1.mono hL.size))
  have E1 := Lib.hid (HE.out.on L1.out)
  clear hb1 hR hL
  go_wp2_with (refine go_st 147 (Blk.new _ _ _) infoS rfl (C_size _ hX16) (C_one _) rfl rfl rfl rfl ?_)
  refine (side_any t true _ (E1.out.on (new_below _ _ _ _)) ht).mono ?_
  rintro e w2 ⟨rfl, hb2⟩
  have B6 := Lib.hid (Blk.below (new_blk w1 147 _ _) hb2 (new_blk w1 147 _ _).lt)
  have hn : Below w1.heap.size w1 w2 := (new_below w1 147 _ _).trans (hb2.mono (new_below w1 147 _ _).size)
  have R2' := Lib.hid (R1.out.below hn R1.out.lt)
  have L2' := Lib.hid (L1.out.trans (hn.mono L1.out.size))
  have h6 : w1.heap.size < w2.heap.size := B6.out.lt
  clear hb2 hn
  go_upto_region 3 with (refine go_st 147 (Blk.new _ _ _) infoS rfl (C_size _ hY16) (C_one _) rfl rfl rfl rfl ?_)
  have hn : Below w2.heap.size w2 ((w2.alloc (.cells #[Value.int .u8 0, Value.int .u8 0, Value.int .u8 0, Value.int .u8 0, Value.int .u8 0, Value.int .u8 0, Value.int .u8 0, Value.int .u8 0, Value.int .u8 0, Value.int .u8 0, Value.int .u8 0, Value.int .u8 0, Value.int .u8 0, Value.int .u8 0, Value.int .u8 0, Value.int .u8 0, Value.int .i64 0] 147)).setRow w2.heap.size (sideC ((sideS t true).getD [])).cells) := new_below _ _ _ _
  have b8 := new_blk w2 147 #[Value.int .u8 0, Value.int .u8 0, Value.int .u8 0, Value.int .u8 0, Value.int .u8 0, Value.int .u8 0, Value.int .u8 0, Value.int .u8 0, Value.int .u8 0, Value.int .u8 0, Value.int .u8 0, Value.int .u8 0, Value.int .u8 0, Value.int .u8 0, Value.int .u8 0, Value.int .u8 0, Value.int .i64 0] (sideC ((sideS t true).getD [])).cells
  generalize (w2.alloc (.cells #[Value.int .u8 0, Value.int .u8 0, Value.int .u8 0, Value.int .u8 0, Value.int .u8 0, Value.int .u8 0, Value.int .u8 0, Value.int .u8 0, Value.int .u8 0, Value.int .u8 0, Value.int .u8 0, Value.int .u8 0, Value.int .u8 0, Value.int .u8 0, Value.int .u8 0, Value.int .u8 0, Value.int .i64 0] 147)).setRow w2.heap.size (sideC ((sideS t true).getD [])).cells = w3 at *
  have R2 := Lib.hid (R2'.out.below hn R2'.out.lt)
  have L2 := Lib.hid (L2'.out.trans (hn.mono L2'.out.size))
  have B6' := Lib.hid (B6.out.below hn B6.out.lt)
  have B8 := Lib.hid b8
  clear R2' L2' hn b8 R1 L1 E1 HE
  cases hx : sideS h false with
  | none =>
    have HZ := Lib.hid (show shortS h t = none by rw [shortS, hx])
    clear hx
    go_wp2_with (first
      | (refine go_bd0 48 _ built16 rfl rfl ?_)
      | (refine go_st 48 R2.out info16 rfl rfl (cA_one _) rfl rfl rfl rfl ?_))
    exact ret_two Tryz.results94 (setRow_blk R2.out) und16 rfl info16 rfl rfl rfl ⟨by rw [HZ.out]; rfl, setRow_below L2.out R2.out (Nat.le_refl _) _⟩ rfl
  | some x =>
    have hx16 := sideS_le hx
    cases hy : sideS t true with
    | none =>
      have HZ := Lib.hid (show shortS h t = none by rw [shortS, hx, hy])
      clear hx hy
      go_wp2_with (first
        | (refine go_bd0 48 _ built16 rfl rfl ?_)
        | (refine go_st 48 R2.out info16 rfl rfl (cA_one _) rfl rfl rfl rfl ?_))
      exact ret_two Tryz.results94 (setRow_blk R2.out) und16 rfl info16 rfl rfl rfl ⟨by rw [HZ.out]; rfl, setRow_below L2.out R2.out (Nat.le_refl _) _⟩ rfl
    | some y =>
      have hy16 := sideS_le hy
      have hux := C_cell16 B6'.out hX16
      have huy := C_cell16 B8.out hY16
      rw [show (sideC ((sideS h false).getD [])).n = (x.length : Int) by rw [hx]; rfl] at hux
      rw [show (sideC ((sideS t true).getD [])).n = (y.length : Int) by rw [hy]; rfl] at huy
      by_cases hbig : 14 < x.length + y.length
      · have HZ := Lib.hid (show shortS h t = none by rw [shortS, hx, hy]; simp only [if_pos hbig])
        have hbi : (14 : Int) < (x.length : Int) + (y.length : Int) := by omega
        clear hx hy
        go_wp2_with (first
          | (refine go_bd0 48 _ built16 rfl rfl ?_)
          | (refine go_st 48 R2.out info16 rfl rfl (cA_one _) rfl rfl rfl rfl ?_))
        exact ret_two Tryz.results94 (setRow_blk R2.out) und16 rfl info16 rfl rfl rfl ⟨by rw [HZ.out]; rfl, setRow_below L2.out R2.out (Nat.le_refl _) _⟩ rfl
      · have HZ := Lib.hid (show shortS h t = some (shV x y) by rw [shortS, hx, hy]; simp only [if_neg hbig]; rfl)
        have hbi : ¬ (14 : Int) < (x.length : Int) + (y.length : Int) := by omega
        have BX := B6'.out
        rw [show (sideS h false).getD [] = x by rw [hx]; rfl] at BX
        have BY := B8.out
        rw [show (sideS t true).getD [] = y by rw [hy]; rfl] at BY
        have hrx := range_a (rangeC BX)
        clear hx hy
        go_wp2_with (first
          | (refine wpList_load_mid rfl 48 _ rfl w1.heap.size 0 rfl (cellsOf (sideC x).a) _ hrx und16 rfl (by rw [cellsOf_length, sideC_len hx16]; exact info16) ?_)
          | (refine go_st 48 (Blk.new _ _ _) info16 rfl (by rw [cA_size, sideC_len hx16]) (cA_one _) rfl rfl rfl rfl ?_))
        have hn := new_below w3 48 #[Value.int .u8 0, Value.int .u8 0, Value.int .u8 0, Value.int .u8 0, Value.int .u8 0, Value.int .u8 0, Value.int .u8 0, Value.int .u8 0, Value.int .u8 0, Value.int .u8 0, Value.int .u8 0, Value.int .u8 0, Value.int .u8 0, Value.int .u8 0, Value.int .u8 0, Value.int .u8 0] (cA (sideC x).a)
        have b10 := new_blk w3 48 #[Value.int .u8 0, Value.int .u8 0, Value.int .u8 0, Value.int .u8 0, Value.int .u8 0, Value.int .u8 0, Value.int .u8 0, Value.int .u8 0, Value.int .u8 0, Value.int .u8 0, Value.int .u8 0, Value.int .u8 0, Value.int .u8 0, Value.int .u8 0, Value.int .u8 0, Value.int .u8 0] (cA (sideC x).a)
        have h03 : w.heap.size < w3.heap.size := R2.out.lt
        generalize (w3.alloc (.cells #[Value.int .u8 0, Value.int .u8 0, Value.int .u8 0, Value.int .u8 0, Value.int .u8 0, Value.int .u8 0, Value.int .u8 0, Value.int .u8 0, Value.int .u8 0, Value.int .u8 0, Value.int .u8 0, Value.int .u8 0, Value.int .u8 0, Value.int .u8 0, Value.int .u8 0, Value.int .u8 0] 48)).setRow w3.heap.size (cA (sideC x).a) = w5 at *
        have R3 := Lib.hid (R2.out.below hn h03)
        have L3 := Lib.hid (L2.out.trans (hn.mono L2.out.size))
        have BY5 := BY.below hn BY.lt
        have R10 := Lib.hid b10
        have SY := Lib.hid (src_side BY5)
        have huy5 := C_cell16 BY5 (sideC_len hy16)
        rw [show (sideC y).n = (y.length : Int) from rfl] at huy5
        clear hux huy BX BY hrx hn b10 BY5
        by_cases hy0 : y.length = 0
        · have hy00 : y = [] := List.eq_nil_of_length_eq_zero hy0
          subst hy00
          rw [show (([] : List UInt8).length : Int) = 0 from rfl] at huy5
          have hwr : IntKind.i64.wrap 16 = 16 := by rw [IntKind.wrap_i64]; rfl
          go_region_law (refine step_cp w3.heap.size 16 (by exact R10.out) (by exact SY.out.below (Below.refl _ _).drew) rfl rfl rfl rfl (by simp) (fun h => absurd h (by simp)) (by rw [sideC_len hx16]; simp) ?_; intro w4 hg4 hb4)
          all_goals (
            have hg := hg4.out
            rw [show splB (sideC x).a 16 [] = shV x [] from side_spl x [] (by simp; omega)] at hg
            have hz16 : (shV x []).length = 16 := shV_len x [] (by simp; omega)
            have hb := (Below.refl w3.heap.size w5).drew.trans hb4.out
            have R4 := R3.out.below hb h03
            have L4 := L3.out.trans (hb.mono (by have := L2.out.size; omega))
            clear hg4 hb4 hb
            go_wp2_with (first
              | (refine go_ld 48 hg und16 rfl info16 (by rw [cA_size, hz16]) rfl rfl rfl ?_)
              | (refine go_st 48 R4 info16 rfl (by rw [cA_size, hz16]) (cA_one _) rfl rfl rfl rfl ?_))
            exact ret_two Tryz.results94 (setRow_blk R4) und16 rfl info16 (by rw [cA_size, hz16]) rfl rfl ⟨by rw [HZ.out]; rfl, setRow_below L4 R4 (Nat.le_refl _) _⟩ rfl)
        · have hwr : IntKind.i64.wrap (16 - (y.length : Int)) = ((16 - y.length : Nat) : Int) := by rw [IntKind.wrap_i64]; omega
          have hq1 : ((16 - y.length : Nat) : Int) ≤ 16 := by omega
          have hq2 : ¬ 16 = 16 - y.length := by omega
          have hq3 : (y.length : Int) ≤ 16 := by omega
          go_region_law (refine step_cp w3.heap.size (16 - y.length) (by exact R10.out) (by exact SY.out.below (Below.refl _ _).drew) rfl rfl rfl rfl (by omega) (fun _ => rfl) (by rw [sideC_len hx16]; omega) ?_; intro w4 hg4 hb4)
          all_goals (
            have hg := hg4.out
            rw [side_spl x y (by omega)] at hg
            have hz16 : (shV x y).length = 16 := shV_len x y (by omega)
            have hb := (Below.refl w3.heap.size w5).drew.trans hb4.out
            have R4 := R3.out.below hb h03
            have L4 := L3.out.trans (hb.mono (by have := L2.out.size; omega))
            clear hg4 hb4 hb
            go_wp2_with (first
              | (refine go_ld 48 hg und16 rfl info16 (by rw [cA_size, hz16]) rfl rfl rfl ?_)
              | (refine go_st 48 R4 info16 rfl (by rw [cA_size, hz16]) (cA_one _) rfl rfl rfl rfl ?_))
            exact ret_two Tryz.results94 (setRow_blk R4) und16 rfl info16 (by rw [cA_size, hz16]) rfl rfl ⟨by rw [HZ.out]; rfl, setRow_below L4 R4 (Nat.le_refl _) _⟩ rfl)
end Go.Proofs.YtlpondbcnfaggaaGreatDoor.Ad

/-
  Contracts of package addr's Print and package cidr's Print at addresses of four, over this seat's translation.
-/
namespace Go.Proofs.YtlpondbcnfaggaaGreatDoor.Ad
open Go.RowKit Go.Proofs.YtlpondbcnfaggaaGreatDoor.Wd Go.Proofs.YtlpondbcnfaggaaGreatDoor.Asc

def text4 (a : List UInt8) : List UInt8 := rowT 46 Lib.itoa (ints (lastS a)) 4

set_option maxRecDepth 100000 in
set_option maxHeartbeats 2000000 in
theorem print_four {B : Nat} (a : List UInt8) (ha : a.length = 16) (hf : fourS a = true) (w : World) (hE : Env B w) :
    Calls Tryz.prog 48 #[.agg (cA a)] w fun e w' => e = .returned (.string (str (text4 a))) ∧ Below w.heap.size w w' := by
  have HE := Lib.hid hE
  have HF := Lib.hid hf
  have hl4 := lastS_len ha
  clear hE hf
  go_enter Tryz.func48, Tryz.ntmps48
  go_upto_region 1 with fail
  have b0 := Blk.new w 48 (cA a)
  have hbel : Below w.heap.size w (w.alloc (.cells (cA a) 48)) := (Below.refl _ _).alloc (Nat.le_refl _) _
  generalize w.alloc (.cells (cA a) 48) = w1 at *
  go_wp2_with (refine go_ld 48 b0 und16 rfl info16 (by rw [cA_size, ha]) rfl rfl rfl ?_)
  refine (four_any a ha _).mono ?_
  rintro e w2 ⟨rfl, hb2⟩
  rw [HF.out]
  have b2 := b0.below hb2 b0.lt
  have hbel2 := hbel.trans (hb2.mono hbel.size)
  clear b0 hbel hb2
  go_wp2_with (refine go_ld 48 b2 und16 rfl info16 (by rw [cA_size, ha]) rfl rfl rfl ?_)
  refine (lastOf_any a ha _).mono ?_
  rintro e w3 ⟨rfl, hb3⟩
  have hbel3 := Lib.hid (hbel2.trans (hb3.mono hbel2.size))
  clear b2 hbel2 hb3
  go_upto_region 3 with (refine go_st 90 (Blk.new _ _ _) info4 rfl (by rw [cA_size, hl4]) (cA_one _) rfl rfl rfl rfl ?_)
  have hn := new_below w3 90 #[Value.int .u8 0, Value.int .u8 0, Value.int .u8 0, Value.int .u8 0] (cA (lastS a))
  have b4 := new_blk w3 90 #[Value.int .u8 0, Value.int .u8 0, Value.int .u8 0, Value.int .u8 0] (cA (lastS a))
  generalize (w3.alloc (.cells #[Value.int .u8 0, Value.int .u8 0, Value.int .u8 0, Value.int .u8 0] 90)).setRow w3.heap.size (cA (lastS a)) = w4 at *
  have hbel4 := Lib.hid (hbel3.out.trans (hn.mono hbel3.out.size))
  have HB4 := Lib.hid b4
  have HE4 := Lib.hid (HE.out.on hbel4.out)
  clear hn b4
  go_wp2_with fail
  refine (rowB_any w3.heap.size 4 4 _ (lastS a) _ HE4.out HB4.out hl4 (by omega)).mono ?_
  rintro e w5 ⟨v, rfl, hown, hb5⟩
  obtain ⟨A, c, rfl, _, hsrc⟩ := hown.src
  have hconv := conv_src (P := Tryz.prog) (c := c) hsrc Tryz.underlying110 Tryz.underlying5 Tryz.underlying9
  have HL := Lib.hid (hbel4.out.trans (hb5.mono hbel4.out.size))
  have HT := Lib.hid (show text4 a = rowT 46 Lib.itoa (ints (lastS a)) 4 from rfl)
  generalize rowT 46 Lib.itoa (ints (lastS a)) 4 = T at *
  clear hown hsrc hb5
  go_wp2_with fail
  go_ret
  rw [HT.out]
  exact ⟨rfl, HL.out⟩
end Go.Proofs.YtlpondbcnfaggaaGreatDoor.Ad

/-
  Contract of package cidr's Print, out of a contract of package addr's, over this seat's translation.
-/
namespace Go.Proofs.YtlpondbcnfaggaaGreatDoor.Ad
open Go.RowKit Go.Proofs.YtlpondbcnfaggaaGreatDoor.Wd Go.Proofs.YtlpondbcnfaggaaGreatDoor.Asc

def bitsI (a : List UInt8) (n : Int) : Int := if fourS a = true ∧ 96 ≤ n then n - 96 else n
def cprintS (T : List UInt8) (c : C) : List UInt8 := T ++ ([47] ++ Lib.itoa (bitsI c.a c.n))
theorem text4_len (a : List UInt8) (ha : a.length = 16) : (text4 a).length ≤ 16 := by
  have := rowT_len (lastS a) 4 (by rw [lastS_len ha]; omega)
  unfold text4
  omega
theorem str_cat (a b : List UInt8) : str a ++ str b = str (a ++ b) := by
  apply bs_inj
  show (str a ++ str b).data.toList = _
  rw [ByteArray.data_append]
  simp [bs]

set_option maxRecDepth 100000 in
set_option maxHeartbeats 2000000 in
theorem cprint_any {B : Nat} (c : C) (hc : c.a.length = 16) (h0 : -9223372036854775808 ≤ c.n) (h1 : c.n ≤ 9223372036854775807) (T : List UInt8) (hT : T.length ≤ 64) (w : World) (hE : Env B w)
    (hp : ∀ w1, Env B w1 → Calls Tryz.prog 48 #[.agg (cA c.a)] w1 fun e w' => e = .returned (.string (str T)) ∧ Below w1.heap.size w1 w') :
    Calls Tryz.prog 111 #[.agg c.cells] w fun e w' => e = .returned (.string (str (cprintS T c))) ∧ Below w.heap.size w w' := by
  have HE := Lib.hid hE
  have HP := Lib.hid hp
  clear hE hp
  have hfin : ∀ m : Int, bitsI c.a c.n = m → Hid (str T ++ ⟨#[47]⟩ ++ str (Lib.itoa m) = str (cprintS T c)) := fun m hm => by
    subst hm
    show (str T ++ str [47]) ++ str (Lib.itoa (bitsI c.a c.n)) = _
    rw [str_cat, str_cat, cprintS, List.append_assoc]
  cases hf : fourS c.a with
  | true =>
    by_cases h96 : 96 ≤ c.n
    · have HF := Lib.hid hf
      have hm := hfin (c.n - 96) (by rw [bitsI, if_pos ⟨hf, h96⟩])
      have hil := Lib.itoa_length_le (c.n - 96) (by omega) (by omega)
      clear hf hfin
      go_enter Tryz.func111, Tryz.ntmps111
      go_upto_region 1 with fail
      have b0 := Blk.new w 95 c.cells
      have hbel : Below w.heap.size w (w.alloc (.cells c.cells 95)) := (Below.refl _ _).alloc (Nat.le_refl _) _
      generalize w.alloc (.cells c.cells 95) = w1 at *
      have hn := C_cell16 b0 hc
      have hr := range_a (rangeC b0)
      have hlt := b0.lt
      have HB := Lib.hid b0
      clear b0
      go_wp2_with (refine wpList_load_mid rfl 48 _ rfl w.heap.size 0 rfl (cellsOf c.a) _ hr und16 rfl (by rw [cellsOf_length, hc]; exact info16) ?_)
      refine (four_any c.a hc _).mono ?_
      rintro e w2 ⟨rfl, hb2⟩
      rw [HF.out]
      have b2 := HB.out.below hb2 hlt
      have hr2 := range_a (rangeC b2)
      have hbel2 := Lib.hid (hbel.trans (hb2.mono hbel.size))
      clear hb2 hr hn hbel b2
      go_wp2_with (refine wpList_load_mid rfl 48 _ rfl w.heap.size 0 rfl (cellsOf c.a) _ hr2 und16 rfl (by rw [cellsOf_length, hc]; exact info16) ?_)
      refine (HP.out _ (HE.out.on hbel2.out)).mono ?_
      rintro e w3 ⟨rfl, hb3⟩
      have hbel3 := Lib.hid (hbel2.out.trans (hb3.mono hbel2.out.size))
      have hs1 : (str T).size ≤ 64 := by rw [str_size]; exact hT
      clear hb3 hr2
      generalize str T = s1 at *
      go_wp2_with fail
      refine (itoa_any (c.n - 96) (by omega) (by omega) _ (HE.out.on hbel3.out)).mono ?_
      rintro e w4 ⟨rfl, hb4⟩
      have hbel4 := Lib.hid (hbel3.out.trans (hb4.mono hbel3.out.size))
      have hs2 : (str (Lib.itoa (c.n - 96))).size ≤ 21 := by rw [str_size]; exact hil
      clear hb4
      generalize str (Lib.itoa (c.n - 96)) = s2 at *
      go_wp2_with fail
      go_ret
      exact ⟨by rw [hm.out]; rfl, hbel4.out⟩
    · have HF := Lib.hid hf
      have hm := hfin (c.n) (by rw [bitsI, if_neg (fun h => h96 h.2)])
      have hil := Lib.itoa_length_le (c.n) (by omega) (by omega)
      clear hf hfin
      go_enter Tryz.func111, Tryz.ntmps111
      go_upto_region 1 with fail
      have b0 := Blk.new w 95 c.cells
      have hbel : Below w.heap.size w (w.alloc (.cells c.cells 95)) := (Below.refl _ _).alloc (Nat.le_refl _) _
      generalize w.alloc (.cells c.cells 95) = w1 at *
      have hn := C_cell16 b0 hc
      have hr := range_a (rangeC b0)
      have hlt := b0.lt
      have HB := Lib.hid b0
      clear b0
      go_wp2_with (refine wpList_load_mid rfl 48 _ rfl w.heap.size 0 rfl (cellsOf c.a) _ hr und16 rfl (by rw [cellsOf_length, hc]; exact info16) ?_)
      refine (four_any c.a hc _).mono ?_
      rintro e w2 ⟨rfl, hb2⟩
      rw [HF.out]
      have b2 := HB.out.below hb2 hlt
      have hr2 := range_a (rangeC b2)
      have hbel2 := Lib.hid (hbel.trans (hb2.mono hbel.size))
      clear hb2 hr hn hbel b2
      go_wp2_with (refine wpList_load_mid rfl 48 _ rfl w.heap.size 0 rfl (cellsOf c.a) _ hr2 und16 rfl (by rw [cellsOf_length, hc]; exact info16) ?_)
      refine (HP.out _ (HE.out.on hbel2.out)).mono ?_
      rintro e w3 ⟨rfl, hb3⟩
      have hbel3 := Lib.hid (hbel2.out.trans (hb3.mono hbel2.out.size))
      have hs1 : (str T).size ≤ 64 := by rw [str_size]; exact hT
      clear hb3 hr2
      generalize str T = s1 at *
      go_wp2_with fail
      refine (itoa_any (c.n) (by omega) (by omega) _ (HE.out.on hbel3.out)).mono ?_
      rintro e w4 ⟨rfl, hb4⟩
      have hbel4 := Lib.hid (hbel3.out.trans (hb4.mono hbel3.out.size))
      have hs2 : (str (Lib.itoa (c.n))).size ≤ 21 := by rw [str_size]; exact hil
      clear hb4
      generalize str (Lib.itoa (c.n)) = s2 at *
      go_wp2_with fail
      go_ret
      exact ⟨by rw [hm.out]; rfl, hbel4.out⟩
  | false =>
    have HF := Lib.hid hf
    have hm := hfin (c.n) (by rw [bitsI, if_neg (fun h => by rw [hf] at h; cases h.1)])
    have hil := Lib.itoa_length_le (c.n) (by omega) (by omega)
    clear hf hfin
    go_enter Tryz.func111, Tryz.ntmps111
    go_upto_region 1 with fail
    have b0 := Blk.new w 95 c.cells
    have hbel : Below w.heap.size w (w.alloc (.cells c.cells 95)) := (Below.refl _ _).alloc (Nat.le_refl _) _
    generalize w.alloc (.cells c.cells 95) = w1 at *
    have hn := C_cell16 b0 hc
    have hr := range_a (rangeC b0)
    have hlt := b0.lt
    have HB := Lib.hid b0
    clear b0
    go_wp2_with (refine wpList_load_mid rfl 48 _ rfl w.heap.size 0 rfl (cellsOf c.a) _ hr und16 rfl (by rw [cellsOf_length, hc]; exact info16) ?_)
    refine (four_any c.a hc _).mono ?_
    rintro e w2 ⟨rfl, hb2⟩
    rw [HF.out]
    have b2 := HB.out.below hb2 hlt
    have hr2 := range_a (rangeC b2)
    have hbel2 := Lib.hid (hbel.trans (hb2.mono hbel.size))
    clear hb2 hr hn hbel b2
    go_wp2_with (refine wpList_load_mid rfl 48 _ rfl w.heap.size 0 rfl (cellsOf c.a) _ hr2 und16 rfl (by rw [cellsOf_length, hc]; exact info16) ?_)
    refine (HP.out _ (HE.out.on hbel2.out)).mono ?_
    rintro e w3 ⟨rfl, hb3⟩
    have hbel3 := Lib.hid (hbel2.out.trans (hb3.mono hbel2.out.size))
    have hs1 : (str T).size ≤ 64 := by rw [str_size]; exact hT
    clear hb3 hr2
    generalize str T = s1 at *
    go_wp2_with fail
    refine (itoa_any (c.n) (by omega) (by omega) _ (HE.out.on hbel3.out)).mono ?_
    rintro e w4 ⟨rfl, hb4⟩
    have hbel4 := Lib.hid (hbel3.out.trans (hb4.mono hbel3.out.size))
    have hs2 : (str (Lib.itoa (c.n))).size ≤ 21 := by rw [str_size]; exact hil
    clear hb4
    generalize str (Lib.itoa (c.n)) = s2 at *
    go_wp2_with fail
    go_ret
    exact ⟨by rw [hm.out]; rfl, hbel4.out⟩
end Go.Proofs.YtlpondbcnfaggaaGreatDoor.Ad
