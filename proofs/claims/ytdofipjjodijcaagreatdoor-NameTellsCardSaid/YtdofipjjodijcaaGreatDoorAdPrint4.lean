/-
  Contracts of package addr's Print and package cidr's Print at addresses of four, over this seat's translation.
-/
import Derived.Test.YtdofipjjodijcaaGreatDoorAdRowB
import Derived.Test.YtdofipjjodijcaaGreatDoorAdHas
import Derived.Test.YtdofipjjodijcaaGreatDoorAdShort
import Derived.Deep.Cut
namespace Go.Proofs.YtdofipjjodijcaaGreatDoor.Ad
open Go.RowKit Go.Proofs.YtdofipjjodijcaaGreatDoor.Wd Go.Proofs.YtdofipjjodijcaaGreatDoor.Asc

def text4 (a : List UInt8) : List UInt8 := rowT 46 Lib.itoa (ints (lastS a)) 4

set_option maxRecDepth 100000 in
set_option maxHeartbeats 2000000 in
theorem print_four {B : Nat} (a : List UInt8) (ha : a.length = 16) (hf : fourS a = true) (w : World) (hE : Env B w) :
    Calls Tryz.prog 11 #[.agg (cA a)] w fun e w' => e = .returned (.string (str (text4 a))) ∧ Below w.heap.size w w' := by
  have HE := Lib.hid hE
  have HF := Lib.hid hf
  have hl4 := lastS_len ha
  clear hE hf
  go_enter Tryz.func11, Tryz.ntmps11
  go_upto_region 1 with fail
  have b0 := Blk.new w 32 (cA a)
  have hbel : Below w.heap.size w (w.alloc (.cells (cA a) 32)) := (Below.refl _ _).alloc (Nat.le_refl _) _
  generalize w.alloc (.cells (cA a) 32) = w1 at *
  go_wp2_with (refine go_ld 32 b0 und16 rfl info16 (by rw [cA_size, ha]) rfl rfl rfl ?_)
  refine (four_any a ha _).mono ?_
  rintro e w2 ⟨rfl, hb2⟩
  rw [HF.out]
  have b2 := b0.below hb2 b0.lt
  have hbel2 := hbel.trans (hb2.mono hbel.size)
  clear b0 hbel hb2
  go_wp2_with (refine go_ld 32 b2 und16 rfl info16 (by rw [cA_size, ha]) rfl rfl rfl ?_)
  refine (lastOf_any a ha _).mono ?_
  rintro e w3 ⟨rfl, hb3⟩
  have hbel3 := Lib.hid (hbel2.trans (hb3.mono hbel2.size))
  clear b2 hbel2 hb3
  go_upto_region 3 with (refine go_st 40 (Blk.new _ _ _) info4 rfl (by rw [cA_size, hl4]) (cA_one _) rfl rfl rfl rfl ?_)
  have hn := new_below w3 40 #[Value.int .u8 0, Value.int .u8 0, Value.int .u8 0, Value.int .u8 0] (cA (lastS a))
  have b4 := new_blk w3 40 #[Value.int .u8 0, Value.int .u8 0, Value.int .u8 0, Value.int .u8 0] (cA (lastS a))
  generalize (w3.alloc (.cells #[Value.int .u8 0, Value.int .u8 0, Value.int .u8 0, Value.int .u8 0] 40)).setRow w3.heap.size (cA (lastS a)) = w4 at *
  have hbel4 := Lib.hid (hbel3.out.trans (hn.mono hbel3.out.size))
  have HB4 := Lib.hid b4
  have HE4 := Lib.hid (HE.out.on hbel4.out)
  clear hn b4
  go_wp2_with fail
  refine (rowB_any w3.heap.size 4 4 _ (lastS a) _ HE4.out HB4.out hl4 (by omega)).mono ?_
  rintro e w5 ⟨v, rfl, hown, hb5⟩
  obtain ⟨A, c, rfl, _, hsrc⟩ := hown.src
  have hconv := conv_src (P := Tryz.prog) (c := c) hsrc Tryz.underlying30 Tryz.underlying5 Tryz.underlying9
  have HL := Lib.hid (hbel4.out.trans (hb5.mono hbel4.out.size))
  have HT := Lib.hid (show text4 a = rowT 46 Lib.itoa (ints (lastS a)) 4 from rfl)
  generalize rowT 46 Lib.itoa (ints (lastS a)) 4 = T at *
  clear hown hsrc hb5
  go_wp2_with fail
  go_ret
  rw [HT.out]
  exact ⟨rfl, HL.out⟩
end Go.Proofs.YtdofipjjodijcaaGreatDoor.Ad
