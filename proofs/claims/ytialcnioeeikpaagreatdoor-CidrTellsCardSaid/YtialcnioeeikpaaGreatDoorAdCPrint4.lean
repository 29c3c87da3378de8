/-
  Contract of package cidr's Print, out of a contract of package addr's, over this seat's translation.
-/
import Derived.Test.YtialcnioeeikpaaGreatDoorAdPrint4
import Derived.Lib.ItoaLen
namespace Go.Proofs.YtialcnioeeikpaaGreatDoor.Ad
open Go.RowKit Go.Proofs.YtialcnioeeikpaaGreatDoor.Wd Go.Proofs.YtialcnioeeikpaaGreatDoor.Asc

def bitsI (a : List UInt8) (n : Int) : Int := if fourS a = true ∧ 96 ≤ n then n - 96 else n
def cprintS (T : List UInt8) (c : C) : List UInt8 := T ++ ([47] ++ Lib.itoa (bitsI c.a c.n))
theorem text4_len (a : List UInt8) (ha : a.length = 16) : (text4 a).length ≤ 16 := by
  have := rowT_len (lastS a) 4 (by rw [lastS_len ha]; omega)
  unfold text4
  omega
theorem str_cat (a b : List UInt8) : str a ++ str b = str (a ++ b) := by
  apply bs_inj
  show (str a ++ str b).data.toList = _
  rw [ByteArray.data_append]
  simp [bs]

set_option maxRecDepth 100000 in
set_option maxHeartbeats 2000000 in
theorem cprint_any {B : Nat} (c : C) (hc : c.a.length = 16) (h0 : -9223372036854775808 ≤ c.n) (h1 : c.n ≤ 9223372036854775807) (T : List UInt8) (hT : T.length ≤ 64) (w : World) (hE : Env B w)
    (hp : ∀ w1, Env B w1 → Calls Tryz.prog 32 #[.agg (cA c.a)] w1 fun e w' => e = .returned (.string (str T)) ∧ Below w1.heap.size w1 w') :
    Calls Tryz.prog 13 #[.agg c.cells] w fun e w' => e = .returned (.string (str (cprintS T c))) ∧ Below w.heap.size w w' := by
  have HE := Lib.hid hE
  have HP := Lib.hid hp
  clear hE hp
  have hfin : ∀ m : Int, bitsI c.a c.n = m → Hid (str T ++ ⟨#[47]⟩ ++ str (Lib.itoa m) = str (cprintS T c)) := fun m hm => by
    subst hm
    show (str T ++ str [47]) ++ str (Lib.itoa (bitsI c.a c.n)) = _
    rw [str_cat, str_cat, cprintS, List.append_assoc]
  cases hf : fourS c.a with
  | true =>
    by_cases h96 : 96 ≤ c.n
    · have HF := Lib.hid hf
      have hm := hfin (c.n - 96) (by rw [bitsI, if_pos ⟨hf, h96⟩])
      have hil := Lib.itoa_length_le (c.n - 96) (by omega) (by omega)
      clear hf hfin
      go_enter Tryz.func13, Tryz.ntmps13
      go_upto_region 1 with fail
      have b0 := Blk.new w 25 c.cells
      have hbel : Below w.heap.size w (w.alloc (.cells c.cells 25)) := (Below.refl _ _).alloc (Nat.le_refl _) _
      generalize w.alloc (.cells c.cells 25) = w1 at *
      have hn := C_cell16 b0 hc
      have hr := range_a (rangeC b0)
      have hlt := b0.lt
      have HB := Lib.hid b0
      clear b0
      go_wp2_with (refine wpList_load_mid rfl 23 _ rfl w.heap.size 0 rfl (cellsOf c.a) _ hr und16 rfl (by rw [cellsOf_length, hc]; exact info16) ?_)
      refine (four_any c.a hc _).mono ?_
      rintro e w2 ⟨rfl, hb2⟩
      rw [HF.out]
      have b2 := HB.out.below hb2 hlt
      have hr2 := range_a (rangeC b2)
      have hbel2 := Lib.hid (hbel.trans (hb2.mono hbel.size))
      clear hb2 hr hn hbel b2
      go_wp2_with (refine wpList_load_mid rfl 23 _ rfl w.heap.size 0 rfl (cellsOf c.a) _ hr2 und16 rfl (by rw [cellsOf_length, hc]; exact info16) ?_)
      refine (HP.out _ (HE.out.on hbel2.out)).mono ?_
      rintro e w3 ⟨rfl, hb3⟩
      have hbel3 := Lib.hid (hbel2.out.trans (hb3.mono hbel2.out.size))
      have hs1 : (str T).size ≤ 64 := by rw [str_size]; exact hT
      clear hb3 hr2
      generalize str T = s1 at *
      go_wp2_with fail
      refine (itoa_any (c.n - 96) (by omega) (by omega) _ (HE.out.on hbel3.out)).mono ?_
      rintro e w4 ⟨rfl, hb4⟩
      have hbel4 := Lib.hid (hbel3.out.trans (hb4.mono hbel3.out.size))
      have hs2 : (str (Lib.itoa (c.n - 96))).size ≤ 21 := by rw [str_size]; exact hil
      clear hb4
      generalize str (Lib.itoa (c.n - 96)) = s2 at *
      go_wp2_with fail
      go_ret
      exact ⟨by rw [hm.out]; rfl, hbel4.out⟩
    · have HF := Lib.hid hf
      have hm := hfin (c.n) (by rw [bitsI, if_neg (fun h => h96 h.2)])
      have hil := Lib.itoa_length_le (c.n) (by omega) (by omega)
      clear hf hfin
      go_enter Tryz.func13, Tryz.ntmps13
      go_upto_region 1 with fail
      have b0 := Blk.new w 25 c.cells
      have hbel : Below w.heap.size w (w.alloc (.cells c.cells 25)) := (Below.refl _ _).alloc (Nat.le_refl _) _
      generalize w.alloc (.cells c.cells 25) = w1 at *
      have hn := C_cell16 b0 hc
      have hr := range_a (rangeC b0)
      have hlt := b0.lt
      have HB := Lib.hid b0
      clear b0
      go_wp2_with (refine wpList_load_mid rfl 23 _ rfl w.heap.size 0 rfl (cellsOf c.a) _ hr und16 rfl (by rw [cellsOf_length, hc]; exact info16) ?_)
      refine (four_any c.a hc _).mono ?_
      rintro e w2 ⟨rfl, hb2⟩
      rw [HF.out]
      have b2 := HB.out.below hb2 hlt
      have hr2 := range_a (rangeC b2)
      have hbel2 := Lib.hid (hbel.trans (hb2.mono hbel.size))
      clear hb2 hr hn hbel b2
      go_wp2_with (refine wpList_load_mid rfl 23 _ rfl w.heap.size 0 rfl (cellsOf c.a) _ hr2 und16 rfl (by rw [cellsOf_length, hc]; exact info16) ?_)
      refine (HP.out _ (HE.out.on hbel2.out)).mono ?_
      rintro e w3 ⟨rfl, hb3⟩
      have hbel3 := Lib.hid (hbel2.out.trans (hb3.mono hbel2.out.size))
      have hs1 : (str T).size ≤ 64 := by rw [str_size]; exact hT
      clear hb3 hr2
      generalize str T = s1 at *
      go_wp2_with fail
      refine (itoa_any (c.n) (by omega) (by omega) _ (HE.out.on hbel3.out)).mono ?_
      rintro e w4 ⟨rfl, hb4⟩
      have hbel4 := Lib.hid (hbel3.out.trans (hb4.mono hbel3.out.size))
      have hs2 : (str (Lib.itoa (c.n))).size ≤ 21 := by rw [str_size]; exact hil
      clear hb4
      generalize str (Lib.itoa (c.n)) = s2 at *
      go_wp2_with fail
      go_ret
      exact ⟨by rw [hm.out]; rfl, hbel4.out⟩
  | false =>
    have HF := Lib.hid hf
    have hm := hfin (c.n) (by rw [bitsI, if_neg (fun h => by rw [hf] at h; cases h.1)])
    have hil := Lib.itoa_length_le (c.n) (by omega) (by omega)
    clear hf hfin
    go_enter Tryz.func13, Tryz.ntmps13
    go_upto_region 1 with fail
    have b0 := Blk.new w 25 c.cells
    have hbel : Below w.heap.size w (w.alloc (.cells c.cells 25)) := (Below.refl _ _).alloc (Nat.le_refl _) _
    generalize w.alloc (.cells c.cells 25) = w1 at *
    have hn := C_cell16 b0 hc
    have hr := range_a (rangeC b0)
    have hlt := b0.lt
    have HB := Lib.hid b0
    clear b0
    go_wp2_with (refine wpList_load_mid rfl 23 _ rfl w.heap.size 0 rfl (cellsOf c.a) _ hr und16 rfl (by rw [cellsOf_length, hc]; exact info16) ?_)
    refine (four_any c.a hc _).mono ?_
    rintro e w2 ⟨rfl, hb2⟩
    rw [HF.out]
    have b2 := HB.out.below hb2 hlt
    have hr2 := range_a (rangeC b2)
    have hbel2 := Lib.hid (hbel.trans (hb2.mono hbel.size))
    clear hb2 hr hn hbel b2
    go_wp2_with (refine wpList_load_mid rfl 23 _ rfl w.heap.size 0 rfl (cellsOf c.a) _ hr2 und16 rfl (by rw [cellsOf_length, hc]; exact info16) ?_)
    refine (HP.out _ (HE.out.on hbel2.out)).mono ?_
    rintro e w3 ⟨rfl, hb3⟩
    have hbel3 := Lib.hid (hbel2.out.trans (hb3.mono hbel2.out.size))
    have hs1 : (str T).size ≤ 64 := by rw [str_size]; exact hT
    clear hb3 hr2
    generalize str T = s1 at *
    go_wp2_with fail
    refine (itoa_any (c.n) (by omega) (by omega) _ (HE.out.on hbel3.out)).mono ?_
    rintro e w4 ⟨rfl, hb4⟩
    have hbel4 := Lib.hid (hbel3.out.trans (hb4.mono hbel3.out.size))
    have hs2 : (str (Lib.itoa (c.n))).size ≤ 21 := by rw [str_size]; exact hil
    clear hb4
    generalize str (Lib.itoa (c.n)) = s2 at *
    go_wp2_with fail
    go_ret
    exact ⟨by rw [hm.out]; rfl, hbel4.out⟩
end Go.Proofs.YtialcnioeeikpaaGreatDoor.Ad
