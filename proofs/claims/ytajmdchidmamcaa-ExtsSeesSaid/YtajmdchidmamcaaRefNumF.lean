/-
  Contracts of the document's own Reader of layer 1 (hagioscoperef01): Num, Vec.
-/
import Derived.Test.YtajmdchidmamcaaRefRdF
namespace Go.Proofs.Ytajmdchidmamcaa.RefBe
open Go.RowKit Go.Proofs.Ytajmdchidmamcaa.Wd Go.Proofs.Ytajmdchidmamcaa.Be

def Far (A : Option Addr) (n y : Nat) : Prop := 0 < n → ∀ ad, A = some ad → ad.block ≠ y
theorem Src.grown_far {w w' : World} {A : Option Addr} {n y : Nat} {xs : List UInt8} (h : Src w A n xs) (hf : Far A n y) (hg : w.grownBy w' (some y)) : Src w' A n xs :=
  ⟨h.1, fun hn => by
    obtain ⟨ad, e, hlt, hc⟩ := h.2 hn
    refine ⟨ad, e, Nat.lt_of_lt_of_le hlt hg.size, fun j c hj => ?_⟩
    rw [World.cell?_of_block (w := w) (hg.block (ad.add j).block (by rw [block_of_add]; exact hlt) (by rw [block_of_add]; have := hf hn ad e; simp [this]))]
    exact hc j c hj⟩

def RNumPost (w : World) (y : Nat) (A : Option Addr) (n c : Nat) (xs : List UInt8) (p : Nat × Option (List UInt8)) (e : Ending) (w' : World) : Prop :=
  e = .returned (.int .i64 (p.1 : Int)) ∧ RR w' y A n c xs p.2 ∧ w.grownBy w' (some y)

set_option maxHeartbeats 800000 in
theorem rnum_any (y : Nat) (A : Option Addr) (n c : Nat) (xs : List UInt8) (st : Option (List UInt8)) (size : Int) (w : World) (hr : RR w y A n c xs st) (hn : n ≤ 100000) (hnc : n ≤ c) (hc : c ≤ 9223372036854775807) (hs : Src w A n xs) :
    Calls Try.prog 35 #[.pointer (some ⟨y, 0, none⟩), .int .i64 size] w (RNumPost w y A n c xs (numS st size)) := by
  have HR := Lib.hid hr
  have HS := Lib.hid hs
  clear hr hs
  have hcb := clampI_bd size
  go_enter Try.func35, Try.ntmps35
  go_wp2_with fail
  refine (rclamp_any _ _).mono ?_
  rintro e w1 ⟨rfl, rfl⟩
  go_wp2_with fail
  refine (rtake_any y A n c xs st _ w HR.out hn hnc hc HS.out).mono ?_
  rintro e w1 ⟨v, rfl, hown, hrr, hgr⟩
  obtain ⟨A', c', rfl, _, hsrc⟩ := hown.src
  have hlen := takeS_len st (clampI size) (by omega)
  have Hfin : Hid (numS st size = (natOf (takeS st (clampI size)).1, (takeS st (clampI size)).2)) := rfl
  generalize takeS st (clampI size) = p at *
  obtain ⟨zs, st'⟩ := p
  simp only at hrr hlen hsrc Hfin
  have hl4 : zs.length ≤ 4 := by omega
  have HRR := Lib.hid hrr
  have HZ := Lib.hid hsrc
  clear hrr hsrc hlen hcb
  go_wp2_with fail
  go_loop [6, 7] (fun m i => ∃ k : Nat, k ≤ zs.length ∧ i = .int .i64 k ∧ m = .int .i64 (natOf (zs.take k) : Int)) (fun _ i => zs.length - (intOf i).toNat)
  case atStart => exact ⟨0, Nat.zero_le _, rfl, rfl⟩
  case round =>
    obtain ⟨k, hk, rfl, rfl⟩ := hrel
    by_cases hlt : k < zs.length
    · obtain ⟨ad, rfl, _, hcc⟩ := HZ.out.2 (by omega)
      have hcell : w1.cell? (ad.add k) = some (.int .u8 (zs[k].toNat : Int)) := hcc k _ (List.getElem?_eq_getElem hlt)
      have hb : zs[k].toNat < 256 := zs[k].toNat_lt
      have hnl := natOf_lt (zs.take k)
      have htl : (zs.take k).length = k := by rw [List.length_take]; omega
      have hn3 : natOf (zs.take k) < 16777216 := by
        rw [htl] at hnl
        exact Nat.lt_of_lt_of_le hnl (Nat.pow_le_pow_right (n := 256) (by omega) (by omega : k ≤ 3))
      clear hnl htl hcc
      have hsn : natOf (zs.take (k + 1)) = natOf (zs.take k) * 256 + zs[k].toNat := by
        rw [List.take_add_one, List.getElem?_eq_getElem hlt]; exact natOf_snoc _ _
      have HSN := Lib.hid hsn
      clear hsn
      generalize natOf (zs.take k) = a at *
      generalize zs[k].toNat = b at *
      go_wp2
      go_round
      case rel => exact ⟨k + 1, by omega, by go_num, by rw [HSN.out]; go_num⟩
      case measure => simp [intOf]; omega
    · obtain rfl : k = zs.length := by omega
      go_wp2
      go_ret
      rw [Hfin.out]
      exact ⟨rfl, HRR.out, hgr⟩

set_option maxHeartbeats 800000 in
theorem rrvec_any (y : Nat) (A : Option Addr) (n c : Nat) (xs : List UInt8) (st : Option (List UInt8)) (size : Int) (w : World) (hr : RR w y A n c xs st) (hn : n ≤ 100000) (hnc : n ≤ c) (hc : c ≤ 9223372036854775807) (hs : Src w A n xs) (hf : Far A n y) :
    Calls Try.prog 33 #[.pointer (some ⟨y, 0, none⟩), .int .i64 size] w (RTakePost w y A n c xs (vecS st size)) := by
  have HR := Lib.hid hr
  have HS := Lib.hid hs
  have HF := Lib.hid hf
  clear hr hs hf
  go_enter Try.func33, Try.ntmps33
  go_wp2_with fail
  refine (rnum_any y A n c xs st size w HR.out hn hnc hc HS.out).mono ?_
  rintro e w1 ⟨rfl, hrr, hgr⟩
  have Hv : Hid (vecS st size = takeS (numS st size).2 ((numS st size).1 : Int)) := rfl
  generalize numS st size = p at *
  obtain ⟨m, st'⟩ := p
  simp only at hrr Hv
  have HRR := Lib.hid hrr
  have HS1 := Lib.hid (Src.grown_far HS.out HF.out hgr)
  obtain ⟨a, off, hb, _, rfl⟩ := hrr
  have hc2 : w1.cell? ⟨y, 2, none⟩ = some (.bool off) := by rw [hb.cell]; rfl
  clear hb
  cases off with
  | true =>
    go_wp2_with fail
    go_ret
    rw [Hv.out]
    exact ⟨_, rfl, ⟨rfl, .inl ⟨rfl, rfl⟩⟩, HRR.out, hgr⟩
  | false =>
    go_wp2_with fail
    refine (rtake_any y A n c xs _ _ w1 HRR.out hn hnc hc HS1.out).mono ?_
    rintro e w2 ⟨v, rfl, hown, hrr2, hgr2⟩
    have HA := Lib.hid (Own.lower hown hgr.size)
    obtain ⟨A', c', rfl, _, _⟩ := hown.src
    have HB := Lib.hid hrr2
    clear hown hrr2
    go_wp2_with fail
    go_ret
    rw [Hv.out]
    exact ⟨_, rfl, HA.out, HB.out, only_trans hgr hgr2⟩
end Go.Proofs.Ytajmdchidmamcaa.RefBe
