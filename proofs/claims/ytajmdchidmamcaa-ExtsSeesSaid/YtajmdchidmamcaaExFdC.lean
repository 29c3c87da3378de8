/-
  Contract of package exts' find over this seat's translation, with hagioscope/exts.Versions.
-/
import Derived.Test.YtajmdchidmamcaaExFdP
namespace Go.Proofs.Ytajmdchidmamcaa.Ex
open Go.RowKit Go.Proofs.Ytajmdchidmamcaa.Wd Go.Proofs.Ytajmdchidmamcaa.Be Go.Proofs.Ytajmdchidmamcaa.He Go.Proofs.Ytajmdchidmamcaa.Ro

set_option maxRecDepth 100000 in
set_option maxHeartbeats 1000000 in
theorem fdV_any (H : Hv) (kind : Int) (w : World) (hH : H.Ok w) :
    Calls Try.prog 51 #[.agg H.C, .int .i64 kind, .func (.func 14) #[] #[]] w fun e w' => ∃ v, e = .returned (.tuple #[v, .bool (findL H.hel.exts kind).2, .int .i64 (fdS verS (findL H.hel.exts kind)).2]) ∧ RelV w' w.heap.size v (fdS verS (findL H.hel.exts kind)).1 ∧ Below w.heap.size w w' := by
  have hr := hH.rnd
  have hlen := findL_len hH kind
  have HHa := Lib.hid (hH.below ((Below.refl w.heap.size w).alloc (Nat.le_refl _) (.cells H.C 44)))
  have HB0 := Lib.hid ((Below.refl w.heap.size w).alloc (Nat.le_refl _) (.cells H.C 44))
  clear hH
  go_enter Try.func51, Try.ntmps51
  go_upto_region 1 with fail
  have hb0 := Blk.new w 44 H.C
  generalize w.alloc (.cells H.C 44) = w0 at *
  go_wp2_with (refine go_ld 44 hb0 undH rfl infH (Hv.size hr) rfl rfl rfl ?_)
  refine (find_any H kind w0 HHa.out).mono ?_
  rintro e w1 ⟨v1, rfl, ho1, hb1⟩
  have HB1 := Lib.hid (HB0.out.trans (hb1.mono HB0.out.size))
  obtain ⟨A1, c1, rfl, _, hs1⟩ := Own.src ho1
  have HS1 := Lib.hid hs1
  clear ho1 hs1 hb1 hb0 HHa
  obtain ⟨p, hp⟩ : ∃ p, findL H.hel.exts kind = p := ⟨_, rfl⟩
  have HP := Lib.hid hp
  rw [hp] at hlen HS1 ⊢
  clear hp
  obtain ⟨d, b⟩ := p
  simp only at hlen HS1 ⊢
  have HF := Lib.hid (show fdS verS (d, b) = if b then verS d else ([], 0) from rfl)
  cases b with
  | false =>
    have HE := Lib.hid (show fdS verS (d, false) = ([], 0) by rw [HF.out]; rfl)
    clear HF
    go_wp2_with fail
    go_ret3
    rw [HP.out, HE.out]
    exact ⟨_, rfl, ⟨OwnE.nil _ _ _, Nat.zero_le _⟩, HB1.out⟩
  | true =>
    have HE := Lib.hid (show fdS verS (d, true) = verS d by rw [HF.out]; rfl)
    clear HF
    obtain ⟨m, hm⟩ : ∃ m, d.length = m := ⟨_, rfl⟩
    rw [hm] at HS1 hlen ⊢
    clear hm
    go_wp2_with fail
    refine (vers_any A1 m c1 d w1 HS1.out (by omega)).mono ?_
    rintro e w2 ⟨v2, rfl, ho2, hl2, hb2⟩
    have HB2 := Lib.hid (HB1.out.trans (hb2.mono HB1.out.size))
    clear hb2
    rw [← HE.out] at ho2 hl2 ⊢
    have HO2 := Lib.hid ho2
    clear ho2
    go_wp2_with fail
    go_ret3
    rw [HP.out]
    exact ⟨_, rfl, ⟨HO2.out.lower HB1.out.size, hl2⟩, HB2.out⟩
end Go.Proofs.Ytajmdchidmamcaa.Ex
