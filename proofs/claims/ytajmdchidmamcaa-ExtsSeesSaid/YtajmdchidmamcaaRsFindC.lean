/-
  Contract of hagioscoperef09's Find over this seat's translation, with how much room what is found has.
-/
import Derived.Test.YtajmdchidmamcaaHeFind
namespace Go.Proofs.Ytajmdchidmamcaa.He
open Go.RowKit Go.Proofs.Ytajmdchidmamcaa.Wd Go.Proofs.Ytajmdchidmamcaa.Be

def RFindPostC (p : List UInt8 × Bool) (w : World) (e : Ending) (w' : World) : Prop :=
  ∃ A n c, e = .returned (.tuple #[.slice A n c, .bool p.2]) ∧ Src w' A n p.1 ∧ n ≤ c ∧ c ≤ 9223372036854775807 ∧ Below w.heap.size w w'

set_option maxRecDepth 100000 in
set_option maxHeartbeats 1000000 in
theorem rfindc_any (H : Hv) (kind : Int) (w : World) (hH : H.Ok w) (hcm : ∀ x ∈ H.xs, x.c ≤ maxLen) :
    Calls Try.prog 54 #[.agg H.C, .int .i64 kind] w (RFindPostC (findL H.hel.exts kind) w) := by
  have HH := Lib.hid hH
  have HCm := Lib.hid hcm
  have hr := hH.rnd
  have hx1 := hH.x1
  clear hH hcm
  obtain ⟨R, hR⟩ : ∃ R, R = findL H.hel.exts kind := ⟨_, rfl⟩
  have HR0 := Lib.hid hR
  rw [← hR]
  clear hR
  go_enter Try.func54, Try.ntmps54
  go_upto_region 1 with fail
  have hb0 := Blk.new w 44 H.C
  have HB := Lib.hid ((Below.refl w.heap.size w).alloc (Nat.le_refl _) (.cells H.C 44))
  generalize w.alloc (.cells H.C 44) = w1 at *
  have hcx := cell_xs hb0 hr
  clear hb0
  obtain ⟨n, hn⟩ : ∃ n, n = H.xs.length := ⟨_, rfl⟩
  rw [← hn] at hcx hx1
  have HN := Lib.hid hn
  clear hn
  go_wp2_with fail
  go_loop [6] (fun i => ∃ k, k ≤ n ∧ i = .int .i64 (k : Int) ∧ Hid (R = findL ((H.xs.drop k).map ext) kind)) (fun i => n - (intOf i).toNat)
  case atStart => exact ⟨0, Nat.zero_le _, rfl, Lib.hid (by rw [List.drop_zero]; exact HR0.out)⟩
  case round =>
    obtain ⟨k, hk, rfl, HE⟩ := hrel
    by_cases hlt : k < n
    · have hki : (k : Int) < (n : Int) := by omega
      obtain ⟨x, hx⟩ : ∃ x, H.xs[k]? = some x := ⟨_, List.getElem?_eq_getElem (by have := HN.out; omega)⟩
      obtain ⟨hok, g, o, hA, hgw, h0, h1⟩ := HH.out.xs k x hx
      rw [hA] at hcx
      have hc0 := (HB.out.cell (p := ⟨g, _, none⟩) hgw).trans h0
      have hc1 := (HB.out.cell (p := ⟨g, _, none⟩) hgw).trans h1
      have HOk := Lib.hid hok
      have HX := Lib.hid hx
      clear h0 h1 hok hx HR0 hA
      by_cases hkd : x.kind = kind
      · have HF := Lib.hid (show R = (x.b, true) by rw [HE.out]; exact findL_stop HX.out kind hkd)
        have hkb : (x.kind == kind) = true := by simpa using hkd
        clear hkd
        go_wp2_with fail
        go_ret2
        rw [HF.out]
        exact ⟨_, _, _, rfl, HOk.out.src.below HB.out, HOk.out.nc, by have := HCm.out x (List.mem_of_getElem? HX.out); unfold maxLen at this; omega, HB.out⟩
      · have HG := Lib.hid (show R = findL ((H.xs.drop (k + 1)).map ext) kind by rw [HE.out]; exact findL_go HX.out kind hkd)
        have hkb : (x.kind == kind) = false := by simpa using hkd
        clear hkd
        go_wp2_with fail
        go_round
        case rel => exact ⟨k + 1, by omega, by go_num, HG⟩
        case measure => simp [intOf]; omega
    · obtain rfl : k = n := by omega
      have HF := Lib.hid (show R = ([], false) by rw [HE.out, List.drop_eq_nil_of_le (by have := HN.out; omega)]; rfl)
      go_wp2_with fail
      go_ret2
      rw [HF.out]
      exact ⟨_, _, _, rfl, Src.nil _, Nat.le_refl _, by omega, HB.out⟩
end Go.Proofs.Ytajmdchidmamcaa.He
