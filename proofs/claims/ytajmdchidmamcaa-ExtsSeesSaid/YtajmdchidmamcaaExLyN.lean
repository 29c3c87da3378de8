/-
  Contract of package exts' lay over this seat's translation, with hagioscope/exts.layName.
-/
import Derived.Test.YtajmdchidmamcaaExLay
namespace Go.Proofs.Ytajmdchidmamcaa.Ex
open Go.RowKit Go.Proofs.Ytajmdchidmamcaa.Wd Go.Proofs.Ytajmdchidmamcaa.Be Go.Proofs.Ytajmdchidmamcaa.He Go.Proofs.Ytajmdchidmamcaa.Ro

/-- where lay is -/
structure lyNAt (w : World) (l : List (List UInt8)) (k : Nat) (v : Value) (ws : List UInt8) (wr : World) : Prop where
  own : Own wr w.heap.size v ws
  cat : catO putN (l.take k) = some ws
  len : ws.length ≤ 140000
  bel : Below w.heap.size w wr

set_option maxRecDepth 100000 in
set_option maxHeartbeats 1000000 in
theorem lyN_any (A : Option Addr) (n c j : Nat) (size : Int) (l : List (List UInt8)) (w : World) (hs : SrcE w elS A l) (hl : l.length = n) (hn : n ≤ 140737488355328) (hj : clampI size = j) (hj2 : j ≤ 2) :
    Calls Try.prog 42 #[.slice A n c, .int .i64 size, .func (.func 43) #[] #[]] w (ItemP (layS putN j l) w) := by
  have HS := Lib.hid hs
  have HN := Lib.hid hl
  clear hs hl
  go_enter Try.func42, Try.ntmps42
  go_wp2_with fail
  go_loopw [8, 15] (fun v i wr => ∃ k ws, k ≤ n ∧ i = .int .i64 (k : Int) ∧ Hid (lyNAt w l k v ws wr)) (fun _ i _ => n - (intOf i).toNat)
  case atStart => exact ⟨0, [], Nat.zero_le _, rfl, Lib.hid ⟨⟨rfl, .inl ⟨rfl, rfl⟩⟩, rfl, Nat.zero_le _, Below.refl _ _⟩⟩
  case round =>
    obtain ⟨k, ws, hk, rfl, HA⟩ := hrel
    obtain ⟨A2, c2, hv, hc2, hs2⟩ := Own.src HA.out.own
    subst hv
    have hwl := HA.out.len
    by_cases hlt : k < n
    · have hki : (k : Int) < (n : Int) := by omega
      obtain ⟨x, hx⟩ : ∃ x, l[k]? = some x := ⟨_, List.getElem?_eq_getElem (by have := HN.out; omega)⟩
      obtain ⟨g, o, hA, hg, hc⟩ := HS.out k x hx
      have hc0 : wr.cell? ⟨g, o + k, none⟩ = some (.string (str8 x)) := (HA.out.bel.cell (p := ⟨g, _, none⟩) hg).trans (by have := hc 0 _ rfl; simpa [elS] using this)
      rw [hA]
      have HX := Lib.hid hx
      clear hA hc hx
      go_wp2_with fail
      refine (lnam_any x wr).mono ?_
      rintro e w1 ⟨A3, n3, c3, rfl, hs3, hnc3, hb3⟩
      have HS3 := Lib.hid hs3
      have HB3 := Lib.hid (HA.out.bel.trans (hb3.mono HA.out.bel.size))
      have HSr := Lib.hid (hs2.below hb3)
      have HO3 := Lib.hid (show Own w1 w.heap.size (.slice A2 ws.length c2) ws from Own.grown_by HA.out.own hb3)
      clear hs3 hb3 hs2 hc0
      generalize hL : ws.length = L at *
      have HL := Lib.hid hL
      clear hL
      obtain ⟨p, hp⟩ : ∃ p, putN x = p := ⟨_, rfl⟩
      rw [hp] at HS3 ⊢
      have HP := Lib.hid hp
      clear hp
      cases p with
      | none =>
        have HE := Lib.hid (show layS putN j l = none from layS_no HX.out HP.out)
        go_wp2_with fail
        go_ret2
        rw [HE.out]
        exact ⟨none, 0, 0, rfl, Src.nil _, Nat.le_refl _, HB3.out⟩
      | some a =>
        have hal : n3 ≤ 65550 := by have h1 := HS3.out.1; have h2 := putN_len HP.out; rw [← h1]; exact h2
        by_cases hbig : 65535 < L
        · have hbi : (65535 : Int) < (L : Int) := by omega
          have HE := Lib.hid (show layS putN j l = none from layS_long HA.out.cat (by have := HL.out; omega) hj2)
          go_wp2_with fail
          go_ret2
          rw [HE.out]
          exact ⟨none, 0, 0, rfl, Src.nil _, Nat.le_refl _, HB3.out⟩
        · have hbi : ¬ (65535 : Int) < (L : Int) := by omega
          have HC := Lib.hid (catO_take HX.out HA.out.cat HP.out)
          have hsz := HB3.out.size
          have HS3' := Lib.hid (show Src w1 A3 n3 a from HS3.out)
          clear HS3
          go_wp2_with (at_builtin; refine wpList_app rfl _ _ _ rfl und8 inf8 w.heap.size (.slice A2 L c2) ws rfl (by exact HO3.out) A3 n3 c3 a rfl (by exact HS3'.out) (by have := HL.out; omega) hsz ?_; intro v4 w4 ho4 hb4)
          have HB4 := Lib.hid (HB3.out.trans hb4)
          go_roundw
          case rel => exact ⟨k + 1, ws ++ a, by omega, by go_num, Lib.hid ⟨ho4.out, HC.out, by have := HL.out; have := HS3'.out.1; rw [List.length_append]; omega, HB4.out⟩⟩
          case measure => simp [intOf]; omega
    · obtain rfl : k = n := by omega
      have HC := Lib.hid (show catO putN l = some ws by have := HA.out.cat; rwa [← HN.out, List.take_length] at this)
      have HE := Lib.hid (layS_end (j := j) HC.out)
      have HB := Lib.hid HA.out.bel
      have HS2 := Lib.hid hs2
      clear hs2 HA
      generalize hL : ws.length = L at *
      have HL := Lib.hid hL
      clear hL
      by_cases h0 : L = 0
      · have hw : ws = [] := List.eq_nil_of_length_eq_zero (by rw [HL.out]; exact h0)
        have HF := Lib.hid (show layS putN j l = none by rw [HE.out, if_pos hw])
        have hb0 : ((L : Int) == 0) = true := by simp [h0]
        clear h0 hw
        go_wp2_with fail
        go_ret2
        rw [HF.out]
        exact ⟨none, 0, 0, rfl, Src.nil _, Nat.le_refl _, HB.out⟩
      · have hw : ¬ ws = [] := fun h => h0 (by rw [← HL.out, h]; rfl)
        have HF := Lib.hid (show layS putN j l = vecP [] j ws by rw [HE.out, if_neg hw, vecP, HL.out]; rfl)
        have hb0 : ((L : Int) == 0) = false := by simp [h0]
        clear h0 hw
        go_wp2_with fail
        refine (bvec_any none 0 0 j A2 L c2 size [] ws wr (Src.nil _) HS2.out (by omega) (by omega) hj hj2).mono ?_
        rintro e w1 ⟨A3, n3, c3, rfl, hs3, hnc3, hb3⟩
        have HB3 := Lib.hid (HB.out.trans (hb3.mono HB.out.size))
        have HS3 := Lib.hid hs3
        clear hs3 hb3
        rw [← HF.out] at HS3 ⊢
        go_wp2_with fail
        go_ret2
        exact ⟨A3, n3, c3, rfl, HS3.out, hnc3, HB3.out⟩
end Go.Proofs.Ytajmdchidmamcaa.Ex
