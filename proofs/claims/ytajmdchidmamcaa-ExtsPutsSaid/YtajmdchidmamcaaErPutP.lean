/-
  Contracts of hagioscoperef10's PutProtocols and PutVersions over this seat's translation.
-/
import Derived.Test.YtajmdchidmamcaaErPut
namespace Go.Proofs.Ytajmdchidmamcaa.Ex
open Go.RowKit Go.Proofs.Ytajmdchidmamcaa.Wd Go.Proofs.Ytajmdchidmamcaa.Be Go.Proofs.Ytajmdchidmamcaa.He Go.Proofs.Ytajmdchidmamcaa.Ro

/-- where the document's PutProtocols is -/
structure PpAt (w : World) (l : List (List UInt8)) (k : Nat) (A : Option Addr) (n c : Nat) (ws : List UInt8) (wr : World) : Prop where
  src : Src wr A n ws
  cat : catO putP (l.take k) = some ws
  len : ws.length ≤ 300 * k
  bel : Below w.heap.size w wr
theorem putP_yes {x : List UInt8} (h0 : x ≠ []) (h : x.length < 256) : putP x = some (vecB 1 x) := by rw [putP, if_neg h0, if_pos h]
theorem catO_nil : ∀ {l : List (List UInt8)} {w : List UInt8}, catO putP l = some w → (w = [] ↔ l = [])
  | [], w, h => by injection h with h; subst h; simp
  | x :: l, w, h => by
    rw [catO] at h
    cases hp : putP x with
    | none => rw [hp] at h; cases h
    | some a =>
      rw [hp] at h
      cases hc : catO putP l with
      | none => rw [hc] at h; cases h
      | some b =>
        rw [hc] at h
        injection h with h
        subst h
        have : a ≠ [] := by
          unfold putP at hp
          split at hp
          · cases hp
          · split at hp
            · injection hp with hp
              intro h
              have := vecB_len 1 x
              rw [hp, h] at this
              simp at this
              omega
            · cases hp
        simp [this]

set_option maxRecDepth 100000 in
set_option maxHeartbeats 1000000 in
theorem rpprotos_any (A : Option Addr) (n c : Nat) (l : List (List UInt8)) (w : World) (hs : SrcE w elS A l) (hl : l.length = n) (hn : n ≤ 100) (hok : ∀ x ∈ l, x.length ≤ 1000) :
    Calls Try.prog 21 #[.slice A n c] w (ItemP (layS putP 2 l) w) := by
  have HS := Lib.hid hs
  have HN := Lib.hid hl
  have HK := Lib.hid hok
  clear hs hl hok
  go_enter Try.func21, Try.ntmps21
  go_wp2_with fail
  go_loopw [4, 5] (fun v i wr => ∃ k m c A ws, k ≤ n ∧ i = .int .i64 (k : Int) ∧ v = .slice A m c ∧ Hid (PpAt w l k A m c ws wr)) (fun _ i _ => n - (intOf i).toNat)
  case atStart => exact ⟨0, 0, 0, none, [], Nat.zero_le _, rfl, rfl, Lib.hid ⟨Src.nil _, rfl, Nat.zero_le _, Below.refl _ _⟩⟩
  case round =>
    obtain ⟨k, m, c1, A1, ws, hk, rfl, rfl, HA⟩ := hrel
    by_cases hlt : k < n
    · have hki : (k : Int) < (n : Int) := by omega
      obtain ⟨x, hx⟩ : ∃ x, l[k]? = some x := ⟨_, List.getElem?_eq_getElem (by have := HN.out; omega)⟩
      obtain ⟨g, o, hA, hg, hc⟩ := HS.out k x hx
      have HC0 := Lib.hid (show ∀ w', Below w.heap.size w w' → w'.cell? ⟨g, o + k, none⟩ = some (.string (str8 x)) from fun w' hb => (hb.cell (p := ⟨g, _, none⟩) hg).trans (by have := hc 0 _ rfl; simpa [elS] using this))
      have hc0 := HC0.out wr HA.out.bel
      rw [hA]
      have hxl := HK.out x (List.mem_of_getElem? hx)
      have HX := Lib.hid hx
      clear hA hc hx
      obtain ⟨c2, w2, hcv, hs2, hb2, hsz2, _⟩ := bytes_str8 x wr
      have HS2 := Lib.hid hs2
      have HS1 := Lib.hid (HA.out.src.below hb2)
      have HB2 := Lib.hid (HA.out.bel.trans (hb2.mono HA.out.bel.size))
      have hm := HA.out.src.1
      have hml := HA.out.len
      clear hs2 hb2 hsz2
      obtain ⟨xl, hxe⟩ : ∃ n, x.length = n := ⟨_, rfl⟩
      rw [hxe] at hxl HS2 hcv
      have HXl := Lib.hid hxe
      clear hxe
      go_wp2_with fail
      refine (rvecP_any A1 m c1 1 _ xl c2 1 ws x w2 HS1.out HS2.out (by omega) (by omega) cl1 (by omega)).mono ?_
      rintro e w3 ⟨A3, n3, c3, rfl, hs3, hnc3, hb3⟩
      have HB3 := Lib.hid (HB2.out.trans (hb3.mono HB2.out.size))
      have HS3 := Lib.hid hs3
      have hd0 := HC0.out w3 HB3.out
      have hsize : (str8 x).size = xl := HXl.out
      clear hs3 hb3 hcv HS2 HS1 HB2 hc0
      by_cases hbig : xl < 256
      · have hv : vecP ws 1 x = some (ws ++ vecB 1 x) := if_pos (by rw [HXl.out]; exact hbig)
        rw [hv] at HS3 ⊢
        by_cases h0 : xl = 0
        · have HE := Lib.hid (show layS putP 2 l = none from layS_no HX.out (if_pos (List.eq_nil_of_length_eq_zero (by rw [HXl.out]; exact h0))))
          have hb0 : ((xl : Int) == 0) = true := by simp [h0]
          clear h0 hbig hv
          go_wp2_with fail
          go_ret2
          rw [HE.out]
          exact ⟨none, 0, 0, rfl, Src.nil _, Nat.le_refl _, HB3.out⟩
        · have hb0 : ((xl : Int) == 0) = false := beq_eq_false_iff_ne.2 (by omega)
          have HC := Lib.hid (catO_take HX.out HA.out.cat (putP_yes (fun h => h0 (by rw [← HXl.out, h]; rfl)) (by rw [HXl.out]; exact hbig)))
          have HSn := Lib.hid (show Src w3 A3 n3 (ws ++ vecB 1 x) from HS3.out)
          clear h0 hv HS3
          go_wp2_with fail
          go_roundw
          case rel => exact ⟨k + 1, n3, c3, A3, _, by omega, by go_num, rfl, Lib.hid ⟨HSn.out, HC.out, by rw [List.length_append, vecB_len, HXl.out]; omega, HB3.out⟩⟩
          case measure => simp [intOf]; omega
      · have hv : vecP ws 1 x = none := if_neg (by rw [HXl.out]; exact hbig)
        rw [hv] at HS3 ⊢
        have HE := Lib.hid (show layS putP 2 l = none from layS_no HX.out (by rw [putP, if_neg (fun h => hbig (by rw [← HXl.out, h]; show (0 : Nat) < 256; omega)), if_neg (by rw [HXl.out]; exact hbig)]))
        clear hbig hv
        go_wp2_with fail
        go_ret2
        rw [HE.out]
        exact ⟨none, 0, 0, rfl, Src.nil _, Nat.le_refl _, HB3.out⟩
    · obtain rfl : k = n := by omega
      have HC := Lib.hid (show catO putP l = some ws by have := HA.out.cat; rwa [← HN.out, List.take_length] at this)
      have HE := Lib.hid (layS_end (j := 2) HC.out)
      have HN0 := Lib.hid (catO_nil HC.out)
      have HS1 := Lib.hid HA.out.src
      have HB1 := Lib.hid HA.out.bel
      have hm := HA.out.src.1
      have hml := HA.out.len
      clear HA
      go_wp2_with fail
      refine (rvecP_any none 0 0 2 A1 m c1 2 [] ws wr (Src.nil _) HS1.out (by omega) (by omega) cl2 (by omega)).mono ?_
      rintro e w3 ⟨A3, n3, c3, rfl, hs3, hnc3, hb3⟩
      have HB3 := Lib.hid (HB1.out.trans (hb3.mono HB1.out.size))
      have HS3 := Lib.hid hs3
      clear hs3 hb3
      by_cases hbig : ws.length < 256 ^ 2
      · have hv : vecP [] 2 ws = some ([] ++ vecB 2 ws) := if_pos hbig
        rw [hv] at HS3 ⊢
        by_cases h0 : k = 0
        · have HF := Lib.hid (show layS putP 2 l = none by rw [HE.out, if_pos (HN0.out.2 (List.eq_nil_of_length_eq_zero (by rw [HN.out]; exact h0)))])
          have hb0 : ((k : Int) == 0) = true := by simp [h0]
          clear h0 hbig hv hml
          go_wp2_with fail
          go_ret2
          rw [HF.out]
          exact ⟨none, 0, 0, rfl, Src.nil _, Nat.le_refl _, HB3.out⟩
        · have hb0 : ((k : Int) == 0) = false := beq_eq_false_iff_ne.2 (by omega)
          have HF := Lib.hid (show layS putP 2 l = some (vecB 2 ws) by rw [HE.out, if_neg (fun h => h0 (by rw [← HN.out, HN0.out.1 h]; rfl)), if_pos hbig])
          have HSn := Lib.hid (show Src w3 A3 n3 (vecB 2 ws) from HS3.out)
          clear h0 hbig hv hml HS3
          go_wp2_with fail
          go_ret2
          rw [HF.out]
          exact ⟨A3, n3, c3, rfl, HSn.out, hnc3, HB3.out⟩
      · have hv : vecP [] 2 ws = none := if_neg hbig
        rw [hv] at HS3 ⊢
        have HF := Lib.hid (show layS putP 2 l = none by
          rw [HE.out]
          split
          · rfl
          · rfl)
        clear hbig hv hml
        go_wp2_with fail
        go_ret2
        rw [HF.out]
        exact ⟨none, 0, 0, rfl, Src.nil _, Nat.le_refl _, HB3.out⟩

theorem catV_len : ∀ {l : List Int} {w : List UInt8}, catO putV l = some w → w.length = 2 * l.length
  | [], w, h => by injection h with h; subst h; rfl
  | x :: l, w, h => by
    rw [catO] at h
    cases hp : putV x with
    | none => rw [hp] at h; cases h
    | some a =>
      rw [hp] at h
      cases hc : catO putV l with
      | none => rw [hc] at h; cases h
      | some b =>
        rw [hc] at h
        injection h with h
        subst h
        have ha : a.length = 2 := by
          unfold putV at hp
          split at hp
          · injection hp with hp
            rw [← hp, bytesOf_length]
          · cases hp
        rw [List.length_append, ha, catV_len hc, List.length_cons]
        omega
theorem layV_long {l : List Int} (h : 127 < l.length) : layS putV 1 l = none := by
  rw [layS]
  cases hc : catO putV l with
  | none => rfl
  | some w =>
    have := catV_len hc
    have e : (256 : Nat) ^ 1 = 256 := rfl
    simp only
    rw [if_neg (fun h0 => by rw [h0] at this; simp at this; omega), if_neg (by rw [e]; omega)]
theorem layV_nil : layS putV 1 [] = none := rfl
theorem putV_yes {x : Int} (h : 0 ≤ x ∧ x ≤ 65535) : putV x = some (bytesOf x 2) := if_pos h
/-- where the document's PutVersions is -/
structure PvAt (w : World) (l : List Int) (k : Nat) (A : Option Addr) (m : Nat) (ws : List UInt8) (wr : World) : Prop where
  src : Src wr A m (UInt8.ofNat (2 * l.length) :: ws)
  cat : catO putV (l.take k) = some ws
  bel : Below w.heap.size w wr

set_option maxRecDepth 100000 in
set_option maxHeartbeats 1000000 in
theorem rpvers_any (A : Option Addr) (n c : Nat) (l : List Int) (w : World) (hs : SrcE w elI A l) (hl : l.length = n) (hn : n ≤ 1000) :
    Calls Try.prog 23 #[.slice A n c] w (ItemP (layS putV 1 l) w) := by
  have HS := Lib.hid hs
  have HN := Lib.hid hl
  clear hs hl
  by_cases h0 : n = 0
  · have HE := Lib.hid (show layS putV 1 l = none by rw [List.eq_nil_of_length_eq_zero (HN.out.trans h0)]; rfl)
    have hb0 : ((n : Int) == 0) = true := by simp [h0]
    clear h0
    go_enter Try.func23, Try.ntmps23
    go_wp2_with fail
    go_ret2
    rw [HE.out]
    exact ⟨none, 0, 0, rfl, Src.nil _, Nat.le_refl _, Below.refl _ _⟩
  by_cases h127 : 127 < n
  · have HE := Lib.hid (show layS putV 1 l = none from layV_long (by rw [HN.out]; exact h127))
    have hb0 : ((n : Int) == 0) = false := beq_eq_false_iff_ne.2 (by omega)
    have hi : (127 : Int) < (n : Int) := by omega
    clear h0 h127
    go_enter Try.func23, Try.ntmps23
    go_wp2_with fail
    go_ret2
    rw [HE.out]
    exact ⟨none, 0, 0, rfl, Src.nil _, Nat.le_refl _, Below.refl _ _⟩
  have hb0 : ((n : Int) == 0) = false := beq_eq_false_iff_ne.2 (by omega)
  have hi : ¬ (127 : Int) < (n : Int) := by omega
  have hw1 : IntKind.u8.wrap (2 * (n : Int)) = 2 * (n : Int) := by rw [IntKind.wrap_u8]; omega
  have hC : (#[.int .u8 (2 * (n : Int))] : Array Value) = (cellsOf [UInt8.ofNat (2 * l.length)]).toArray := by
    simp [cellsOf, b8, HN.out]
    omega
  have H0 : Hid (PvAt w l 0 (some ⟨w.heap.size, 0, none⟩) 1 [] (w.alloc (.cells #[.int .u8 (2 * (n : Int))] 5))) :=
    Lib.hid ⟨Src.marked w _ _ (0, 0) [UInt8.ofNat (2 * l.length)] hC, rfl, (Below.refl w.heap.size w).alloc (Nat.le_refl _) _⟩
  clear hC
  go_enter Try.func23, Try.ntmps23
  go_wp2_with fail
  clear hw1 hb0 hi
  go_loopw [4, 5] (fun v i wr => ∃ k m c A ws, k ≤ n ∧ i = .int .i64 (k : Int) ∧ v = .slice A m c ∧ m ≤ c ∧ Hid (PvAt w l k A m ws wr)) (fun _ i _ => n - (intOf i).toNat)
  case atStart => exact ⟨0, 1, 1, some ⟨w.heap.size, 0, none⟩, [], Nat.zero_le _, rfl, rfl, Nat.le_refl _, H0⟩
  case round =>
    clear H0
    obtain ⟨k, m, c1, A1, ws, hk, rfl, rfl, hmc, HA⟩ := hrel
    by_cases hlt : k < n
    · have hki : (k : Int) < (n : Int) := by omega
      obtain ⟨x, hx⟩ : ∃ x, l[k]? = some x := ⟨_, List.getElem?_eq_getElem (by have := HN.out; omega)⟩
      obtain ⟨g, o, hA, hg, hc⟩ := HS.out k x hx
      have hc0 : wr.cell? ⟨g, o + k, none⟩ = some (.int .i64 x) := (HA.out.bel.cell (p := ⟨g, _, none⟩) hg).trans (by have := hc 0 _ rfl; simpa [elI] using this)
      rw [hA]
      have HX := Lib.hid hx
      clear hA hc hx
      by_cases hx0 : x < 0
      · have HE := Lib.hid (show layS putV 1 l = none from layS_no HX.out (if_neg (by omega)))
        have hd : decide (x < 0) = true := decide_eq_true hx0
        go_wp2_with fail
        go_ret2
        rw [HE.out]
        exact ⟨none, 0, 0, rfl, Src.nil _, Nat.le_refl _, HA.out.bel⟩
      · have hd : decide (x < 0) = false := decide_eq_false hx0
        by_cases hx1 : 65535 < x
        · have HE := Lib.hid (show layS putV 1 l = none from layS_no HX.out (if_neg (by omega)))
          go_wp2_with fail
          go_ret2
          rw [HE.out]
          exact ⟨none, 0, 0, rfl, Src.nil _, Nat.le_refl _, HA.out.bel⟩
        · have HC := Lib.hid (catO_take HX.out HA.out.cat (putV_yes (x := x) (by omega)))
          have hwl := catV_len HA.out.cat
          have hwl2 : ws.length ≤ 2 * n := by rw [hwl, List.length_take]; omega
          have hml : m ≤ 1 + 2 * n := by have := HA.out.src.1; simp at this; omega
          clear hwl hwl2
          go_wp2_with fail
          refine (RefBe.rput_any A1 m c1 2 x 2 _ wr HA.out.src (by omega) cl2).mono ?_
          rintro e w2 ⟨v2, rfl, ho2, hb2⟩
          obtain ⟨A2, c2, rfl, hc2, hs2⟩ := Own.src ho2
          obtain ⟨m2, hm2⟩ : ∃ m2, (UInt8.ofNat (2 * l.length) :: ws ++ bytesOf x 2).length = m2 := ⟨_, rfl⟩
          rw [hm2] at hc2 hs2 ⊢
          clear hm2
          have HB2 := Lib.hid (HA.out.bel.trans (hb2.mono HA.out.bel.size))
          have HS2 := Lib.hid hs2
          clear ho2 hs2 hb2
          go_wp2_with fail
          go_roundw
          case rel => exact ⟨k + 1, _, c2, A2, ws ++ bytesOf x 2, by omega, by go_num, rfl, hc2, Lib.hid ⟨HS2.out, HC.out, HB2.out⟩⟩
          case measure => simp [intOf]; omega
    · obtain rfl : k = n := by omega
      have hcat : catO putV l = some ws := by have := HA.out.cat; rwa [← HN.out, List.take_length] at this
      have hwl := catV_len hcat
      have e1 : (256 : Nat) ^ 1 = 256 := rfl
      have HE := Lib.hid (show layS putV 1 l = some (UInt8.ofNat (2 * l.length) :: ws) by
        rw [layS_end hcat, if_neg (fun h => by rw [h] at hwl; have := HN.out; simp only [List.length_nil] at hwl; omega), if_pos (by rw [e1]; have := HN.out; omega), vecB]
        congr 1
        have h2 : bytesOf (ws.length : Int) 1 = [Go.Proofs.Ytajmdchidmamcaa.Be.byteOf (ws.length : Int)] := rfl
        rw [h2, byteOf_nat, hwl, Nat.mod_eq_of_lt (by have := HN.out; omega)]
        rfl)
      clear hcat hwl e1
      go_wp2_with fail
      go_ret2
      rw [HE.out]
      exact ⟨A1, m, c1, rfl, HA.out.src, hmc, HA.out.bel⟩
end Go.Proofs.Ytajmdchidmamcaa.Ex
