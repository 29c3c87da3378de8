/-
  Contract of package authority's Print over this seat's translation: it answers what printS says.
-/
import Derived.Test.YtgpgkfbbpiialaaGreatDoorAuFns
import Derived.Test.YtgpgkfbbpiialaaGreatDoorRfNum
import Derived.Test.YtgpgkfbbpiialaaGreatDoorFdFind
import Derived.Lib.ItoaLen
import Derived.Test.YtgpgkfbbpiialaaGreatDoorAuRPar
namespace Go.Proofs.YtgpgkfbbpiialaaGreatDoor.Au
open Go.RowKit Go.Proofs.YtgpgkfbbpiialaaGreatDoor.Wd Go.Proofs.YtgpgkfbbpiialaaGreatDoor.Asc Go.Proofs.YtgpgkfbbpiialaaGreatDoor.Tx Go.Proofs.YtgpgkfbbpiialaaGreatDoor.St

/-- the line that a number, be it below zero, is printed into -/
def lineI (h : List UInt8) (p : Int) : List UInt8 := bodyS h ++ if p = 0 then [] else 58 :: Lib.itoa p
theorem line_is {h : List UInt8} {p : Int} (h0 : 0 ≤ p) : lineI h p = lineS h p := by
  obtain ⟨n, rfl⟩ := Int.eq_ofNat_of_zero_le h0
  unfold lineI lineS tailS
  split
  · rfl
  · rw [Lib.itoa_nonneg, ← Ad.txt_dec]; rfl
theorem print_fin (h : List UInt8) (p : Int) (q : Res) (hq : parseS (lineI h p) = q) : printS h p = if q = (h, p, 0) then some (lineI h p) else none := by
  by_cases h0 : 0 ≤ p
  · unfold printS
    rw [← line_is h0, hq]
    by_cases c : q = (h, p, 0)
    · rw [if_pos ⟨h0, c⟩, if_pos c]
    · rw [if_neg (fun k => c k.2), if_neg c]
  · rw [print_no (.inl (by omega)), if_neg]
    intro c
    subst c
    have := parse_port_le hq
    omega

set_option linter.unusedSimpArgs false in
set_option maxRecDepth 100000 in
set_option maxHeartbeats 8000000 in
theorem print_any {B : Nat} (H : ByteArray) (p : Int) (w : World) (hE : Ad.Env B w) (hz : H.size ≤ 100000) (h3 : -9223372036854775808 ≤ p ∧ p ≤ 9223372036854775807) :
    Calls Tryz.prog 5 #[.string H, .int .i64 p] w fun e w' => e = .returned (Rl.optT (printS (bs H) p)) ∧ Below w.heap.size w w' := by
  have HE := Lib.hid hE
  have HCl := Lib.hid (fun w => clone_any H w (by omega))
  have HCo := Lib.hid (fun w => has_any H 58 w)
  have HI := Lib.hid (fun w hE => itoa_any (B := B) p h3.1 h3.2 w hE)
  obtain ⟨I, hI⟩ : ∃ I, str (Lib.itoa p) = I := ⟨_, rfl⟩
  have sI : I.size ≤ 21 := by rw [← hI, str_size]; exact Lib.itoa_length_le p h3.1 h3.2
  rw [hI] at HI
  obtain ⟨L, hL⟩ : ∃ L, str (lineI (bs H) p) = L := ⟨_, rfl⟩
  have hLb : bs L = lineI (bs H) p := by rw [← hL, bs_str]
  have HFin : Hid (∀ q, parseS (bs L) = q → printS (bs H) p = if q = (bs H, p, 0) then some (bs L) else none) := Lib.hid (fun q hq => by rw [hLb] at hq ⊢; exact print_fin _ _ q hq)
  have z0 : ((⟨#[91]⟩ : ByteArray) ++ H).size ≤ 100001 := by rw [ByteArray.size_append]; show 1 + H.size ≤ _; omega
  have z1 : ((⟨#[91]⟩ : ByteArray) ++ H ++ (⟨#[93]⟩ : ByteArray)).size ≤ 100002 := by rw [ByteArray.size_append]; show _ + 1 ≤ _; omega
  have z2 : ((⟨#[58]⟩ : ByteArray) ++ I).size ≤ 22 := by rw [ByteArray.size_append]; show 1 + I.size ≤ _; omega
  have hLz : ∀ X : ByteArray, X = L → X.size ≤ 200000 → L.size < 4294967281 := fun X h k => by rw [← h]; omega
  clear hE
  by_cases c1 : (58 : UInt8) ∈ bs H
  · rw [decide_eq_true c1] at HCo
    by_cases c2 : p = 0
    · have n2 : (p != 0) = false := by simp [c2]
      have HX : Hid ((⟨#[91]⟩ : ByteArray) ++ H ++ (⟨#[93]⟩ : ByteArray) = L) := Lib.hid (by
        apply bs_inj
        rw [hLb, lineI, bodyS, if_pos c1, if_pos c2]
        (try simp only [bs_add])
        simp [bs])
      have zL := hLz _ HX.out (by omega)
      have HP := Lib.hid (fun w hE => parse_any (B := B) L w hE zL)
      unfold ResP at HP
      clear hLb hL hI c1 c2 hLz
      go_enter Tryz.func5, Tryz.ntmps5
      go_wp2_with fail
      refine (HCl.out _).mono ?_
      rintro e w1 ⟨rfl, hb1⟩
      have HB1 := Lib.hid hb1
      clear hb1 HCl
      go_wp2_with fail
      refine (HCo.out _).mono ?_
      rintro e w2 ⟨rfl, rfl⟩
      clear HCo
      have HB3 := HB1
      clear HB1
      go_wp2_with fail
      rw [HX.out]
      clear HX
      refine (HP.out _ (HE.out.on HB3.out)).mono ?_
      rintro e w4 ⟨rfl, hb4⟩
      clear z0 z1 z2
      obtain ⟨⟨h2, p2, e2⟩, hq⟩ : ∃ q, parseS (bs L) = q := ⟨_, rfl⟩
      rw [hq]
      unfold resT
      have HFi := Lib.hid (HFin.out _ hq)
      have HB4 := Lib.hid (HB3.out.trans (hb4.mono HB3.out.size))
      clear hb4 hq HFin HP
      obtain ⟨H2, hH2⟩ : ∃ H2, str h2 = H2 := ⟨_, rfl⟩
      have hne := Fd.eq_bytes H2 H
      by_cases c1 : e2 = 0
      · subst c1
        by_cases c2 : H2 = H
        · have hh2 : h2 = bs H := by rw [← c2, ← hH2, bs_str]
          rw [decide_eq_true c2] at hne
          have hne : (H2.toList == H.toList) = true := hne
          by_cases c3 : p2 = p
          · have HO : Hid (Rl.optT (printS (bs H) p) = .tuple #[.string L, .bool true]) := Lib.hid (by rw [HFi.out, if_pos (by rw [hh2, c3]), Rl.optT, str_bs])
            have n3 : (p2 != p) = false := by simp [c3]
            clear HFi hh2 c2 c3
            go_wp2_with fail
            go_ret2
            exact ⟨by rw [HO.out]; rfl, HB4.out⟩
          · have HO : Hid (printS (bs H) p = none) := Lib.hid (by rw [HFi.out, if_neg (fun k => c3 (by injection k with _ k; injection k))])
            have n3 : (p2 != p) = true := by simp [c3]
            clear HFi hh2 c2 c3
            go_wp2_with fail
            go_ret2
            exact ⟨by rw [HO.out]; rfl, HB4.out⟩
        · have HO : Hid (printS (bs H) p = none) := Lib.hid (by rw [HFi.out, if_neg (fun k => c2 (by injection k with k; rw [← hH2, k, str_bs]))])
          rw [decide_eq_false c2] at hne
          have hne : (H2.toList == H.toList) = false := hne
          clear HFi c2
          go_wp2_with fail
          go_ret2
          exact ⟨by rw [HO.out]; rfl, HB4.out⟩
      · have HO : Hid (printS (bs H) p = none) := Lib.hid (by rw [HFi.out, if_neg (fun k => c1 (by injection k with _ k; injection k))])
        have n1 : (e2 != 0) = true := by simpa using c1
        clear HFi c1
        go_wp2_with fail
        go_ret2
        exact ⟨by rw [HO.out]; rfl, HB4.out⟩
    · have n2 : (p != 0) = true := by simpa using c2
      have HX : Hid ((⟨#[91]⟩ : ByteArray) ++ H ++ (⟨#[93]⟩ : ByteArray) ++ ((⟨#[58]⟩ : ByteArray) ++ I) = L) := Lib.hid (by
        apply bs_inj
        rw [hLb, lineI, bodyS, if_pos c1, if_neg c2, ← show bs I = Lib.itoa p by rw [← hI, bs_str]]
        (try simp only [bs_add])
        simp [bs])
      have z3 : ((⟨#[91]⟩ : ByteArray) ++ H ++ (⟨#[93]⟩ : ByteArray) ++ ((⟨#[58]⟩ : ByteArray) ++ I)).size ≤ 200000 := by rw [ByteArray.size_append]; omega
      have zL := hLz _ HX.out (by omega)
      have HP := Lib.hid (fun w hE => parse_any (B := B) L w hE zL)
      unfold ResP at HP
      clear hLb hL hI c1 c2 hLz
      go_enter Tryz.func5, Tryz.ntmps5
      go_wp2_with fail
      refine (HCl.out _).mono ?_
      rintro e w1 ⟨rfl, hb1⟩
      have HB1 := Lib.hid hb1
      clear hb1 HCl
      go_wp2_with fail
      refine (HCo.out _).mono ?_
      rintro e w2 ⟨rfl, rfl⟩
      clear HCo
      go_wp2_with fail
      refine (HI.out _ (tx_of (HE.out.on HB1.out))).mono ?_
      rintro e w3 ⟨rfl, hb3⟩
      have HB3 := Lib.hid (HB1.out.trans (hb3.mono HB1.out.size))
      clear hb3 HI HB1
      go_wp2_with fail
      rw [HX.out]
      clear HX
      refine (HP.out _ (HE.out.on HB3.out)).mono ?_
      rintro e w4 ⟨rfl, hb4⟩
      clear z0 z1 z2 z3
      obtain ⟨⟨h2, p2, e2⟩, hq⟩ : ∃ q, parseS (bs L) = q := ⟨_, rfl⟩
      rw [hq]
      unfold resT
      have HFi := Lib.hid (HFin.out _ hq)
      have HB4 := Lib.hid (HB3.out.trans (hb4.mono HB3.out.size))
      clear hb4 hq HFin HP
      obtain ⟨H2, hH2⟩ : ∃ H2, str h2 = H2 := ⟨_, rfl⟩
      have hne := Fd.eq_bytes H2 H
      by_cases c1 : e2 = 0
      · subst c1
        by_cases c2 : H2 = H
        · have hh2 : h2 = bs H := by rw [← c2, ← hH2, bs_str]
          rw [decide_eq_true c2] at hne
          have hne : (H2.toList == H.toList) = true := hne
          by_cases c3 : p2 = p
          · have HO : Hid (Rl.optT (printS (bs H) p) = .tuple #[.string L, .bool true]) := Lib.hid (by rw [HFi.out, if_pos (by rw [hh2, c3]), Rl.optT, str_bs])
            have n3 : (p2 != p) = false := by simp [c3]
            clear HFi hh2 c2 c3
            go_wp2_with fail
            go_ret2
            exact ⟨by rw [HO.out]; rfl, HB4.out⟩
          · have HO : Hid (printS (bs H) p = none) := Lib.hid (by rw [HFi.out, if_neg (fun k => c3 (by injection k with _ k; injection k))])
            have n3 : (p2 != p) = true := by simp [c3]
            clear HFi hh2 c2 c3
            go_wp2_with fail
            go_ret2
            exact ⟨by rw [HO.out]; rfl, HB4.out⟩
        · have HO : Hid (printS (bs H) p = none) := Lib.hid (by rw [HFi.out, if_neg (fun k => c2 (by injection k with k; rw [← hH2, k, str_bs]))])
          rw [decide_eq_false c2] at hne
          have hne : (H2.toList == H.toList) = false := hne
          clear HFi c2
          go_wp2_with fail
          go_ret2
          exact ⟨by rw [HO.out]; rfl, HB4.out⟩
      · have HO : Hid (printS (bs H) p = none) := Lib.hid (by rw [HFi.out, if_neg (fun k => c1 (by injection k with _ k; injection k))])
        have n1 : (e2 != 0) = true := by simpa using c1
        clear HFi c1
        go_wp2_with fail
        go_ret2
        exact ⟨by rw [HO.out]; rfl, HB4.out⟩
  · rw [decide_eq_false c1] at HCo
    by_cases c2 : p = 0
    · have n2 : (p != 0) = false := by simp [c2]
      have HX : Hid (H = L) := Lib.hid (by
        apply bs_inj
        rw [hLb, lineI, bodyS, if_neg c1, if_pos c2]
        (try simp only [bs_add])
        simp [bs])
      have zL := hLz _ HX.out (by omega)
      have HP := Lib.hid (fun w hE => parse_any (B := B) L w hE zL)
      unfold ResP at HP
      clear hLb hL hI c1 c2 hLz
      go_enter Tryz.func5, Tryz.ntmps5
      go_wp2_with fail
      refine (HCl.out _).mono ?_
      rintro e w1 ⟨rfl, hb1⟩
      have HB1 := Lib.hid hb1
      clear hb1 HCl
      go_wp2_with fail
      refine (HCo.out _).mono ?_
      rintro e w2 ⟨rfl, rfl⟩
      clear HCo
      have HB3 := HB1
      clear HB1
      go_wp2_with fail
      have hLH := HX.out
      clear HX
      subst hLH
      refine (HP.out _ (HE.out.on HB3.out)).mono ?_
      rintro e w4 ⟨rfl, hb4⟩
      clear z0 z1 z2
      obtain ⟨⟨h2, p2, e2⟩, hq⟩ : ∃ q, parseS (bs H) = q := ⟨_, rfl⟩
      rw [hq]
      unfold resT
      have HFi := Lib.hid (HFin.out _ hq)
      have HB4 := Lib.hid (HB3.out.trans (hb4.mono HB3.out.size))
      clear hb4 hq HFin HP
      obtain ⟨H2, hH2⟩ : ∃ H2, str h2 = H2 := ⟨_, rfl⟩
      have hne := Fd.eq_bytes H2 H
      by_cases c1 : e2 = 0
      · subst c1
        by_cases c2 : H2 = H
        · have hh2 : h2 = bs H := by rw [← c2, ← hH2, bs_str]
          rw [decide_eq_true c2] at hne
          have hne : (H2.toList == H.toList) = true := hne
          by_cases c3 : p2 = p
          · have HO : Hid (Rl.optT (printS (bs H) p) = .tuple #[.string H, .bool true]) := Lib.hid (by rw [HFi.out, if_pos (by rw [hh2, c3]), Rl.optT, str_bs])
            have n3 : (p2 != p) = false := by simp [c3]
            clear HFi hh2 c2 c3
            go_wp2_with fail
            go_ret2
            exact ⟨by rw [HO.out]; rfl, HB4.out⟩
          · have HO : Hid (printS (bs H) p = none) := Lib.hid (by rw [HFi.out, if_neg (fun k => c3 (by injection k with _ k; injection k))])
            have n3 : (p2 != p) = true := by simp [c3]
            clear HFi hh2 c2 c3
            go_wp2_with fail
            go_ret2
            exact ⟨by rw [HO.out]; rfl, HB4.out⟩
        · have HO : Hid (printS (bs H) p = none) := Lib.hid (by rw [HFi.out, if_neg (fun k => c2 (by injection k with k; rw [← hH2, k, str_bs]))])
          rw [decide_eq_false c2] at hne
          have hne : (H2.toList == H.toList) = false := hne
          clear HFi c2
          go_wp2_with fail
          go_ret2
          exact ⟨by rw [HO.out]; rfl, HB4.out⟩
      · have HO : Hid (printS (bs H) p = none) := Lib.hid (by rw [HFi.out, if_neg (fun k => c1 (by injection k with _ k; injection k))])
        have n1 : (e2 != 0) = true := by simpa using c1
        clear HFi c1
        go_wp2_with fail
        go_ret2
        exact ⟨by rw [HO.out]; rfl, HB4.out⟩
    · have n2 : (p != 0) = true := by simpa using c2
      have HX : Hid (H ++ ((⟨#[58]⟩ : ByteArray) ++ I) = L) := Lib.hid (by
        apply bs_inj
        rw [hLb, lineI, bodyS, if_neg c1, if_neg c2, ← show bs I = Lib.itoa p by rw [← hI, bs_str]]
        (try simp only [bs_add])
        simp [bs])
      have z3 : (H ++ ((⟨#[58]⟩ : ByteArray) ++ I)).size ≤ 200000 := by rw [ByteArray.size_append]; omega
      have zL := hLz _ HX.out (by omega)
      have HP := Lib.hid (fun w hE => parse_any (B := B) L w hE zL)
      unfold ResP at HP
      clear hLb hL hI c1 c2 hLz
      go_enter Tryz.func5, Tryz.ntmps5
      go_wp2_with fail
      refine (HCl.out _).mono ?_
      rintro e w1 ⟨rfl, hb1⟩
      have HB1 := Lib.hid hb1
      clear hb1 HCl
      go_wp2_with fail
      refine (HCo.out _).mono ?_
      rintro e w2 ⟨rfl, rfl⟩
      clear HCo
      go_wp2_with fail
      refine (HI.out _ (tx_of (HE.out.on HB1.out))).mono ?_
      rintro e w3 ⟨rfl, hb3⟩
      have HB3 := Lib.hid (HB1.out.trans (hb3.mono HB1.out.size))
      clear hb3 HI HB1
      go_wp2_with fail
      rw [HX.out]
      clear HX
      refine (HP.out _ (HE.out.on HB3.out)).mono ?_
      rintro e w4 ⟨rfl, hb4⟩
      clear z0 z1 z2 z3
      obtain ⟨⟨h2, p2, e2⟩, hq⟩ : ∃ q, parseS (bs L) = q := ⟨_, rfl⟩
      rw [hq]
      unfold resT
      have HFi := Lib.hid (HFin.out _ hq)
      have HB4 := Lib.hid (HB3.out.trans (hb4.mono HB3.out.size))
      clear hb4 hq HFin HP
      obtain ⟨H2, hH2⟩ : ∃ H2, str h2 = H2 := ⟨_, rfl⟩
      have hne := Fd.eq_bytes H2 H
      by_cases c1 : e2 = 0
      · subst c1
        by_cases c2 : H2 = H
        · have hh2 : h2 = bs H := by rw [← c2, ← hH2, bs_str]
          rw [decide_eq_true c2] at hne
          have hne : (H2.toList == H.toList) = true := hne
          by_cases c3 : p2 = p
          · have HO : Hid (Rl.optT (printS (bs H) p) = .tuple #[.string L, .bool true]) := Lib.hid (by rw [HFi.out, if_pos (by rw [hh2, c3]), Rl.optT, str_bs])
            have n3 : (p2 != p) = false := by simp [c3]
            clear HFi hh2 c2 c3
            go_wp2_with fail
            go_ret2
            exact ⟨by rw [HO.out]; rfl, HB4.out⟩
          · have HO : Hid (printS (bs H) p = none) := Lib.hid (by rw [HFi.out, if_neg (fun k => c3 (by injection k with _ k; injection k))])
            have n3 : (p2 != p) = true := by simp [c3]
            clear HFi hh2 c2 c3
            go_wp2_with fail
            go_ret2
            exact ⟨by rw [HO.out]; rfl, HB4.out⟩
        · have HO : Hid (printS (bs H) p = none) := Lib.hid (by rw [HFi.out, if_neg (fun k => c2 (by injection k with k; rw [← hH2, k, str_bs]))])
          rw [decide_eq_false c2] at hne
          have hne : (H2.toList == H.toList) = false := hne
          clear HFi c2
          go_wp2_with fail
          go_ret2
          exact ⟨by rw [HO.out]; rfl, HB4.out⟩
      · have HO : Hid (printS (bs H) p = none) := Lib.hid (by rw [HFi.out, if_neg (fun k => c1 (by injection k with _ k; injection k))])
        have n1 : (e2 != 0) = true := by simpa using c1
        clear HFi c1
        go_wp2_with fail
        go_ret2
        exact ⟨by rw [HO.out]; rfl, HB4.out⟩
end Go.Proofs.YtgpgkfbbpiialaaGreatDoor.Au

/-
  Contract of hagioscoperef13's Print over this seat's translation: it answers what printS says.
-/
namespace Go.Proofs.YtgpgkfbbpiialaaGreatDoor.Au
open Go.RowKit Go.Proofs.YtgpgkfbbpiialaaGreatDoor.Wd Go.Proofs.YtgpgkfbbpiialaaGreatDoor.Asc Go.Proofs.YtgpgkfbbpiialaaGreatDoor.Tx Go.Proofs.YtgpgkfbbpiialaaGreatDoor.St

set_option linter.unusedSimpArgs false in
set_option maxRecDepth 100000 in
set_option maxHeartbeats 8000000 in
theorem rprint_any (H : ByteArray) (p : Int) (w : World) (hz : H.size ≤ 100000) (h3 : -9223372036854775808 ≤ p ∧ p ≤ 9223372036854775807) :
    Calls Tryz.prog 6 #[.string H, .int .i64 p] w fun e w' => e = .returned (Rl.optT (printS (bs H) p)) ∧ Below w.heap.size w w' := by
  have HCo : Hid (∀ w, Calls Tryz.prog 13 #[.string H, .int .u8 58] w fun e w' => e = .returned (.bool (decide ((58 : UInt8) ∈ bs H))) ∧ w = w') := Lib.hid (fun w => rhas_any H 58 w (by unfold maxLen; omega))
  obtain ⟨I, hI⟩ : ∃ I, txtS p.toNat = I := ⟨_, rfl⟩
  have HI : Hid (0 ≤ p → ∀ w, Calls Tryz.prog 14 #[.int .i64 p] w fun e w' => e = .returned (.string I) ∧ w = w') := Lib.hid (fun h0 w => by
    rw [← hI]; exact text_any p.toNat p w (by omega) (by omega))
  have hIl : 0 ≤ p → bs I = Lib.itoa p := fun h0 => by
    obtain ⟨n, rfl⟩ := Int.eq_ofNat_of_zero_le h0
    rw [← hI, bs_txt, Lib.itoa_nonneg, ← Ad.txt_dec]; rfl
  have sI : 0 ≤ p → I.size ≤ 21 := fun h0 => by rw [← bs_length, hIl h0]; exact Lib.itoa_length_le p h3.1 h3.2
  obtain ⟨L, hL⟩ : ∃ L, str (lineI (bs H) p) = L := ⟨_, rfl⟩
  have hLb : bs L = lineI (bs H) p := by rw [← hL, bs_str]
  have HFin : Hid (∀ q, parseS (bs L) = q → printS (bs H) p = if q = (bs H, p, 0) then some (bs L) else none) := Lib.hid (fun q hq => by rw [hLb] at hq ⊢; exact print_fin _ _ q hq)
  have z0 : ((⟨#[91]⟩ : ByteArray) ++ H).size ≤ 100001 := by rw [ByteArray.size_append]; show 1 + H.size ≤ _; omega
  have z1 : ((⟨#[91]⟩ : ByteArray) ++ H ++ (⟨#[93]⟩ : ByteArray)).size ≤ 100002 := by rw [ByteArray.size_append]; show _ + 1 ≤ _; omega
  have hLz : ∀ X : ByteArray, X = L → X.size ≤ 200000 → L.size ≤ 2147483640 := fun X h k => by rw [← h]; omega
  by_cases c1 : (58 : UInt8) ∈ bs H
  · rw [decide_eq_true c1] at HCo
    by_cases c0 : p < 0
    · have HO : Hid (printS (bs H) p = none) := Lib.hid (print_no (.inl c0))
      clear hLb hL hI c1 hLz HI sI hIl HFin
      go_enter Tryz.func6, Tryz.ntmps6
      go_wp2_with fail
      refine (HCo.out _).mono ?_
      rintro e w1 ⟨rfl, rfl⟩
      go_wp2_with fail
      go_ret2
      exact ⟨by rw [HO.out]; rfl, Below.refl _ _⟩
    by_cases c2 : p = 0
    · have n2 : (p != 0) = false := by simp [c2]
      have HX : Hid ((⟨#[91]⟩ : ByteArray) ++ H ++ (⟨#[93]⟩ : ByteArray) = L) := Lib.hid (by
        apply bs_inj
        rw [hLb, lineI, bodyS, if_pos c1, if_pos c2]
        (try simp only [bs_add])
        simp [bs])
      have zL := hLz _ HX.out (by omega)
      have HP := Lib.hid (fun w => rparse_any L w zL)
      unfold ResP at HP
      clear hLb hL hI c1 hLz HI sI hIl
      go_enter Tryz.func6, Tryz.ntmps6
      go_wp2_with fail
      refine (HCo.out _).mono ?_
      rintro e w2 ⟨rfl, rfl⟩
      clear HCo
      have HB3 := Lib.hid (Below.refl w.heap.size w)
      go_wp2_with fail
      rw [HX.out]
      clear HX
      refine (HP.out _).mono ?_
      rintro e w4 ⟨rfl, hb4⟩
      clear z0 z1
      obtain ⟨⟨h2, p2, e2⟩, hq⟩ : ∃ q, parseS (bs L) = q := ⟨_, rfl⟩
      rw [hq]
      unfold resT
      have HFi := Lib.hid (HFin.out _ hq)
      have HB4 := Lib.hid (HB3.out.trans (hb4.mono HB3.out.size))
      clear hb4 hq HFin HP
      obtain ⟨H2, hH2⟩ : ∃ H2, str h2 = H2 := ⟨_, rfl⟩
      have hne := Fd.eq_bytes H2 H
      by_cases c1 : e2 = 0
      · subst c1
        by_cases c2 : H2 = H
        · have hh2 : h2 = bs H := by rw [← c2, ← hH2, bs_str]
          rw [decide_eq_true c2] at hne
          have hne : (H2.toList == H.toList) = true := hne
          by_cases c3 : p2 = p
          · have HO : Hid (Rl.optT (printS (bs H) p) = .tuple #[.string L, .bool true]) := Lib.hid (by rw [HFi.out, if_pos (by rw [hh2, c3]), Rl.optT, str_bs])
            have n3 : (p2 != p) = false := by simp [c3]
            clear HFi hh2 c2 c3
            go_wp2_with fail
            go_ret2
            exact ⟨by rw [HO.out]; rfl, HB4.out⟩
          · have HO : Hid (printS (bs H) p = none) := Lib.hid (by rw [HFi.out, if_neg (fun k => c3 (by injection k with _ k; injection k))])
            have n3 : (p2 != p) = true := by simp [c3]
            clear HFi hh2 c2 c3
            go_wp2_with fail
            go_ret2
            exact ⟨by rw [HO.out]; rfl, HB4.out⟩
        · have HO : Hid (printS (bs H) p = none) := Lib.hid (by rw [HFi.out, if_neg (fun k => c2 (by injection k with k; rw [← hH2, k, str_bs]))])
          rw [decide_eq_false c2] at hne
          have hne : (H2.toList == H.toList) = false := hne
          clear HFi c2
          go_wp2_with fail
          go_ret2
          exact ⟨by rw [HO.out]; rfl, HB4.out⟩
      · have HO : Hid (printS (bs H) p = none) := Lib.hid (by rw [HFi.out, if_neg (fun k => c1 (by injection k with _ k; injection k))])
        have n1 : (e2 != 0) = true := by simpa using c1
        clear HFi c1
        go_wp2_with fail
        go_ret2
        exact ⟨by rw [HO.out]; rfl, HB4.out⟩
    · have n2 : (p != 0) = true := by simpa using c2
      have HX : Hid ((⟨#[91]⟩ : ByteArray) ++ H ++ (⟨#[93]⟩ : ByteArray) ++ (⟨#[58]⟩ : ByteArray) ++ I = L) := Lib.hid (by
        apply bs_inj
        rw [hLb, lineI, bodyS, if_pos c1, if_neg c2, ← hIl (by omega)]
        (try simp only [bs_add])
        simp [bs])
      have sJ := sI (by omega)
      have z4 : ((⟨#[91]⟩ : ByteArray) ++ H ++ (⟨#[93]⟩ : ByteArray) ++ (⟨#[58]⟩ : ByteArray)).size ≤ 100003 := by rw [ByteArray.size_append]; show _ + 1 ≤ _; omega
      have z3 : ((⟨#[91]⟩ : ByteArray) ++ H ++ (⟨#[93]⟩ : ByteArray) ++ (⟨#[58]⟩ : ByteArray) ++ I).size ≤ 200000 := by rw [ByteArray.size_append]; omega
      have HJ := Lib.hid (HI.out (by omega))
      have zL := hLz _ HX.out (by omega)
      have HP := Lib.hid (fun w => rparse_any L w zL)
      unfold ResP at HP
      clear hLb hL hI c1 hLz HI sI hIl
      go_enter Tryz.func6, Tryz.ntmps6
      go_wp2_with fail
      refine (HCo.out _).mono ?_
      rintro e w2 ⟨rfl, rfl⟩
      clear HCo
      go_wp2_with fail
      refine (HJ.out _).mono ?_
      rintro e w3 ⟨rfl, rfl⟩
      clear HJ
      have HB3 := Lib.hid (Below.refl w.heap.size w)
      go_wp2_with fail
      rw [HX.out]
      clear HX
      refine (HP.out _).mono ?_
      rintro e w4 ⟨rfl, hb4⟩
      clear z0 z1 z3 z4
      obtain ⟨⟨h2, p2, e2⟩, hq⟩ : ∃ q, parseS (bs L) = q := ⟨_, rfl⟩
      rw [hq]
      unfold resT
      have HFi := Lib.hid (HFin.out _ hq)
      have HB4 := Lib.hid (HB3.out.trans (hb4.mono HB3.out.size))
      clear hb4 hq HFin HP
      obtain ⟨H2, hH2⟩ : ∃ H2, str h2 = H2 := ⟨_, rfl⟩
      have hne := Fd.eq_bytes H2 H
      by_cases c1 : e2 = 0
      · subst c1
        by_cases c2 : H2 = H
        · have hh2 : h2 = bs H := by rw [← c2, ← hH2, bs_str]
          rw [decide_eq_true c2] at hne
          have hne : (H2.toList == H.toList) = true := hne
          by_cases c3 : p2 = p
          · have HO : Hid (Rl.optT (printS (bs H) p) = .tuple #[.string L, .bool true]) := Lib.hid (by rw [HFi.out, if_pos (by rw [hh2, c3]), Rl.optT, str_bs])
            have n3 : (p2 != p) = false := by simp [c3]
            clear HFi hh2 c2 c3
            go_wp2_with fail
            go_ret2
            exact ⟨by rw [HO.out]; rfl, HB4.out⟩
          · have HO : Hid (printS (bs H) p = none) := Lib.hid (by rw [HFi.out, if_neg (fun k => c3 (by injection k with _ k; injection k))])
            have n3 : (p2 != p) = true := by simp [c3]
            clear HFi hh2 c2 c3
            go_wp2_with fail
            go_ret2
            exact ⟨by rw [HO.out]; rfl, HB4.out⟩
        · have HO : Hid (printS (bs H) p = none) := Lib.hid (by rw [HFi.out, if_neg (fun k => c2 (by injection k with k; rw [← hH2, k, str_bs]))])
          rw [decide_eq_false c2] at hne
          have hne : (H2.toList == H.toList) = false := hne
          clear HFi c2
          go_wp2_with fail
          go_ret2
          exact ⟨by rw [HO.out]; rfl, HB4.out⟩
      · have HO : Hid (printS (bs H) p = none) := Lib.hid (by rw [HFi.out, if_neg (fun k => c1 (by injection k with _ k; injection k))])
        have n1 : (e2 != 0) = true := by simpa using c1
        clear HFi c1
        go_wp2_with fail
        go_ret2
        exact ⟨by rw [HO.out]; rfl, HB4.out⟩
  · rw [decide_eq_false c1] at HCo
    by_cases c0 : p < 0
    · have HO : Hid (printS (bs H) p = none) := Lib.hid (print_no (.inl c0))
      clear hLb hL hI c1 hLz HI sI hIl HFin
      go_enter Tryz.func6, Tryz.ntmps6
      go_wp2_with fail
      refine (HCo.out _).mono ?_
      rintro e w1 ⟨rfl, rfl⟩
      go_wp2_with fail
      go_ret2
      exact ⟨by rw [HO.out]; rfl, Below.refl _ _⟩
    by_cases c2 : p = 0
    · have n2 : (p != 0) = false := by simp [c2]
      have HX : Hid (H = L) := Lib.hid (by
        apply bs_inj
        rw [hLb, lineI, bodyS, if_neg c1, if_pos c2]
        (try simp only [bs_add])
        simp [bs])
      have zL := hLz _ HX.out (by omega)
      have HP := Lib.hid (fun w => rparse_any L w zL)
      unfold ResP at HP
      clear hLb hL hI c1 hLz HI sI hIl
      go_enter Tryz.func6, Tryz.ntmps6
      go_wp2_with fail
      refine (HCo.out _).mono ?_
      rintro e w2 ⟨rfl, rfl⟩
      clear HCo
      have HB3 := Lib.hid (Below.refl w.heap.size w)
      go_wp2_with fail
      have hLH := HX.out
      clear HX
      subst hLH
      refine (HP.out _).mono ?_
      rintro e w4 ⟨rfl, hb4⟩
      clear z0 z1
      obtain ⟨⟨h2, p2, e2⟩, hq⟩ : ∃ q, parseS (bs H) = q := ⟨_, rfl⟩
      rw [hq]
      unfold resT
      have HFi := Lib.hid (HFin.out _ hq)
      have HB4 := Lib.hid (HB3.out.trans (hb4.mono HB3.out.size))
      clear hb4 hq HFin HP
      obtain ⟨H2, hH2⟩ : ∃ H2, str h2 = H2 := ⟨_, rfl⟩
      have hne := Fd.eq_bytes H2 H
      by_cases c1 : e2 = 0
      · subst c1
        by_cases c2 : H2 = H
        · have hh2 : h2 = bs H := by rw [← c2, ← hH2, bs_str]
          rw [decide_eq_true c2] at hne
          have hne : (H2.toList == H.toList) = true := hne
          by_cases c3 : p2 = p
          · have HO : Hid (Rl.optT (printS (bs H) p) = .tuple #[.string H, .bool true]) := Lib.hid (by rw [HFi.out, if_pos (by rw [hh2, c3]), Rl.optT, str_bs])
            have n3 : (p2 != p) = false := by simp [c3]
            clear HFi hh2 c2 c3
            go_wp2_with fail
            go_ret2
            exact ⟨by rw [HO.out]; rfl, HB4.out⟩
          · have HO : Hid (printS (bs H) p = none) := Lib.hid (by rw [HFi.out, if_neg (fun k => c3 (by injection k with _ k; injection k))])
            have n3 : (p2 != p) = true := by simp [c3]
            clear HFi hh2 c2 c3
            go_wp2_with fail
            go_ret2
            exact ⟨by rw [HO.out]; rfl, HB4.out⟩
        · have HO : Hid (printS (bs H) p = none) := Lib.hid (by rw [HFi.out, if_neg (fun k => c2 (by injection k with k; rw [← hH2, k, str_bs]))])
          rw [decide_eq_false c2] at hne
          have hne : (H2.toList == H.toList) = false := hne
          clear HFi c2
          go_wp2_with fail
          go_ret2
          exact ⟨by rw [HO.out]; rfl, HB4.out⟩
      · have HO : Hid (printS (bs H) p = none) := Lib.hid (by rw [HFi.out, if_neg (fun k => c1 (by injection k with _ k; injection k))])
        have n1 : (e2 != 0) = true := by simpa using c1
        clear HFi c1
        go_wp2_with fail
        go_ret2
        exact ⟨by rw [HO.out]; rfl, HB4.out⟩
    · have n2 : (p != 0) = true := by simpa using c2
      have HX : Hid (H ++ (⟨#[58]⟩ : ByteArray) ++ I = L) := Lib.hid (by
        apply bs_inj
        rw [hLb, lineI, bodyS, if_neg c1, if_neg c2, ← hIl (by omega)]
        (try simp only [bs_add])
        simp [bs])
      have sJ := sI (by omega)
      have z4 : (H ++ (⟨#[58]⟩ : ByteArray)).size ≤ 100003 := by rw [ByteArray.size_append]; show _ + 1 ≤ _; omega
      have z3 : (H ++ (⟨#[58]⟩ : ByteArray) ++ I).size ≤ 200000 := by rw [ByteArray.size_append]; omega
      have HJ := Lib.hid (HI.out (by omega))
      have zL := hLz _ HX.out (by omega)
      have HP := Lib.hid (fun w => rparse_any L w zL)
      unfold ResP at HP
      clear hLb hL hI c1 hLz HI sI hIl
      go_enter Tryz.func6, Tryz.ntmps6
      go_wp2_with fail
      refine (HCo.out _).mono ?_
      rintro e w2 ⟨rfl, rfl⟩
      clear HCo
      go_wp2_with fail
      refine (HJ.out _).mono ?_
      rintro e w3 ⟨rfl, rfl⟩
      clear HJ
      have HB3 := Lib.hid (Below.refl w.heap.size w)
      go_wp2_with fail
      rw [HX.out]
      clear HX
      refine (HP.out _).mono ?_
      rintro e w4 ⟨rfl, hb4⟩
      clear z0 z1 z3 z4
      obtain ⟨⟨h2, p2, e2⟩, hq⟩ : ∃ q, parseS (bs L) = q := ⟨_, rfl⟩
      rw [hq]
      unfold resT
      have HFi := Lib.hid (HFin.out _ hq)
      have HB4 := Lib.hid (HB3.out.trans (hb4.mono HB3.out.size))
      clear hb4 hq HFin HP
      obtain ⟨H2, hH2⟩ : ∃ H2, str h2 = H2 := ⟨_, rfl⟩
      have hne := Fd.eq_bytes H2 H
      by_cases c1 : e2 = 0
      · subst c1
        by_cases c2 : H2 = H
        · have hh2 : h2 = bs H := by rw [← c2, ← hH2, bs_str]
          rw [decide_eq_true c2] at hne
          have hne : (H2.toList == H.toList) = true := hne
          by_cases c3 : p2 = p
          · have HO : Hid (Rl.optT (printS (bs H) p) = .tuple #[.string L, .bool true]) := Lib.hid (by rw [HFi.out, if_pos (by rw [hh2, c3]), Rl.optT, str_bs])
            have n3 : (p2 != p) = false := by simp [c3]
            clear HFi hh2 c2 c3
            go_wp2_with fail
            go_ret2
            exact ⟨by rw [HO.out]; rfl, HB4.out⟩
          · have HO : Hid (printS (bs H) p = none) := Lib.hid (by rw [HFi.out, if_neg (fun k => c3 (by injection k with _ k; injection k))])
            have n3 : (p2 != p) = true := by simp [c3]
            clear HFi hh2 c2 c3
            go_wp2_with fail
            go_ret2
            exact ⟨by rw [HO.out]; rfl, HB4.out⟩
        · have HO : Hid (printS (bs H) p = none) := Lib.hid (by rw [HFi.out, if_neg (fun k => c2 (by injection k with k; rw [← hH2, k, str_bs]))])
          rw [decide_eq_false c2] at hne
          have hne : (H2.toList == H.toList) = false := hne
          clear HFi c2
          go_wp2_with fail
          go_ret2
          exact ⟨by rw [HO.out]; rfl, HB4.out⟩
      · have HO : Hid (printS (bs H) p = none) := Lib.hid (by rw [HFi.out, if_neg (fun k => c1 (by injection k with _ k; injection k))])
        have n1 : (e2 != 0) = true := by simpa using c1
        clear HFi c1
        go_wp2_with fail
        go_ret2
        exact ⟨by rw [HO.out]; rfl, HB4.out⟩
end Go.Proofs.YtgpgkfbbpiialaaGreatDoor.Au
