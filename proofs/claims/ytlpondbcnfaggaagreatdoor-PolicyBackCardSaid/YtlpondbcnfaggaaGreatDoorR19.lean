/-
  law19's Few, and PolicyBack's walk over the bundle of package policy's contracts. No condition beyond the statement's own.
-/
import Derived.Test.YtlpondbcnfaggaaGreatDoorR15
import Derived.Test.YtlpondbcnfaggaaGreatDoorR16
import Derived.Test.YtlpondbcnfaggaaGreatDoorR17
import Derived.Test.YtlpondbcnfaggaaGreatDoorR18
namespace Go.Proofs.YtlpondbcnfaggaaGreatDoor.Po
open Go.RowKit Go.Proofs.YtlpondbcnfaggaaGreatDoor.Wd Go.Proofs.YtlpondbcnfaggaaGreatDoor.Asc Go.Proofs.YtlpondbcnfaggaaGreatDoor.Tx Go.Proofs.YtlpondbcnfaggaaGreatDoor.St Go.Proofs.YtlpondbcnfaggaaGreatDoor.Tr Go.Proofs.YtlpondbcnfaggaaGreatDoor.Te

/-- a policy is short -/
def fewP (ru : List Ru) (ps : List Pl) : Bool := (ps.all fun x => decide (x.1.nm.length ≤ 300)) && (fewU ru && decide (ps.length ≤ 220))
theorem fewP_no {ru : List Ru} {ps : List Pl} {x : Pl} (hx : x ∈ ps) (h : ¬ x.1.nm.length ≤ 300) : fewP ru ps = false := by
  unfold fewP
  rw [Bool.and_eq_false_iff]
  refine .inl ?_
  rw [List.all_eq_false]
  exact ⟨x, hx, by simpa using h⟩
theorem fewP_yes {ru : List Ru} {ps : List Pl} (h : ∀ x ∈ ps, x.1.nm.length ≤ 300) : fewP ru ps = (fewU ru && decide (ps.length ≤ 220)) := by
  unfold fewP
  rw [List.all_eq_true.2 (fun x hx => decide_eq_true (h x hx)), Bool.true_and]
set_option linter.unusedSimpArgs false in
set_option maxRecDepth 100000 in
set_option maxHeartbeats 4000000 in
theorem few19_any (al : Bool) (ru : List Ru) (ps : List Pl) (A1 A2 : Option Addr) (n1 c1 n2 c2 : Nat) (w : World) (hs1 : SrcU w A1 ru) (hn1 : ru.length = n1) (hs2 : SrcE w elPn A2 ps) (hn2 : ps.length = n2) (h1 : n1 ≤ 9223372036854775807) (h2 : n2 ≤ 9223372036854775807)
    (hz1 : ∀ r ∈ ru, r.pa.length ≤ 9223372036854775807 ∧ r.ap.length ≤ 9223372036854775807) (hz2 : ∀ x ∈ ps, x.1.nm.length ≤ 9223372036854775807) :
    Calls Tryz.prog 30 #[.agg #[.bool al, .slice A1 n1 c1, .slice A2 n2 c2]] w fun e w' => e = .returned (.bool (fewP ru ps)) ∧ Below w.heap.size w w' := by
  obtain ⟨w1, hw1⟩ : ∃ w1, w.alloc (.cells (plV al A1 n1 c1 A2 n2 c2) 53) = w1 := ⟨_, rfl⟩
  have hb1 : Below w.heap.size w w1 := by rw [← hw1]; exact (Below.refl _ _).alloc (Nat.le_refl _) _
  have hbox : Blk w1 w.heap.size 53 (plV al A1 n1 c1 A2 n2 c2) := by rw [← hw1]; exact Blk.new w _ _
  have HW1 := Lib.hid hw1
  have HB1 := Lib.hid hb1
  have HF := Lib.hid (few_any ru A1 n1 c1 w1 (hs1.below hb1) hn1 h1 hz1)
  have HS := Lib.hid (hs2.below hb1)
  have HN := Lib.hid hn2
  have HZ := Lib.hid hz2
  have v1 : w1.cell? ⟨w.heap.size, 1, none⟩ = some (.slice A1 n1 c1) := hbox.cell 1
  have v2 : w1.cell? ⟨w.heap.size, 2, none⟩ = some (.slice A2 n2 c2) := hbox.cell 2
  clear hw1 hb1 hbox hs1 hs2 hn1 hn2 hz1 hz2
  go_enter Tryz.func30, Tryz.ntmps30
  go_wp2_with fail
  rw [show w.alloc (.cells #[.bool al, .slice A1 n1 c1, .slice A2 n2 c2] 53) = w1 from HW1.out]
  obtain ⟨P, hP⟩ : ∃ P, w.heap.size = P := ⟨_, rfl⟩
  rw [hP] at v1 v2 ⊢
  have HP := Lib.hid hP
  clear hP HW1
  go_loopw [3] (fun x3 wr => ∃ (k : Nat), wr = w1 ∧ k ≤ n2 ∧ x3 = .int .i64 (k : Nat) ∧ Hid (∀ x ∈ ps.take k, x.1.nm.length ≤ 300)) (fun x3 _ => n2 - (intOf x3).toNat)
  case atStart => exact ⟨0, rfl, Nat.zero_le _, rfl, Lib.hid (fun x h => by simp at h)⟩
  case round =>
    obtain ⟨k, rfl, hk, rfl, HQ⟩ := hrel
    by_cases hlt : k < n2
    · have hki : (k : Int) < (n2 : Int) := by omega
      obtain ⟨x, g, o, hx, rfl, hg, hra⟩ := HS.out.pin (wr := wr) (k := k) (by rw [HN.out]; exact hlt) (Below.refl _ _)
      obtain ⟨NM, hNM⟩ : ∃ A, str x.1.nm = A := ⟨_, rfl⟩
      have y0 : wr.cell? ⟨g, o + k * 19, none⟩ = some (.string NM) := by rw [← hNM]; exact hra 0 _ rfl
      have y1 : NM.size = x.1.nm.length := by rw [← hNM, str_size]
      have hxm : x ∈ ps := List.mem_of_getElem? hx
      have m1 := HZ.out x hxm
      have HX := Lib.hid hxm
      have HK := Lib.hid hx
      have Y1 := Lib.hid y1
      have j1 : NM.size ≤ 9223372036854775807 := by omega
      clear hx hNM hg m1 y1 hxm hra
      by_cases q1 : 300 < NM.size
      · have i1 : (300 : Int) < (NM.size : Int) := by omega
        have HE := Lib.hid (fewP_no (ru := ru) HX.out (by have := Y1.out; omega))
        clear q1
        go_wp2_with fail
        go_ret
        exact ⟨by rw [HE.out]; rfl, HB1.out⟩
      have i1 : ¬ (300 : Int) < (NM.size : Int) := by omega
      have HQ2 := Lib.hid (show ∀ x ∈ ps.take (k + 1), x.1.nm.length ≤ 300 from fun z hz => by
        rw [List.take_add_one, HK.out] at hz
        rcases List.mem_append.1 hz with hz | hz
        · exact HQ.out z hz
        · have e : z = x := by simpa using hz
          have := Y1.out
          rw [e]; omega)
      clear q1
      go_wp2_with fail
      go_roundw
      case rel => exact ⟨k + 1, by first | rfl | trivial, by omega, rfl, HQ2⟩
      case measure => simp [intOf]; omega
    · obtain rfl : k = n2 := by omega
      have hki : ¬ (k : Int) < (k : Int) := by omega
      have hfw := fewP_yes (ru := ru) (ps := ps) (fun x hx => HQ.out x (by rw [List.take_of_length_le (by rw [HN.out]; exact Nat.le_refl _)]; exact hx))
      rw [HN.out] at hfw
      have HFw := Lib.hid hfw
      clear hlt hfw HQ
      go_wp2_with fail
      refine HF.out.mono ?_
      rintro e w2 ⟨rfl, rfl⟩
      cases hfu : fewU ru with
      | false =>
        have HG := Lib.hid (show fewP ru ps = false from by rw [HFw.out, hfu]; rfl)
        clear hfu
        go_wp2_with fail
        go_ret
        exact ⟨by rw [HG.out]; rfl, HB1.out⟩
      | true =>
        by_cases h220 : k ≤ 220
        · have HG := Lib.hid (show fewP ru ps = true from by rw [HFw.out, hfu, decide_eq_true h220]; rfl)
          have hi : (k : Int) ≤ 220 := by omega
          clear hfu h220
          go_wp2_with fail
          go_ret
          exact ⟨by rw [HG.out]; rfl, HB1.out⟩
        · have HG := Lib.hid (show fewP ru ps = false from by rw [HFw.out, hfu, decide_eq_false h220]; rfl)
          have hi : decide ((k : Int) ≤ 220) = false := decide_eq_false (by omega)
          have HI9 := Lib.hid hi
          clear hfu h220
          go_wp2_with fail
          go_ret
          exact ⟨by rw [HG.out]; first | rfl | exact congrArg (fun b => Ending.returned (.bool b)) HI9.out, HB1.out⟩
theorem pin_short {L : List Pn} {x : Pn} (h : pinE L x = 0) : x.nm.length ≤ 253 := by
  obtain ⟨h1, _⟩ := pin_parts h
  unfold nameB at h1
  have h1 : Nm.normalS x.nm = (x.nm, 0) := by simpa using h1
  exact (Nm.normal_len h1).2
theorem right_short {p : Pol} (h : rightP p = 0) : ShortP p := by
  obtain ⟨h1, _, h3⟩ := rightP_parts.1 h
  refine ⟨fun r hr => ?_, fun x hx => ?_⟩
  · have := right_lens (rules_all h1 r hr); omega
  · obtain ⟨L, hL⟩ := pins_all h3 x hx
    have := pin_short hL; omega
theorem right_oks {p : Pol} {ps : List Pl} (h : rightP p = 0) (hp : plain ps = p.pn) : ∀ x ∈ ps, OkP x := fun x hx => by
  obtain ⟨_, _, h3⟩ := rightP_parts.1 h
  obtain ⟨L, hL⟩ := pins_all h3 x.1 (by rw [← hp]; exact List.mem_map.2 ⟨x, hx, rfl⟩)
  obtain ⟨h1, h2, h4, h5⟩ := pin_parts hL
  have p3 := pin_short hL
  have e : x.1.ci.n = ((Ad.bitN x.1.ci.n : Nat) : Int) := by
    have h5 : x.1.ci = Ad.ofS x.1.ci.a x.1.ci.n := by unfold Ad.rightS at h2; rwa [beq_iff_eq] at h2
    exact congrArg Ad.C.n h5
  have := Ad.bitN_le x.1.ci.n
  exact ⟨by omega, by omega, by omega, by omega, by omega⟩
theorem own_capB {w : World} {B n c : Nat} {A : Option Addr} {l : List Ru} (h : OwnU w B (.slice A n c) l) : n ≤ c := by
  obtain ⟨A', c', hv, hc, _⟩ := h.src
  injection hv with _ e2 e3
  omega
theorem own_capBE {w : World} {B n c : Nat} {A : Option Addr} {l : List Pl} (h : OwnE w elPn B (.slice A n c) l) : n ≤ c := by
  obtain ⟨A', c', hv, hc, _⟩ := h.src finePn
  injection hv with _ e2 e3
  omega
set_option linter.unusedSimpArgs false in
set_option maxRecDepth 100000 in
set_option maxHeartbeats 32000000 in
theorem back_walk (C : PoC) (hSm : SmallP) (W : World) (al : Bool) (ru : List Ru) (ps : List Pl) (A1 A2 : Option Addr) (n1 c1 n2 c2 : Nat) (s : ByteArray) (hE : Ad.Env W.heap.size W) (hs1 : SrcU W A1 ru) (hn1 : ru.length = n1) (hc1 : n1 ≤ c1) (hs2 : SrcE W elPn A2 ps) (hn2 : ps.length = n2) (hc2 : n2 ≤ c2)
    (h1 : n1 ≤ 9223372036854775807) (h2 : n2 ≤ 9223372036854775807) (hz1 : ∀ r ∈ ru, r.pa.length ≤ 9223372036854775807 ∧ r.ap.length ≤ 9223372036854775807) (hz2 : ∀ x ∈ ps, x.1.nm.length ≤ 9223372036854775807)
    (hw2 : ∀ x ∈ ps, (-9223372036854775808 ≤ x.1.ci.n ∧ x.1.ci.n ≤ 9223372036854775807) ∧ (-9223372036854775808 ≤ x.1.un ∧ x.1.un ≤ 9223372036854775807)) (hs : s.size ≤ 9223372036854775807) :
    Calls Tryz.prog 9 #[.agg #[.bool al, .slice A1 n1 c1, .slice A2 n2 c2], .string s] W fun e w' => e = .returned (.bool true) ∧ Below W.heap.size W w' := by
  have HSm := Lib.hid (fun w' (hb : Below W.heap.size W w') => hSm w' (hE.on hb))
  have HE := Lib.hid hE
  have HC := Lib.hid C
  obtain ⟨n, hn⟩ : ∃ n, s.size = n := ⟨_, rfl⟩
  have HN := Lib.hid hn
  rw [hn] at hs
  obtain ⟨w0, hw0⟩ : ∃ w0, W.alloc (.cells (plV al A1 n1 c1 A2 n2 c2) 53) = w0 := ⟨_, rfl⟩
  have hb0 : Below W.heap.size W w0 := by rw [← hw0]; exact (Below.refl _ _).alloc (Nat.le_refl _) _
  have HV := Lib.hid (show PoV w0 W.heap.size al A1 n1 c1 A2 n2 c2 ru ps from ⟨by rw [← hw0]; exact Blk.new W _ _, hs1.below hb0, hn1, hs2.below hb0, hn2⟩)
  have HW0 := Lib.hid hw0
  have HB0 := Lib.hid hb0
  have HFw := Lib.hid (fun w' (hb : Below W.heap.size W w') => few19_any al ru ps A1 A2 n1 c1 n2 c2 w' (hs1.below hb) hn1 (hs2.below hb) hn2 h1 h2 hz1 hz2)
  have HCc := Lib.hid (And.intro hc1 hc2)
  have HWp := Lib.hid hw2
  have HN1 := Lib.hid (And.intro hn1 hn2)
  clear hSm hE C hn hw0 hb0 hs1 hs2 hn1 hn2 hz1 hz2 hc1 hc2 hw2
  go_enter Tryz.func9, Tryz.ntmps9
  go_wp2_with fail
  rw [show W.alloc (.cells #[.bool al, .slice A1 n1 c1, .slice A2 n2 c2] 53) = w0 from HW0.out]
  obtain ⟨P, hP⟩ : ∃ P, W.heap.size = P := ⟨_, rfl⟩
  rw [hP] at HV ⊢
  have HPp := Lib.hid hP
  clear hP HW0
  refine (HSm.out _ HB0.out).mono ?_
  rintro e w1 ⟨rfl, hb1⟩
  have HB1 := Lib.hid (HB0.out.trans (hb1.mono HB0.out.size))
  have HV := Lib.hid (HV.out.on hb1)
  clear HSm hb1 HB0
  have bp := HV.out.blk
  go_wp2_with (refine go_ld (x := .tmp 2) 53 bp undPo rfl infPo rfl rfl rfl rfl ?_)
  refine (HFw.out _ HB1.out).mono ?_
  rintro e w2 ⟨rfl, hb2⟩
  have HB2 := Lib.hid (HB1.out.trans (hb2.mono HB1.out.size))
  have HV := Lib.hid (HV.out.on hb2)
  clear hb2 HB1 HFw bp
  cases hfw : fewP ru ps with
  | false =>
    clear hfw
    go_wp2_with fail
    go_ret
    exact ⟨rfl, HB2.out⟩
  | true =>
  by_cases hl : 3000 < n
  · have hl2 : (3000 : Int) < (n : Int) := by omega
    have hn9 : s.size = n := HN.out
    clear hfw
    go_wp2_with fail
    go_ret
    exact ⟨rfl, HB2.out⟩
  have hl2 : ¬ (3000 : Int) < (n : Int) := by omega
  have hn9 : s.size = n := HN.out
  have hlen : n1 ≤ 220 ∧ n2 ≤ 220 ∧ (∀ r ∈ ru, r.pa.length ≤ 300 ∧ r.ap.length ≤ 300) ∧ ∀ x ∈ ps, x.1.nm.length ≤ 300 := by
    unfold fewP at hfw
    simp only [Bool.and_eq_true, List.all_eq_true, decide_eq_true_eq] at hfw
    obtain ⟨q1, q2, q3⟩ := hfw
    have q4 := few_len q2
    exact ⟨by rw [← HN1.out.1]; exact q4.1, by rw [← HN1.out.2]; exact q3, q4.2, q1⟩
  have HLn := Lib.hid hlen
  obtain ⟨p, hp⟩ : ∃ p : Pol, (⟨al, ru, plain ps⟩ : Pol) = p := ⟨_, rfl⟩
  have HSh := Lib.hid (show ShortP p from by
    rw [← hp]
    exact ⟨fun r hr => by have := hlen.2.2.1 r hr; omega, fun x hx => by
      obtain ⟨y, hy, rfl⟩ := List.mem_map.1 hx
      have := hlen.2.2.2 y hy; omega⟩)
  have HOk := Lib.hid (show ∀ x ∈ ps, OkP x from fun x hx => ⟨by have := hlen.2.2.2 x hx; omega, (HWp.out x hx).1.1, (HWp.out x hx).1.2, (HWp.out x hx).2.1, (HWp.out x hx).2.2⟩)
  have HP1 := Lib.hid (show p.al = al ∧ p.ru = ru ∧ p.pn = plain ps from by rw [← hp]; exact ⟨rfl, rfl, rfl⟩)
  have HRi := Lib.hid (fun w' (hb : Below w2.heap.size w2 w') => show Calls Tryz.prog 31 #[.agg #[.bool al, .slice A1 n1 c1, .slice A2 n2 c2]] w' fun e w'' => e = .returned (.int .i64 (rightP p)) ∧ Below w'.heap.size w' w'' from by
    have hv := HV.out.on hb
    have k := HC.out.right_ (HE.out.on (HB2.out.trans (hb.mono HB2.out.size))) p A1 A2 n1 c1 n2 c2 ps (by rw [HP1.out.2.1]; exact hv.su) (by rw [HP1.out.2.1]; exact hv.lu) HCc.out.1 hv.se HP1.out.2.2.symm (by rw [HP1.out.2.2]; simp [plain]; exact hv.lp) HCc.out.2 (by omega) (by omega) HSh.out HOk.out
    rwa [HP1.out.1] at k)
  clear hfw hlen hl
  have bp := HV.out.blk
  have HHp := Lib.hid hp
  clear hp
  go_wp2_with (refine go_ld (x := .tmp 2) 53 bp undPo rfl infPo rfl rfl rfl rfl ?_)
  refine (HRi.out _ (Below.refl _ _)).mono ?_
  rintro e w3 ⟨rfl, hb3⟩
  have HB3 := Lib.hid (HB2.out.trans (hb3.mono HB2.out.size))
  have HV := Lib.hid (HV.out.on hb3)
  clear hb3 HB2 HRi bp
  obtain ⟨⟨y, m, f⟩, hy⟩ : ∃ x, parseP (bs s) = x := ⟨_, rfl⟩
  have HY := Lib.hid hy
  have HCs := Lib.hid (fun w' (hb : Below W.heap.size W w') => HC.out.parse_ (HE.out.on hb) s (by omega) y m f hy)
  clear hy
  by_cases hr : rightP p = 0
  · have hpw : ∀ x ∈ p.pn, x.ci.a.length = 16 := fun x hx => by
      rw [HP1.out.2.2] at hx
      obtain ⟨z, _, rfl⟩ := List.mem_map.1 hx
      exact z.2
    have HM1 := Lib.hid (right_most hr)
    have hpl := print_len hpw hr HM1.out.1
    have HPr := Lib.hid (show Calls Tryz.prog 33 #[.agg #[.bool al, .slice A1 n1 c1, .slice A2 n2 c2]] w3 fun e w'' => e = .returned (.string (str (printP p))) ∧ Below w3.heap.size w3 w'' from by
      have hv := HV.out
      have k := HC.out.print_ (HE.out.on HB3.out) p A1 A2 n1 c1 n2 c2 ps (by rw [HP1.out.2.1]; exact hv.su) (by rw [HP1.out.2.1]; exact hv.lu) HCc.out.1 hv.se HP1.out.2.2.symm (by rw [HP1.out.2.2]; simp [plain]; exact hv.lp) HCc.out.2 (by have := HLn.out.1; omega) (by have := HLn.out.2.1; omega) HSh.out hr
      rwa [HP1.out.1] at k)
    obtain ⟨T, hT⟩ : ∃ T, str (printP p) = T := ⟨_, rfl⟩
    have HPa := Lib.hid (fun w' (hb : Below W.heap.size W w') => HC.out.parse_ (HE.out.on hb) T (by rw [← hT, str_size]; omega) p 0 0 (by rw [← hT, bs_str]; exact back_told hpw hr))
    rw [hT] at HPr
    rw [hr]
    have bp := HV.out.blk
    clear hpw hpl hT hr
    go_wp2_with (refine go_ld (x := .tmp 2) 53 bp undPo rfl infPo rfl rfl rfl rfl ?_)
    refine HPr.out.mono ?_
    rintro e w4 ⟨rfl, hb4⟩
    have HB4 := Lib.hid (HB3.out.trans (hb4.mono HB3.out.size))
    have HV := Lib.hid (HV.out.on hb4)
    clear hb4 HPr bp HB3
    go_wp2_with fail
    refine (HPa.out _ HB4.out).mono ?_
    rintro e wa1 ⟨A7, c7, A8, c8, ps1, rfl, ho1, ho2, hpn, hba⟩
    obtain ⟨wbX1, hwb, hvb, hab, hlb⟩ := po_put (al := p.al) (w0 := W) ho1 ho2 hpn (HB4.out.trans (hba.mono HB4.out.size)) #[.bool false, .slice none 0 0, .slice none 0 0]
    have HWb := Lib.hid hwb
    have HVX1 := Lib.hid hvb
    have HLX1 := Lib.hid hlb
    have HPnX1 := Lib.hid hpn
    have HCpX1 := Lib.hid (And.intro (own_capB ho1) (own_capBE ho2))
    have HV := Lib.hid ((HV.out.on hba).on hab)
    clear ho1 ho2 hpn hba hwb hvb hab hlb
    go_upto_region 7 with (refine go_st 53 (Blk.new _ _ _) infPo rfl rfl (plV_one p.al _ _ _ _ _ _) rfl rfl rfl rfl ?_)
    rw [HWb.out]
    obtain ⟨X1, hX⟩ : ∃ X, wa1.heap.size = X := ⟨_, rfl⟩
    rw [hX] at HVX1 ⊢
    clear HWb hX
    have HSm1 := Lib.hid (show Calls Tryz.prog 34 #[.agg (plV p.al A7 p.ru.length c7 A8 p.pn.length c8), .agg (plV al A1 n1 c1 A2 n2 c2)] wbX1 fun e w' => e = .returned (.bool true) ∧ Below wbX1.heap.size wbX1 w' from by
      have k := psame_any p.al al p.ru ru ps1 ps A7 A8 A1 A2 p.ru.length c7 p.pn.length c8 n1 c1 n2 c2 wbX1 HVX1.out.su rfl HVX1.out.se HVX1.out.lp HV.out.su HV.out.lu HV.out.se HV.out.lp (by have := HM1.out.1; omega) (by have := HM1.out.2; omega)
      rwa [show decide ((⟨p.al, p.ru, plain ps1⟩ : Pol) = ⟨al, ru, plain ps⟩) = true from decide_eq_true (by rw [HPnX1.out, HHp.out])] at k)
    have b1 := HVX1.out.blk
    have bp := HV.out.blk
    go_wp2_with (first | (refine go_ldg (x := .tmp 7) 53 b1 undPo rfl infPo rfl (by first | rfl | kernel_rfl) rfl rfl ?_) | (refine go_ldg (x := .tmp 2) 53 bp undPo rfl infPo rfl (by first | rfl | kernel_rfl) rfl rfl ?_))
    refine HSm1.out.mono ?_
    rintro e w5 ⟨rfl, hb5⟩
    have HB5 := Lib.hid (HLX1.out.trans (hb5.mono HLX1.out.size))
    clear hb5 HSm1 b1 bp HLX1 HVX1 HPnX1 HCpX1 HV HPa HB4
    go_wp2_with fail
    refine (HCs.out _ HB5.out).mono ?_
    rintro e wa2 ⟨A3, c3, A4, c4, ps2, rfl, ho1, ho2, hpn, hba⟩
    obtain ⟨wbX2, hwb, hvb, hab, hlb⟩ := po_put (al := y.al) (w0 := W) ho1 ho2 hpn (HB5.out.trans (hba.mono HB5.out.size)) #[.bool false, .slice none 0 0, .slice none 0 0]
    have HWb := Lib.hid hwb
    have HVX2 := Lib.hid hvb
    have HLX2 := Lib.hid hlb
    have HPnX2 := Lib.hid hpn
    have HCpX2 := Lib.hid (And.intro (own_capB ho1) (own_capBE ho2))
    clear ho1 ho2 hpn hba hwb hvb hab hlb
    go_upto_region 10 with (refine go_st 53 (Blk.new _ _ _) infPo rfl rfl (plV_one y.al _ _ _ _ _ _) rfl rfl rfl rfl ?_)
    rw [HWb.out]
    obtain ⟨X2, hX⟩ : ∃ X, wa2.heap.size = X := ⟨_, rfl⟩
    rw [hX] at HVX2 ⊢
    clear HWb hX
    by_cases hf : f = 0
    case neg =>
      have q0 : (f != 0) = true := by rw [bne_iff_ne]; exact hf
      have he := parse_err (s := bs s) (by rw [HY.out]; exact hf)
      rw [HY.out, bs_length, HN.out] at he
      obtain ⟨e1, hm0, hm9⟩ := he
      have e1 : y = Pol.zero := e1
      subst e1
      have hm1 : (0 : Int) < (m : Int) := by have : 0 < m := hm0; omega
      have v0 : wbX2.cell? ⟨X2, 0, none⟩ = some (.bool false) := HVX2.out.blk.cell 0
      have v1 : wbX2.cell? ⟨X2, 1, none⟩ = some (.slice A3 0 c3) := HVX2.out.blk.cell 1
      have v2 : wbX2.cell? ⟨X2, 2, none⟩ = some (.slice A4 0 c4) := HVX2.out.blk.cell 2
      clear hm0 hm9 hf
      go_wp2_with fail
      go_ret
      exact ⟨rfl, HLX2.out⟩
    subst hf
    have hyk := parse_ok (s := bs s) (by rw [HY.out])
    rw [HY.out] at hyk
    obtain ⟨hm0, hyr⟩ := hyk
    have hm0 : m = 0 := hm0
    have hyr : rightP y = 0 := hyr
    subst hm0
    have hyw : ∀ x ∈ y.pn, x.ci.a.length = 16 := by have := parse_wf (s := bs s) (by rw [HY.out]); rwa [HY.out] at this
    have HYm := Lib.hid (show y.ru.length ≤ 200 ∧ y.pn.length ≤ 200 from right_most hyr)
    have hpl := print_len hyw hyr HYm.out.1
    have HYr := Lib.hid hyr
    have HPr := Lib.hid (HC.out.print_ (HE.out.on HLX2.out) y A3 A4 y.ru.length c3 y.pn.length c4 ps2 HVX2.out.su rfl HCpX2.out.1 HVX2.out.se HPnX2.out rfl HCpX2.out.2 (by have := HYm.out.1; omega) (by have := HYm.out.2; omega) (right_short hyr) hyr)
    obtain ⟨T, hT⟩ : ∃ T, str (printP y) = T := ⟨_, rfl⟩
    have HPa := Lib.hid (fun w' (hb : Below W.heap.size W w') => HC.out.parse_ (HE.out.on hb) T (by rw [← hT, str_size]; omega) y 0 0 (by rw [← hT, bs_str]; exact back_told hyw hyr))
    rw [hT] at HPr
    have by2 := HVX2.out.blk
    have HYs := Lib.hid (And.intro (right_short hyr) (right_oks hyr HPnX2.out))
    clear hyw hpl hT hyr
    go_wp2_with (refine go_ld (x := .tmp 10) 53 by2 undPo rfl infPo rfl rfl rfl rfl ?_)
    refine HPr.out.mono ?_
    rintro e wp ⟨rfl, hbp⟩
    have HLp := Lib.hid (HLX2.out.trans (hbp.mono HLX2.out.size))
    have HVX2 := Lib.hid (HVX2.out.on hbp)
    clear hbp HPr by2 HLX2
    go_wp2_with fail
    refine (HPa.out _ HLp.out).mono ?_
    rintro e wa3 ⟨A5, c5, A6, c6, ps3, rfl, ho1, ho2, hpn, hba⟩
    obtain ⟨wbX3, hwb, hvb, hab, hlb⟩ := po_put (al := y.al) (w0 := W) ho1 ho2 hpn (HLp.out.trans (hba.mono HLp.out.size)) #[.bool false, .slice none 0 0, .slice none 0 0]
    have HWb := Lib.hid hwb
    have HVX3 := Lib.hid hvb
    have HLX3 := Lib.hid hlb
    have HPnX3 := Lib.hid hpn
    have HCpX3 := Lib.hid (And.intro (own_capB ho1) (own_capBE ho2))
    have HVX2 := Lib.hid ((HVX2.out.on hba).on hab)
    clear ho1 ho2 hpn hba hwb hvb hab hlb
    go_upto_region 13 with (refine go_st 53 (Blk.new _ _ _) infPo rfl rfl (plV_one y.al _ _ _ _ _ _) rfl rfl rfl rfl ?_)
    rw [HWb.out]
    obtain ⟨X3, hX⟩ : ∃ X, wa3.heap.size = X := ⟨_, rfl⟩
    rw [hX] at HVX3 ⊢
    clear HWb hX
    have HRy := Lib.hid (HC.out.right_ (HE.out.on HLX3.out) y A3 A4 y.ru.length c3 y.pn.length c4 ps2 HVX2.out.su rfl HCpX2.out.1 HVX2.out.se HPnX2.out rfl HCpX2.out.2 (by have := HYm.out.1; omega) (by have := HYm.out.2; omega) HYs.out.1 HYs.out.2)
    rw [HYr.out] at HRy
    have by2 := HVX2.out.blk
    go_wp2_with (refine go_ldg (x := .tmp 10) 53 by2 undPo rfl infPo rfl (by first | rfl | kernel_rfl) rfl rfl ?_)
    refine HRy.out.mono ?_
    rintro e wr ⟨rfl, hbr⟩
    have HLr := Lib.hid (HLX3.out.trans (hbr.mono HLX3.out.size))
    have HVX2 := Lib.hid (HVX2.out.on hbr)
    have HVX3 := Lib.hid (HVX3.out.on hbr)
    have HSm := Lib.hid (psame_any y.al y.al y.ru y.ru ps2 ps3 A3 A4 A5 A6 y.ru.length c3 y.pn.length c4 y.ru.length c5 y.pn.length c6 wr HVX2.out.su rfl HVX2.out.se HVX2.out.lp HVX3.out.su rfl HVX3.out.se HVX3.out.lp (by have := HYm.out.1; omega) (by have := HYm.out.2; omega))
    have HEq := Lib.hid (show decide ((⟨y.al, y.ru, plain ps2⟩ : Pol) = ⟨y.al, y.ru, plain ps3⟩) = true from decide_eq_true (by rw [HPnX2.out, HPnX3.out]))
    rw [HEq.out] at HSm
    have b2 := HVX2.out.blk
    have b3 := HVX3.out.blk
    clear hbr HRy by2 HEq
    go_wp2_with (first | (refine go_ldg (x := .tmp 10) 53 b2 undPo rfl infPo rfl (by first | rfl | kernel_rfl) rfl rfl ?_) | (refine go_ldg (x := .tmp 13) 53 b3 undPo rfl infPo rfl (by first | rfl | kernel_rfl) rfl rfl ?_))
    refine HSm.out.mono ?_
    rintro e ws ⟨rfl, hbs⟩
    have HF := Lib.hid (HLr.out.trans (hbs.mono HLr.out.size))
    clear hbs HSm b2 b3
    go_wp2_with fail
    go_ret
    exact ⟨rfl, HF.out⟩
  · have hq : (rightP p == 0) = false := by rw [beq_eq_false_iff_ne]; exact hr
    clear HV hr
    go_wp2_with fail
    refine (HCs.out _ HB3.out).mono ?_
    rintro e wa2 ⟨A3, c3, A4, c4, ps2, rfl, ho1, ho2, hpn, hba⟩
    obtain ⟨wbX2, hwb, hvb, hab, hlb⟩ := po_put (al := y.al) (w0 := W) ho1 ho2 hpn (HB3.out.trans (hba.mono HB3.out.size)) #[.bool false, .slice none 0 0, .slice none 0 0]
    have HWb := Lib.hid hwb
    have HVX2 := Lib.hid hvb
    have HLX2 := Lib.hid hlb
    have HPnX2 := Lib.hid hpn
    have HCpX2 := Lib.hid (And.intro (own_capB ho1) (own_capBE ho2))
    clear ho1 ho2 hpn hba hwb hvb hab hlb
    go_upto_region 10 with (refine go_st 53 (Blk.new _ _ _) infPo rfl rfl (plV_one y.al _ _ _ _ _ _) rfl rfl rfl rfl ?_)
    rw [HWb.out]
    obtain ⟨X2, hX⟩ : ∃ X, wa2.heap.size = X := ⟨_, rfl⟩
    rw [hX] at HVX2 ⊢
    clear HWb hX
    by_cases hf : f = 0
    case neg =>
      have q0 : (f != 0) = true := by rw [bne_iff_ne]; exact hf
      have he := parse_err (s := bs s) (by rw [HY.out]; exact hf)
      rw [HY.out, bs_length, HN.out] at he
      obtain ⟨e1, hm0, hm9⟩ := he
      have e1 : y = Pol.zero := e1
      subst e1
      have hm1 : (0 : Int) < (m : Int) := by have : 0 < m := hm0; omega
      have v0 : wbX2.cell? ⟨X2, 0, none⟩ = some (.bool false) := HVX2.out.blk.cell 0
      have v1 : wbX2.cell? ⟨X2, 1, none⟩ = some (.slice A3 0 c3) := HVX2.out.blk.cell 1
      have v2 : wbX2.cell? ⟨X2, 2, none⟩ = some (.slice A4 0 c4) := HVX2.out.blk.cell 2
      clear hm0 hm9 hf
      go_wp2_with fail
      go_ret
      exact ⟨rfl, HLX2.out⟩
    subst hf
    have hyk := parse_ok (s := bs s) (by rw [HY.out])
    rw [HY.out] at hyk
    obtain ⟨hm0, hyr⟩ := hyk
    have hm0 : m = 0 := hm0
    have hyr : rightP y = 0 := hyr
    subst hm0
    have hyw : ∀ x ∈ y.pn, x.ci.a.length = 16 := by have := parse_wf (s := bs s) (by rw [HY.out]); rwa [HY.out] at this
    have HYm := Lib.hid (show y.ru.length ≤ 200 ∧ y.pn.length ≤ 200 from right_most hyr)
    have hpl := print_len hyw hyr HYm.out.1
    have HYr := Lib.hid hyr
    have HPr := Lib.hid (HC.out.print_ (HE.out.on HLX2.out) y A3 A4 y.ru.length c3 y.pn.length c4 ps2 HVX2.out.su rfl HCpX2.out.1 HVX2.out.se HPnX2.out rfl HCpX2.out.2 (by have := HYm.out.1; omega) (by have := HYm.out.2; omega) (right_short hyr) hyr)
    obtain ⟨T, hT⟩ : ∃ T, str (printP y) = T := ⟨_, rfl⟩
    have HPa := Lib.hid (fun w' (hb : Below W.heap.size W w') => HC.out.parse_ (HE.out.on hb) T (by rw [← hT, str_size]; omega) y 0 0 (by rw [← hT, bs_str]; exact back_told hyw hyr))
    rw [hT] at HPr
    have by2 := HVX2.out.blk
    have HYs := Lib.hid (And.intro (right_short hyr) (right_oks hyr HPnX2.out))
    clear hyw hpl hT hyr
    go_wp2_with (refine go_ld (x := .tmp 10) 53 by2 undPo rfl infPo rfl rfl rfl rfl ?_)
    refine HPr.out.mono ?_
    rintro e wp ⟨rfl, hbp⟩
    have HLp := Lib.hid (HLX2.out.trans (hbp.mono HLX2.out.size))
    have HVX2 := Lib.hid (HVX2.out.on hbp)
    clear hbp HPr by2 HLX2
    go_wp2_with fail
    refine (HPa.out _ HLp.out).mono ?_
    rintro e wa3 ⟨A5, c5, A6, c6, ps3, rfl, ho1, ho2, hpn, hba⟩
    obtain ⟨wbX3, hwb, hvb, hab, hlb⟩ := po_put (al := y.al) (w0 := W) ho1 ho2 hpn (HLp.out.trans (hba.mono HLp.out.size)) #[.bool false, .slice none 0 0, .slice none 0 0]
    have HWb := Lib.hid hwb
    have HVX3 := Lib.hid hvb
    have HLX3 := Lib.hid hlb
    have HPnX3 := Lib.hid hpn
    have HCpX3 := Lib.hid (And.intro (own_capB ho1) (own_capBE ho2))
    have HVX2 := Lib.hid ((HVX2.out.on hba).on hab)
    clear ho1 ho2 hpn hba hwb hvb hab hlb
    go_upto_region 13 with (refine go_st 53 (Blk.new _ _ _) infPo rfl rfl (plV_one y.al _ _ _ _ _ _) rfl rfl rfl rfl ?_)
    rw [HWb.out]
    obtain ⟨X3, hX⟩ : ∃ X, wa3.heap.size = X := ⟨_, rfl⟩
    rw [hX] at HVX3 ⊢
    clear HWb hX
    have HRy := Lib.hid (HC.out.right_ (HE.out.on HLX3.out) y A3 A4 y.ru.length c3 y.pn.length c4 ps2 HVX2.out.su rfl HCpX2.out.1 HVX2.out.se HPnX2.out rfl HCpX2.out.2 (by have := HYm.out.1; omega) (by have := HYm.out.2; omega) HYs.out.1 HYs.out.2)
    rw [HYr.out] at HRy
    have by2 := HVX2.out.blk
    go_wp2_with (refine go_ldg (x := .tmp 10) 53 by2 undPo rfl infPo rfl (by first | rfl | kernel_rfl) rfl rfl ?_)
    refine HRy.out.mono ?_
    rintro e wr ⟨rfl, hbr⟩
    have HLr := Lib.hid (HLX3.out.trans (hbr.mono HLX3.out.size))
    have HVX2 := Lib.hid (HVX2.out.on hbr)
    have HVX3 := Lib.hid (HVX3.out.on hbr)
    have HSm := Lib.hid (psame_any y.al y.al y.ru y.ru ps2 ps3 A3 A4 A5 A6 y.ru.length c3 y.pn.length c4 y.ru.length c5 y.pn.length c6 wr HVX2.out.su rfl HVX2.out.se HVX2.out.lp HVX3.out.su rfl HVX3.out.se HVX3.out.lp (by have := HYm.out.1; omega) (by have := HYm.out.2; omega))
    have HEq := Lib.hid (show decide ((⟨y.al, y.ru, plain ps2⟩ : Pol) = ⟨y.al, y.ru, plain ps3⟩) = true from decide_eq_true (by rw [HPnX2.out, HPnX3.out]))
    rw [HEq.out] at HSm
    have b2 := HVX2.out.blk
    have b3 := HVX3.out.blk
    clear hbr HRy by2 HEq
    go_wp2_with (first | (refine go_ldg (x := .tmp 10) 53 b2 undPo rfl infPo rfl (by first | rfl | kernel_rfl) rfl rfl ?_) | (refine go_ldg (x := .tmp 13) 53 b3 undPo rfl infPo rfl (by first | rfl | kernel_rfl) rfl rfl ?_))
    refine HSm.out.mono ?_
    rintro e ws ⟨rfl, hbs⟩
    have HF := Lib.hid (HLr.out.trans (hbs.mono HLr.out.size))
    clear hbs HSm b2 b3
    go_wp2_with fail
    go_ret
    exact ⟨rfl, HF.out⟩
end Go.Proofs.YtlpondbcnfaggaaGreatDoor.Po
