/-
  Contract of package hello's Print over this seat's translation.
-/
import Derived.Test.YtpnidmegeimboaaHeExts
namespace Go.Proofs.Ytpnidmegeimboaa.He
open Go.RowKit Go.Proofs.Ytpnidmegeimboaa.Wd Go.Proofs.Ytpnidmegeimboaa.Be

theorem vecW_le (k : Nat) (r : List UInt8 × Bool) (x : List UInt8) : (vecW k r x).1.length ≤ r.1.length + (k + x.length) := by
  unfold vecW
  split
  · rw [List.length_append, vecB_len]; exact Nat.le_refl _
  · simp
theorem extsW_len : ∀ (l : List (Int × List UInt8)) (r : List UInt8 × Bool), r.1.length ≤ 65535 → (extsW r l).1.length ≤ 200000
  | [], r, h => by show r.1.length ≤ _; omega
  | x :: l, r, h => by
    have h1 := numW_len r x.1
    have h2 := vecW_len (numW r x.1) x.2
    have h3 : (extW r x).1.length ≤ 200000 := by show (vecW 2 (numW r x.1) x.2).1.length ≤ _; omega
    rw [extsW]
    split
    · exact h3
    · rename_i hn
      exact extsW_len l _ (by rcases Nat.lt_or_ge 65535 (extW r x).1.length with h | h; exact absurd (Or.inr h) hn; exact h)
/-- the row ahead of the extensions, and all of it -/
def rowA (h : Hel) : List UInt8 × Bool := ((numW ([], false) h.ver).1 ++ h.rnd, (numW ([], false) h.ver).2)
def rowB (h : Hel) : List UInt8 × Bool := vecW 1 (rowA h) h.ses
def rowC (h : Hel) : List UInt8 × Bool := withinW 2 (rowB h) (numsW h.cph)
def rowD (h : Hel) : List UInt8 × Bool := vecW 1 (rowC h) h.met
def rowP (h : Hel) : List UInt8 × Bool := if h.has = true then withinW 2 (rowD h) (extsW ([], false) h.exts) else rowD h
def goB (h : Hel) : Bool := decide (wrongS h = 0) && !decide (h.cph.length = 0) && !(!h.has && decide (0 < h.exts.length))
/-- what Print answers -/
def printS (h : Hel) : List UInt8 × Bool := if goB h = true ∧ (rowP h).2 = false then ((rowP h).1, true) else ([], false)
def PrintPost (h : Hel) (w : World) (e : Ending) (w' : World) : Prop :=
  ∃ p c, e = .returned (.tuple #[.slice (ad p) (printS h).1.length c, .bool (printS h).2]) ∧ At w' p c (printS h).1 ∧ (∀ q, p = some q → w.heap.size ≤ q) ∧ Below w.heap.size w w'
theorem print_no {h : Hel} {w w' : World} (hp : printS h = ([], false)) (hb : Below w.heap.size w w') : PrintPost h w (.returned (.tuple #[.slice none 0 0, .bool false])) w' :=
  ⟨none, 0, by rw [hp]; rfl, by rw [hp]; exact At.nil _, (fun q h => by cases h), hb⟩

structure PrAt (w : World) (H : Hv) (g : Nat) (p : Option Nat) (r : List UInt8 × Bool) (wr : World) : Prop where
  rw_ : Rw wr w.heap.size g p r
  box : Blk wr w.heap.size 28 H.C
  bel : Below w.heap.size w wr
  gne : w.heap.size < g
theorem PrAt.post {w wr w' : World} {H : Hv} {g : Nat} {p p' : Option Nat} {r r' : List UInt8 × Bool} (h : PrAt w H g p r wr) (hr : Rw w' w.heap.size g p' r') (hu : But (g :: p.toList) wr w') : PrAt w H g p' r' w' := by
  obtain ⟨c, hb, ha⟩ := h.rw_.blk
  refine ⟨hr, h.box.but hu (fun hm => ?_), h.bel.trans (hu.below (fun i hi => ?_) h.bel.size), h.gne⟩
  · rcases List.mem_cons.1 hm with e | e
    · have := h.gne; omega
    · exact ha.ne h.box (by decide) (Option.mem_toList.1 e)
  · rcases List.mem_cons.1 hi with e | e
    · have := h.gne; omega
    · exact h.rw_.pB i (Option.mem_toList.1 e)
theorem PrAt.more {w wr w' : World} {H : Hv} {g : Nat} {p : Option Nat} {r : List UInt8 × Bool} (h : PrAt w H g p r wr) (hb : Below wr.heap.size wr w') : PrAt w H g p r w' :=
  ⟨h.rw_.same (But.of_below hb _), h.box.below hb h.box.lt, h.bel.trans (hb.mono h.bel.size), h.gne⟩
/-- a hello that is short -/
structure Short (H : Hv) : Prop where
  ses : H.ses.length ≤ 5000
  cph : H.cph.length ≤ 5000
  met : H.met.length ≤ 5000
  xs : H.xs.length ≤ 5000
theorem and3b (a b c : Bool) (ha : a = true) (hb : b = true) (hc : c = true) : (a && b && c) = true := by subst ha hb hc; rfl

set_option maxRecDepth 100000 in
set_option maxHeartbeats 1000000 in
theorem print_any (H : Hv) (w : World) (hH : H.Ok w) (hs : Short H) :
    Calls Try.prog 14 #[.agg H.C] w (PrintPost H.hel w) := by
  have HH := Lib.hid hH
  have HSh := Lib.hid hs
  have HR := Lib.hid hH.rnd
  clear hH hs
  go_enter Try.func14, Try.ntmps14
  go_upto_region 1 with fail
  have hb0 := Blk.new w 28 H.C
  have HB0 := Lib.hid ((Below.refl w.heap.size w).alloc (Nat.le_refl _) (.cells H.C 28))
  generalize w.alloc (.cells H.C 28) = w1 at *
  have HK := Lib.hid hb0
  have hg0 := hb0.lt
  clear hb0
  go_cut [24] from 5 (fun s24 wx => s24 = .bool (!goB H.hel) ∧ Hid (Blk wx w.heap.size 28 H.C) ∧ Hid (Below w.heap.size w wx))
  case first =>
    go_wp2_with (refine go_ld 28 HK.out undH rfl infH (Hv.size HR.out) rfl rfl rfl ?_)
    refine (wrong_any H w1 (HH.out.below HB0.out)).mono ?_
    rintro e w2 ⟨rfl, hb2⟩
    have HK2 := Lib.hid (HK.out.below hb2 hg0)
    have HB2 := Lib.hid (HB0.out.trans (hb2.mono HB0.out.size))
    have hc1 := cell_cph HK2.out HR.out
    have hc2 := cell_has HK2.out HR.out
    have hc3 := cell_xs HK2.out HR.out
    have hm1 := HSh.out.cph
    have hm3 := HSh.out.xs
    have HG := Lib.hid (show goB H.hel = (decide (wrongS H.hel = 0) && !decide (H.cph.length = 0) && !(!H.has && decide (0 < H.xs.length))) by unfold goB; show (_ && !decide (H.cph.length = 0) && !(!H.has && decide (0 < (H.xs.map ext).length))) = _; rw [List.length_map])
    clear hb2
    by_cases hz : wrongS H.hel = 0
    · rw [hz] at HG ⊢
      rw [decide_eq_true (rfl : (0 : Int) = 0), Bool.true_and] at HG
      clear hz
      by_cases hl : H.cph.length = 0
      · have hl' : ((H.cph.length : Int) == 0) = true := by simp [hl]
        have HG2 := Lib.hid (show goB H.hel = false by rw [HG.out, decide_eq_true hl]; rfl)
        clear hl
        go_wp2_with fail
        go_meet
        exact ⟨by rw [HG2.out]; rfl, HK2, HB2⟩
      · have hl' : ((H.cph.length : Int) == 0) = false := by simpa using hl
        rw [decide_eq_false hl, Bool.not_false, Bool.true_and] at HG
        clear hl
        cases hh : H.has with
        | true =>
          rw [hh] at hc2 HG
          have HG2 := Lib.hid (show goB H.hel = true by rw [HG.out]; rfl)
          clear hh
          go_wp2_with fail
          go_meet
          exact ⟨by rw [HG2.out]; rfl, HK2, HB2⟩
        | false =>
          rw [hh] at hc2 HG
          clear hh
          by_cases hx : 0 < H.xs.length
          · have hx' : decide (0 < H.xs.length) = true := decide_eq_true hx
            have HG2 := Lib.hid (show goB H.hel = false by rw [HG.out, hx']; rfl)
            clear hx
            go_wp2_with fail
            go_meet
            exact ⟨by rw [HG2.out]; rfl, HK2, HB2⟩
          · have hx' : decide (0 < H.xs.length) = false := decide_eq_false hx
            have HG2 := Lib.hid (show goB H.hel = true by rw [HG.out, hx']; rfl)
            clear hx
            go_wp2_with fail
            go_meet
            exact ⟨by rw [HG2.out]; rfl, HK2, HB2⟩
    · have HG2 := Lib.hid (show goB H.hel = false by rw [HG.out, decide_eq_false hz]; rfl)
      clear HG
      generalize wrongS H.hel = e at *
      have hz1 : (e != (0 : Int)) = true := by simpa using hz
      have hz2 : (e == (0 : Int)) = false := by simpa using hz
      go_wp2_with fail
      go_meet
      exact ⟨by rw [HG2.out]; rfl, HK2, HB2⟩
  case rest =>
    clear HK HB0 hg0
    obtain ⟨rfl, HK, HB⟩ := hcut
    cases hgo : goB H.hel with
    | false =>
      have HP := Lib.hid (show printS H.hel = ([], false) by unfold printS; rw [if_neg (by rw [hgo]; simp)])
      clear hgo
      go_wp2_with fail
      go_ret2
      exact print_no HP.out HB.out
    | true =>
      have HG := Lib.hid hgo
      clear hgo
      have hv0 := cell_ver HK.out
      have hgl := HK.out.lt
      go_wp2_with fail
      have hnew := Blk.new wc 49 #[.slice none 0 0, .bool false]
      have HR0 := Lib.hid (show PrAt w H wc.heap.size none ([], false) (wc.alloc (.cells #[.slice none 0 0, .bool false] 49)) from
        ⟨⟨⟨0, hnew, At.nil _⟩, (fun q h => by cases h), HB.out.size⟩, HK.out.alloc _, HB.out.alloc HB.out.size _, hgl⟩)
      clear hnew hv0
      generalize hg : wc.heap.size = g at *
      clear hg HK HB
      refine (rwnum_any HR0.out.rw_ H.ver (by simp)).mono ?_
      rintro e w2 ⟨rfl, p2, r2, -, u2⟩
      have HR2 := Lib.hid (HR0.out.post r2 u2)
      clear r2 u2 HR0
      have hl2 := numW_len ([], false) H.ver
      have HA1 := Lib.hid (show rowA H.hel = ((numW ([], false) H.ver).1 ++ H.rnd, (numW ([], false) H.ver).2) from rfl)
      generalize numW ([], false) H.ver = y2 at *
      obtain ⟨c2, hb2, ha2⟩ := HR2.out.rw_.blk
      have hc0 : w2.cell? ⟨g, 0, none⟩ = some (.slice (ad p2) y2.1.length c2) := by rw [hb2.cell]; rfl
      have hsr := src_rnd HR2.out.box HR.out
      have hltg := hb2.lt
      have HB2 := Lib.hid hb2
      have HAt2 := Lib.hid ha2
      have HSr := Lib.hid hsr
      have HNe := Lib.hid HR2.out.rw_.ne
      have HP2 := Lib.hid HR2.out.rw_.pB
      have hl2' : y2.1.length ≤ 2 := by simpa using hl2
      clear hb2 ha2 hsr hl2
      generalize hm : y2.1.length = m at *
      have HM := Lib.hid hm
      clear hm
      go_wp2_with fail
      go_region_law (first
        | (refine step_app_at (some 32) rfl rfl (.tmp 29) (.tmp 31) 22 rfl und8 inf8 p2 m c2 y2.1 rfl HM.out.symm (by exact HAt2.out.but ((But.refl [] _).drew) (by simp)) (some ⟨w.heap.size, 1, none⟩) 32 32 H.rnd rfl (by exact HSr.out.same ((But.refl [] _).drew)) (by omega) ?_; intro p3 c3 w3 HA3 HP3 HU3
           have hgp : g ∉ p2.toList := (fun hx => HNe.out (Option.mem_toList.1 hx))
           have q3 : w3.cell? ⟨g, 0, none⟩ = some (.slice (ad p2) m c2) := (HU3.out.cell (p := ⟨g, 0, none⟩) (by exact hltg) hgp).trans hc0
           have hfr3 : w3.frozen? ⟨g, 0, none⟩ = false := (HB2.out.but (w := w2.drew) HU3.out hgp).frozen 0))
      have HW3 := Lib.hid (show PrAt w H g p3 (rowA H.hel) (w3.setCell ⟨g, 0, none⟩ (.slice (ad p3) (m + 32) c3)) from by
        rw [HA1.out]
        refine HR2.out.post (row_set (w := w2) (w2 := w2.drew) HB2.out HM.out HU3.out HA3.out HNe.out HP3.out (Nat.le_refl _) hltg HR2.out.rw_.gB HP2.out HR.out) ?_
        exact (((But.refl _ _).drew).trans (HU3.out.more (fun i hi => List.mem_cons_of_mem _ hi))).trans ((But.refl _ _).set_ (p := ⟨g, 0, none⟩) (.inl (by simp)) _))
      clear HR2 HA1 HB2 HAt2 HSr HNe HP2 HM HA3 HP3 HU3 hgp q3 hfr3 hc0
      have hla : (rowA H.hel).1.length ≤ 40 := by
        show ((numW ([], false) H.ver).1 ++ H.rnd).length ≤ 40
        have := numW_len ([], false) H.ver
        rw [List.length_append, HR.out]
        simp at this
        omega
      generalize w3.setCell ⟨g, 0, none⟩ (.slice (ad p3) (m + 32) c3) = w4 at *
      have hcs := cell_ses HW3.out.box HR.out
      have hs5 := HSh.out.ses
      go_wp2_with fail
      refine (rwvec_any HW3.out.rw_ 1 1 (by decide) (by omega) H.sA _ H.sc H.ses (HH.out.ses.below HW3.out.bel) (by omega) (by omega)).mono ?_
      rintro e w5 ⟨rfl, p5, r5, -, u5'⟩
      have HR5 := Lib.hid (show PrAt w H g p5 (rowB H.hel) w5 from HW3.out.post r5 u5')
      have hlb : (rowB H.hel).1.length ≤ 6000 := by have := vecW_le 1 (rowA H.hel) H.ses; show (vecW 1 (rowA H.hel) H.ses).1.length ≤ _; omega
      have hcc := cell_cph HR5.out.box HR.out
      have hs5 := HSh.out.cph
      clear r5 u5' HW3 hcs hla
      go_wp2_with fail
      refine (numbers_any H.cA _ H.cc H.cph w5 rfl (by omega) (HH.out.cph.below HR5.out.bel)).mono ?_
      rintro e w6 ⟨p6, c6, rfl, ha6, hp6, hb6⟩
      have HR6 := Lib.hid (HR5.out.more hb6)
      have HA6 := Lib.hid ha6
      have hl6 := numsW_len H.cph
      clear ha6 hp6 hb6 HR5 hcc
      go_wp2_with fail
      have hne6 : ∀ y, ad p6 = some y → y.block ≠ g := fun y hy e => by
        obtain ⟨cc, hbb, _⟩ := HR6.out.rw_.blk
        cases p6 with
        | none => cases hy
        | some q =>
          injection hy with hy
          subst hy
          exact HA6.out.ne hbb (by decide) (congrArg some e)
      refine (rwwithin_any HR6.out.rw_ 2 2 (by decide) (by omega) (ad p6) _ c6 (numsW H.cph) HA6.out.src.2 hne6 (by omega) (by omega)).mono ?_
      rintro e w7 ⟨rfl, p7, r7, -, u7'⟩
      have HR7 := Lib.hid (show PrAt w H g p7 (rowC H.hel) w7 from HR6.out.post r7 u7')
      have hlc : (rowC H.hel).1.length ≤ 20000 := by have := vecW_le 2 ((rowB H.hel).1, (rowB H.hel).2 || (numsW H.cph).2) (numsW H.cph).1; show (vecW 2 ((rowB H.hel).1, (rowB H.hel).2 || (numsW H.cph).2) (numsW H.cph).1).1.length ≤ _; simp only at this; omega
      have hcm := cell_met HR7.out.box HR.out
      have hs5 := HSh.out.met
      clear r7 u7' HR6 HA6 hlb hl6 hne6
      go_wp2_with fail
      refine (rwvec_any HR7.out.rw_ 1 1 (by decide) (by omega) H.mA _ H.mc H.met (HH.out.met.below HR7.out.bel) (by omega) (by omega)).mono ?_
      rintro e w8 ⟨rfl, p8, r8, -, u8'⟩
      have HR8 := Lib.hid (show PrAt w H g p8 (rowD H.hel) w8 from HR7.out.post r8 u8')
      have hld : (rowD H.hel).1.length ≤ 40000 := by have := vecW_le 1 (rowC H.hel) H.met; show (vecW 1 (rowC H.hel) H.met).1.length ≤ _; omega
      have hch := cell_has HR8.out.box HR.out
      clear r8 u8' HR7 hcm hlc
      go_upto_if 45 with (fail)
      go_cut [] from 41 (fun wx => ∃ p9, Hid (PrAt w H g p9 (rowP H.hel) wx))
      case first =>
        cases hh : H.has with
        | false =>
          have HF := Lib.hid (show rowP H.hel = rowD H.hel from if_neg (by show ¬ H.has = true; rw [hh]; simp))
          rw [hh] at hch
          clear hh
          go_wp2_with fail
          go_meet
          exact ⟨p8, by rw [HF.out]; exact HR8⟩
        | true =>
          have HF := Lib.hid (show rowP H.hel = withinW 2 (rowD H.hel) (extsW ([], false) (H.xs.map ext)) from if_pos (by show H.has = true; exact hh))
          rw [hh] at hch
          clear hh
          have hcx := cell_xs HR8.out.box HR.out
          have hs5 := HSh.out.xs
          go_wp2_with fail
          refine (exts_any H.xA _ H.xc H.xs w8 rfl (by omega) (HH.out.xs.below HR8.out.bel)).mono ?_
          rintro e w9 ⟨p9, c9, rfl, ha9, hp9, hb9⟩
          have HR9 := Lib.hid (HR8.out.more hb9)
          have HA9 := Lib.hid ha9
          clear ha9 hp9 hb9 HR8 hcx
          have hl9 : (extsW ([], false) (H.xs.map ext)).1.length ≤ 9223372036854775807 := by have := extsW_len (H.xs.map ext) ([], false) (by simp); omega
          generalize extsW ([], false) (H.xs.map ext) = y9 at *
          go_wp2_with fail
          have hne9 : ∀ y, ad p9 = some y → y.block ≠ g := fun y hy e => by
            obtain ⟨cc, hbb, _⟩ := HR9.out.rw_.blk
            cases p9 with
            | none => cases hy
            | some q =>
              injection hy with hy
              subst hy
              exact HA9.out.ne hbb (by decide) (congrArg some e)
          refine (rwwithin_any HR9.out.rw_ 2 2 (by decide) (by omega) (ad p9) _ c9 y9 HA9.out.src.2 hne9 hl9 (by omega)).mono ?_
          rintro e w10 ⟨rfl, p10, r10, -, u10'⟩
          have HR10 := Lib.hid (HR9.out.post r10 u10')
          clear r10 u10'
          go_wp2_with fail
          go_meet
          exact ⟨p10, by rw [HF.out]; exact HR10⟩
      case rest =>
        obtain ⟨p9, HR9⟩ := hcut
        obtain ⟨c9, hb9, ha9⟩ := HR9.out.rw_.blk
        have hpB := HR9.out.rw_.pB
        have HA9 := Lib.hid ha9
        have HP9 := Lib.hid hpB
        have hc0 : wc.cell? ⟨g, 0, none⟩ = some (.slice (ad p9) (rowP H.hel).1.length c9) := by rw [hb9.cell]; rfl
        have hc1 : wc.cell? ⟨g, 1, none⟩ = some (.bool (rowP H.hel).2) := by rw [hb9.cell]; rfl
        clear hb9 ha9 hpB
        cases hbad : (rowP H.hel).2 with
        | true =>
          have HF := Lib.hid (show printS H.hel = ([], false) from by unfold printS; rw [if_neg (by rw [hbad]; simp)])
          rw [hbad] at hc1
          clear hbad
          go_wp2_with fail
          go_ret2
          exact print_no HF.out HR9.out.bel
        | false =>
          have HF := Lib.hid (show printS H.hel = ((rowP H.hel).1, true) from by unfold printS; rw [if_pos ⟨HG.out, hbad⟩])
          rw [hbad] at hc1
          clear hbad
          go_wp2_with fail
          go_ret2
          exact ⟨p9, c9, by rw [HF.out]; rfl, by rw [HF.out]; exact HA9.out, HP9.out, HR9.out.bel⟩
end Go.Proofs.Ytpnidmegeimboaa.He
