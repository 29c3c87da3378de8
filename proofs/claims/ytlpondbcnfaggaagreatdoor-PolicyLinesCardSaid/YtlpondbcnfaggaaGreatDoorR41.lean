/-
  Contract of package policy's addPin over this seat's translation: it answers what is wrong with the pin, or the draft's policy has it then. Condition: texts of up to a million bytes.
-/
import Derived.Test.YtlpondbcnfaggaaGreatDoorR40
namespace Go.Proofs.YtlpondbcnfaggaaGreatDoor.Po
open Go.RowKit Go.Shelf Go.Proofs.YtlpondbcnfaggaaGreatDoor.Wd Go.Proofs.YtlpondbcnfaggaaGreatDoor.Asc Go.Proofs.YtlpondbcnfaggaaGreatDoor.Tx Go.Proofs.YtlpondbcnfaggaaGreatDoor.St Go.Proofs.YtlpondbcnfaggaaGreatDoor.Tr Go.Proofs.YtlpondbcnfaggaaGreatDoor.Te Go.Maps

/-- what is wrong with a pin behind those -/
def pinF (L : List Pn) (x : Pn) : Int := if 200 ≤ L.length then 2 else pinE L x
theorem ci_range {w : World} {G : Nat} {x : Pl} (h : Blk w G 97 (pnC x.1)) : w.rangeAt G 1 x.1.ci.cells.toList := fun j v hj => by
  have h1 := h.cell (1 + j)
  rw [h1, ← Array.getElem?_toList]
  show (Value.string (Tx.str x.1.nm) :: (x.1.ci.cells.toList ++ [.int .i64 x.1.un]))[1 + j]? = some v
  rw [show 1 + j = j + 1 by omega, List.getElem?_cons_succ, List.getElem?_append_left (List.getElem?_eq_some_iff.1 hj).1]
  exact hj
/-- a pin's cells written one by one over a zero's -/
theorem pn_fold (x : Pl) : Array.foldl (fun (cs : Array Value) (y : Value × Nat) => cs.setIfInBounds y.2 y.1) #[Value.string ⟨#[]⟩, Value.int .u8 0, Value.int .u8 0, Value.int .u8 0, Value.int .u8 0, Value.int .u8 0, Value.int .u8 0, Value.int .u8 0, Value.int .u8 0, Value.int .u8 0, Value.int .u8 0, Value.int .u8 0, Value.int .u8 0, Value.int .u8 0, Value.int .u8 0, Value.int .u8 0, Value.int .u8 0, Value.int .i64 0, Value.int .i64 0] ((pnC x.1).zipIdx) 0 19 = pnC x.1 := by
  obtain ⟨⟨nm, ⟨a, n⟩, un⟩, hx⟩ := x
  obtain ⟨x0, x1, x2, x3, x4, x5, x6, x7, x8, x9, x10, x11, x12, x13, x14, x15, rfl⟩ := Ad.list16 hx
  kernel_rfl
theorem plain_any (ps : List Pl) (x : Pn) : (plain ps).any (fun y => decide (y.nm = x.nm) && decide (y.ci = x.ci)) = ps.any (fun y => decide (y.1.nm = x.nm) && decide (y.1.ci = x.ci)) := by
  unfold plain
  rw [List.any_map]
  rfl
set_option linter.unusedSimpArgs false in
set_option maxRecDepth 100000 in
set_option maxHeartbeats 32000000 in
theorem addPin_any {B : Nat} {w : World} {d : Nat} {S : List Nat} {p : Pol} (hE : Ad.Env B w) (hD : DrP w d S p) (hge : ∀ i ∈ S, B ≤ i) (x : Pl) (hx : OkP x) :
    Calls Tryz.prog 58 #[.pointer (some ⟨d, 0, none⟩), .agg (pnC x.1)] w (DoP w d S (p.app (.pn x.1)) (pinF p.pn x.1)) := by
  have h19 := pnC_size x
  have hfo := pn_fold x
  obtain ⟨hr, ps, v1, v2, g, St, b, n0, D, hps, hI⟩ := hD
  have HPs := Lib.hid hps
  obtain ⟨er, her⟩ : ∃ er, pinF p.pn x.1 = er := ⟨_, rfl⟩
  obtain ⟨AR, cR, hvr, _, _, _⟩ := hI.pin.src finePn
  obtain ⟨n, hn⟩ : ∃ n, ps.length = n := ⟨_, rfl⟩
  have hpn : p.pn.length = n := by rw [← hps, ← hn]; simp [plain]
  rw [hn] at hvr
  have HN := Lib.hid hn
  have hn2 : n ≤ 200 := by rw [← hpn]; exact (right_most hr).2
  have HVr := Lib.hid hvr
  have HSl := Lib.hid hI.lt
  obtain ⟨bb, hbb⟩ : ∃ bb, Maps.has D (kPn (bareP x)) = bb := ⟨_, rfl⟩
  have HBb := Lib.hid hbb
  have HLk := Lib.hid (fun (w' : World) (h : PinsIs w' b n0 D ps) => pins_look h hx.bare hbb)
  have HEr := Lib.hid (show er = if 200 ≤ n then 2 else if nameB x.1.nm = false then 9 else if Ad.rightS x.1.ci = false ∨ x.1.un < 0 ∨ 1099511627776 < x.1.un then 1 else if bb = true then 7 else 0 from by
    rw [← her, ← hbb, pins_has hI.set x hx, ← plain_any, hps]
    unfold pinF pinE
    rw [hpn])
  have HR := Lib.hid (show er = 0 → rightP (p.app (.pn x.1)) = 0 from fun h0 => by
    rw [app_pn hr]
    exact her.trans h0)
  have HX := Lib.hid hx
  rw [her]
  have hb0 := Blk.new w 97 (pnC x.1)
  have hl0 : Below w.heap.size w (w.alloc (.cells (pnC x.1) 97)) := (Below.refl _ _).alloc (Nat.le_refl _) _
  have HI := Lib.hid (And.intro (hI.on hl0) (And.intro hb0 (But.of_below hl0 S)))
  have HE := Lib.hid (And.intro hE hge)
  clear hr hps hI hE hge hb0 hl0 her hn hvr hbb hx hpn
  go_enter Tryz.func58, Tryz.ntmps58
  go_upto_region 1 with fail
  generalize w.alloc (.cells (pnC x.1) 97) = w1 at *
  obtain ⟨G, hG⟩ : ∃ G, w.heap.size = G := ⟨_, rfl⟩
  have HG := Lib.hid hG
  rw [hG] at HI ⊢
  clear hG
  have HGS := Lib.hid (show ∀ i ∈ S, i ≠ G from fun i hi => by have h1 := HSl.out i hi; have h2 := HG.out; omega)
  have HOn := Lib.hid (fun (u w' : World) (h : DrI u d S p.al p.ru p.ru ps ps v1 v2 g St b n0 D ∧ Blk u G 97 (pnC x.1) ∧ But S w u) (hb : Below u.heap.size u w') => show DrI w' d S p.al p.ru p.ru ps ps v1 v2 g St b n0 D ∧ Blk w' G 97 (pnC x.1) ∧ But S w w' from ⟨h.1.on hb, h.2.1.below hb h.2.1.lt, h.2.2.trans (But.of_below hb S)⟩)
  have HSS := Lib.hid (fun (w' : World) (h : DrI w' d S p.al p.ru p.ru ps ps v1 v2 g St b n0 D ∧ Blk w' G 97 (pnC x.1) ∧ But S w w') => show w'.rangeAt G 0 (pnL x.1) ∧ w'.cell? ⟨d, 4, none⟩ = some (.map (some b)) ∧ PinsIs w' b n0 D ps from ⟨range_b h.2.1, h.1.blk.cell 4, h.1.set⟩)
  have HBr := Lib.hid (bare_any x)
  refine Code.wp_mono (Q := fun e a' w' => e = .normal ∧ ∃ X, Hid (DrI w' d S p.al p.ru p.ru ps ps v1 v2 g St b n0 D ∧ Blk w' G 97 (pnC x.1) ∧ But S w w') ∧ a' = { tmps := #[(.pointer (some ⟨d, 0, none⟩)), (.agg (pnC x.1)), undef, (.pointer (some ⟨G, 0, none⟩)), (.int .i64 0), (.pointer (some ⟨X, 0, none⟩)), (.bool bb), (.tuple #[.agg #[], .bool bb]), (.pointer (some ⟨d, 0, none⟩)), (.pointer (some ⟨d, 0, none⟩)), (.pointer (some ⟨d, 4, none⟩)), (.map (some b)), (.agg (pnC x.1)), (.agg (pnC (bareP x).1)), (.tuple #[.agg #[], .bool bb]), (.agg #[]), (.bool bb), undef, undef, undef, undef, undef, undef, undef, undef, undef, undef, undef, undef, undef, undef, undef, undef, undef, undef, undef, undef, undef, undef, undef, undef, undef, undef, undef, undef, undef, undef, undef, undef, undef, undef, undef, undef, undef, undef, undef, undef, undef, undef, undef, undef, undef, undef, undef, undef], defers := [] }) (fun e a' w' h => ?_) ?_
  case refine_2 =>
    have HI := Lib.hid (HOn.out _ _ HI.out (show Below w1.heap.size w1 w1.drew from (Below.refl _ _).drew))
    refine wp_region_held_drew (S := fun w' => w'.rangeAt G 0 (pnL x.1) ∧ w'.cell? ⟨d, 4, none⟩ = some (.map (some b)) ∧ PinsIs w' b n0 D ps) (by kernel_rfl) (HSS.out _ HI.out) (fun h0 => ?_)
    generalize w1.drew = w3 at *
    refine hd_take 0 (some 8) (.pointer (some ⟨d, 0, none⟩)) rfl rfl (by kernel_rfl) (by kernel_rfl) (by kernel_rfl) (fun _ _ _ h => nomatch h.1) (Or.inl ⟨by rfl, fun w hw => by go_simp⟩) h0 ?_
    simp only [Act.put, List.setIfInBounds_toArray, List.set_cons_zero, List.set_cons_succ]
    refine hd_take 1 (some 9) (.pointer (some ⟨d, 0, none⟩)) rfl rfl (by kernel_rfl) (by kernel_rfl) (by kernel_rfl) (fun _ _ _ h => nomatch h.1) (Or.inl ⟨by rfl, fun w hw => by go_simp⟩) h0 ?_
    simp only [Act.put, List.setIfInBounds_toArray, List.set_cons_zero, List.set_cons_succ]
    refine hd_take 2 (some 10) (.pointer (some ⟨d, 4, none⟩)) rfl rfl (by kernel_rfl) (by kernel_rfl) (by kernel_rfl) (fun _ _ _ h => nomatch h.1) (Or.inl ⟨by rfl, fun w hw => by go_simp⟩) h0 ?_
    simp only [Act.put, List.setIfInBounds_toArray, List.set_cons_zero, List.set_cons_succ]
    refine hd_take 3 (some 11) (.map (some b)) rfl rfl (by kernel_rfl) (by kernel_rfl) (by kernel_rfl) (fun _ _ _ h => nomatch h.1) (Or.inl ⟨by rfl, fun w hw => by have h9 := hw.2.1; go_simp⟩) h0 ?_
    simp only [Act.put, List.setIfInBounds_toArray, List.set_cons_zero, List.set_cons_succ]
    refine hd_take 4 (some 12) (.agg (pnC x.1)) rfl rfl (by kernel_rfl) (by kernel_rfl) (by kernel_rfl) (fun _ _ _ h => nomatch h.1) (yieldsIf_load_mid (by rfl) _ _ rfl G 0 rfl (pnL x.1) _ (fun _ h => h.1) undPn rfl (pn_len' x)) h0 ?_
    simp only [Act.put, List.setIfInBounds_toArray, List.set_cons_zero, List.set_cons_succ]
    refine wpAnyH_ready (rs := [5, 10]) (by kernel_rfl) (by simp) (AllReadyH.cons rfl (fun K hK => ?_) (AllReadyH.cons rfl (fun K hK => ?_) AllReadyH.nil))
    · skip
      go_simp
      refine (HBr.out _).mono ?_
      rintro e wbHI3 ⟨rfl, hb⟩
      have HI3 := Lib.hid (HOn.out _ _ HI.out hb)
      refine hK.out _ _ (HSS.out _ HI3.out) (fun h3 => ?_)
      clear hK K hb h0
      refine hd_take 6 (some 14) (.tuple #[.agg #[], .bool bb]) rfl rfl (by kernel_rfl) (by kernel_rfl) (by kernel_rfl) (fun _ _ _ h => nomatch h.1) (Or.inl ⟨by rfl, fun w hw => by have h9 := HLk.out w hw.2.2; go_simp⟩) h3 ?_
      simp only [Act.put, List.setIfInBounds_toArray, List.set_cons_zero, List.set_cons_succ]
      refine hd_take 7 (some 7) (.tuple #[.agg #[], .bool bb]) rfl rfl (by kernel_rfl) (by kernel_rfl) (by kernel_rfl) (fun _ _ _ h => nomatch h.1) (Or.inl ⟨by rfl, fun w hw => by go_simp⟩) h3 ?_
      simp only [Act.put, List.setIfInBounds_toArray, List.set_cons_zero, List.set_cons_succ]
      refine hd_take 8 (some 15) (.agg #[]) rfl rfl (by kernel_rfl) (by kernel_rfl) (by kernel_rfl) (fun _ _ _ h => nomatch h.1) (Or.inl ⟨by rfl, fun w hw => by go_simp⟩) h3 ?_
      simp only [Act.put, List.setIfInBounds_toArray, List.set_cons_zero, List.set_cons_succ]
      refine hd_take 9 (some 16) (.bool bb) rfl rfl (by kernel_rfl) (by kernel_rfl) (by kernel_rfl) (fun _ _ _ h => nomatch h.1) (Or.inl ⟨by rfl, fun w hw => by go_simp⟩) h3 ?_
      simp only [Act.put, List.setIfInBounds_toArray, List.set_cons_zero, List.set_cons_succ]
      refine wpAnyH_ready (rs := [10]) (by kernel_rfl) (by simp) (AllReadyH.cons rfl (fun K hK => ?_) AllReadyH.nil)
      go_simp
      have HI4 := Lib.hid (HOn.out _ _ HI3.out ((Below.refl _ _).alloc (Nat.le_refl _) (.cells #[] 74)))
      refine hK.out _ _ (HSS.out _ HI4.out) (fun h4 => ?_)
      clear hK K h3
      refine wpAnyH_ready (rs := [11]) (by kernel_rfl) (by simp) (AllReadyH.cons rfl (fun K hK => ?_) AllReadyH.nil)
      go_simp
      refine hK.out _ _ (HSS.out _ HI4.out) (fun h5 => ?_)
      clear hK K h4
      refine hd_take 12 (some 6) (.bool bb) rfl rfl (by kernel_rfl) (by kernel_rfl) (by kernel_rfl) (fun _ _ _ h => nomatch h.1) (Or.inl ⟨by rfl, fun w hw => by go_simp⟩) h5 ?_
      simp only [Act.put, List.setIfInBounds_toArray, List.set_cons_zero, List.set_cons_succ]
      refine wpAnyH_done (by kernel_rfl) ⟨rfl, _, HI4, rfl⟩ _
    · skip
      go_simp
      have HI3 := Lib.hid (HOn.out _ _ HI.out ((Below.refl _ _).alloc (Nat.le_refl _) (.cells #[] 74)))
      refine hK.out _ _ (HSS.out _ HI3.out) (fun h3 => ?_)
      clear hK K h0
      refine wpAnyH_ready (rs := [5]) (by kernel_rfl) (by simp) (AllReadyH.cons rfl (fun K hK => ?_) AllReadyH.nil)
      go_simp
      refine (HBr.out _).mono ?_
      rintro e wbHI4 ⟨rfl, hb⟩
      have HI4 := Lib.hid (HOn.out _ _ HI3.out hb)
      refine hK.out _ _ (HSS.out _ HI4.out) (fun h4 => ?_)
      clear hK K hb h3
      refine hd_take 6 (some 14) (.tuple #[.agg #[], .bool bb]) rfl rfl (by kernel_rfl) (by kernel_rfl) (by kernel_rfl) (fun _ _ _ h => nomatch h.1) (Or.inl ⟨by rfl, fun w hw => by have h9 := HLk.out w hw.2.2; go_simp⟩) h4 ?_
      simp only [Act.put, List.setIfInBounds_toArray, List.set_cons_zero, List.set_cons_succ]
      refine hd_take 7 (some 7) (.tuple #[.agg #[], .bool bb]) rfl rfl (by kernel_rfl) (by kernel_rfl) (by kernel_rfl) (fun _ _ _ h => nomatch h.1) (Or.inl ⟨by rfl, fun w hw => by go_simp⟩) h4 ?_
      simp only [Act.put, List.setIfInBounds_toArray, List.set_cons_zero, List.set_cons_succ]
      refine hd_take 8 (some 15) (.agg #[]) rfl rfl (by kernel_rfl) (by kernel_rfl) (by kernel_rfl) (fun _ _ _ h => nomatch h.1) (Or.inl ⟨by rfl, fun w hw => by go_simp⟩) h4 ?_
      simp only [Act.put, List.setIfInBounds_toArray, List.set_cons_zero, List.set_cons_succ]
      refine hd_take 9 (some 16) (.bool bb) rfl rfl (by kernel_rfl) (by kernel_rfl) (by kernel_rfl) (fun _ _ _ h => nomatch h.1) (Or.inl ⟨by rfl, fun w hw => by go_simp⟩) h4 ?_
      simp only [Act.put, List.setIfInBounds_toArray, List.set_cons_zero, List.set_cons_succ]
      refine wpAnyH_ready (rs := [11]) (by kernel_rfl) (by simp) (AllReadyH.cons rfl (fun K hK => ?_) AllReadyH.nil)
      go_simp
      refine hK.out _ _ (HSS.out _ HI4.out) (fun h5 => ?_)
      clear hK K h4
      refine hd_take 12 (some 6) (.bool bb) rfl rfl (by kernel_rfl) (by kernel_rfl) (by kernel_rfl) (fun _ _ _ h => nomatch h.1) (Or.inl ⟨by rfl, fun w hw => by go_simp⟩) h5 ?_
      simp only [Act.put, List.setIfInBounds_toArray, List.set_cons_zero, List.set_cons_succ]
      refine wpAnyH_done (by kernel_rfl) ⟨rfl, _, HI4, rfl⟩ _
  obtain ⟨rfl, X, HI4, rfl⟩ := h
  generalize hw4 : w' = w4 at HI4 ⊢
  clear hw4 HI HSS HLk
  have hEr := HEr.out
  have c4 : w4.cell? ⟨d, 4, none⟩ = some (.map (some b)) := HI4.out.1.blk.cell 4
  have hln := fun ty => HI4.out.1.set.own.len undPm ty
  rw [HI4.out.1.set.size, HN.out] at hln
  by_cases h200 : 200 ≤ n
  · obtain rfl : n = 200 := by omega
    rw [if_pos h200] at hEr
    subst hEr
    clear h200
    go_wp2_with fail
    go_ret
    exact DoP.bad HI4.out.2.2 (by decide)
  rw [if_neg h200] at hEr
  have hn3 : ¬ (n : Int) = 200 := by omega
  have Hn2 := Lib.hid (show n < 200 by omega)
  clear h200
  have c0 : w4.cell? ⟨G, 0, none⟩ = some (.string (str x.1.nm)) := HI4.out.2.1.cell 0
  have HNm := Lib.hid (isName_any (B := B) (w := w4) (HE.out.1.below (HI4.out.2.2.below (fun i hi => HE.out.2 i hi) HE.out.1.le)) x.1.nm HX.out.n0)
  go_upto_region 4 with fail
  clear hln c4 hn3
  go_wp2_with fail
  refine HNm.out.mono ?_
  rintro e w5 ⟨rfl, hb5⟩
  have HI5 := Lib.hid (HOn.out _ _ HI4.out hb5)
  clear hb5 HI4 HNm c0
  cases hnm : nameB x.1.nm with
  | false =>
    rw [if_pos hnm] at hEr
    subst hEr
    clear hnm
    go_wp2_with fail
    go_ret
    exact DoP.bad HI5.out.2.2 (by decide)
  | true =>
  rw [if_neg (by rw [hnm]; decide)] at hEr
  clear hnm
  have hcr := ci_range HI5.out.2.1
  have hci : (Tryz.prog.info? 95).map (·.size) = some x.1.ci.cells.toList.length := by rw [Array.length_toList, Ad.C_size _ x.2]; exact Ad.info17
  have c18 : w5.cell? ⟨G, 18, none⟩ = some (.int .i64 x.1.un) := (HI5.out.2.1.cell 18).trans (pn_18 x)
  have HRi := Lib.hid (Ad.right_any x.1.ci x.2 w5)
  go_wp2_with (refine wpList_load_mid rfl 95 _ rfl G 1 rfl x.1.ci.cells.toList _ hcr Ad.und17 rfl hci ?_)
  refine HRi.out.mono ?_
  rintro e w6 ⟨rfl, hb6⟩
  have HI6 := Lib.hid (HOn.out _ _ HI5.out hb6)
  clear hb6 HI5 HRi hcr hci c18
  have c18 : w6.cell? ⟨G, 18, none⟩ = some (.int .i64 x.1.un) := (HI6.out.2.1.cell 18).trans (pn_18 x)
  obtain ⟨u, hu⟩ : ∃ u, x.1.un = u := ⟨_, rfl⟩
  rw [hu] at c18 hEr
  cases hrt : Ad.rightS x.1.ci with
  | false =>
    rw [if_pos (.inl hrt)] at hEr
    subst hEr
    clear hrt hu
    go_wp2_with fail
    go_ret
    exact DoP.bad HI6.out.2.2 (by decide)
  | true =>
  by_cases hu0 : u < 0
  · rw [if_pos (.inr (.inl hu0))] at hEr
    subst hEr
    clear hrt hu
    go_wp2_with fail
    go_ret
    exact DoP.bad HI6.out.2.2 (by decide)
  by_cases hu1 : 1099511627776 < u
  · rw [if_pos (.inr (.inr hu1))] at hEr
    subst hEr
    clear hrt hu
    go_wp2_with fail
    go_ret
    exact DoP.bad HI6.out.2.2 (by decide)
  rw [if_neg (fun h => h.elim (fun e => by rw [hrt] at e; cases e) (fun h => h.elim hu0 hu1))] at hEr
  clear hrt hu
  cases bb with
  | true =>
    rw [if_pos rfl] at hEr
    subst hEr
    go_wp2_with fail
    go_ret
    exact DoP.bad HI6.out.2.2 (by decide)
  | false =>
  rw [if_neg (by decide)] at hEr
  subst hEr
  have HRz : Hid (rightP (p.app (.pn x.1)) = 0) := Lib.hid (HR.out rfl)
  clear HR
  go_upto_region 10 with fail
  clear c18 hu0 hu1
  have HI7 := Lib.hid (HOn.out _ _ HI6.out (show Below w6.heap.size w6 w6.drew from (Below.refl _ _).drew))
  clear HI6
  refine wp_norm ?_
  refine wp_region_held_drew (S := fun w' => w'.rangeAt G 0 (pnL x.1) ∧ w'.cell? ⟨d, 4, none⟩ = some (.map (some b))) (by kernel_rfl) ⟨range_b HI7.out.2.1, HI7.out.1.blk.cell 4⟩ (fun h0 => ?_)
  generalize w6.drew = w8 at *
  refine hd_take 0 (some 46) (.pointer (some ⟨d, 0, none⟩)) rfl rfl (by kernel_rfl) (by kernel_rfl) (by kernel_rfl) (fun _ _ _ h => nomatch h.1) (Or.inl ⟨by rfl, fun w hw => by go_simp⟩) h0 ?_
  simp only [Act.put, List.setIfInBounds_toArray, List.set_cons_zero, List.set_cons_succ]
  refine hd_take 1 (some 47) (.pointer (some ⟨d, 0, none⟩)) rfl rfl (by kernel_rfl) (by kernel_rfl) (by kernel_rfl) (fun _ _ _ h => nomatch h.1) (Or.inl ⟨by rfl, fun w hw => by go_simp⟩) h0 ?_
  simp only [Act.put, List.setIfInBounds_toArray, List.set_cons_zero, List.set_cons_succ]
  refine hd_take 2 (some 48) (.pointer (some ⟨d, 4, none⟩)) rfl rfl (by kernel_rfl) (by kernel_rfl) (by kernel_rfl) (fun _ _ _ h => nomatch h.1) (Or.inl ⟨by rfl, fun w hw => by go_simp⟩) h0 ?_
  simp only [Act.put, List.setIfInBounds_toArray, List.set_cons_zero, List.set_cons_succ]
  refine hd_take 3 (some 49) (.map (some b)) rfl rfl (by kernel_rfl) (by kernel_rfl) (by kernel_rfl) (fun _ _ _ h => nomatch h.1) (Or.inl ⟨by rfl, fun w hw => by have h9 := hw.2; go_simp⟩) h0 ?_
  simp only [Act.put, List.setIfInBounds_toArray, List.set_cons_zero, List.set_cons_succ]
  refine hd_take 4 (some 50) (.agg (pnC x.1)) rfl rfl (by kernel_rfl) (by kernel_rfl) (by kernel_rfl) (fun _ _ _ h => nomatch h.1) (yieldsIf_load_mid (by rfl) _ _ rfl G 0 rfl (pnL x.1) _ (fun _ h => h.1) undPn rfl (pn_len' x)) h0 ?_
  simp only [Act.put, List.setIfInBounds_toArray, List.set_cons_zero, List.set_cons_succ]
  refine hd_take 6 (some 52) (.agg #[]) rfl rfl (by kernel_rfl) (by kernel_rfl) (by kernel_rfl) (fun _ _ _ h => nomatch h.1) (Or.inl ⟨by rfl, fun w hw => by go_simp⟩) h0 ?_
  simp only [Act.put, List.setIfInBounds_toArray, List.set_cons_zero, List.set_cons_succ]
  refine wpAnyH_ready (rs := [5]) (by kernel_rfl) (by simp) (AllReadyH.cons rfl (fun K hK => ?_) AllReadyH.nil)
  go_simp
  refine (HBr.out _).mono ?_
  rintro e w9 ⟨rfl, hb⟩
  have HI9 := Lib.hid (HOn.out _ _ HI7.out hb)
  refine hK.out _ _ ⟨range_b HI9.out.2.1, HI9.out.1.blk.cell 4⟩ (fun h1 => ?_)
  clear hK K h0 hb HI7
  obtain ⟨wa, hrun, hset, hbt⟩ := pins_store HI9.out.1.set HX.out (by have := HN.out; have := Hn2.out; omega) HBb.out
  have HMa := Lib.hid (HI9.out.1.setm hset hbt)
  have HGa := Lib.hid (HI9.out.2.1.but hbt (fun hm => map_ne HI9.out.1.set.own HI9.out.2.1 (List.mem_singleton.1 hm).symm))
  have HKa := Lib.hid (but_more HI9.out.2.2 hbt (fun i hi => .inl (by rw [List.mem_singleton.1 hi]; exact HI9.out.1.inB)))
  have HNb := Lib.hid (show b ≠ G from map_ne HI9.out.1.set.own HI9.out.2.1)
  clear hset hbt HI9
  refine wpAnyH_ready (rs := [7]) (by kernel_rfl) (by simp) (AllReadyH.cons rfl (fun K hK => ?_) AllReadyH.nil)
  go_simp
  refine hK.out _ _ ⟨range_b HGa.out, HMa.out.blk.cell 4⟩ (fun h2 => ?_)
  clear hK K h1 h2 hrun
  refine wpAnyH_done (by kernel_rfl) ⟨rfl, ?_⟩ _
  go_upto_region 11 with fail
  have hdr : Below wa.heap.size wa wa.drew := (Below.refl _ _).drew
  have HMb := Lib.hid (HMa.out.on hdr)
  have HGb := Lib.hid (HGa.out.below hdr HGa.out.lt)
  have HKb := Lib.hid (HKa.out.trans (But.of_below hdr S))
  have HSb := Lib.hid (show ∀ i ∈ S, i ∈ S ∨ w.heap.size ≤ i from fun i hi => .inl hi)
  clear hdr HMa HGa HKa
  have HG0 := Lib.hid (show G ∉ v2.ownBlock.toList from fun hm => HGS.out G (HMb.out.in2 G (Option.mem_toList.1 hm)) rfl)
  have HGn := Lib.hid (show G ≠ d from fun e => HGS.out d HMb.out.inD e.symm)
  have HC0 := Lib.hid (fun (w' : World) (h : Blk w' d 108 (drC p.al v1 v2 g b)) => show w'.cell? ⟨d, 2, none⟩ = some (.slice AR n cR) from by rw [← HVr.out]; exact h.cell 2)
  have HEnd := Lib.hid (fun (ww w9 : World) (v : Value) (S9 : List Nat) (h : DrI ww d S9 p.al p.ru p.ru ps (ps ++ [x]) v1 v2 g St b (n0 + 1) (D.put (kPn (bareP x)) (.agg [])) ) (hk : But S w ww) (hs : ∀ i ∈ S9, i ∈ S ∨ w.heap.size ≤ i) (hA : OwnE w9 elPn 0 v (ps ++ [x])) (k : But v2.ownBlock.toList ww w9) (hv : v.ownBlock = v2.ownBlock ∨ v.ownBlock = some ww.heap.size) => show DoP w d S (p.app (.pn x.1)) 0 (.returned (.int .i64 0)) (w9.setCell ⟨d, 2, none⟩ v) from by
    obtain ⟨h1, h2⟩ := h.put2 hA k hv
    refine ⟨_, rfl, fun _ => ⟨HRz.out, ps ++ [x], v1, v, g, St, b, n0 + 1, _, ?_, h1⟩, fun i hi => ?_, but_more hk h2 hs⟩
    · show plain (ps ++ [x]) = p.pn ++ [x.1]
      rw [← HPs.out]
      simp [plain]
    · rcases newB_new k.size i hi with h3 | h3
      · exact hs i h3
      · exact .inr (Nat.le_trans hk.size h3))
  refine wp_norm ?_
  refine wp_region_held_drew (S := fun w' => w'.rangeAt G 0 (pnL x.1)) (by kernel_rfl) (range_b HGb.out) (fun h0 => ?_)
  generalize wa.drew = wb at *
  refine hd_take 0 (some 53) (.pointer (some ⟨d, 0, none⟩)) rfl rfl (by kernel_rfl) (by kernel_rfl) (by kernel_rfl) (fun _ _ _ h => nomatch h.1) (Or.inl ⟨by rfl, fun w hw => by go_simp⟩) h0 ?_
  simp only [Act.put, List.setIfInBounds_toArray, List.set_cons_zero, List.set_cons_succ]
  refine hd_take 1 (some 54) (.pointer (some ⟨d, 0, none⟩)) rfl rfl (by kernel_rfl) (by kernel_rfl) (by kernel_rfl) (fun _ _ _ h => nomatch h.1) (Or.inl ⟨by rfl, fun w hw => by go_simp⟩) h0 ?_
  simp only [Act.put, List.setIfInBounds_toArray, List.set_cons_zero, List.set_cons_succ]
  refine hd_take 2 (some 55) (.pointer (some ⟨d, 0, none⟩)) rfl rfl (by kernel_rfl) (by kernel_rfl) (by kernel_rfl) (fun _ _ _ h => nomatch h.1) (Or.inl ⟨by rfl, fun w hw => by go_simp⟩) h0 ?_
  simp only [Act.put, List.setIfInBounds_toArray, List.set_cons_zero, List.set_cons_succ]
  refine hd_take 3 (some 56) (.pointer (some ⟨d, 0, none⟩)) rfl rfl (by kernel_rfl) (by kernel_rfl) (by kernel_rfl) (fun _ _ _ h => nomatch h.1) (Or.inl ⟨by rfl, fun w hw => by go_simp⟩) h0 ?_
  simp only [Act.put, List.setIfInBounds_toArray, List.set_cons_zero, List.set_cons_succ]
  refine hd_take 4 (some 57) (.pointer (some ⟨d, 2, none⟩)) rfl rfl (by kernel_rfl) (by kernel_rfl) (by kernel_rfl) (fun _ _ _ h => nomatch h.1) (Or.inl ⟨by rfl, fun w hw => by go_simp⟩) h0 ?_
  simp only [Act.put, List.setIfInBounds_toArray, List.set_cons_zero, List.set_cons_succ]
  refine hd_take 6 (some 59) (.agg (pnC x.1)) rfl rfl (by kernel_rfl) (by kernel_rfl) (by kernel_rfl) (fun _ _ _ h => nomatch h.1) (yieldsIf_load_mid (by rfl) _ _ rfl G 0 rfl (pnL x.1) _ (fun _ h => h) undPn rfl (pn_len' x)) h0 ?_
  simp only [Act.put, List.setIfInBounds_toArray, List.set_cons_zero, List.set_cons_succ]
  refine wpAnyH_ready (rs := [5, 7]) (by kernel_rfl) (by simp) (AllReadyH.cons rfl (fun K hK => ?_) (AllReadyH.cons rfl (fun K hK => ?_) AllReadyH.nil))
  · skip
    have hc := HC0.out _ HMb.out.blk
    go_simp
    clear hc
    refine hK.out _ _ (range_b HGb.out) (fun h1 => ?_)
    clear hK K h0
    refine wpAnyH_ready (rs := [7]) (by kernel_rfl) (by simp) (AllReadyH.cons rfl (fun K hK => ?_) AllReadyH.nil)
    go_simp
    have HMc := Lib.hid (HMb.out.on ((Below.refl _ _).alloc (Nat.le_refl _) (.cells (pnC x.1) 97)))
    have HKc := Lib.hid (show But S w (wb.alloc (.cells (pnC x.1) 97)) from HKb.out.trans (But.of_below ((Below.refl _ _).alloc (Nat.le_refl _) _) S))
    have HGc := Lib.hid (HGb.out.alloc (.cells (pnC x.1) 97))
    have HSc := Lib.hid HSb.out
    have HSx := Lib.hid (show SrcE (wb.alloc (.cells (pnC x.1) 97)) elPn (some ⟨wb.heap.size, 0, none⟩) [x] from SrcE.one _ (Blk.new _ _ _) rfl)
    refine hK.out _ (wb.alloc (.cells (pnC x.1) 97)) (range_b HGc.out) (fun h2 => ?_)
    clear hK K h1
    generalize wb.alloc (.cells (pnC x.1) 97) = wc at *
    refine wpAnyH_ready (rs := [8]) (by kernel_rfl) (by simp) (AllReadyH.cons rfl (fun K hK => ?_) AllReadyH.nil)
    refine wp_appE finePn (.tmp 58) (.tmp 60) rfl 0 (.slice AR n cR) ps rfl (by rw [← HVr.out]; exact HMc.out.pin) _ 1 1 [x] rfl rfl (by simp) HSx.out (by have := HN.out; have := Hn2.out; simp only [List.length_singleton]; omega) (by decide) (Nat.zero_le _) ?_
    intro v6 w6 ho6 hg6 hf6
    obtain ⟨A6, c6, hv6, _, _, _⟩ := ho6.out.src finePn
    obtain ⟨m6, hm6⟩ : ∃ m6, (ps ++ [x]).length = m6 := ⟨_, rfl⟩
    rw [hm6] at hv6
    subst hv6
    have hk6 : But v2.ownBlock.toList _ w6 := but_grown (by rw [HVr.out]; exact hg6.out)
    have HX6 := Lib.hid (HGc.out.but hk6 HG0.out)
    have hb6 := HMc.out.blk.but hk6 HMc.out.n2.1
    have hc6 : w6.cell? ⟨d, 2, none⟩ = some (.slice AR n cR) := by rw [← HVr.out]; exact hb6.cell 2
    have hr6 := hb6.frozen 2
    have HZ := Lib.hid (HEnd.out _ _ _ _ HMc.out HKc.out HSc.out ho6.out hk6 (by rw [HVr.out]; exact hf6.out))
    have HXs := Lib.hid (show (w6.setCell ⟨d, 2, none⟩ (.slice A6 m6 c6)).rangeAt G 0 (pnL x.1) from range_b (HX6.out.far HGn.out _))
    clear hk6 hb6 ho6 hg6 hf6 HSx hm6
    refine hK.out _ _ (range_b HX6.out) (fun h6 => ?_)
    clear hK K h2
    refine hd_take 9 (some 62) (.pointer (some ⟨d, 0, none⟩)) rfl rfl (by kernel_rfl) (by kernel_rfl) (by kernel_rfl) (fun _ _ _ h => nomatch h.1) (Or.inl ⟨by rfl, fun w hw => by go_simp⟩) h6 ?_
    simp only [Act.put, List.setIfInBounds_toArray, List.set_cons_zero, List.set_cons_succ]
    refine hd_take 10 (some 63) (.pointer (some ⟨d, 0, none⟩)) rfl rfl (by kernel_rfl) (by kernel_rfl) (by kernel_rfl) (fun _ _ _ h => nomatch h.1) (Or.inl ⟨by rfl, fun w hw => by go_simp⟩) h6 ?_
    simp only [Act.put, List.setIfInBounds_toArray, List.set_cons_zero, List.set_cons_succ]
    refine hd_take 11 (some 64) (.pointer (some ⟨d, 2, none⟩)) rfl rfl (by kernel_rfl) (by kernel_rfl) (by kernel_rfl) (fun _ _ _ h => nomatch h.1) (Or.inl ⟨by rfl, fun w hw => by go_simp⟩) h6 ?_
    simp only [Act.put, List.setIfInBounds_toArray, List.set_cons_zero, List.set_cons_succ]
    refine wpAnyH_ready (rs := [12]) (by kernel_rfl) (by simp) (AllReadyH.cons rfl (fun K hK => ?_) AllReadyH.nil)
    go_simp
    refine hK.out _ _ HXs.out (fun h7 => ?_)
    clear hK K h6 h7 hc6 hr6 HXs HX6
    refine wpAnyH_done (by kernel_rfl) ⟨rfl, ?_⟩ _
    go_wp2_with fail
    go_ret
    exact HZ.out
  · skip
    go_simp
    have HMc := Lib.hid (HMb.out.on ((Below.refl _ _).alloc (Nat.le_refl _) (.cells (pnC x.1) 97)))
    have HKc := Lib.hid (show But S w (wb.alloc (.cells (pnC x.1) 97)) from HKb.out.trans (But.of_below ((Below.refl _ _).alloc (Nat.le_refl _) _) S))
    have HGc := Lib.hid (HGb.out.alloc (.cells (pnC x.1) 97))
    have HSc := Lib.hid HSb.out
    have HSx := Lib.hid (show SrcE (wb.alloc (.cells (pnC x.1) 97)) elPn (some ⟨wb.heap.size, 0, none⟩) [x] from SrcE.one _ (Blk.new _ _ _) rfl)
    refine hK.out _ (wb.alloc (.cells (pnC x.1) 97)) (range_b HGc.out) (fun h1 => ?_)
    clear hK K h0
    generalize wb.alloc (.cells (pnC x.1) 97) = wc at *
    refine wpAnyH_ready (rs := [5]) (by kernel_rfl) (by simp) (AllReadyH.cons rfl (fun K hK => ?_) AllReadyH.nil)
    have hc := HC0.out _ HMc.out.blk
    go_simp
    clear hc
    refine hK.out _ _ (range_b HGc.out) (fun h2 => ?_)
    clear hK K h1
    refine wpAnyH_ready (rs := [8]) (by kernel_rfl) (by simp) (AllReadyH.cons rfl (fun K hK => ?_) AllReadyH.nil)
    refine wp_appE finePn (.tmp 58) (.tmp 60) rfl 0 (.slice AR n cR) ps rfl (by rw [← HVr.out]; exact HMc.out.pin) _ 1 1 [x] rfl rfl (by simp) HSx.out (by have := HN.out; have := Hn2.out; simp only [List.length_singleton]; omega) (by decide) (Nat.zero_le _) ?_
    intro v6 w6 ho6 hg6 hf6
    obtain ⟨A6, c6, hv6, _, _, _⟩ := ho6.out.src finePn
    obtain ⟨m6, hm6⟩ : ∃ m6, (ps ++ [x]).length = m6 := ⟨_, rfl⟩
    rw [hm6] at hv6
    subst hv6
    have hk6 : But v2.ownBlock.toList _ w6 := but_grown (by rw [HVr.out]; exact hg6.out)
    have HX6 := Lib.hid (HGc.out.but hk6 HG0.out)
    have hb6 := HMc.out.blk.but hk6 HMc.out.n2.1
    have hc6 : w6.cell? ⟨d, 2, none⟩ = some (.slice AR n cR) := by rw [← HVr.out]; exact hb6.cell 2
    have hr6 := hb6.frozen 2
    have HZ := Lib.hid (HEnd.out _ _ _ _ HMc.out HKc.out HSc.out ho6.out hk6 (by rw [HVr.out]; exact hf6.out))
    have HXs := Lib.hid (show (w6.setCell ⟨d, 2, none⟩ (.slice A6 m6 c6)).rangeAt G 0 (pnL x.1) from range_b (HX6.out.far HGn.out _))
    clear hk6 hb6 ho6 hg6 hf6 HSx hm6
    refine hK.out _ _ (range_b HX6.out) (fun h6 => ?_)
    clear hK K h2
    refine hd_take 9 (some 62) (.pointer (some ⟨d, 0, none⟩)) rfl rfl (by kernel_rfl) (by kernel_rfl) (by kernel_rfl) (fun _ _ _ h => nomatch h.1) (Or.inl ⟨by rfl, fun w hw => by go_simp⟩) h6 ?_
    simp only [Act.put, List.setIfInBounds_toArray, List.set_cons_zero, List.set_cons_succ]
    refine hd_take 10 (some 63) (.pointer (some ⟨d, 0, none⟩)) rfl rfl (by kernel_rfl) (by kernel_rfl) (by kernel_rfl) (fun _ _ _ h => nomatch h.1) (Or.inl ⟨by rfl, fun w hw => by go_simp⟩) h6 ?_
    simp only [Act.put, List.setIfInBounds_toArray, List.set_cons_zero, List.set_cons_succ]
    refine hd_take 11 (some 64) (.pointer (some ⟨d, 2, none⟩)) rfl rfl (by kernel_rfl) (by kernel_rfl) (by kernel_rfl) (fun _ _ _ h => nomatch h.1) (Or.inl ⟨by rfl, fun w hw => by go_simp⟩) h6 ?_
    simp only [Act.put, List.setIfInBounds_toArray, List.set_cons_zero, List.set_cons_succ]
    refine wpAnyH_ready (rs := [12]) (by kernel_rfl) (by simp) (AllReadyH.cons rfl (fun K hK => ?_) AllReadyH.nil)
    go_simp
    refine hK.out _ _ HXs.out (fun h7 => ?_)
    clear hK K h6 h7 hc6 hr6 HXs HX6
    refine wpAnyH_done (by kernel_rfl) ⟨rfl, ?_⟩ _
    go_wp2_with fail
    go_ret
    exact HZ.out
end Go.Proofs.YtlpondbcnfaggaaGreatDoor.Po

/-
  Contract of package policy's readDefault over this seat's translation; what a reader of lines leaves. Condition: a line of up to a million bytes.
-/
namespace Go.Proofs.YtlpondbcnfaggaaGreatDoor.Po
open Go.RowKit Go.Shelf Go.Proofs.YtlpondbcnfaggaaGreatDoor.Wd Go.Proofs.YtlpondbcnfaggaaGreatDoor.Asc Go.Proofs.YtlpondbcnfaggaaGreatDoor.Tx Go.Proofs.YtlpondbcnfaggaaGreatDoor.St Go.Proofs.YtlpondbcnfaggaaGreatDoor.Tr Go.Proofs.YtlpondbcnfaggaaGreatDoor.Te Go.Maps

/-- why a policy may not be as a line says -/
def effE (p : Pol) : Option Eff → Int
  | none => 3
  | some e => rightP (p.app e)
def appO (p : Pol) : Option Eff → Pol
  | none => p
  | some e => p.app e
/-- what a reader of a line leaves -/
def RdP (w : World) (d x : Nat) (S : List Nat) (p : Pol) (o : Option Eff) (e : Ending) (w' : World) : Prop :=
  ∃ S', e = .returned (.int .i64 (effE p o)) ∧ (effE p o = 0 → DrP w' d S' (appO p o)) ∧ (∀ i ∈ S', i ∈ S ∨ w.heap.size ≤ i) ∧ But (x :: S) w w'
theorem RdP.no {w w' : World} {d x : Nat} {S : List Nat} {p : Pol} {o : Option Eff} (ho : o = none) (h : But [x] w w') : RdP w d x S p o (.returned (.int .i64 3)) w' := by
  subst ho
  exact ⟨S, rfl, fun h9 => absurd (show (3 : Int) = 0 from h9) (by decide), fun _ hi => Or.inl hi, h.more (fun i hi => by rw [List.mem_singleton.1 hi]; simp)⟩
/-- behind what turned the words alone, what may add to the draft -/
theorem RdP.of {w w1 w' : World} {d x : Nat} {S : List Nat} {p q : Pol} {er : Int} {o : Option Eff} {e : Ending} (h : But [x] w w1) (k : DoP w1 d S q er e w') (h1 : effE p o = er) (h2 : appO p o = q) : RdP w d x S p o e w' := by
  obtain ⟨S', a, b, c, f⟩ := k
  refine ⟨S', by rw [h1]; exact a, fun h0 => by rw [h2]; exact b (h1 ▸ h0), fun i hi => (c i hi).imp id (fun h9 => Nat.le_trans h.size h9), but_more (h.more (fun i hi => by rw [List.mem_singleton.1 hi]; simp)) f (fun i hi => .inl (List.mem_cons_of_mem _ hi))⟩
theorem empty_tail {ws : List (List UInt8)} (h : ∀ w ∈ ws, w ≠ []) : (headW ws).isEmpty = decide (ws = []) := by
  rw [Bool.eq_iff_iff, List.isEmpty_iff, decide_eq_true_iff]
  exact head_ne h
theorem tail_ne {ws : List (List UInt8)} (h : ∀ w ∈ ws, w ≠ []) : ∀ w ∈ ws.tail, w ≠ [] := fun w hw => h w (List.mem_of_mem_tail hw)
theorem skip_ne {key : List UInt8} {ws : List (List UInt8)} (h : isW key ws = true) : skipW key ws = ws.tail := by
  unfold isW at h
  unfold skipW
  rw [if_pos (of_decide_eq_true h)]
theorem skip_no {key : List UInt8} {ws : List (List UInt8)} (h : isW key ws = false) : skipW key ws = ws := by
  unfold isW at h
  unfold skipW
  rw [if_neg (of_decide_eq_false h)]
/-- default's words: a line of Default -/
def defO (ws : List (List UInt8)) : Option Eff := if ws = [kAllow] then some (Eff.al true) else if ws = [kDeny] then some (.al false) else none
theorem defO_is {ws : List (List UInt8)} (h : ∀ w ∈ ws, w ≠ []) : defO ws = if ((isW kAllow ws || isW kDeny ws) && (headW ws.tail).isEmpty) = true then some (Eff.al (isW kAllow ws)) else none := by
  unfold defO
  rw [def_is, empty_tail (tail_ne h)]
  rfl
set_option linter.unusedSimpArgs false in
set_option maxRecDepth 100000 in
set_option maxHeartbeats 8000000 in
theorem readDefault_any {w : World} {d x : Nat} {S : List Nat} {p : Pol} {ws : List (List UInt8)} (hD : DrP w d S p) (hxS : x ∉ S) (hW : WdI w x ws false) :
    Calls Tryz.prog 100 #[.pointer (some ⟨d, 0, none⟩), .pointer (some ⟨x, 0, none⟩)] w (RdP w d x S p (defO ws)) := by
  have HO := Lib.hid (defO_is hW.ne)
  have HS1 := Lib.hid (skip_any hW kAllow)
  have HD := Lib.hid (And.intro hD hxS)
  obtain ⟨a, ha⟩ : ∃ a, isW kAllow ws = a := ⟨_, rfl⟩
  obtain ⟨c, hc⟩ : ∃ c, isW kDeny ws = c := ⟨_, rfl⟩
  obtain ⟨t, ht⟩ : ∃ t, (headW ws.tail).isEmpty = t := ⟨_, rfl⟩
  have HA := Lib.hid ha
  have HC := Lib.hid hc
  have HT := Lib.hid ht
  rw [ha, hc, ht] at HO
  rw [ha] at HS1
  clear hD hxS hW ha hc ht
  -- the draft's policy turned
  have HEnd := Lib.hid (fun (w' : World) (hk : But [x] w w') (al : Bool) (ho : defO ws = some (.al al)) => show RdP w d x S p (defO ws) (.returned (.int .i64 0)) (w'.setCell ⟨d, 0, none⟩ (.bool al)) from by
    obtain ⟨h1, ps, v1, v2, g, St, b, n, D, h2, h3⟩ := HD.out.1.but hk (fun i hi hm => HD.out.2 (by rw [← List.mem_singleton.1 hm]; exact hi))
    obtain ⟨h4, h5⟩ := h3.seta al
    refine RdP.of hk (q := p.app (.al al)) (er := 0) ⟨S, rfl, fun _ => ⟨h1, ps, v1, v2, g, St, b, n, D, h2, h4⟩, fun _ hi => .inl hi, h5⟩ ?_ ?_
    · rw [ho]; exact h1
    · rw [ho]; rfl)
  have HC0 := Lib.hid (fun (w' : World) (hk : But [x] w w') => show w'.cell? ⟨d, 0, none⟩ = some (.bool p.al) ∧ w'.frozen? ⟨d, 0, none⟩ = false from by
    obtain ⟨h1, ps, v1, v2, g, St, b, n, D, h2, h3⟩ := HD.out.1.but hk (fun i hi hm => HD.out.2 (by rw [← List.mem_singleton.1 hm]; exact hi))
    exact ⟨h3.blk.cell 0, h3.blk.frozen 0⟩)
  go_enter Tryz.func100, Tryz.ntmps100
  go_wp2_with fail
  refine HS1.out.mono ?_
  rintro e w1 ⟨rfl, h1, hb1⟩
  cases a with
  | true =>
    rw [skip_ne HA.out] at h1
    have HDn := Lib.hid (done_any h1)
    rw [HT.out] at HDn
    have HB1 := Lib.hid hb1
    clear h1 hb1 HS1
    go_wp2_with fail
    refine HDn.out.mono ?_
    rintro e w2 ⟨rfl, hb2⟩
    have HB2 := Lib.hid (HB1.out.trans hb2)
    clear hb2 HDn HB1
    cases t with
    | true =>
      obtain ⟨c0, f0⟩ := HC0.out _ HB2.out
      go_wp2_with fail
      go_ret
      exact HEnd.out _ HB2.out true (by rw [HO.out]; rfl)
    | false =>
      go_wp2_with fail
      go_ret
      exact RdP.no (by rw [HO.out]; rfl) HB2.out
  | false =>
    rw [skip_no HA.out] at h1
    have HS2 := Lib.hid (skip_any h1 kDeny)
    rw [HC.out] at HS2
    have HB1 := Lib.hid hb1
    clear h1 hb1 HS1
    go_wp2_with fail
    refine HS2.out.mono ?_
    rintro e w2 ⟨rfl, h2, hb2⟩
    have HB2 := Lib.hid (HB1.out.trans hb2)
    clear hb2 HB1 HS2
    cases c with
    | false =>
      clear h2
      go_wp2_with fail
      go_ret
      exact RdP.no (by rw [HO.out]; rfl) HB2.out
    | true =>
      rw [skip_ne HC.out] at h2
      have HDn := Lib.hid (done_any h2)
      rw [HT.out] at HDn
      clear h2
      go_wp2_with fail
      refine HDn.out.mono ?_
      rintro e w3 ⟨rfl, hb3⟩
      have HB3 := Lib.hid (HB2.out.trans hb3)
      clear hb3 HDn HB2
      cases t with
      | true =>
        obtain ⟨c0, f0⟩ := HC0.out _ HB3.out
        go_wp2_with fail
        go_ret
        exact HEnd.out _ HB3.out false (by rw [HO.out]; rfl)
      | false =>
        go_wp2_with fail
        go_ret
        exact RdP.no (by rw [HO.out]; rfl) HB3.out
end Go.Proofs.YtlpondbcnfaggaaGreatDoor.Po
