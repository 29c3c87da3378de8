/-
  Contract of package trie's Add over this seat's translation: it answers what addE says, and the trie's rules are as addS says. Condition: texts of up to a million bytes.
-/
import Derived.Test.YtlpondbcnfaggaaGreatDoorQ37
import Derived.Test.YtlpondbcnfaggaaGreatDoorQ28
import Derived.Test.YtlpondbcnfaggaaGreatDoorQ26
import Derived.Test.YtlpondbcnfaggaaGreatDoorQ36
import Derived.Test.YtlpondbcnfaggaaGreatDoorQ32
namespace Go.Proofs.YtlpondbcnfaggaaGreatDoor.Tr
open Go.RowKit Go.Shelf Go.Proofs.YtlpondbcnfaggaaGreatDoor.Wd Go.Proofs.YtlpondbcnfaggaaGreatDoor.Asc Go.Proofs.YtlpondbcnfaggaaGreatDoor.Tx Go.Proofs.YtlpondbcnfaggaaGreatDoor.St Go.Proofs.YtlpondbcnfaggaaGreatDoor.Te Go.Maps

/-- what a call of Add leaves -/
def AddP (w : World) (g : Nat) (S : List Nat) (L : List Ru) (r : Ru) (e : Ending) (w' : World) : Prop := ∃ S', e = .returned (.int .i64 (addE L r)) ∧ TriP w' g S' (addS L r) ∧ (∀ i ∈ S', i ∈ S ∨ w.heap.size ≤ i) ∧ But (g :: S) w w'
set_option linter.unusedSimpArgs false in
set_option maxRecDepth 100000 in
set_option maxHeartbeats 64000000 in
theorem tadd_any {B : Nat} {w : World} {g : Nat} {S : List Nat} {L : List Ru} (hE : Ad.Env B w) (hT : TriP w g S L) (hge : ∀ i ∈ g :: S, B ≤ i) (r : Ru) (h1 : r.pa.length ≤ 1000000) (h2 : r.ap.length ≤ 1000000) :
    Calls Tryz.prog 21 #[.pointer (some ⟨g, 0, none⟩), .agg (ruC r)] w (AddP w g S L r) := by
  have hT0 := hT
  obtain ⟨S1, S2, vr, tb, tn, T, sb, sn, D, vn, N, PT, hS, hI⟩ := hT
  have HS := Lib.hid hS
  have HGl := Lib.hid (show ∀ i ∈ g :: (S1 ++ S2), i < w.heap.size from fun i hi => by
    rcases List.mem_cons.1 hi with rfl | hi
    · exact hI.blk.lt
    · rcases List.mem_append.1 hi with hi | hi
      · exact hI.lt1 i hi
      · exact hI.lt2 i hi)
  have HT0 := Lib.hid hT0
  have HE := Lib.hid hE
  obtain ⟨AR, cR, hvr, _, _⟩ := hI.rul.src
  obtain ⟨n, hn⟩ : ∃ n, L.length = n := ⟨_, rfl⟩
  rw [hn] at hvr
  have HN := Lib.hid hn
  have hmost : n ≤ 200 := by rw [← hn]; exact hI.most
  have HVr := Lib.hid hvr
  obtain ⟨e0, he0⟩ : ∃ e0, rightS r = e0 := ⟨_, rfl⟩
  have HR := Lib.hid (fun w' hb => tright_any (B := B) r w' (hE.on hb) h1 h2)
  rw [he0] at HR
  have HA : Hid (addE L r = if e0 ≠ 0 then e0 else if 200 ≤ n then 2 else if L.any (twinB r) then 7 else 0) := Lib.hid (by unfold addE; rw [he0, hn])
  have HAS : Hid (addS L r = if addE L r = 0 then L ++ [r] else L) := Lib.hid rfl
  -- a call that ends with an error
  have HBad := Lib.hid (fun (w' : World) (e : Int) (hb : Below w.heap.size w w') (he : addE L r = e) (hne : e ≠ 0) => show AddP w g S L r (.returned (.int .i64 e)) w' from
    ⟨S, by rw [he], by rw [show addS L r = L from if_neg (by rw [he]; exact hne)]; exact HT0.out.but (But.of_below hb []) (fun _ _ h => by cases h), fun i hi => .inl hi, But.of_below hb _⟩)
  have HL := Lib.hid (show r.pa.length ≤ 2147483640 ∧ r.ap.length ≤ 2147483640 from ⟨by omega, by omega⟩)
  have hb0 := Blk.new w 23 (ruC r)
  have hl0 : Below w.heap.size w (w.alloc (.cells (ruC r) 23)) := (Below.refl _ _).alloc (Nat.le_refl _) _
  have HI1 : Hid (AdI w w.heap.size g S1 S2 L vr tb tn T sb sn D vn N PT r (w.alloc (.cells (ruC r) 23))) := Lib.hid ⟨hI.below hl0, hb0, hl0, Nat.le_refl _, HGl.out⟩
  have HRi := Lib.hid he0
  clear hE hT0 hI hvr hge hn he0 h1 h2 hS hb0 hl0
  go_enter Tryz.func21, Tryz.ntmps21
  go_upto_region 1 with fail
  generalize w.alloc (.cells (ruC r) 23) = w1 at *
  obtain ⟨G, hG⟩ : ∃ G, w.heap.size = G := ⟨_, rfl⟩
  have HG := Lib.hid hG
  rw [hG] at HI1 ⊢
  clear hG
  have b1 := HI1.out.box
  go_wp2_with (refine go_ld (x := .tmp 3) 23 b1 undU rfl infU (ruC_size _) rfl rfl rfl ?_)
  refine (HR.out _ HI1.out.bel).mono ?_
  rintro e w2 ⟨rfl, hb2⟩
  have HI2 := Lib.hid (HI1.out.on hb2)
  clear hb2 b1 HI1 HR
  have hA := HA.out
  rcases Decidable.em (e0 ≠ 0) with he | hn
  · have q0 : (e0 != 0) = true := by rw [bne_iff_ne]; exact he
    rw [if_pos he] at hA
    have HA2 := Lib.hid hA
    have He := Lib.hid he
    clear hA he HA
    go_wp2_with fail
    go_ret
    exact HBad.out _ _ HI2.out.bel HA2.out He.out
  have he : e0 = 0 := Decidable.not_not.1 hn
  subst he
  rw [if_neg hn] at hA
  clear hn HA
  have hc2 : w2.cell? ⟨g, 0, none⟩ = some (.slice AR n cR) := by rw [← HVr.out]; exact HI2.out.tri.blk.cell 0
  by_cases hm : 200 ≤ n
  · obtain rfl : n = 200 := by omega
    rw [if_pos hm] at hA
    have HA2 := Lib.hid hA
    clear hA hm
    go_wp2_with fail
    go_ret
    exact HBad.out _ _ HI2.out.bel HA2.out (by decide)
  rw [if_neg hm] at hA
  have HA := Lib.hid hA
  have hn2 : ¬ (n : Int) = 200 := by omega
  have Hn2 := Lib.hid (show n < 200 by omega)
  clear hA hm
  go_upto_region 6 with fail
  have HRk := Lib.hid (show OkU r ∧ rightS r = 0 from ⟨(right_ok HRi.out).1, HRi.out⟩)
  obtain ⟨bb, hbb⟩ : ∃ bb, Maps.has T (kU { r with al := false }) = bb := ⟨_, rfl⟩
  have HBb := Lib.hid (show (bb = true ↔ L.any (twinB r) = true) from by rw [any_bare, ← HI2.out.tri.tha _ (ok_bare HRk.out.1), hbb])
  have HLk := Lib.hid (fun (w' : World) (h : w'.ownsMap Tryz.prog 23 (unitElem (H := Unit)) tb tn T) => thr_look h (ok_bare HRk.out.1) hbb)
  have HSS := Lib.hid (fun (w' : World) (h : AdI w G g S1 S2 L vr tb tn T sb sn D vn N PT r w') => show w'.rangeAt G 0 (ruC r).toList ∧ w'.cell? ⟨g, 1, none⟩ = some (.map (some tb)) ∧ w'.ownsMap Tryz.prog 23 (unitElem (H := Unit)) tb tn T from ⟨range_b h.box, h.tri.blk.cell 1, h.tri.thr⟩)
  have HBr := Lib.hid (tbare_any r)
  clear hbb hc2 hn2
  refine Code.wp_mono (Q := fun e a' w' => e = .normal ∧ ∃ X, Hid (AdI w G g S1 S2 L vr tb tn T sb sn D vn N PT r w') ∧ a' = { tmps := #[(.pointer (some ⟨g, 0, none⟩)), (.agg (ruC r)), undef, (.pointer (some ⟨G, 0, none⟩)), (.int .i64 0), (.int .i64 0), (.pointer (some ⟨X, 0, none⟩)), (.bool bb), (.agg (ruC r)), (.int .i64 0), (.int .i64 0), (.bool false), undef, (.pointer (some ⟨g, 0, none⟩)), (.pointer (some ⟨g, 0, none⟩)), (.pointer (some ⟨g, 0, none⟩)), (.slice AR n cR), (.int .i64 (n : Nat)), (.bool false), (.tuple #[.agg #[], .bool bb]), (.pointer (some ⟨g, 0, none⟩)), (.pointer (some ⟨g, 0, none⟩)), (.pointer (some ⟨g, 1, none⟩)), (.map (some tb)), (.agg (ruC r)), (.agg (ruC { r with al := false })), (.tuple #[.agg #[], .bool bb]), (.agg #[]), (.bool bb), undef, undef, undef, undef, undef, undef, undef, undef, undef, undef, undef, undef, undef, undef, undef, undef, undef, undef, undef, undef, undef, undef, undef, undef, undef, undef, undef, undef, undef], defers := [] }) (fun e a' w' h => ?_) ?_
  case refine_2 =>
    have HI2 := Lib.hid (HI2.out.on (show Below w2.heap.size w2 w2.drew from (Below.refl _ _).drew))
    refine wp_region_held_drew (S := fun w' => w'.rangeAt G 0 (ruC r).toList ∧ w'.cell? ⟨g, 1, none⟩ = some (.map (some tb)) ∧ w'.ownsMap Tryz.prog 23 (unitElem (H := Unit)) tb tn T) (by kernel_rfl) (HSS.out _ HI2.out) (fun h0 => ?_)
    generalize w2.drew = w3 at *
    refine hd_take 0 (some 20) (.pointer (some ⟨g, 0, none⟩)) rfl rfl (by kernel_rfl) (by kernel_rfl) (by kernel_rfl) (fun _ _ _ h => nomatch h.1) (Or.inl ⟨by rfl, fun w hw => by go_simp⟩) h0 ?_
    simp only [Act.put, List.setIfInBounds_toArray, List.set_cons_zero, List.set_cons_succ]
    refine hd_take 1 (some 21) (.pointer (some ⟨g, 0, none⟩)) rfl rfl (by kernel_rfl) (by kernel_rfl) (by kernel_rfl) (fun _ _ _ h => nomatch h.1) (Or.inl ⟨by rfl, fun w hw => by go_simp⟩) h0 ?_
    simp only [Act.put, List.setIfInBounds_toArray, List.set_cons_zero, List.set_cons_succ]
    refine hd_take 2 (some 22) (.pointer (some ⟨g, 1, none⟩)) rfl rfl (by kernel_rfl) (by kernel_rfl) (by kernel_rfl) (fun _ _ _ h => nomatch h.1) (Or.inl ⟨by rfl, fun w hw => by go_simp⟩) h0 ?_
    simp only [Act.put, List.setIfInBounds_toArray, List.set_cons_zero, List.set_cons_succ]
    refine hd_take 3 (some 23) (.map (some tb)) rfl rfl (by kernel_rfl) (by kernel_rfl) (by kernel_rfl) (fun _ _ _ h => nomatch h.1) (Or.inl ⟨by rfl, fun w hw => by have h9 := hw.2.1; go_simp⟩) h0 ?_
    simp only [Act.put, List.setIfInBounds_toArray, List.set_cons_zero, List.set_cons_succ]
    refine hd_take 4 (some 24) (.agg (ruC r)) rfl rfl (by kernel_rfl) (by kernel_rfl) (by kernel_rfl) (fun _ _ _ h => nomatch h.1) (yieldsIf_load_mid (by rfl) _ _ rfl G 0 rfl (ruC r).toList _ (fun _ h => h.1) undU rfl (ruU_len r)) h0 ?_
    simp only [Act.put, List.setIfInBounds_toArray, List.set_cons_zero, List.set_cons_succ]
    refine wpAnyH_ready (rs := [5, 10]) (by kernel_rfl) (by simp) (AllReadyH.cons rfl (fun K hK => ?_) (AllReadyH.cons rfl (fun K hK => ?_) AllReadyH.nil))
    · skip
      go_simp
      refine (HBr.out _).mono ?_
      rintro e wbHI3 ⟨rfl, hb⟩
      have HI3 := Lib.hid (HI2.out.on hb)
      refine hK.out _ _ (HSS.out _ HI3.out) (fun h3 => ?_)
      clear hK K hb h0
      refine hd_take 6 (some 26) (.tuple #[.agg #[], .bool bb]) rfl rfl (by kernel_rfl) (by kernel_rfl) (by kernel_rfl) (fun _ _ _ h => nomatch h.1) (Or.inl ⟨by rfl, fun w hw => by have h9 := HLk.out w hw.2.2; go_simp⟩) h3 ?_
      simp only [Act.put, List.setIfInBounds_toArray, List.set_cons_zero, List.set_cons_succ]
      refine hd_take 7 (some 19) (.tuple #[.agg #[], .bool bb]) rfl rfl (by kernel_rfl) (by kernel_rfl) (by kernel_rfl) (fun _ _ _ h => nomatch h.1) (Or.inl ⟨by rfl, fun w hw => by go_simp⟩) h3 ?_
      simp only [Act.put, List.setIfInBounds_toArray, List.set_cons_zero, List.set_cons_succ]
      refine hd_take 8 (some 27) (.agg #[]) rfl rfl (by kernel_rfl) (by kernel_rfl) (by kernel_rfl) (fun _ _ _ h => nomatch h.1) (Or.inl ⟨by rfl, fun w hw => by go_simp⟩) h3 ?_
      simp only [Act.put, List.setIfInBounds_toArray, List.set_cons_zero, List.set_cons_succ]
      refine hd_take 9 (some 28) (.bool bb) rfl rfl (by kernel_rfl) (by kernel_rfl) (by kernel_rfl) (fun _ _ _ h => nomatch h.1) (Or.inl ⟨by rfl, fun w hw => by go_simp⟩) h3 ?_
      simp only [Act.put, List.setIfInBounds_toArray, List.set_cons_zero, List.set_cons_succ]
      refine wpAnyH_ready (rs := [10]) (by kernel_rfl) (by simp) (AllReadyH.cons rfl (fun K hK => ?_) AllReadyH.nil)
      go_simp
      have HI4 := Lib.hid (HI3.out.on ((Below.refl _ _).alloc (Nat.le_refl _) (.cells #[] 74)))
      refine hK.out _ _ (HSS.out _ HI4.out) (fun h4 => ?_)
      clear hK K h3
      refine wpAnyH_ready (rs := [11]) (by kernel_rfl) (by simp) (AllReadyH.cons rfl (fun K hK => ?_) AllReadyH.nil)
      go_simp
      refine hK.out _ _ (HSS.out _ HI4.out) (fun h5 => ?_)
      clear hK K h4
      refine hd_take 12 (some 7) (.bool bb) rfl rfl (by kernel_rfl) (by kernel_rfl) (by kernel_rfl) (fun _ _ _ h => nomatch h.1) (Or.inl ⟨by rfl, fun w hw => by go_simp⟩) h5 ?_
      simp only [Act.put, List.setIfInBounds_toArray, List.set_cons_zero, List.set_cons_succ]
      refine wpAnyH_done (by kernel_rfl) ⟨rfl, _, HI4, rfl⟩ _
    · skip
      go_simp
      have HI3 := Lib.hid (HI2.out.on ((Below.refl _ _).alloc (Nat.le_refl _) (.cells #[] 74)))
      refine hK.out _ _ (HSS.out _ HI3.out) (fun h3 => ?_)
      clear hK K h0
      refine wpAnyH_ready (rs := [5]) (by kernel_rfl) (by simp) (AllReadyH.cons rfl (fun K hK => ?_) AllReadyH.nil)
      go_simp
      refine (HBr.out _).mono ?_
      rintro e wbHI4 ⟨rfl, hb⟩
      have HI4 := Lib.hid (HI3.out.on hb)
      refine hK.out _ _ (HSS.out _ HI4.out) (fun h4 => ?_)
      clear hK K hb h3
      refine hd_take 6 (some 26) (.tuple #[.agg #[], .bool bb]) rfl rfl (by kernel_rfl) (by kernel_rfl) (by kernel_rfl) (fun _ _ _ h => nomatch h.1) (Or.inl ⟨by rfl, fun w hw => by have h9 := HLk.out w hw.2.2; go_simp⟩) h4 ?_
      simp only [Act.put, List.setIfInBounds_toArray, List.set_cons_zero, List.set_cons_succ]
      refine hd_take 7 (some 19) (.tuple #[.agg #[], .bool bb]) rfl rfl (by kernel_rfl) (by kernel_rfl) (by kernel_rfl) (fun _ _ _ h => nomatch h.1) (Or.inl ⟨by rfl, fun w hw => by go_simp⟩) h4 ?_
      simp only [Act.put, List.setIfInBounds_toArray, List.set_cons_zero, List.set_cons_succ]
      refine hd_take 8 (some 27) (.agg #[]) rfl rfl (by kernel_rfl) (by kernel_rfl) (by kernel_rfl) (fun _ _ _ h => nomatch h.1) (Or.inl ⟨by rfl, fun w hw => by go_simp⟩) h4 ?_
      simp only [Act.put, List.setIfInBounds_toArray, List.set_cons_zero, List.set_cons_succ]
      refine hd_take 9 (some 28) (.bool bb) rfl rfl (by kernel_rfl) (by kernel_rfl) (by kernel_rfl) (fun _ _ _ h => nomatch h.1) (Or.inl ⟨by rfl, fun w hw => by go_simp⟩) h4 ?_
      simp only [Act.put, List.setIfInBounds_toArray, List.set_cons_zero, List.set_cons_succ]
      refine wpAnyH_ready (rs := [11]) (by kernel_rfl) (by simp) (AllReadyH.cons rfl (fun K hK => ?_) AllReadyH.nil)
      go_simp
      refine hK.out _ _ (HSS.out _ HI4.out) (fun h5 => ?_)
      clear hK K h4
      refine hd_take 12 (some 7) (.bool bb) rfl rfl (by kernel_rfl) (by kernel_rfl) (by kernel_rfl) (fun _ _ _ h => nomatch h.1) (Or.inl ⟨by rfl, fun w hw => by go_simp⟩) h5 ?_
      simp only [Act.put, List.setIfInBounds_toArray, List.set_cons_zero, List.set_cons_succ]
      refine wpAnyH_done (by kernel_rfl) ⟨rfl, _, HI4, rfl⟩ _
  obtain ⟨rfl, X, HI3, rfl⟩ := h
  dsimp only
  have HBr9 := HBr
  clear HSS HBr HLk
  cases bb
  case true =>
    have HA2 := Lib.hid (HA.out.trans (if_pos (HBb.out.1 rfl)))
    clear HA
    go_wp2_with fail
    go_ret
    exact HBad.out _ _ HI3.out.bel HA2.out (by decide)
  have HA2 := Lib.hid (HA.out.trans (if_neg (fun h => by cases HBb.out.2 h)))
  clear HA HBad
  have b3 := HI3.out.box
  have HFr := Lib.hid (fun w' => tfresh_any r w' HL.out.1 HL.out.2)
  go_wp2_with (refine go_ld (x := .tmp 3) 23 b3 undU rfl infU (ruC_size _) rfl rfl rfl ?_)
  refine (HFr.out _).mono ?_
  rintro e w4 ⟨rfl, hb4⟩
  have HI4 := Lib.hid (HI3.out.on hb4)
  clear hb4 b3 HI3 HFr HI2
  go_upto_region 10 with (refine go_st 23 HI4.out.box infU (ruC_size _) (ruC_size _) (ruC_one _) rfl rfl rfl rfl ?_)
  have hI5 := HI4.out.row r
  obtain ⟨w5, hw5⟩ : ∃ w5, w4.setRow G (ruC r) = w5 := ⟨_, rfl⟩
  rw [hw5] at hI5 ⊢
  have HI5 := Lib.hid (hI5.on (show Below w5.heap.size w5 w5.drew from (Below.refl _ _).drew))
  have HPl := Lib.hid (fun (w' : World) (h : AdI w G g S1 S2 L vr tb tn T sb sn D vn N PT r w') => show Calls Tryz.prog 42 #[.pointer (some ⟨g, 0, none⟩), .string (str r.pa), .int .i64 (n : Nat)] w' fun e w'' => e = .returned (.tuple #[]) ∧ PlcP w' g S2 (L ++ [r]) vr tb sb PT.length w'' from by
    have h1 := h.tri.pts
    have h2 := HN.out
    have h3 := Hn2.out
    rw [← HN.out]
    exact tplace_any r HRi.out w' (HE.out.on h.bel) h.tri.blk h.tri.nod h.tri.g2 h.tri.lt2 h.tri.sns (by omega) (by omega))
  have HSS := Lib.hid (fun (w' : World) (h : AdI w G g S1 S2 L vr tb tn T sb sn D vn N PT r w') => show w'.cell? ⟨G, 2, none⟩ = some (.string (str r.pa)) ∧ w'.cell? ⟨g, 0, none⟩ = some (.slice AR n cR) from ⟨(ru_cells h.box).2.2.1, by rw [← HVr.out]; exact h.tri.blk.cell 0⟩)
  clear hw5 hI5 HI4
  refine wp_norm ?_
  refine wp_region_held_drew (S := fun w' => w'.cell? ⟨G, 2, none⟩ = some (.string (str r.pa)) ∧ w'.cell? ⟨g, 0, none⟩ = some (.slice AR n cR)) (by kernel_rfl) (HSS.out _ HI5.out) (fun h0 => ?_)
  generalize w5.drew = w6 at *
  refine hd_take 0 (some 32) (.pointer (some ⟨g, 0, none⟩)) rfl rfl (by kernel_rfl) (by kernel_rfl) (by kernel_rfl) (fun _ _ _ h => nomatch h.1) (Or.inl ⟨by rfl, fun w hw => by go_simp⟩) h0 ?_
  simp only [Act.put, List.setIfInBounds_toArray, List.set_cons_zero, List.set_cons_succ]
  refine hd_take 1 (some 33) (.pointer (some ⟨G, 2, none⟩)) rfl rfl (by kernel_rfl) (by kernel_rfl) (by kernel_rfl) (fun _ _ _ h => nomatch h.1) (Or.inl ⟨by rfl, fun w hw => by go_simp⟩) h0 ?_
  simp only [Act.put, List.setIfInBounds_toArray, List.set_cons_zero, List.set_cons_succ]
  refine hd_take 2 (some 34) (.string (str r.pa)) rfl rfl (by kernel_rfl) (by kernel_rfl) (by kernel_rfl) (fun _ _ _ h => nomatch h.1) (Or.inl ⟨by rfl, fun w hw => by have h9 := hw.1; go_simp⟩) h0 ?_
  simp only [Act.put, List.setIfInBounds_toArray, List.set_cons_zero, List.set_cons_succ]
  refine hd_take 3 (some 35) (.pointer (some ⟨g, 0, none⟩)) rfl rfl (by kernel_rfl) (by kernel_rfl) (by kernel_rfl) (fun _ _ _ h => nomatch h.1) (Or.inl ⟨by rfl, fun w hw => by go_simp⟩) h0 ?_
  simp only [Act.put, List.setIfInBounds_toArray, List.set_cons_zero, List.set_cons_succ]
  refine hd_take 4 (some 36) (.pointer (some ⟨g, 0, none⟩)) rfl rfl (by kernel_rfl) (by kernel_rfl) (by kernel_rfl) (fun _ _ _ h => nomatch h.1) (Or.inl ⟨by rfl, fun w hw => by go_simp⟩) h0 ?_
  simp only [Act.put, List.setIfInBounds_toArray, List.set_cons_zero, List.set_cons_succ]
  refine hd_take 5 (some 37) (.pointer (some ⟨g, 0, none⟩)) rfl rfl (by kernel_rfl) (by kernel_rfl) (by kernel_rfl) (fun _ _ _ h => nomatch h.1) (Or.inl ⟨by rfl, fun w hw => by go_simp⟩) h0 ?_
  simp only [Act.put, List.setIfInBounds_toArray, List.set_cons_zero, List.set_cons_succ]
  refine hd_take 6 (some 38) (.slice AR n cR) rfl rfl (by kernel_rfl) (by kernel_rfl) (by kernel_rfl) (fun _ _ _ h => nomatch h.1) (Or.inl ⟨by rfl, fun w hw => by have h9 := hw.2; go_simp⟩) h0 ?_
  simp only [Act.put, List.setIfInBounds_toArray, List.set_cons_zero, List.set_cons_succ]
  refine hd_take 7 (some 39) (.int .i64 (n : Nat)) rfl rfl (by kernel_rfl) (by kernel_rfl) (by kernel_rfl) (fun _ _ _ h => nomatch h.1) (Or.inl ⟨by rfl, fun w hw => by go_simp⟩) h0 ?_
  simp only [Act.put, List.setIfInBounds_toArray, List.set_cons_zero, List.set_cons_succ]
  refine wpAnyH_ready (rs := [8]) (by kernel_rfl) (by simp) (AllReadyH.cons rfl (fun K hK => ?_) AllReadyH.nil)
  go_simp
  refine (HPl.out _ HI5.out).mono ?_
  rintro e w7 ⟨rfl, hP⟩
  obtain ⟨S9, sn9, D9, vn9, N9, PT9, hP⟩ := hP
  have HM7 := Lib.hid (HI5.out.place hP)
  have HTh := Lib.hid (show (∀ q, OkU q → (Maps.has T (kU q) = true ↔ ∃ x ∈ L, { x with al := false } = q)) ∧ (∀ x ∈ L, rightS x = 0) ∧ tn ≤ L.length ∧ PT.length ≤ 1 + 300 * L.length from ⟨HI5.out.tri.tha, HI5.out.tri.right, HI5.out.tri.tns, HI5.out.tri.pts⟩)
  refine hK.out _ _ ⟨(ru_cells HM7.out.box).2.2.1, by rw [← HVr.out]; exact HM7.out.blk.cell 0⟩ (fun h1 => ?_)
  clear hK K h0 h1 hP HI5 HSS HPl
  refine wpAnyH_done (by kernel_rfl) ⟨rfl, ?_⟩ _
  go_upto_region 11 with fail
  have HM8 := Lib.hid (HM7.out.on (show Below w7.heap.size w7 w7.drew from (Below.refl _ _).drew))
  clear HM7
  refine wp_norm ?_
  refine wp_region_held_drew (S := fun w' => w'.rangeAt G 0 (ruC r).toList ∧ w'.cell? ⟨g, 1, none⟩ = some (.map (some tb))) (by kernel_rfl) ⟨range_b HM8.out.box, HM8.out.blk.cell 1⟩ (fun h0 => ?_)
  generalize w7.drew = w8 at *
  refine hd_take 0 (some 41) (.pointer (some ⟨g, 0, none⟩)) rfl rfl (by kernel_rfl) (by kernel_rfl) (by kernel_rfl) (fun _ _ _ h => nomatch h.1) (Or.inl ⟨by rfl, fun w hw => by go_simp⟩) h0 ?_
  simp only [Act.put, List.setIfInBounds_toArray, List.set_cons_zero, List.set_cons_succ]
  refine hd_take 1 (some 42) (.pointer (some ⟨g, 0, none⟩)) rfl rfl (by kernel_rfl) (by kernel_rfl) (by kernel_rfl) (fun _ _ _ h => nomatch h.1) (Or.inl ⟨by rfl, fun w hw => by go_simp⟩) h0 ?_
  simp only [Act.put, List.setIfInBounds_toArray, List.set_cons_zero, List.set_cons_succ]
  refine hd_take 2 (some 43) (.pointer (some ⟨g, 1, none⟩)) rfl rfl (by kernel_rfl) (by kernel_rfl) (by kernel_rfl) (fun _ _ _ h => nomatch h.1) (Or.inl ⟨by rfl, fun w hw => by go_simp⟩) h0 ?_
  simp only [Act.put, List.setIfInBounds_toArray, List.set_cons_zero, List.set_cons_succ]
  refine hd_take 3 (some 44) (.map (some tb)) rfl rfl (by kernel_rfl) (by kernel_rfl) (by kernel_rfl) (fun _ _ _ h => nomatch h.1) (Or.inl ⟨by rfl, fun w hw => by have h9 := hw.2; go_simp⟩) h0 ?_
  simp only [Act.put, List.setIfInBounds_toArray, List.set_cons_zero, List.set_cons_succ]
  refine hd_take 4 (some 45) (.agg (ruC r)) rfl rfl (by kernel_rfl) (by kernel_rfl) (by kernel_rfl) (fun _ _ _ h => nomatch h.1) (yieldsIf_load_mid (by rfl) _ _ rfl G 0 rfl (ruC r).toList _ (fun _ h => h.1) undU rfl (ruU_len r)) h0 ?_
  simp only [Act.put, List.setIfInBounds_toArray, List.set_cons_zero, List.set_cons_succ]
  refine hd_take 6 (some 47) (.agg #[]) rfl rfl (by kernel_rfl) (by kernel_rfl) (by kernel_rfl) (fun _ _ _ h => nomatch h.1) (Or.inl ⟨by rfl, fun w hw => by go_simp⟩) h0 ?_
  simp only [Act.put, List.setIfInBounds_toArray, List.set_cons_zero, List.set_cons_succ]
  refine wpAnyH_ready (rs := [5]) (by kernel_rfl) (by simp) (AllReadyH.cons rfl (fun K hK => ?_) AllReadyH.nil)
  go_simp
  refine (HBr9.out _).mono ?_
  rintro e w9 ⟨rfl, hb⟩
  have HM9 := Lib.hid (HM8.out.on hb)
  refine hK.out _ _ ⟨range_b HM9.out.box, HM9.out.blk.cell 1⟩ (fun h1 => ?_)
  clear hK K h0 hb HM8
  obtain ⟨wa, hrun, hown, hbt⟩ := thr_store HM9.out.thr (ok_bare HRk.out.1) (by have := HTh.out.2.2.1; have := HN.out; have := Hn2.out; omega)
  have HMa := Lib.hid (HM9.out.store hown hbt)
  have HTa := Lib.hid (tha_put (r := r) HM9.out.thr.isMap HTh.out.1 HRk.out.1 (.agg []))
  clear hown hbt HM9
  refine wpAnyH_ready (rs := [7]) (by kernel_rfl) (by simp) (AllReadyH.cons rfl (fun K hK => ?_) AllReadyH.nil)
  go_simp
  refine hK.out _ _ ⟨range_b HMa.out.box, HMa.out.blk.cell 1⟩ (fun h2 => ?_)
  clear hK K h1 h2 hrun
  refine wpAnyH_done (by kernel_rfl) ⟨rfl, ?_⟩ _
  go_upto_region 12 with fail
  have HMb := Lib.hid (HMa.out.on (show Below wa.heap.size wa wa.drew from (Below.refl _ _).drew))
  clear HMa
  have HEnd := Lib.hid (fun (ww w9 : World) (v : Value) (h : AmI w G g S1 S2 S9 L vr tb (tn + 1) (T.put (kU { r with al := false }) (.agg [])) sb sn9 D9 vn9 N9 PT9 r PT.length ww) (hA : OwnE w9 elU 0 v (L ++ [r])) (k : But vr.ownBlock.toList ww w9) (hv : v.ownBlock = vr.ownBlock ∨ v.ownBlock = some ww.heap.size) => show AddP w g S L r (.returned (.int .i64 0)) (w9.setCell ⟨g, 0, none⟩ v) from by
    obtain ⟨Sx, h1, h2, h3⟩ := h.done hA k hv HTa.out (fun x hx => by
      rcases List.mem_append.1 hx with hx | hx
      · exact HTh.out.2.1 x hx
      · rw [List.mem_singleton.1 hx]; exact HRk.out.2) (by have := HN.out; have := Hn2.out; omega) (by have := HTh.out.2.2.1; omega) HTh.out.2.2.2
    refine ⟨Sx, by rw [HA2.out], by rw [HAS.out, if_pos HA2.out]; exact h1, fun i hi => ?_, h3.more (fun i hi => ?_)⟩
    · rcases h2 i hi with h2 | h2
      · exact .inl ((HS.out i).2 (List.mem_append.1 h2))
      · exact .inr h2
    · rcases List.mem_cons.1 hi with e | hi
      · rw [e]; simp
      · exact List.mem_cons_of_mem _ ((HS.out i).2 (List.mem_append.1 hi)))
  have HG0 := Lib.hid (show G ∉ vr.ownBlock.toList from fun hm => by
    have h1 := HMb.out.in1 G (Option.mem_toList.1 hm)
    have h2 := HGl.out G (by simp [h1])
    have h3 := HG.out
    omega)
  have HGg := Lib.hid (show g ∉ vr.ownBlock.toList from fun hm => HMb.out.g1 (HMb.out.in1 g (Option.mem_toList.1 hm)))
  have HGn := Lib.hid (show G ≠ g from fun e => by
    have h2 := HGl.out g (by simp)
    have h3 := HG.out
    omega)
  have HC0 := Lib.hid (fun (w' : World) (h : AmI w G g S1 S2 S9 L vr tb (tn + 1) (T.put (kU { r with al := false }) (.agg [])) sb sn9 D9 vn9 N9 PT9 r PT.length w') => show w'.cell? ⟨g, 0, none⟩ = some (.slice AR n cR) from by rw [← HVr.out]; exact h.blk.cell 0)
  clear HTa HTh
  refine wp_norm ?_
  refine wp_region_held_drew (S := fun w' => w'.rangeAt G 0 (ruC r).toList) (by kernel_rfl) (range_b HMb.out.box) (fun h0 => ?_)
  generalize wa.drew = wb at *
  refine hd_take 0 (some 48) (.pointer (some ⟨g, 0, none⟩)) rfl rfl (by kernel_rfl) (by kernel_rfl) (by kernel_rfl) (fun _ _ _ h => nomatch h.1) (Or.inl ⟨by rfl, fun w hw => by go_simp⟩) h0 ?_
  simp only [Act.put, List.setIfInBounds_toArray, List.set_cons_zero, List.set_cons_succ]
  refine hd_take 1 (some 49) (.pointer (some ⟨g, 0, none⟩)) rfl rfl (by kernel_rfl) (by kernel_rfl) (by kernel_rfl) (fun _ _ _ h => nomatch h.1) (Or.inl ⟨by rfl, fun w hw => by go_simp⟩) h0 ?_
  simp only [Act.put, List.setIfInBounds_toArray, List.set_cons_zero, List.set_cons_succ]
  refine hd_take 2 (some 50) (.pointer (some ⟨g, 0, none⟩)) rfl rfl (by kernel_rfl) (by kernel_rfl) (by kernel_rfl) (fun _ _ _ h => nomatch h.1) (Or.inl ⟨by rfl, fun w hw => by go_simp⟩) h0 ?_
  simp only [Act.put, List.setIfInBounds_toArray, List.set_cons_zero, List.set_cons_succ]
  refine hd_take 3 (some 51) (.pointer (some ⟨g, 0, none⟩)) rfl rfl (by kernel_rfl) (by kernel_rfl) (by kernel_rfl) (fun _ _ _ h => nomatch h.1) (Or.inl ⟨by rfl, fun w hw => by go_simp⟩) h0 ?_
  simp only [Act.put, List.setIfInBounds_toArray, List.set_cons_zero, List.set_cons_succ]
  refine hd_take 5 (some 53) (.agg (ruC r)) rfl rfl (by kernel_rfl) (by kernel_rfl) (by kernel_rfl) (fun _ _ _ h => nomatch h.1) (yieldsIf_load_mid (by rfl) _ _ rfl G 0 rfl (ruC r).toList _ (fun _ h => h) undU rfl (ruU_len r)) h0 ?_
  simp only [Act.put, List.setIfInBounds_toArray, List.set_cons_zero, List.set_cons_succ]
  refine wpAnyH_ready (rs := [4, 6]) (by kernel_rfl) (by simp) (AllReadyH.cons rfl (fun K hK => ?_) (AllReadyH.cons rfl (fun K hK => ?_) AllReadyH.nil))
  · skip
    have hc := HC0.out _ HMb.out
    go_simp
    clear hc
    refine hK.out _ _ (range_b HMb.out.box) (fun h1 => ?_)
    clear hK K h0
    refine wpAnyH_ready (rs := [6]) (by kernel_rfl) (by simp) (AllReadyH.cons rfl (fun K hK => ?_) AllReadyH.nil)
    go_simp
    have HMc := Lib.hid (HMb.out.on ((Below.refl _ _).alloc (Nat.le_refl _) (.cells (ruC r) 23)))
    have HSx := Lib.hid (show SrcE (wb.alloc (.cells (ruC r) 23)) elU (some ⟨wb.heap.size, 0, none⟩) [r] from SrcE.one _ (Blk.new _ _ _) rfl)
    refine hK.out _ (wb.alloc (.cells (ruC r) 23)) (range_b HMc.out.box) (fun h2 => ?_)
    clear hK K h1
    generalize wb.alloc (.cells (ruC r) 23) = wc at *
    refine wpAnyH_ready (rs := [7]) (by kernel_rfl) (by simp) (AllReadyH.cons rfl (fun K hK => ?_) AllReadyH.nil)
    refine wp_appE fineU (.tmp 52) (.tmp 54) rfl 0 (.slice AR n cR) L rfl (by rw [← HVr.out]; exact HMc.out.rul) _ 1 1 [r] rfl rfl (by simp) HSx.out (by have := HN.out; have := Hn2.out; simp only [List.length_singleton]; omega) (by decide) (Nat.zero_le _) ?_
    intro v6 w6 ho6 hg6 hf6
    obtain ⟨A6, c6, hv6, _, _, _⟩ := ho6.out.src fineU
    obtain ⟨m6, hm6⟩ : ∃ m6, (L ++ [r]).length = m6 := ⟨_, rfl⟩
    rw [hm6] at hv6
    subst hv6
    have hk6 : But vr.ownBlock.toList _ w6 := but_grown (by rw [HVr.out]; exact hg6.out)
    have HX6 := Lib.hid (HMc.out.box.but hk6 HG0.out)
    have hb6 := HMc.out.blk.but hk6 HGg.out
    have hc6 : w6.cell? ⟨g, 0, none⟩ = some (.slice AR n cR) := by rw [← HVr.out]; exact hb6.cell 0
    have hr6 := hb6.frozen 0
    have HZ := Lib.hid (HEnd.out _ _ _ HMc.out ho6.out hk6 (by rw [HVr.out]; exact hf6.out))
    have HXs := Lib.hid (show (w6.setCell ⟨g, 0, none⟩ (.slice A6 m6 c6)).rangeAt G 0 (ruC r).toList from range_b (HX6.out.far HGn.out _))
    clear hk6 hb6 ho6 hg6 hf6 HSx hm6
    refine hK.out _ _ (range_b HX6.out) (fun h6 => ?_)
    clear hK K h2
    refine hd_take 8 (some 56) (.pointer (some ⟨g, 0, none⟩)) rfl rfl (by kernel_rfl) (by kernel_rfl) (by kernel_rfl) (fun _ _ _ h => nomatch h.1) (Or.inl ⟨by rfl, fun w hw => by go_simp⟩) h6 ?_
    simp only [Act.put, List.setIfInBounds_toArray, List.set_cons_zero, List.set_cons_succ]
    refine hd_take 9 (some 57) (.pointer (some ⟨g, 0, none⟩)) rfl rfl (by kernel_rfl) (by kernel_rfl) (by kernel_rfl) (fun _ _ _ h => nomatch h.1) (Or.inl ⟨by rfl, fun w hw => by go_simp⟩) h6 ?_
    simp only [Act.put, List.setIfInBounds_toArray, List.set_cons_zero, List.set_cons_succ]
    refine wpAnyH_ready (rs := [10]) (by kernel_rfl) (by simp) (AllReadyH.cons rfl (fun K hK => ?_) AllReadyH.nil)
    go_simp
    refine hK.out _ _ HXs.out (fun h7 => ?_)
    clear hK K h6 h7 hc6 hr6 HXs HX6
    refine wpAnyH_done (by kernel_rfl) ⟨rfl, ?_⟩ _
    go_wp2_with fail
    go_ret
    exact HZ.out
  · skip
    go_simp
    have HMc := Lib.hid (HMb.out.on ((Below.refl _ _).alloc (Nat.le_refl _) (.cells (ruC r) 23)))
    have HSx := Lib.hid (show SrcE (wb.alloc (.cells (ruC r) 23)) elU (some ⟨wb.heap.size, 0, none⟩) [r] from SrcE.one _ (Blk.new _ _ _) rfl)
    refine hK.out _ (wb.alloc (.cells (ruC r) 23)) (range_b HMc.out.box) (fun h1 => ?_)
    clear hK K h0
    generalize wb.alloc (.cells (ruC r) 23) = wc at *
    refine wpAnyH_ready (rs := [4]) (by kernel_rfl) (by simp) (AllReadyH.cons rfl (fun K hK => ?_) AllReadyH.nil)
    have hc := HC0.out _ HMc.out
    go_simp
    clear hc
    refine hK.out _ _ (range_b HMc.out.box) (fun h2 => ?_)
    clear hK K h1
    refine wpAnyH_ready (rs := [7]) (by kernel_rfl) (by simp) (AllReadyH.cons rfl (fun K hK => ?_) AllReadyH.nil)
    refine wp_appE fineU (.tmp 52) (.tmp 54) rfl 0 (.slice AR n cR) L rfl (by rw [← HVr.out]; exact HMc.out.rul) _ 1 1 [r] rfl rfl (by simp) HSx.out (by have := HN.out; have := Hn2.out; simp only [List.length_singleton]; omega) (by decide) (Nat.zero_le _) ?_
    intro v6 w6 ho6 hg6 hf6
    obtain ⟨A6, c6, hv6, _, _, _⟩ := ho6.out.src fineU
    obtain ⟨m6, hm6⟩ : ∃ m6, (L ++ [r]).length = m6 := ⟨_, rfl⟩
    rw [hm6] at hv6
    subst hv6
    have hk6 : But vr.ownBlock.toList _ w6 := but_grown (by rw [HVr.out]; exact hg6.out)
    have HX6 := Lib.hid (HMc.out.box.but hk6 HG0.out)
    have hb6 := HMc.out.blk.but hk6 HGg.out
    have hc6 : w6.cell? ⟨g, 0, none⟩ = some (.slice AR n cR) := by rw [← HVr.out]; exact hb6.cell 0
    have hr6 := hb6.frozen 0
    have HZ := Lib.hid (HEnd.out _ _ _ HMc.out ho6.out hk6 (by rw [HVr.out]; exact hf6.out))
    have HXs := Lib.hid (show (w6.setCell ⟨g, 0, none⟩ (.slice A6 m6 c6)).rangeAt G 0 (ruC r).toList from range_b (HX6.out.far HGn.out _))
    clear hk6 hb6 ho6 hg6 hf6 HSx hm6
    refine hK.out _ _ (range_b HX6.out) (fun h6 => ?_)
    clear hK K h2
    refine hd_take 8 (some 56) (.pointer (some ⟨g, 0, none⟩)) rfl rfl (by kernel_rfl) (by kernel_rfl) (by kernel_rfl) (fun _ _ _ h => nomatch h.1) (Or.inl ⟨by rfl, fun w hw => by go_simp⟩) h6 ?_
    simp only [Act.put, List.setIfInBounds_toArray, List.set_cons_zero, List.set_cons_succ]
    refine hd_take 9 (some 57) (.pointer (some ⟨g, 0, none⟩)) rfl rfl (by kernel_rfl) (by kernel_rfl) (by kernel_rfl) (fun _ _ _ h => nomatch h.1) (Or.inl ⟨by rfl, fun w hw => by go_simp⟩) h6 ?_
    simp only [Act.put, List.setIfInBounds_toArray, List.set_cons_zero, List.set_cons_succ]
    refine wpAnyH_ready (rs := [10]) (by kernel_rfl) (by simp) (AllReadyH.cons rfl (fun K hK => ?_) AllReadyH.nil)
    go_simp
    refine hK.out _ _ HXs.out (fun h7 => ?_)
    clear hK K h6 h7 hc6 hr6 HXs HX6
    refine wpAnyH_done (by kernel_rfl) ⟨rfl, ?_⟩ _
    go_wp2_with fail
    go_ret
    exact HZ.out
end Go.Proofs.YtlpondbcnfaggaaGreatDoor.Tr

/-
  The landed package trie keeps its contracts, all of them.
-/
namespace Go.Proofs.YtlpondbcnfaggaaGreatDoor.Tr
open Go.RowKit Go.Proofs.YtlpondbcnfaggaaGreatDoor.Wd Go.Proofs.YtlpondbcnfaggaaGreatDoor.Asc Go.Proofs.YtlpondbcnfaggaaGreatDoor.Tx Go.Proofs.YtlpondbcnfaggaaGreatDoor.St Go.Proofs.YtlpondbcnfaggaaGreatDoor.Te Go.Maps
theorem trC : TrC TriP where
  lts := TriP.lts
  but := TriP.but
  new_ := tnew_any
  add_ := fun hE hge hT r h1 h2 => tadd_any hE hT hge r h1 h2
  find_ := fun hE hT h port A n c ss hh hp hn hc hm hs => tfind_any hE hT h port A n c ss hh hp hn hc hm hs
  rules_ := fun hT => trules_any hT
  right_ := fun {_ w} hE r h1 h2 => tright_any r w hE h1 h2
  matches_ := fun {_ w} hE p h hp hh => tmatch_any p h w hE hp hh
end Go.Proofs.YtlpondbcnfaggaaGreatDoor.Tr
