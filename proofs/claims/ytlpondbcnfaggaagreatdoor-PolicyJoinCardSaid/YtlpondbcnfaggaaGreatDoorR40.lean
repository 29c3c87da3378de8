/-
  Contract of package policy's addRule over this seat's translation: it answers what addE says, and the draft's policy has the rule then. Condition: texts of up to a million bytes.
-/
import Derived.Test.YtlpondbcnfaggaaGreatDoorR39
import Derived.Test.YtlpondbcnfaggaaGreatDoorR15
namespace Go.Proofs.YtlpondbcnfaggaaGreatDoor.Po
open Go.RowKit Go.Shelf Go.Proofs.YtlpondbcnfaggaaGreatDoor.Wd Go.Proofs.YtlpondbcnfaggaaGreatDoor.Asc Go.Proofs.YtlpondbcnfaggaaGreatDoor.Tx Go.Proofs.YtlpondbcnfaggaaGreatDoor.St Go.Proofs.YtlpondbcnfaggaaGreatDoor.Tr Go.Proofs.YtlpondbcnfaggaaGreatDoor.Te Go.Maps

/-- what a call that may add to a draft leaves: the error, or the draft of what came of it -/
def DoP (w : World) (d : Nat) (S : List Nat) (p : Pol) (er : Int) (e : Ending) (w' : World) : Prop := ∃ S', e = .returned (.int .i64 er) ∧ (er = 0 → DrP w' d S' p) ∧ (∀ i ∈ S', i ∈ S ∨ w.heap.size ≤ i) ∧ But S w w'
theorem DoP.bad {w w' : World} {d : Nat} {S : List Nat} {p : Pol} {er : Int} (h : But S w w') (he : er ≠ 0) : DoP w d S p er (.returned (.int .i64 er)) w' := ⟨S, rfl, fun h => absurd h he, fun _ hi => .inl hi, h⟩
set_option linter.unusedSimpArgs false in
set_option maxRecDepth 100000 in
set_option maxHeartbeats 16000000 in
theorem addRule_any {B : Nat} {w : World} {d : Nat} {S : List Nat} {p : Pol} (hE : Ad.Env B w) (hD : DrP w d S p) (hge : ∀ i ∈ S, B ≤ i) (r : Ru) (h1 : r.pa.length ≤ 1000000) (h2 : r.ap.length ≤ 1000000) :
    Calls Tryz.prog 57 #[.pointer (some ⟨d, 0, none⟩), .agg (ruC r)] w (DoP w d S (p.app (.ru r)) (addE p.ru r)) := by
  obtain ⟨hr, ps, v1, v2, g, St, b, n0, D, hps, hI⟩ := hD
  have HPs := Lib.hid hps
  obtain ⟨er, her⟩ : ∃ er, addE p.ru r = er := ⟨_, rfl⟩
  obtain ⟨AR, cR, hvr, _, _, _⟩ := hI.rul.src fineU
  obtain ⟨n, hn⟩ : ∃ n, p.ru.length = n := ⟨_, rfl⟩
  rw [hn] at hvr
  have HN := Lib.hid hn
  have Hn2 := Lib.hid (show n ≤ 200 from by rw [← hn]; exact (right_most hr).1)
  have HVr := Lib.hid hvr
  have HSl := Lib.hid hI.lt
  have hb0 := Blk.new w 23 (ruC r)
  have hl0 : Below w.heap.size w (w.alloc (.cells (ruC r) 23)) := (Below.refl _ _).alloc (Nat.le_refl _) _
  have HI := Lib.hid (hI.on hl0)
  have HA := Lib.hid (fun w' (hb : Below (w.alloc (.cells (ruC r) 23)).heap.size (w.alloc (.cells (ruC r) 23)) w') => tadd_any (B := B) ((hE.on hl0).on hb) ((HI.out.on hb).tri) (fun i hi => hge i (HI.out.inT i hi)) r h1 h2)
  unfold AddP at HA
  have HAs := Lib.hid (show er = 0 → addS p.ru r = p.ru ++ [r] from fun h0 => by unfold addS; rw [her, if_pos h0])
  have HR := Lib.hid (show er = 0 → rightP (p.app (.ru r)) = 0 from fun h0 => by rw [app_ru hr, her, h0])
  rw [her] at HA ⊢
  have HL0 := Lib.hid (But.of_below hl0 S)
  have HB0 := Lib.hid hb0
  clear hr hps hI hE hge h1 h2 hb0 hl0 her hn hvr
  go_enter Tryz.func57, Tryz.ntmps57
  go_upto_region 1 with fail
  generalize w.alloc (.cells (ruC r) 23) = w1 at *
  obtain ⟨G, hG⟩ : ∃ G, w.heap.size = G := ⟨_, rfl⟩
  have HG := Lib.hid hG
  rw [hG] at HB0 ⊢
  clear hG
  have HGS := Lib.hid (show ∀ i ∈ S, i ≠ G from fun i hi => by have h1 := HSl.out i hi; have h2 := HG.out; omega)
  have hdr : Below w1.heap.size w1 w1.drew := (Below.refl _ _).drew
  have HD := Lib.hid hdr
  have HI := Lib.hid (HI.out.on hdr)
  have HB0 := Lib.hid (HB0.out.below hdr HB0.out.lt)
  have HL0 := Lib.hid (HL0.out.trans (But.of_below hdr S))
  clear hdr
  refine wp_norm ?_
  refine wp_region_held_drew (S := fun w' => w'.rangeAt G 0 (ruC r).toList ∧ w'.cell? ⟨d, 3, none⟩ = some (.pointer (some ⟨g, 0, none⟩))) (by kernel_rfl) ⟨range_b HB0.out, HI.out.blk.cell 3⟩ (fun h0 => ?_)
  generalize w1.drew = w3 at *
  refine hd_take 0 (some 6) (.pointer (some ⟨d, 0, none⟩)) rfl rfl (by kernel_rfl) (by kernel_rfl) (by kernel_rfl) (fun _ _ _ h => nomatch h.1) (Or.inl ⟨by rfl, fun w hw => by go_simp⟩) h0 ?_
  simp only [Act.put, List.setIfInBounds_toArray, List.set_cons_zero, List.set_cons_succ]
  refine hd_take 1 (some 7) (.pointer (some ⟨d, 0, none⟩)) rfl rfl (by kernel_rfl) (by kernel_rfl) (by kernel_rfl) (fun _ _ _ h => nomatch h.1) (Or.inl ⟨by rfl, fun w hw => by go_simp⟩) h0 ?_
  simp only [Act.put, List.setIfInBounds_toArray, List.set_cons_zero, List.set_cons_succ]
  refine hd_take 2 (some 8) (.pointer (some ⟨d, 3, none⟩)) rfl rfl (by kernel_rfl) (by kernel_rfl) (by kernel_rfl) (fun _ _ _ h => nomatch h.1) (Or.inl ⟨by rfl, fun w hw => by go_simp⟩) h0 ?_
  simp only [Act.put, List.setIfInBounds_toArray, List.set_cons_zero, List.set_cons_succ]
  refine hd_take 3 (some 9) (.pointer (some ⟨g, 0, none⟩)) rfl rfl (by kernel_rfl) (by kernel_rfl) (by kernel_rfl) (fun _ _ _ h => nomatch h.1) (Or.inl ⟨by rfl, fun w hw => by have h9 := hw.2; go_simp⟩) h0 ?_
  simp only [Act.put, List.setIfInBounds_toArray, List.set_cons_zero, List.set_cons_succ]
  refine hd_take 4 (some 10) (.agg (ruC r)) rfl rfl (by kernel_rfl) (by kernel_rfl) (by kernel_rfl) (fun _ _ _ h => nomatch h.1) (yieldsIf_load_mid (by rfl) _ _ rfl G 0 rfl (ruC r).toList _ (fun _ h => h.1) undU rfl (ruU_len r)) h0 ?_
  simp only [Act.put, List.setIfInBounds_toArray, List.set_cons_zero, List.set_cons_succ]
  refine wpAnyH_ready (rs := [5]) (by kernel_rfl) (by simp) (AllReadyH.cons rfl (fun K hK => ?_) AllReadyH.nil)
  go_simp
  refine (HA.out _ HD.out).mono ?_
  rintro e w4 ⟨St', rfl, hT, hS, hk⟩
  have HI4 := Lib.hid (HI.out.trie hT hS hk)
  have HB4 := Lib.hid (HB0.out.but hk (fun hm => HGS.out G (HI.out.inT G hm) rfl))
  have HK4 := Lib.hid (but_more HL0.out hk (fun i hi => .inl (HI.out.inT i hi)))
  have HS4 := Lib.hid (show ∀ i ∈ S ++ newB w3 w4, i ∈ S ∨ w.heap.size ≤ i from fun i hi => (newB_new hk.size i hi).imp id (fun h => Nat.le_trans HL0.out.size h))
  have HG4 := Lib.hid (show ∀ i ∈ S ++ newB w3 w4, i ≠ G from fun i hi => by
    rcases newB_new hk.size i hi with h | h
    · exact HGS.out i h
    · have := HB0.out.lt; omega)
  refine hK.out _ _ ⟨range_b HB4.out, HI4.out.blk.cell 3⟩ (fun h1 => ?_)
  clear hK K h0 hT hS hk HI HB0 HL0 HA HD
  generalize S ++ newB w3 w4 = S4 at *
  refine hd_take 6 (some 5) (.int .i64 er) rfl rfl (by kernel_rfl) (by kernel_rfl) (by kernel_rfl) (fun _ _ _ h => nomatch h.1) (Or.inl ⟨by rfl, fun w hw => by go_simp⟩) h1 ?_
  simp only [Act.put, List.setIfInBounds_toArray, List.set_cons_zero, List.set_cons_succ]
  refine wpAnyH_done (by kernel_rfl) ⟨rfl, ?_⟩ _
  clear h1
  by_cases he : er = 0
  case neg =>
    have hq : (er != 0) = true := by rw [bne_iff_ne]; exact he
    have HF := Lib.hid he
    clear he
    go_wp2_with fail
    go_ret
    exact DoP.bad HK4.out HF.out
  subst he
  have HAs := Lib.hid (HAs.out rfl)
  have HR := Lib.hid (HR.out rfl)
  rw [HAs.out] at HI4
  go_upto_region 4 with fail
  have hdr : Below w4.heap.size w4 w4.drew := (Below.refl _ _).drew
  have HMb := Lib.hid (HI4.out.on hdr)
  have HGb := Lib.hid (HB4.out.below hdr HB4.out.lt)
  have HKb := Lib.hid (HK4.out.trans (But.of_below hdr S))
  have HSb := Lib.hid HS4.out
  clear hdr HI4 HB4 HK4 HAs HS4
  have HG0 := Lib.hid (show G ∉ v1.ownBlock.toList from fun hm => HG4.out G (HMb.out.in1 G (Option.mem_toList.1 hm)) rfl)
  have HGn := Lib.hid (show G ≠ d from fun e => HG4.out d HMb.out.inD e.symm)
  have HC0 := Lib.hid (fun (w' : World) (h : Blk w' d 108 (drC p.al v1 v2 g b)) => show w'.cell? ⟨d, 1, none⟩ = some (.slice AR n cR) from by rw [← HVr.out]; exact h.cell 1)
  have HEnd := Lib.hid (fun (ww w9 : World) (v : Value) (S9 : List Nat) (h : DrI ww d S9 p.al p.ru (p.ru ++ [r]) ps ps v1 v2 g St' b n0 D) (hk : But S w ww) (hs : ∀ i ∈ S9, i ∈ S ∨ w.heap.size ≤ i) (hA : OwnE w9 elU 0 v (p.ru ++ [r])) (k : But v1.ownBlock.toList ww w9) (hv : v.ownBlock = v1.ownBlock ∨ v.ownBlock = some ww.heap.size) => show DoP w d S (p.app (.ru r)) 0 (.returned (.int .i64 0)) (w9.setCell ⟨d, 1, none⟩ v) from by
    obtain ⟨h1, h2⟩ := h.put1 hA k hv
    refine ⟨_, rfl, fun _ => ⟨HR.out, ps, v, v2, g, St', b, n0, D, HPs.out, h1⟩, fun i hi => ?_, but_more hk h2 hs⟩
    rcases newB_new k.size i hi with h3 | h3
    · exact hs i h3
    · exact .inr (Nat.le_trans hk.size h3))
  refine wp_norm ?_
  refine wp_region_held_drew (S := fun w' => w'.rangeAt G 0 (ruC r).toList) (by kernel_rfl) (range_b HGb.out) (fun h0 => ?_)
  generalize w4.drew = wb at *
  refine hd_take 0 (some 15) (.pointer (some ⟨d, 0, none⟩)) rfl rfl (by kernel_rfl) (by kernel_rfl) (by kernel_rfl) (fun _ _ _ h => nomatch h.1) (Or.inl ⟨by rfl, fun w hw => by go_simp⟩) h0 ?_
  simp only [Act.put, List.setIfInBounds_toArray, List.set_cons_zero, List.set_cons_succ]
  refine hd_take 1 (some 16) (.pointer (some ⟨d, 0, none⟩)) rfl rfl (by kernel_rfl) (by kernel_rfl) (by kernel_rfl) (fun _ _ _ h => nomatch h.1) (Or.inl ⟨by rfl, fun w hw => by go_simp⟩) h0 ?_
  simp only [Act.put, List.setIfInBounds_toArray, List.set_cons_zero, List.set_cons_succ]
  refine hd_take 2 (some 17) (.pointer (some ⟨d, 0, none⟩)) rfl rfl (by kernel_rfl) (by kernel_rfl) (by kernel_rfl) (fun _ _ _ h => nomatch h.1) (Or.inl ⟨by rfl, fun w hw => by go_simp⟩) h0 ?_
  simp only [Act.put, List.setIfInBounds_toArray, List.set_cons_zero, List.set_cons_succ]
  refine hd_take 3 (some 18) (.pointer (some ⟨d, 0, none⟩)) rfl rfl (by kernel_rfl) (by kernel_rfl) (by kernel_rfl) (fun _ _ _ h => nomatch h.1) (Or.inl ⟨by rfl, fun w hw => by go_simp⟩) h0 ?_
  simp only [Act.put, List.setIfInBounds_toArray, List.set_cons_zero, List.set_cons_succ]
  refine hd_take 4 (some 19) (.pointer (some ⟨d, 1, none⟩)) rfl rfl (by kernel_rfl) (by kernel_rfl) (by kernel_rfl) (fun _ _ _ h => nomatch h.1) (Or.inl ⟨by rfl, fun w hw => by go_simp⟩) h0 ?_
  simp only [Act.put, List.setIfInBounds_toArray, List.set_cons_zero, List.set_cons_succ]
  refine hd_take 6 (some 21) (.agg (ruC r)) rfl rfl (by kernel_rfl) (by kernel_rfl) (by kernel_rfl) (fun _ _ _ h => nomatch h.1) (yieldsIf_load_mid (by rfl) _ _ rfl G 0 rfl (ruC r).toList _ (fun _ h => h) undU rfl (ruU_len r)) h0 ?_
  simp only [Act.put, List.setIfInBounds_toArray, List.set_cons_zero, List.set_cons_succ]
  refine wpAnyH_ready (rs := [5, 7]) (by kernel_rfl) (by simp) (AllReadyH.cons rfl (fun K hK => ?_) (AllReadyH.cons rfl (fun K hK => ?_) AllReadyH.nil))
  · skip
    have hc := HC0.out _ HMb.out.blk
    go_simp
    clear hc
    refine hK.out _ _ (range_b HGb.out) (fun h1 => ?_)
    clear hK K h0
    refine wpAnyH_ready (rs := [7]) (by kernel_rfl) (by simp) (AllReadyH.cons rfl (fun K hK => ?_) AllReadyH.nil)
    go_simp
    have HMc := Lib.hid (HMb.out.on ((Below.refl _ _).alloc (Nat.le_refl _) (.cells (ruC r) 23)))
    have HKc := Lib.hid (show But S w (wb.alloc (.cells (ruC r) 23)) from HKb.out.trans (But.of_below ((Below.refl _ _).alloc (Nat.le_refl _) _) S))
    have HGc := Lib.hid (HGb.out.alloc (.cells (ruC r) 23))
    have HSc := Lib.hid HSb.out
    have HSx := Lib.hid (show SrcE (wb.alloc (.cells (ruC r) 23)) elU (some ⟨wb.heap.size, 0, none⟩) [r] from SrcE.one _ (Blk.new _ _ _) rfl)
    refine hK.out _ (wb.alloc (.cells (ruC r) 23)) (range_b HGc.out) (fun h2 => ?_)
    clear hK K h1
    generalize wb.alloc (.cells (ruC r) 23) = wc at *
    refine wpAnyH_ready (rs := [8]) (by kernel_rfl) (by simp) (AllReadyH.cons rfl (fun K hK => ?_) AllReadyH.nil)
    refine wp_appE fineU (.tmp 20) (.tmp 22) rfl 0 (.slice AR n cR) p.ru rfl (by rw [← HVr.out]; exact HMc.out.rul) _ 1 1 [r] rfl rfl (by simp) HSx.out (by have := HN.out; have := Hn2.out; simp only [List.length_singleton]; omega) (by decide) (Nat.zero_le _) ?_
    intro v6 w6 ho6 hg6 hf6
    obtain ⟨A6, c6, hv6, _, _, _⟩ := ho6.out.src fineU
    obtain ⟨m6, hm6⟩ : ∃ m6, (p.ru ++ [r]).length = m6 := ⟨_, rfl⟩
    rw [hm6] at hv6
    subst hv6
    have hk6 : But v1.ownBlock.toList _ w6 := but_grown (by rw [HVr.out]; exact hg6.out)
    have HX6 := Lib.hid (HGc.out.but hk6 HG0.out)
    have hb6 := HMc.out.blk.but hk6 HMc.out.n1.1
    have hc6 : w6.cell? ⟨d, 1, none⟩ = some (.slice AR n cR) := by rw [← HVr.out]; exact hb6.cell 1
    have hr6 := hb6.frozen 1
    have HZ := Lib.hid (HEnd.out _ _ _ _ HMc.out HKc.out HSc.out ho6.out hk6 (by rw [HVr.out]; exact hf6.out))
    have HXs := Lib.hid (show (w6.setCell ⟨d, 1, none⟩ (.slice A6 m6 c6)).rangeAt G 0 (ruC r).toList from range_b (HX6.out.far HGn.out _))
    clear hk6 hb6 ho6 hg6 hf6 HSx hm6
    refine hK.out _ _ (range_b HX6.out) (fun h6 => ?_)
    clear hK K h2
    refine hd_take 9 (some 24) (.pointer (some ⟨d, 0, none⟩)) rfl rfl (by kernel_rfl) (by kernel_rfl) (by kernel_rfl) (fun _ _ _ h => nomatch h.1) (Or.inl ⟨by rfl, fun w hw => by go_simp⟩) h6 ?_
    simp only [Act.put, List.setIfInBounds_toArray, List.set_cons_zero, List.set_cons_succ]
    refine hd_take 10 (some 25) (.pointer (some ⟨d, 0, none⟩)) rfl rfl (by kernel_rfl) (by kernel_rfl) (by kernel_rfl) (fun _ _ _ h => nomatch h.1) (Or.inl ⟨by rfl, fun w hw => by go_simp⟩) h6 ?_
    simp only [Act.put, List.setIfInBounds_toArray, List.set_cons_zero, List.set_cons_succ]
    refine hd_take 11 (some 26) (.pointer (some ⟨d, 1, none⟩)) rfl rfl (by kernel_rfl) (by kernel_rfl) (by kernel_rfl) (fun _ _ _ h => nomatch h.1) (Or.inl ⟨by rfl, fun w hw => by go_simp⟩) h6 ?_
    simp only [Act.put, List.setIfInBounds_toArray, List.set_cons_zero, List.set_cons_succ]
    refine wpAnyH_ready (rs := [12]) (by kernel_rfl) (by simp) (AllReadyH.cons rfl (fun K hK => ?_) AllReadyH.nil)
    go_simp
    refine hK.out _ _ HXs.out (fun h7 => ?_)
    clear hK K h6 h7 hc6 hr6 HXs HX6
    refine wpAnyH_done (by kernel_rfl) ⟨rfl, ?_⟩ _
    go_wp2_with fail
    go_ret
    exact HZ.out
  · skip
    go_simp
    have HMc := Lib.hid (HMb.out.on ((Below.refl _ _).alloc (Nat.le_refl _) (.cells (ruC r) 23)))
    have HKc := Lib.hid (show But S w (wb.alloc (.cells (ruC r) 23)) from HKb.out.trans (But.of_below ((Below.refl _ _).alloc (Nat.le_refl _) _) S))
    have HGc := Lib.hid (HGb.out.alloc (.cells (ruC r) 23))
    have HSc := Lib.hid HSb.out
    have HSx := Lib.hid (show SrcE (wb.alloc (.cells (ruC r) 23)) elU (some ⟨wb.heap.size, 0, none⟩) [r] from SrcE.one _ (Blk.new _ _ _) rfl)
    refine hK.out _ (wb.alloc (.cells (ruC r) 23)) (range_b HGc.out) (fun h1 => ?_)
    clear hK K h0
    generalize wb.alloc (.cells (ruC r) 23) = wc at *
    refine wpAnyH_ready (rs := [5]) (by kernel_rfl) (by simp) (AllReadyH.cons rfl (fun K hK => ?_) AllReadyH.nil)
    have hc := HC0.out _ HMc.out.blk
    go_simp
    clear hc
    refine hK.out _ _ (range_b HGc.out) (fun h2 => ?_)
    clear hK K h1
    refine wpAnyH_ready (rs := [8]) (by kernel_rfl) (by simp) (AllReadyH.cons rfl (fun K hK => ?_) AllReadyH.nil)
    refine wp_appE fineU (.tmp 20) (.tmp 22) rfl 0 (.slice AR n cR) p.ru rfl (by rw [← HVr.out]; exact HMc.out.rul) _ 1 1 [r] rfl rfl (by simp) HSx.out (by have := HN.out; have := Hn2.out; simp only [List.length_singleton]; omega) (by decide) (Nat.zero_le _) ?_
    intro v6 w6 ho6 hg6 hf6
    obtain ⟨A6, c6, hv6, _, _, _⟩ := ho6.out.src fineU
    obtain ⟨m6, hm6⟩ : ∃ m6, (p.ru ++ [r]).length = m6 := ⟨_, rfl⟩
    rw [hm6] at hv6
    subst hv6
    have hk6 : But v1.ownBlock.toList _ w6 := but_grown (by rw [HVr.out]; exact hg6.out)
    have HX6 := Lib.hid (HGc.out.but hk6 HG0.out)
    have hb6 := HMc.out.blk.but hk6 HMc.out.n1.1
    have hc6 : w6.cell? ⟨d, 1, none⟩ = some (.slice AR n cR) := by rw [← HVr.out]; exact hb6.cell 1
    have hr6 := hb6.frozen 1
    have HZ := Lib.hid (HEnd.out _ _ _ _ HMc.out HKc.out HSc.out ho6.out hk6 (by rw [HVr.out]; exact hf6.out))
    have HXs := Lib.hid (show (w6.setCell ⟨d, 1, none⟩ (.slice A6 m6 c6)).rangeAt G 0 (ruC r).toList from range_b (HX6.out.far HGn.out _))
    clear hk6 hb6 ho6 hg6 hf6 HSx hm6
    refine hK.out _ _ (range_b HX6.out) (fun h6 => ?_)
    clear hK K h2
    refine hd_take 9 (some 24) (.pointer (some ⟨d, 0, none⟩)) rfl rfl (by kernel_rfl) (by kernel_rfl) (by kernel_rfl) (fun _ _ _ h => nomatch h.1) (Or.inl ⟨by rfl, fun w hw => by go_simp⟩) h6 ?_
    simp only [Act.put, List.setIfInBounds_toArray, List.set_cons_zero, List.set_cons_succ]
    refine hd_take 10 (some 25) (.pointer (some ⟨d, 0, none⟩)) rfl rfl (by kernel_rfl) (by kernel_rfl) (by kernel_rfl) (fun _ _ _ h => nomatch h.1) (Or.inl ⟨by rfl, fun w hw => by go_simp⟩) h6 ?_
    simp only [Act.put, List.setIfInBounds_toArray, List.set_cons_zero, List.set_cons_succ]
    refine hd_take 11 (some 26) (.pointer (some ⟨d, 1, none⟩)) rfl rfl (by kernel_rfl) (by kernel_rfl) (by kernel_rfl) (fun _ _ _ h => nomatch h.1) (Or.inl ⟨by rfl, fun w hw => by go_simp⟩) h6 ?_
    simp only [Act.put, List.setIfInBounds_toArray, List.set_cons_zero, List.set_cons_succ]
    refine wpAnyH_ready (rs := [12]) (by kernel_rfl) (by simp) (AllReadyH.cons rfl (fun K hK => ?_) AllReadyH.nil)
    go_simp
    refine hK.out _ _ HXs.out (fun h7 => ?_)
    clear hK K h6 h7 hc6 hr6 HXs HX6
    refine wpAnyH_done (by kernel_rfl) ⟨rfl, ?_⟩ _
    go_wp2_with fail
    go_ret
    exact HZ.out
end Go.Proofs.YtlpondbcnfaggaaGreatDoor.Po
