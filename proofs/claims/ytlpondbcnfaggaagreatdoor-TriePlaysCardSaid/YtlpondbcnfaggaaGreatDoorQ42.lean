/-
  Contract of hagioscoperef18's Add over this seat's translation: it answers what addE says, and the rules behind it are addS. No condition beyond the texts' lengths, and that there is room.
-/
import Derived.Test.YtlpondbcnfaggaaGreatDoorQ41
namespace Go.Proofs.YtlpondbcnfaggaaGreatDoor.Tr
open Go.RowKit Go.Proofs.YtlpondbcnfaggaaGreatDoor.Wd Go.Proofs.YtlpondbcnfaggaaGreatDoor.Asc Go.Proofs.YtlpondbcnfaggaaGreatDoor.Tx Go.Proofs.YtlpondbcnfaggaaGreatDoor.St

theorem twin_is (r x : Ru) : twinB r x = decide ({ x with al := r.al } = r) := by
  rw [← twin_same]
  unfold twinB
  simp only [eq_comm]
theorem ruC_al (x : Ru) (b : Bool) : (ruC x).setIfInBounds 0 (.bool b) = ruC { x with al := b } := by simp [ruC]
theorem any_next {L : List Ru} {k : Nat} {x r : Ru} (h : ∀ z ∈ L.take k, twinB r z = false) (hx : L[k]? = some x) (ht : twinB r x = false) : ∀ z ∈ L.take (k + 1), twinB r z = false := fun z hz => by
  rw [List.take_add_one, hx] at hz
  rcases List.mem_append.1 hz with hz | hz
  · exact h z hz
  · have e : z = x := by simpa using hz
    rw [e]; exact ht
/-- what Add keeps: the rule in a block, the trie -/
structure AIn (w : World) (G B y : Nat) (v : Value) (L : List Ru) (r : Ru) (ww : World) : Prop where
  box : Blk ww G 23 (ruC r)
  tr : RTv ww B y v L
  bel : Below w.heap.size w ww
theorem AIn.on {w : World} {G B y : Nat} {v : Value} {L : List Ru} {r : Ru} {ww w' : World} (h : AIn w G B y v L r ww) (hb : Below ww.heap.size ww w') : AIn w G B y v L r w' :=
  ⟨h.box.below hb h.box.lt, h.tr.below hb, h.bel.trans (hb.mono h.bel.size)⟩
theorem OwnU.lower {w : World} {B B' : Nat} {v : Value} {l : List Ru} (h : OwnU w B' v l) (hB : B ≤ B') : OwnU w B v l := by
  obtain ⟨hl, h0 | ⟨g, cap, cur, hv, hg, r⟩⟩ := h
  · exact ⟨hl, .inl h0⟩
  · exact ⟨hl, .inr ⟨g, cap, cur, hv, Nat.le_trans hB hg, r⟩⟩
theorem tr_frozen {w : World} {B y : Nat} {v : Value} {L : List Ru} (h : RTv w B y v L) : w.frozen? ⟨y, 0, none⟩ = false := h.1.frozen 0
theorem range_set {w : World} {g p : Nat} {cs : List Value} (h : w.rangeAt g 0 cs) (hg : g ≠ p) (u : Value) : (w.setCell ⟨p, 0, none⟩ u).rangeAt g 0 cs := fun j v hv => by
  rw [World.cell?_setCell_far _ _ _ _ (fun e => hg e.symm)]
  exact h j v hv
/-- behind the last store -/
structure AEnd (w : World) (B y : Nat) (L : List Ru) (r : Ru) (w' : World) : Prop where
  tr : ∃ v', RTv w' B y v' (L ++ [r]) ∧ ∀ b, v'.ownBlock = some b → w.heap.size ≤ b
  but : But [y] w w'
theorem add_end {w wd w' : World} {B y : Nat} {L : List Ru} {r : Ru} {v : Value} {v0 : Value} (ht : RTv wd B y v0 L) (hb : Below w.heap.size w wd) (hy : y < w.heap.size) (hB : B ≤ w.heap.size) (hM : MidU wd w' v (L ++ [r])) : AEnd w B y L r (w'.setCell ⟨y, 0, none⟩ v) := by
  have hyd : y < wd.heap.size := Nat.lt_of_lt_of_le hy hb.size
  have hb2 : Below w.heap.size w w' := hb.trans (hM.bel.mono hb.size)
  have k1 : But [y] w' (w'.setCell ⟨y, 0, none⟩ v) := (But.refl [y] w').set_ (p := ⟨y, 0, none⟩) (.inl (by simp)) v
  refine ⟨⟨v, ⟨?_, ?_⟩, fun b hv => Nat.le_trans hb.size (hM.own.ge b hv).1⟩, (But.of_below hb2 [y]).trans k1⟩
  · obtain ⟨h1, _⟩ := ht
    have h2 := (h1.below hM.bel h1.lt).set_ 0 v
    simpa using h2
  · refine (hM.own.but k1 (fun b hv => ?_)).lower (Nat.le_trans hB hb.size)
    have := (hM.own.ge b hv).1
    simp
    omega
theorem AEnd.fin {w w' : World} {B y : Nat} {v : Value} {L : List Ru} {r : Ru} (h : AEnd w B y L r w') (hs : addS L r = if addE L r = 0 then L ++ [r] else L) (he : addE L r = 0) : ∃ v', Ending.returned (.int .i64 0) = .returned (.int .i64 (addE L r)) ∧ RTv w' B y v' (addS L r) ∧ (∀ b, v'.ownBlock = some b → v.ownBlock = some b ∨ w.heap.size ≤ b) ∧ But [y] w w' := by
  obtain ⟨v', h1, h2⟩ := h.tr
  exact ⟨v', by rw [he], by rw [hs, if_pos he]; exact h1, fun b hb => .inr (h2 b hb), h.but⟩
set_option linter.unusedSimpArgs false in
set_option maxRecDepth 100000 in
set_option maxHeartbeats 32000000 in
theorem radd_any {B y : Nat} {v : Value} {L : List Ru} (w : World) (hT : RTv w B y v L) (hB : B ≤ w.heap.size) (hL : L.length ≤ 90000) (r : Ru) (h1 : r.pa.length ≤ 1000000) (h2 : r.ap.length ≤ 1000000) :
    Calls Tryz.prog 22 #[.pointer (some ⟨y, 0, none⟩), .agg (ruC r)] w fun e w' => ∃ v', e = .returned (.int .i64 (addE L r)) ∧ RTv w' B y v' (addS L r) ∧ (∀ b, v'.ownBlock = some b → v.ownBlock = some b ∨ w.heap.size ≤ b) ∧ But [y] w w' := by
  obtain ⟨A0, c0, hc0, hsL⟩ := hT.form
  obtain ⟨e0, he0⟩ : ∃ e, rightS r = e := ⟨_, rfl⟩
  have HR := Lib.hid (fun w => rright_any r w (Nat.le_trans h1 (by decide)) (Nat.le_trans h2 (by decide)))
  rw [he0] at HR
  obtain ⟨N, hN⟩ : ∃ N, L.length = N := ⟨_, rfl⟩
  have HA : Hid (addE L r = if e0 ≠ 0 then e0 else if 200 ≤ N then 2 else if L.any (twinB r) then 7 else 0) := Lib.hid (by unfold addE; rw [he0, hN])
  have HAS : Hid (addS L r = if addE L r = 0 then L ++ [r] else L) := Lib.hid rfl
  rw [hN] at hc0 hL
  have HN := Lib.hid hN
  have HC0 := Lib.hid hc0
  have HS := Lib.hid hsL
  have HY := Lib.hid hT.lt
  have HTw := Lib.hid hT
  have HBw := Lib.hid hB
  clear hT hB hsL hc0 hN he0 h1 h2
  go_enter Tryz.func22, Tryz.ntmps22
  go_upto_region 1 with fail
  have hb0 := Blk.new w 23 (ruC r)
  have hl0 : Below w.heap.size w (w.alloc (.cells (ruC r) 23)) := (Below.refl _ _).alloc (Nat.le_refl _) _
  have HI1 : Hid (AIn w w.heap.size B y v L r (w.alloc (.cells (ruC r) 23))) := Lib.hid ⟨hb0, HTw.out.below hl0, hl0⟩
  clear hl0 hb0
  generalize w.alloc (.cells (ruC r) 23) = w1 at *
  obtain ⟨G, hG⟩ : ∃ G, w.heap.size = G := ⟨_, rfl⟩
  have HG := Lib.hid hG
  rw [hG] at HI1 ⊢
  clear hG HTw
  have b1 := HI1.out.box
  go_wp2_with (refine go_ld (x := .tmp 3) 23 b1 undU rfl infU (ruC_size _) rfl rfl rfl ?_)
  refine (HR.out _).mono ?_
  rintro e w2 ⟨rfl, hb2⟩
  have HI2 := Lib.hid (HI1.out.on hb2)
  clear hb2
  clear b1 HI1 HR
  have HF := Lib.hid (fun (w' : World) (e : Int) (hI : AIn w G B y v L r w') (he : addE L r = e) (hne : e ≠ 0) => show ∃ v', Ending.returned (.int .i64 e) = .returned (.int .i64 (addE L r)) ∧ RTv w' B y v' (addS L r) ∧ (∀ b, v'.ownBlock = some b → v.ownBlock = some b ∨ w.heap.size ≤ b) ∧ But [y] w w' from ⟨v, by rw [he], by rw [HAS.out, if_neg (by rw [he]; exact hne)]; exact hI.tr, fun b hb => .inl hb, But.of_below hI.bel _⟩)
  have hA := HA.out
  rcases Decidable.em (e0 ≠ 0) with he | hn
  · have q0 : (e0 != 0) = true := by rw [bne_iff_ne]; exact he
    rw [if_pos he] at hA
    have HA2 := Lib.hid hA
    have He := Lib.hid he
    clear hA he HA
    go_wp2_with fail
    go_ret
    exact HF.out _ _ HI2.out HA2.out He.out
  have he : e0 = 0 := Decidable.not_not.1 hn
  have q0 : (e0 != 0) = false := by rw [he]; rfl
  have d0 : decide (e0 = 0) = true := decide_eq_true he
  rw [if_neg hn] at hA
  clear he hn HA
  have hc2 : w2.cell? ⟨y, 0, none⟩ = some (.slice A0 N c0) := (HI2.out.bel.cell (p := ⟨y, 0, none⟩) HY.out).trans HC0.out
  by_cases hm : 200 ≤ N
  · have i1 : (200 : Int) ≤ (N : Int) := by omega
    rw [if_pos hm] at hA
    have HA2 := Lib.hid hA
    clear hA hm
    go_wp2_with fail
    go_ret
    exact HF.out _ _ HI2.out HA2.out (by decide)
  rw [if_neg hm] at hA
  have HA := Lib.hid hA
  have i1 : ¬ (200 : Int) ≤ (N : Int) := by omega
  clear hA hm
  go_wp2_with fail
  clear q0 d0 i1 hc2
  go_loopw [6] (fun x6 wr => ∃ (k : Nat) (ww : World), ww = wr ∧ k ≤ N ∧ x6 = .int .i64 (k : Nat) ∧ Hid (∀ z ∈ L.take k, twinB r z = false) ∧ Hid (AIn w G B y v L r ww)) (fun x6 _ => N - (intOf x6).toNat)
  case atStart => exact ⟨0, w2, rfl, Nat.zero_le _, rfl, Lib.hid (fun z h => by simp at h), HI2⟩
  case round =>
    clear HI2
    obtain ⟨k, ww, rfl, hk, rfl, HQ, HI⟩ := hrel
    have hc0 : ww.cell? ⟨y, 0, none⟩ = some (.slice A0 N c0) := (HI.out.bel.cell (p := ⟨y, 0, none⟩) HY.out).trans HC0.out
    by_cases hlt : k < N
    · have hki : (k : Int) < (N : Int) := by omega
      obtain ⟨x, g, p, hx, rfl, hg, hra⟩ := HS.out.get (wr := ww) (k := k) (by rw [HN.out]; exact hlt) HI.out.bel
      have HX := Lib.hid hx
      clear hx hg
      go_upto_region 10 with (first | (refine go_ldr x hra (by rfl) rfl (by first | rfl | (go_simp; done)) ?_) | (refine go_st 23 (Blk.new _ _ _) infU rfl (ruC_size _) (ruC_one _) rfl rfl rfl rfl ?_))
      obtain ⟨hbX, hlX⟩ := ru_new ww x
      have HI3 := Lib.hid (HI.out.on hlX)
      have HbX := Lib.hid hbX
      have HlX := Lib.hid hlX
      clear hbX hlX hra hc0
      obtain ⟨X, hX⟩ : ∃ X, ww.heap.size = X := ⟨_, rfl⟩
      have HXs := Lib.hid hX
      rw [hX] at HbX HI3 HlX ⊢
      clear hX
      generalize (ww.alloc (.cells zU 23)).setRow X (ruC x) = w3 at *
      have k0 : w3.cell? ⟨G, 0, none⟩ = some (.bool r.al) := by rw [HI3.out.box.cell]; rfl
      have k1 : w3.frozen? ⟨X, 0, none⟩ = false := HbX.out.frozen 0
      have k2 : w3.cell? ⟨X, 0, none⟩ = some (.bool x.al) := by rw [HbX.out.cell]; rfl
      go_upto_region 11 with fail
      have HbX4 := Lib.hid (HbX.out.set_ 0 (.bool r.al))
      rw [ruC_al] at HbX4
      have HI4 : Hid (AIn w G B y v L r (w3.setCell ⟨X, 0, none⟩ (.bool r.al))) := Lib.hid (HI.out.on (by rw [HXs.out]; exact HlX.out.setCell (p := ⟨X, 0, none⟩) (Nat.le_refl _) _))
      clear k0 k1 k2 HbX HI3 HlX HI
      generalize w3.setCell ⟨X, 0, none⟩ (.bool r.al) = w4 at *
      obtain ⟨b, hb⟩ : ∃ b, decide ({ x with al := r.al } = r) = b := ⟨_, rfl⟩
      have Hb := Lib.hid ((twin_is r x).trans hb)
      have bX := HbX4.out
      have bG := HI4.out.box
      go_wp2_with (first | (refine go_ldg (x := .tmp 7) 23 bX undU rfl infU (ruC_size _) (by rfl) rfl rfl ?_) | (refine go_ldg (x := .tmp 3) 23 bG undU rfl infU (ruC_size _) (by rfl) rfl rfl ?_; refine Hid.out ?_))
      refine Lib.hid ?_
      refine go_eqlU { x with al := r.al } r b hb rfl (by rfl) rfl rfl ?_
      clear bX bG hb HbX4
      cases b
      · have HQ2 := Lib.hid (any_next HQ.out HX.out Hb.out)
        go_wp2_with fail
        go_roundw
        case rel => exact ⟨k + 1, _, rfl, by omega, by go_num, HQ2, HI4⟩
        case measure => simp [intOf]; omega
      · have HA2 := Lib.hid (HA.out.trans (if_pos (List.any_eq_true.2 ⟨x, List.mem_of_getElem? HX.out, Hb.out⟩)))
        go_wp2_with fail
        go_ret
        exact HF.out _ _ HI4.out HA2.out (by decide)
    · have hki : ¬ (k : Int) < (N : Int) := by omega
      have HA2 := Lib.hid (HA.out.trans (if_neg (by
        rw [List.any_eq_true]
        rintro ⟨z, hz, ht⟩
        have h := HQ.out z (by rw [List.take_of_length_le (by rw [HN.out]; omega)]; exact hz)
        rw [h] at ht
        cases ht)))
      clear HQ HA
      go_upto_region 13 with fail
      have HId : Hid (AIn w G B y v L r ww.drew) := Lib.hid (HI.out.on (show Below ww.heap.size ww ww.drew from (Below.refl _ _).drew))
      clear HI
      refine wp_region_held_drew (S := fun w' => w'.rangeAt G 0 (ruC r).toList) (by kernel_rfl) (range_blk HId.out.box) (fun h0 => ?_)
      refine hd_take 0 (some 41) (.pointer (some ⟨y, 0, none⟩)) rfl rfl (by kernel_rfl) (by kernel_rfl) (by kernel_rfl) (fun _ _ _ h => h) (Or.inl ⟨by rfl, fun w hw => by go_simp⟩) h0 ?_
      simp only [Act.put, List.setIfInBounds_toArray, List.set_cons_zero, List.set_cons_succ]
      refine hd_take 2 (some 43) (.pointer (some ⟨y, 0, none⟩)) rfl rfl (by kernel_rfl) (by kernel_rfl) (by kernel_rfl) (fun _ _ _ h => h) (Or.inl ⟨by rfl, fun w hw => by go_simp⟩) h0 ?_
      simp only [Act.put, List.setIfInBounds_toArray, List.set_cons_zero, List.set_cons_succ]
      refine hd_take 3 (some 44) (.pointer (some ⟨y, 0, none⟩)) rfl rfl (by kernel_rfl) (by kernel_rfl) (by kernel_rfl) (fun _ _ _ h => h) (Or.inl ⟨by rfl, fun w hw => by go_simp⟩) h0 ?_
      simp only [Act.put, List.setIfInBounds_toArray, List.set_cons_zero, List.set_cons_succ]
      refine hd_take 4 (some 45) (.pointer (some ⟨y, 0, none⟩)) rfl rfl (by kernel_rfl) (by kernel_rfl) (by kernel_rfl) (fun _ _ _ h => h) (Or.inl ⟨by rfl, fun w hw => by go_simp⟩) h0 ?_
      simp only [Act.put, List.setIfInBounds_toArray, List.set_cons_zero, List.set_cons_succ]
      refine hd_take 7 (some 48) (.agg #[.bool r.al, .int .i64 r.pr, .string (str r.pa), .int .i64 r.po, .string (str r.ap)]) rfl rfl (by kernel_rfl) (by kernel_rfl) (by kernel_rfl) (fun _ _ _ h => h) (yieldsIf_load_mid (by rfl) _ _ rfl G 0 rfl (ruC r).toList _ (fun _ h => h) undU rfl (ruU_len r)) h0 ?_
      simp only [Act.put, List.setIfInBounds_toArray, List.set_cons_zero, List.set_cons_succ]
      generalize ww.drew = wd at *
      have HSS := Lib.hid (fun (w' : World) (hb : Below wd.heap.size wd w') => show w'.rangeAt G 0 (ruC r).toList from range_blk (HId.out.box.below hb HId.out.box.lt))
      have HCY := Lib.hid (fun (w' : World) (hb : Below wd.heap.size wd w') => show w'.cell? ⟨y, 0, none⟩ = some (.slice A0 N c0) from (hb.cell (p := ⟨y, 0, none⟩) (Nat.lt_of_lt_of_le HY.out HId.out.bel.size)).trans ((HId.out.bel.cell (p := ⟨y, 0, none⟩) HY.out).trans HC0.out))
      have HSL := Lib.hid (fun (w' : World) (hb : Below wd.heap.size wd w') => show SrcU w' A0 L from (HS.out.below HId.out.bel).below hb)
      have HNN := Lib.hid (show N = L.length from HN.out.symm)
      have HB0 := Lib.hid (Below.refl wd.heap.size wd)
      have HEnd := Lib.hid (fun (w' : World) (A2 : Option Addr) (c2 : Nat) (hM : MidU wd w' (.slice A2 (N + 1) c2) (L ++ [r])) => show AEnd w B y L r (w'.setCell ⟨y, 0, none⟩ (.slice A2 (N + 1) c2)) from add_end HId.out.tr HId.out.bel HY.out HBw.out hM)
      have HF0 := Lib.hid (fun (w' : World) (hb : Below wd.heap.size wd w') => show w'.frozen? ⟨y, 0, none⟩ = false from tr_frozen (HId.out.tr.below hb))
      have HGy := Lib.hid (show G ≠ y by have h1 := HY.out; have h2 := HG.out; omega)
      clear hki hk hlt
      refine wpAnyH_ready (rs := [1, 5, 8]) (by kernel_rfl) (by simp) (AllReadyH.cons rfl (fun K hK => ?_) (AllReadyH.cons rfl (fun K hK => ?_) (AllReadyH.cons rfl (fun K hK => ?_) AllReadyH.nil)))
      · skip
        go_simp
        have HM1 := Lib.hid (MidU.start (w0 := wd) HB0.out)
        have HEl1 := Lib.hid (show wd.heap.size < (wd.alloc (.cells #[] 23)).heap.size by simp)
        refine hK.out _ _ (HSS.out _ HM1.out.bel) (fun h1 => ?_)
        clear hK K h0
        generalize wd.alloc (.cells #[] 23) = wx1 at *
        refine wpAnyH_ready (rs := [5, 8]) (by kernel_rfl) (by simp) (AllReadyH.cons rfl (fun K hK => ?_) (AllReadyH.cons rfl (fun K hK => ?_) AllReadyH.nil))
        · skip
          have hcy := HCY.out _ HM1.out.bel
          go_simp
          clear hcy
          refine hK.out _ _ (HSS.out _ HM1.out.bel) (fun h2 => ?_)
          clear hK K h1
          refine wpAnyH_ready (rs := [6, 8]) (by kernel_rfl) (by simp) (AllReadyH.cons rfl (fun K hK => ?_) (AllReadyH.cons rfl (fun K hK => ?_) AllReadyH.nil))
          · skip
            refine wp_appU (.tmp 42) (.tmp 46) rfl wd.heap.size (.slice (some ⟨wd.heap.size, 0, none⟩) 0 0) [] rfl HM1.out.own A0 N c0 L rfl HNN.out (HSL.out _ HM1.out.bel) (by rw [← HNN.out]; simp only [List.length_nil]; omega) HM1.out.bel.size ?_
            intro v3 wx3 ho hg
            rw [List.nil_append] at ho
            have HM3 := Lib.hid (HM1.out.app ho.out hg.out)
            clear ho hg
            refine hK.out _ _ (HSS.out _ HM3.out.bel) (fun h3 => ?_)
            clear hK K h2
            refine wpAnyH_ready (rs := [8]) (by kernel_rfl) (by simp) (AllReadyH.cons rfl (fun K hK => ?_) AllReadyH.nil)
            go_simp
            have HS4 := Lib.hid (SrcU.one r (show Blk (wx3.alloc (.cells #[.bool r.al, .int .i64 r.pr, .string (str r.pa), .int .i64 r.po, .string (str r.ap)] 23)) wx3.heap.size 23 (ruC r) from Blk.new _ _ _))
            have HM4 := Lib.hid (HM3.out.alloc (.cells #[.bool r.al, .int .i64 r.pr, .string (str r.pa), .int .i64 r.po, .string (str r.ap)] 23))
            skip
            have HBl4 := Lib.hid (show wx3.heap.size < (wx3.alloc (.cells #[.bool r.al, .int .i64 r.pr, .string (str r.pa), .int .i64 r.po, .string (str r.ap)] 23)).heap.size by simp)
            refine hK.out _ _ (HSS.out _ HM4.out.bel) (fun h4 => ?_)
            clear hK K h3
            generalize (wx3.alloc (.cells #[.bool r.al, .int .i64 r.pr, .string (str r.pa), .int .i64 r.po, .string (str r.ap)] 23)) = wx4 at *
            refine wpAnyH_ready (rs := [9]) (by kernel_rfl) (by simp) (AllReadyH.cons rfl (fun K hK => ?_) AllReadyH.nil)
            refine wp_appU (.tmp 47) (.tmp 49) rfl wd.heap.size v3 L rfl HM4.out.own (some ⟨wx3.heap.size, 0, none⟩) 1 1 [r] rfl rfl HS4.out (by rw [← HNN.out]; simp only [List.length_cons, List.length_nil]; omega) HM4.out.bel.size ?_
            intro v5 wx5 ho hg
            have hM := HM4.out.app ho.out hg.out
            clear ho hg
            obtain ⟨A2, c2, hv2, _, _⟩ := hM.own.src
            have hv3 : v5 = .slice A2 (N + 1) c2 := by rw [hv2, List.length_append, ← HNN.out]; rfl
            subst hv3
            have HM5 := Lib.hid hM
            clear hv2 hM
            refine hK.out _ _ (HSS.out _ HM5.out.bel) (fun h5 => ?_)
            clear hK K h4
            refine hd_take 10 (some 51) (.pointer (some ⟨y, 0, none⟩)) rfl rfl (by kernel_rfl) (by kernel_rfl) (by kernel_rfl) (fun _ _ _ h => h) (Or.inl ⟨by rfl, fun w hw => by go_simp⟩) h5 ?_
            simp only [Act.put, List.setIfInBounds_toArray, List.set_cons_zero, List.set_cons_succ]
            refine hd_take 11 (some 52) (.pointer (some ⟨y, 0, none⟩)) rfl rfl (by kernel_rfl) (by kernel_rfl) (by kernel_rfl) (fun _ _ _ h => h) (Or.inl ⟨by rfl, fun w hw => by go_simp⟩) h5 ?_
            simp only [Act.put, List.setIfInBounds_toArray, List.set_cons_zero, List.set_cons_succ]
            have hcy := HCY.out _ HM5.out.bel
            have hfy := HF0.out _ HM5.out.bel
            have HE := Lib.hid (HEnd.out _ _ _ HM5.out)
            have HR0 := Lib.hid (HSS.out _ HM5.out.bel)
            refine wpAnyH_ready (rs := [12]) (by kernel_rfl) (by simp) (AllReadyH.cons rfl (fun K hK => ?_) AllReadyH.nil)
            go_simp
            clear hcy hfy
            refine hK.out _ _ (range_set HR0.out HGy.out _) (fun h9 => ?_)
            clear hK K
            refine wpAnyH_done (by kernel_rfl) ?_ _
            clear h9 HR0
            go_wp2_with fail
            go_ret
            exact HE.out.fin HAS.out HA2.out
          · skip
            go_simp
            have HS6 := Lib.hid (SrcU.one r (show Blk (wx1.alloc (.cells #[.bool r.al, .int .i64 r.pr, .string (str r.pa), .int .i64 r.po, .string (str r.ap)] 23)) wx1.heap.size 23 (ruC r) from Blk.new _ _ _))
            have HM6 := Lib.hid (HM1.out.alloc (.cells #[.bool r.al, .int .i64 r.pr, .string (str r.pa), .int .i64 r.po, .string (str r.ap)] 23))
            have HNe6 := Lib.hid (show wx1.heap.size ≠ wd.heap.size from Nat.ne_of_gt HEl1.out)
            have HBl6 := Lib.hid (show wx1.heap.size < (wx1.alloc (.cells #[.bool r.al, .int .i64 r.pr, .string (str r.pa), .int .i64 r.po, .string (str r.ap)] 23)).heap.size by simp)
            refine hK.out _ _ (HSS.out _ HM6.out.bel) (fun h6 => ?_)
            clear hK K h2
            generalize (wx1.alloc (.cells #[.bool r.al, .int .i64 r.pr, .string (str r.pa), .int .i64 r.po, .string (str r.ap)] 23)) = wx6 at *
            refine wpAnyH_ready (rs := [6]) (by kernel_rfl) (by simp) (AllReadyH.cons rfl (fun K hK => ?_) AllReadyH.nil)
            refine wp_appU (.tmp 42) (.tmp 46) rfl wd.heap.size (.slice (some ⟨wd.heap.size, 0, none⟩) 0 0) [] rfl HM6.out.own A0 N c0 L rfl HNN.out (HSL.out _ HM6.out.bel) (by rw [← HNN.out]; simp only [List.length_nil]; omega) HM6.out.bel.size ?_
            intro v7 wx7 ho hg
            rw [List.nil_append] at ho
            have HM7 := Lib.hid (HM6.out.app ho.out hg.out)
            have HS7 := Lib.hid (HS6.out.grown hg.out (fun x hx => by injection hx with hx; subst hx; intro he; injection he with he; exact HNe6.out he))
            clear ho hg
            refine hK.out _ _ (HSS.out _ HM7.out.bel) (fun h7 => ?_)
            clear hK K h6
            refine wpAnyH_ready (rs := [9]) (by kernel_rfl) (by simp) (AllReadyH.cons rfl (fun K hK => ?_) AllReadyH.nil)
            refine wp_appU (.tmp 47) (.tmp 49) rfl wd.heap.size v7 L rfl HM7.out.own (some ⟨wx1.heap.size, 0, none⟩) 1 1 [r] rfl rfl HS7.out (by rw [← HNN.out]; simp only [List.length_cons, List.length_nil]; omega) HM7.out.bel.size ?_
            intro v8 wx8 ho hg
            have hM := HM7.out.app ho.out hg.out
            clear ho hg
            obtain ⟨A2, c2, hv2, _, _⟩ := hM.own.src
            have hv3 : v8 = .slice A2 (N + 1) c2 := by rw [hv2, List.length_append, ← HNN.out]; rfl
            subst hv3
            have HM8 := Lib.hid hM
            clear hv2 hM
            refine hK.out _ _ (HSS.out _ HM8.out.bel) (fun h8 => ?_)
            clear hK K h7
            refine hd_take 10 (some 51) (.pointer (some ⟨y, 0, none⟩)) rfl rfl (by kernel_rfl) (by kernel_rfl) (by kernel_rfl) (fun _ _ _ h => h) (Or.inl ⟨by rfl, fun w hw => by go_simp⟩) h8 ?_
            simp only [Act.put, List.setIfInBounds_toArray, List.set_cons_zero, List.set_cons_succ]
            refine hd_take 11 (some 52) (.pointer (some ⟨y, 0, none⟩)) rfl rfl (by kernel_rfl) (by kernel_rfl) (by kernel_rfl) (fun _ _ _ h => h) (Or.inl ⟨by rfl, fun w hw => by go_simp⟩) h8 ?_
            simp only [Act.put, List.setIfInBounds_toArray, List.set_cons_zero, List.set_cons_succ]
            have hcy := HCY.out _ HM8.out.bel
            have hfy := HF0.out _ HM8.out.bel
            have HE := Lib.hid (HEnd.out _ _ _ HM8.out)
            have HR0 := Lib.hid (HSS.out _ HM8.out.bel)
            refine wpAnyH_ready (rs := [12]) (by kernel_rfl) (by simp) (AllReadyH.cons rfl (fun K hK => ?_) AllReadyH.nil)
            go_simp
            clear hcy hfy
            refine hK.out _ _ (range_set HR0.out HGy.out _) (fun h9 => ?_)
            clear hK K
            refine wpAnyH_done (by kernel_rfl) ?_ _
            clear h9 HR0
            go_wp2_with fail
            go_ret
            exact HE.out.fin HAS.out HA2.out
        · skip
          go_simp
          have HS9 := Lib.hid (SrcU.one r (show Blk (wx1.alloc (.cells #[.bool r.al, .int .i64 r.pr, .string (str r.pa), .int .i64 r.po, .string (str r.ap)] 23)) wx1.heap.size 23 (ruC r) from Blk.new _ _ _))
          have HM9 := Lib.hid (HM1.out.alloc (.cells #[.bool r.al, .int .i64 r.pr, .string (str r.pa), .int .i64 r.po, .string (str r.ap)] 23))
          have HNe9 := Lib.hid (show wx1.heap.size ≠ wd.heap.size from Nat.ne_of_gt HEl1.out)
          have HBl9 := Lib.hid (show wx1.heap.size < (wx1.alloc (.cells #[.bool r.al, .int .i64 r.pr, .string (str r.pa), .int .i64 r.po, .string (str r.ap)] 23)).heap.size by simp)
          refine hK.out _ _ (HSS.out _ HM9.out.bel) (fun h9 => ?_)
          clear hK K h1
          generalize (wx1.alloc (.cells #[.bool r.al, .int .i64 r.pr, .string (str r.pa), .int .i64 r.po, .string (str r.ap)] 23)) = wx9 at *
          refine wpAnyH_ready (rs := [5]) (by kernel_rfl) (by simp) (AllReadyH.cons rfl (fun K hK => ?_) AllReadyH.nil)
          have hcy := HCY.out _ HM9.out.bel
          go_simp
          clear hcy
          refine hK.out _ _ (HSS.out _ HM9.out.bel) (fun h10 => ?_)
          clear hK K h9
          refine wpAnyH_ready (rs := [6]) (by kernel_rfl) (by simp) (AllReadyH.cons rfl (fun K hK => ?_) AllReadyH.nil)
          refine wp_appU (.tmp 42) (.tmp 46) rfl wd.heap.size (.slice (some ⟨wd.heap.size, 0, none⟩) 0 0) [] rfl HM9.out.own A0 N c0 L rfl HNN.out (HSL.out _ HM9.out.bel) (by rw [← HNN.out]; simp only [List.length_nil]; omega) HM9.out.bel.size ?_
          intro v11 wx11 ho hg
          rw [List.nil_append] at ho
          have HM11 := Lib.hid (HM9.out.app ho.out hg.out)
          have HS11 := Lib.hid (HS9.out.grown hg.out (fun x hx => by injection hx with hx; subst hx; intro he; injection he with he; exact HNe9.out he))
          clear ho hg
          refine hK.out _ _ (HSS.out _ HM11.out.bel) (fun h11 => ?_)
          clear hK K h10
          refine wpAnyH_ready (rs := [9]) (by kernel_rfl) (by simp) (AllReadyH.cons rfl (fun K hK => ?_) AllReadyH.nil)
          refine wp_appU (.tmp 47) (.tmp 49) rfl wd.heap.size v11 L rfl HM11.out.own (some ⟨wx1.heap.size, 0, none⟩) 1 1 [r] rfl rfl HS11.out (by rw [← HNN.out]; simp only [List.length_cons, List.length_nil]; omega) HM11.out.bel.size ?_
          intro v12 wx12 ho hg
          have hM := HM11.out.app ho.out hg.out
          clear ho hg
          obtain ⟨A2, c2, hv2, _, _⟩ := hM.own.src
          have hv3 : v12 = .slice A2 (N + 1) c2 := by rw [hv2, List.length_append, ← HNN.out]; rfl
          subst hv3
          have HM12 := Lib.hid hM
          clear hv2 hM
          refine hK.out _ _ (HSS.out _ HM12.out.bel) (fun h12 => ?_)
          clear hK K h11
          refine hd_take 10 (some 51) (.pointer (some ⟨y, 0, none⟩)) rfl rfl (by kernel_rfl) (by kernel_rfl) (by kernel_rfl) (fun _ _ _ h => h) (Or.inl ⟨by rfl, fun w hw => by go_simp⟩) h12 ?_
          simp only [Act.put, List.setIfInBounds_toArray, List.set_cons_zero, List.set_cons_succ]
          refine hd_take 11 (some 52) (.pointer (some ⟨y, 0, none⟩)) rfl rfl (by kernel_rfl) (by kernel_rfl) (by kernel_rfl) (fun _ _ _ h => h) (Or.inl ⟨by rfl, fun w hw => by go_simp⟩) h12 ?_
          simp only [Act.put, List.setIfInBounds_toArray, List.set_cons_zero, List.set_cons_succ]
          have hcy := HCY.out _ HM12.out.bel
          have hfy := HF0.out _ HM12.out.bel
          have HE := Lib.hid (HEnd.out _ _ _ HM12.out)
          have HR0 := Lib.hid (HSS.out _ HM12.out.bel)
          refine wpAnyH_ready (rs := [12]) (by kernel_rfl) (by simp) (AllReadyH.cons rfl (fun K hK => ?_) AllReadyH.nil)
          go_simp
          clear hcy hfy
          refine hK.out _ _ (range_set HR0.out HGy.out _) (fun h9 => ?_)
          clear hK K
          refine wpAnyH_done (by kernel_rfl) ?_ _
          clear h9 HR0
          go_wp2_with fail
          go_ret
          exact HE.out.fin HAS.out HA2.out
      · skip
        have hcy := HCY.out _ HB0.out
        go_simp
        clear hcy
        refine hK.out _ _ (HSS.out _ HB0.out) (fun h13 => ?_)
        clear hK K h0
        refine wpAnyH_ready (rs := [1, 8]) (by kernel_rfl) (by simp) (AllReadyH.cons rfl (fun K hK => ?_) (AllReadyH.cons rfl (fun K hK => ?_) AllReadyH.nil))
        · skip
          go_simp
          have HM14 := Lib.hid (MidU.start (w0 := wd) HB0.out)
          have HEl14 := Lib.hid (show wd.heap.size < (wd.alloc (.cells #[] 23)).heap.size by simp)
          refine hK.out _ _ (HSS.out _ HM14.out.bel) (fun h14 => ?_)
          clear hK K h13
          generalize wd.alloc (.cells #[] 23) = wx14 at *
          refine wpAnyH_ready (rs := [6, 8]) (by kernel_rfl) (by simp) (AllReadyH.cons rfl (fun K hK => ?_) (AllReadyH.cons rfl (fun K hK => ?_) AllReadyH.nil))
          · skip
            refine wp_appU (.tmp 42) (.tmp 46) rfl wd.heap.size (.slice (some ⟨wd.heap.size, 0, none⟩) 0 0) [] rfl HM14.out.own A0 N c0 L rfl HNN.out (HSL.out _ HM14.out.bel) (by rw [← HNN.out]; simp only [List.length_nil]; omega) HM14.out.bel.size ?_
            intro v15 wx15 ho hg
            rw [List.nil_append] at ho
            have HM15 := Lib.hid (HM14.out.app ho.out hg.out)
            clear ho hg
            refine hK.out _ _ (HSS.out _ HM15.out.bel) (fun h15 => ?_)
            clear hK K h14
            refine wpAnyH_ready (rs := [8]) (by kernel_rfl) (by simp) (AllReadyH.cons rfl (fun K hK => ?_) AllReadyH.nil)
            go_simp
            have HS16 := Lib.hid (SrcU.one r (show Blk (wx15.alloc (.cells #[.bool r.al, .int .i64 r.pr, .string (str r.pa), .int .i64 r.po, .string (str r.ap)] 23)) wx15.heap.size 23 (ruC r) from Blk.new _ _ _))
            have HM16 := Lib.hid (HM15.out.alloc (.cells #[.bool r.al, .int .i64 r.pr, .string (str r.pa), .int .i64 r.po, .string (str r.ap)] 23))
            skip
            have HBl16 := Lib.hid (show wx15.heap.size < (wx15.alloc (.cells #[.bool r.al, .int .i64 r.pr, .string (str r.pa), .int .i64 r.po, .string (str r.ap)] 23)).heap.size by simp)
            refine hK.out _ _ (HSS.out _ HM16.out.bel) (fun h16 => ?_)
            clear hK K h15
            generalize (wx15.alloc (.cells #[.bool r.al, .int .i64 r.pr, .string (str r.pa), .int .i64 r.po, .string (str r.ap)] 23)) = wx16 at *
            refine wpAnyH_ready (rs := [9]) (by kernel_rfl) (by simp) (AllReadyH.cons rfl (fun K hK => ?_) AllReadyH.nil)
            refine wp_appU (.tmp 47) (.tmp 49) rfl wd.heap.size v15 L rfl HM16.out.own (some ⟨wx15.heap.size, 0, none⟩) 1 1 [r] rfl rfl HS16.out (by rw [← HNN.out]; simp only [List.length_cons, List.length_nil]; omega) HM16.out.bel.size ?_
            intro v17 wx17 ho hg
            have hM := HM16.out.app ho.out hg.out
            clear ho hg
            obtain ⟨A2, c2, hv2, _, _⟩ := hM.own.src
            have hv3 : v17 = .slice A2 (N + 1) c2 := by rw [hv2, List.length_append, ← HNN.out]; rfl
            subst hv3
            have HM17 := Lib.hid hM
            clear hv2 hM
            refine hK.out _ _ (HSS.out _ HM17.out.bel) (fun h17 => ?_)
            clear hK K h16
            refine hd_take 10 (some 51) (.pointer (some ⟨y, 0, none⟩)) rfl rfl (by kernel_rfl) (by kernel_rfl) (by kernel_rfl) (fun _ _ _ h => h) (Or.inl ⟨by rfl, fun w hw => by go_simp⟩) h17 ?_
            simp only [Act.put, List.setIfInBounds_toArray, List.set_cons_zero, List.set_cons_succ]
            refine hd_take 11 (some 52) (.pointer (some ⟨y, 0, none⟩)) rfl rfl (by kernel_rfl) (by kernel_rfl) (by kernel_rfl) (fun _ _ _ h => h) (Or.inl ⟨by rfl, fun w hw => by go_simp⟩) h17 ?_
            simp only [Act.put, List.setIfInBounds_toArray, List.set_cons_zero, List.set_cons_succ]
            have hcy := HCY.out _ HM17.out.bel
            have hfy := HF0.out _ HM17.out.bel
            have HE := Lib.hid (HEnd.out _ _ _ HM17.out)
            have HR0 := Lib.hid (HSS.out _ HM17.out.bel)
            refine wpAnyH_ready (rs := [12]) (by kernel_rfl) (by simp) (AllReadyH.cons rfl (fun K hK => ?_) AllReadyH.nil)
            go_simp
            clear hcy hfy
            refine hK.out _ _ (range_set HR0.out HGy.out _) (fun h9 => ?_)
            clear hK K
            refine wpAnyH_done (by kernel_rfl) ?_ _
            clear h9 HR0
            go_wp2_with fail
            go_ret
            exact HE.out.fin HAS.out HA2.out
          · skip
            go_simp
            have HS18 := Lib.hid (SrcU.one r (show Blk (wx14.alloc (.cells #[.bool r.al, .int .i64 r.pr, .string (str r.pa), .int .i64 r.po, .string (str r.ap)] 23)) wx14.heap.size 23 (ruC r) from Blk.new _ _ _))
            have HM18 := Lib.hid (HM14.out.alloc (.cells #[.bool r.al, .int .i64 r.pr, .string (str r.pa), .int .i64 r.po, .string (str r.ap)] 23))
            have HNe18 := Lib.hid (show wx14.heap.size ≠ wd.heap.size from Nat.ne_of_gt HEl14.out)
            have HBl18 := Lib.hid (show wx14.heap.size < (wx14.alloc (.cells #[.bool r.al, .int .i64 r.pr, .string (str r.pa), .int .i64 r.po, .string (str r.ap)] 23)).heap.size by simp)
            refine hK.out _ _ (HSS.out _ HM18.out.bel) (fun h18 => ?_)
            clear hK K h14
            generalize (wx14.alloc (.cells #[.bool r.al, .int .i64 r.pr, .string (str r.pa), .int .i64 r.po, .string (str r.ap)] 23)) = wx18 at *
            refine wpAnyH_ready (rs := [6]) (by kernel_rfl) (by simp) (AllReadyH.cons rfl (fun K hK => ?_) AllReadyH.nil)
            refine wp_appU (.tmp 42) (.tmp 46) rfl wd.heap.size (.slice (some ⟨wd.heap.size, 0, none⟩) 0 0) [] rfl HM18.out.own A0 N c0 L rfl HNN.out (HSL.out _ HM18.out.bel) (by rw [← HNN.out]; simp only [List.length_nil]; omega) HM18.out.bel.size ?_
            intro v19 wx19 ho hg
            rw [List.nil_append] at ho
            have HM19 := Lib.hid (HM18.out.app ho.out hg.out)
            have HS19 := Lib.hid (HS18.out.grown hg.out (fun x hx => by injection hx with hx; subst hx; intro he; injection he with he; exact HNe18.out he))
            clear ho hg
            refine hK.out _ _ (HSS.out _ HM19.out.bel) (fun h19 => ?_)
            clear hK K h18
            refine wpAnyH_ready (rs := [9]) (by kernel_rfl) (by simp) (AllReadyH.cons rfl (fun K hK => ?_) AllReadyH.nil)
            refine wp_appU (.tmp 47) (.tmp 49) rfl wd.heap.size v19 L rfl HM19.out.own (some ⟨wx14.heap.size, 0, none⟩) 1 1 [r] rfl rfl HS19.out (by rw [← HNN.out]; simp only [List.length_cons, List.length_nil]; omega) HM19.out.bel.size ?_
            intro v20 wx20 ho hg
            have hM := HM19.out.app ho.out hg.out
            clear ho hg
            obtain ⟨A2, c2, hv2, _, _⟩ := hM.own.src
            have hv3 : v20 = .slice A2 (N + 1) c2 := by rw [hv2, List.length_append, ← HNN.out]; rfl
            subst hv3
            have HM20 := Lib.hid hM
            clear hv2 hM
            refine hK.out _ _ (HSS.out _ HM20.out.bel) (fun h20 => ?_)
            clear hK K h19
            refine hd_take 10 (some 51) (.pointer (some ⟨y, 0, none⟩)) rfl rfl (by kernel_rfl) (by kernel_rfl) (by kernel_rfl) (fun _ _ _ h => h) (Or.inl ⟨by rfl, fun w hw => by go_simp⟩) h20 ?_
            simp only [Act.put, List.setIfInBounds_toArray, List.set_cons_zero, List.set_cons_succ]
            refine hd_take 11 (some 52) (.pointer (some ⟨y, 0, none⟩)) rfl rfl (by kernel_rfl) (by kernel_rfl) (by kernel_rfl) (fun _ _ _ h => h) (Or.inl ⟨by rfl, fun w hw => by go_simp⟩) h20 ?_
            simp only [Act.put, List.setIfInBounds_toArray, List.set_cons_zero, List.set_cons_succ]
            have hcy := HCY.out _ HM20.out.bel
            have hfy := HF0.out _ HM20.out.bel
            have HE := Lib.hid (HEnd.out _ _ _ HM20.out)
            have HR0 := Lib.hid (HSS.out _ HM20.out.bel)
            refine wpAnyH_ready (rs := [12]) (by kernel_rfl) (by simp) (AllReadyH.cons rfl (fun K hK => ?_) AllReadyH.nil)
            go_simp
            clear hcy hfy
            refine hK.out _ _ (range_set HR0.out HGy.out _) (fun h9 => ?_)
            clear hK K
            refine wpAnyH_done (by kernel_rfl) ?_ _
            clear h9 HR0
            go_wp2_with fail
            go_ret
            exact HE.out.fin HAS.out HA2.out
        · skip
          go_simp
          have HS21 := Lib.hid (SrcU.one r (show Blk (wd.alloc (.cells #[.bool r.al, .int .i64 r.pr, .string (str r.pa), .int .i64 r.po, .string (str r.ap)] 23)) wd.heap.size 23 (ruC r) from Blk.new _ _ _))
          have HB21 := Lib.hid (HB0.out.alloc HB0.out.size (.cells #[.bool r.al, .int .i64 r.pr, .string (str r.pa), .int .i64 r.po, .string (str r.ap)] 23))
          have HBl21 := Lib.hid (show wd.heap.size < (wd.alloc (.cells #[.bool r.al, .int .i64 r.pr, .string (str r.pa), .int .i64 r.po, .string (str r.ap)] 23)).heap.size by simp)
          refine hK.out _ _ (HSS.out _ HB21.out) (fun h21 => ?_)
          clear hK K h13
          generalize (wd.alloc (.cells #[.bool r.al, .int .i64 r.pr, .string (str r.pa), .int .i64 r.po, .string (str r.ap)] 23)) = wx21 at *
          refine wpAnyH_ready (rs := [1]) (by kernel_rfl) (by simp) (AllReadyH.cons rfl (fun K hK => ?_) AllReadyH.nil)
          go_simp
          have HM22 := Lib.hid (MidU.start (w0 := wd) HB21.out)
          have HS22 := Lib.hid (HS21.out.below ((Below.refl _ _).alloc (Nat.le_refl _) (.cells #[] 23)))
          have HNe22 := Lib.hid (show wd.heap.size ≠ wx21.heap.size from Nat.ne_of_lt HBl21.out)
          have HEl22 := Lib.hid (show wx21.heap.size < (wx21.alloc (.cells #[] 23)).heap.size by simp)
          refine hK.out _ _ (HSS.out _ HM22.out.bel) (fun h22 => ?_)
          clear hK K h21
          generalize wx21.alloc (.cells #[] 23) = wx22 at *
          refine wpAnyH_ready (rs := [6]) (by kernel_rfl) (by simp) (AllReadyH.cons rfl (fun K hK => ?_) AllReadyH.nil)
          refine wp_appU (.tmp 42) (.tmp 46) rfl wd.heap.size (.slice (some ⟨wx21.heap.size, 0, none⟩) 0 0) [] rfl HM22.out.own A0 N c0 L rfl HNN.out (HSL.out _ HM22.out.bel) (by rw [← HNN.out]; simp only [List.length_nil]; omega) HM22.out.bel.size ?_
          intro v23 wx23 ho hg
          rw [List.nil_append] at ho
          have HM23 := Lib.hid (HM22.out.app ho.out hg.out)
          have HS23 := Lib.hid (HS22.out.grown hg.out (fun x hx => by injection hx with hx; subst hx; intro he; injection he with he; exact HNe22.out he))
          clear ho hg
          refine hK.out _ _ (HSS.out _ HM23.out.bel) (fun h23 => ?_)
          clear hK K h22
          refine wpAnyH_ready (rs := [9]) (by kernel_rfl) (by simp) (AllReadyH.cons rfl (fun K hK => ?_) AllReadyH.nil)
          refine wp_appU (.tmp 47) (.tmp 49) rfl wd.heap.size v23 L rfl HM23.out.own (some ⟨wd.heap.size, 0, none⟩) 1 1 [r] rfl rfl HS23.out (by rw [← HNN.out]; simp only [List.length_cons, List.length_nil]; omega) HM23.out.bel.size ?_
          intro v24 wx24 ho hg
          have hM := HM23.out.app ho.out hg.out
          clear ho hg
          obtain ⟨A2, c2, hv2, _, _⟩ := hM.own.src
          have hv3 : v24 = .slice A2 (N + 1) c2 := by rw [hv2, List.length_append, ← HNN.out]; rfl
          subst hv3
          have HM24 := Lib.hid hM
          clear hv2 hM
          refine hK.out _ _ (HSS.out _ HM24.out.bel) (fun h24 => ?_)
          clear hK K h23
          refine hd_take 10 (some 51) (.pointer (some ⟨y, 0, none⟩)) rfl rfl (by kernel_rfl) (by kernel_rfl) (by kernel_rfl) (fun _ _ _ h => h) (Or.inl ⟨by rfl, fun w hw => by go_simp⟩) h24 ?_
          simp only [Act.put, List.setIfInBounds_toArray, List.set_cons_zero, List.set_cons_succ]
          refine hd_take 11 (some 52) (.pointer (some ⟨y, 0, none⟩)) rfl rfl (by kernel_rfl) (by kernel_rfl) (by kernel_rfl) (fun _ _ _ h => h) (Or.inl ⟨by rfl, fun w hw => by go_simp⟩) h24 ?_
          simp only [Act.put, List.setIfInBounds_toArray, List.set_cons_zero, List.set_cons_succ]
          have hcy := HCY.out _ HM24.out.bel
          have hfy := HF0.out _ HM24.out.bel
          have HE := Lib.hid (HEnd.out _ _ _ HM24.out)
          have HR0 := Lib.hid (HSS.out _ HM24.out.bel)
          refine wpAnyH_ready (rs := [12]) (by kernel_rfl) (by simp) (AllReadyH.cons rfl (fun K hK => ?_) AllReadyH.nil)
          go_simp
          clear hcy hfy
          refine hK.out _ _ (range_set HR0.out HGy.out _) (fun h9 => ?_)
          clear hK K
          refine wpAnyH_done (by kernel_rfl) ?_ _
          clear h9 HR0
          go_wp2_with fail
          go_ret
          exact HE.out.fin HAS.out HA2.out
      · skip
        go_simp
        have HS25 := Lib.hid (SrcU.one r (show Blk (wd.alloc (.cells #[.bool r.al, .int .i64 r.pr, .string (str r.pa), .int .i64 r.po, .string (str r.ap)] 23)) wd.heap.size 23 (ruC r) from Blk.new _ _ _))
        have HB25 := Lib.hid (HB0.out.alloc HB0.out.size (.cells #[.bool r.al, .int .i64 r.pr, .string (str r.pa), .int .i64 r.po, .string (str r.ap)] 23))
        have HBl25 := Lib.hid (show wd.heap.size < (wd.alloc (.cells #[.bool r.al, .int .i64 r.pr, .string (str r.pa), .int .i64 r.po, .string (str r.ap)] 23)).heap.size by simp)
        refine hK.out _ _ (HSS.out _ HB25.out) (fun h25 => ?_)
        clear hK K h0
        generalize (wd.alloc (.cells #[.bool r.al, .int .i64 r.pr, .string (str r.pa), .int .i64 r.po, .string (str r.ap)] 23)) = wx25 at *
        refine wpAnyH_ready (rs := [1, 5]) (by kernel_rfl) (by simp) (AllReadyH.cons rfl (fun K hK => ?_) (AllReadyH.cons rfl (fun K hK => ?_) AllReadyH.nil))
        · skip
          go_simp
          have HM26 := Lib.hid (MidU.start (w0 := wd) HB25.out)
          have HS26 := Lib.hid (HS25.out.below ((Below.refl _ _).alloc (Nat.le_refl _) (.cells #[] 23)))
          have HNe26 := Lib.hid (show wd.heap.size ≠ wx25.heap.size from Nat.ne_of_lt HBl25.out)
          have HEl26 := Lib.hid (show wx25.heap.size < (wx25.alloc (.cells #[] 23)).heap.size by simp)
          refine hK.out _ _ (HSS.out _ HM26.out.bel) (fun h26 => ?_)
          clear hK K h25
          generalize wx25.alloc (.cells #[] 23) = wx26 at *
          refine wpAnyH_ready (rs := [5]) (by kernel_rfl) (by simp) (AllReadyH.cons rfl (fun K hK => ?_) AllReadyH.nil)
          have hcy := HCY.out _ HM26.out.bel
          go_simp
          clear hcy
          refine hK.out _ _ (HSS.out _ HM26.out.bel) (fun h27 => ?_)
          clear hK K h26
          refine wpAnyH_ready (rs := [6]) (by kernel_rfl) (by simp) (AllReadyH.cons rfl (fun K hK => ?_) AllReadyH.nil)
          refine wp_appU (.tmp 42) (.tmp 46) rfl wd.heap.size (.slice (some ⟨wx25.heap.size, 0, none⟩) 0 0) [] rfl HM26.out.own A0 N c0 L rfl HNN.out (HSL.out _ HM26.out.bel) (by rw [← HNN.out]; simp only [List.length_nil]; omega) HM26.out.bel.size ?_
          intro v28 wx28 ho hg
          rw [List.nil_append] at ho
          have HM28 := Lib.hid (HM26.out.app ho.out hg.out)
          have HS28 := Lib.hid (HS26.out.grown hg.out (fun x hx => by injection hx with hx; subst hx; intro he; injection he with he; exact HNe26.out he))
          clear ho hg
          refine hK.out _ _ (HSS.out _ HM28.out.bel) (fun h28 => ?_)
          clear hK K h27
          refine wpAnyH_ready (rs := [9]) (by kernel_rfl) (by simp) (AllReadyH.cons rfl (fun K hK => ?_) AllReadyH.nil)
          refine wp_appU (.tmp 47) (.tmp 49) rfl wd.heap.size v28 L rfl HM28.out.own (some ⟨wd.heap.size, 0, none⟩) 1 1 [r] rfl rfl HS28.out (by rw [← HNN.out]; simp only [List.length_cons, List.length_nil]; omega) HM28.out.bel.size ?_
          intro v29 wx29 ho hg
          have hM := HM28.out.app ho.out hg.out
          clear ho hg
          obtain ⟨A2, c2, hv2, _, _⟩ := hM.own.src
          have hv3 : v29 = .slice A2 (N + 1) c2 := by rw [hv2, List.length_append, ← HNN.out]; rfl
          subst hv3
          have HM29 := Lib.hid hM
          clear hv2 hM
          refine hK.out _ _ (HSS.out _ HM29.out.bel) (fun h29 => ?_)
          clear hK K h28
          refine hd_take 10 (some 51) (.pointer (some ⟨y, 0, none⟩)) rfl rfl (by kernel_rfl) (by kernel_rfl) (by kernel_rfl) (fun _ _ _ h => h) (Or.inl ⟨by rfl, fun w hw => by go_simp⟩) h29 ?_
          simp only [Act.put, List.setIfInBounds_toArray, List.set_cons_zero, List.set_cons_succ]
          refine hd_take 11 (some 52) (.pointer (some ⟨y, 0, none⟩)) rfl rfl (by kernel_rfl) (by kernel_rfl) (by kernel_rfl) (fun _ _ _ h => h) (Or.inl ⟨by rfl, fun w hw => by go_simp⟩) h29 ?_
          simp only [Act.put, List.setIfInBounds_toArray, List.set_cons_zero, List.set_cons_succ]
          have hcy := HCY.out _ HM29.out.bel
          have hfy := HF0.out _ HM29.out.bel
          have HE := Lib.hid (HEnd.out _ _ _ HM29.out)
          have HR0 := Lib.hid (HSS.out _ HM29.out.bel)
          refine wpAnyH_ready (rs := [12]) (by kernel_rfl) (by simp) (AllReadyH.cons rfl (fun K hK => ?_) AllReadyH.nil)
          go_simp
          clear hcy hfy
          refine hK.out _ _ (range_set HR0.out HGy.out _) (fun h9 => ?_)
          clear hK K
          refine wpAnyH_done (by kernel_rfl) ?_ _
          clear h9 HR0
          go_wp2_with fail
          go_ret
          exact HE.out.fin HAS.out HA2.out
        · skip
          have hcy := HCY.out _ HB25.out
          go_simp
          clear hcy
          refine hK.out _ _ (HSS.out _ HB25.out) (fun h30 => ?_)
          clear hK K h25
          refine wpAnyH_ready (rs := [1]) (by kernel_rfl) (by simp) (AllReadyH.cons rfl (fun K hK => ?_) AllReadyH.nil)
          go_simp
          have HM31 := Lib.hid (MidU.start (w0 := wd) HB25.out)
          have HS31 := Lib.hid (HS25.out.below ((Below.refl _ _).alloc (Nat.le_refl _) (.cells #[] 23)))
          have HNe31 := Lib.hid (show wd.heap.size ≠ wx25.heap.size from Nat.ne_of_lt HBl25.out)
          have HEl31 := Lib.hid (show wx25.heap.size < (wx25.alloc (.cells #[] 23)).heap.size by simp)
          refine hK.out _ _ (HSS.out _ HM31.out.bel) (fun h31 => ?_)
          clear hK K h30
          generalize wx25.alloc (.cells #[] 23) = wx31 at *
          refine wpAnyH_ready (rs := [6]) (by kernel_rfl) (by simp) (AllReadyH.cons rfl (fun K hK => ?_) AllReadyH.nil)
          refine wp_appU (.tmp 42) (.tmp 46) rfl wd.heap.size (.slice (some ⟨wx25.heap.size, 0, none⟩) 0 0) [] rfl HM31.out.own A0 N c0 L rfl HNN.out (HSL.out _ HM31.out.bel) (by rw [← HNN.out]; simp only [List.length_nil]; omega) HM31.out.bel.size ?_
          intro v32 wx32 ho hg
          rw [List.nil_append] at ho
          have HM32 := Lib.hid (HM31.out.app ho.out hg.out)
          have HS32 := Lib.hid (HS31.out.grown hg.out (fun x hx => by injection hx with hx; subst hx; intro he; injection he with he; exact HNe31.out he))
          clear ho hg
          refine hK.out _ _ (HSS.out _ HM32.out.bel) (fun h32 => ?_)
          clear hK K h31
          refine wpAnyH_ready (rs := [9]) (by kernel_rfl) (by simp) (AllReadyH.cons rfl (fun K hK => ?_) AllReadyH.nil)
          refine wp_appU (.tmp 47) (.tmp 49) rfl wd.heap.size v32 L rfl HM32.out.own (some ⟨wd.heap.size, 0, none⟩) 1 1 [r] rfl rfl HS32.out (by rw [← HNN.out]; simp only [List.length_cons, List.length_nil]; omega) HM32.out.bel.size ?_
          intro v33 wx33 ho hg
          have hM := HM32.out.app ho.out hg.out
          clear ho hg
          obtain ⟨A2, c2, hv2, _, _⟩ := hM.own.src
          have hv3 : v33 = .slice A2 (N + 1) c2 := by rw [hv2, List.length_append, ← HNN.out]; rfl
          subst hv3
          have HM33 := Lib.hid hM
          clear hv2 hM
          refine hK.out _ _ (HSS.out _ HM33.out.bel) (fun h33 => ?_)
          clear hK K h32
          refine hd_take 10 (some 51) (.pointer (some ⟨y, 0, none⟩)) rfl rfl (by kernel_rfl) (by kernel_rfl) (by kernel_rfl) (fun _ _ _ h => h) (Or.inl ⟨by rfl, fun w hw => by go_simp⟩) h33 ?_
          simp only [Act.put, List.setIfInBounds_toArray, List.set_cons_zero, List.set_cons_succ]
          refine hd_take 11 (some 52) (.pointer (some ⟨y, 0, none⟩)) rfl rfl (by kernel_rfl) (by kernel_rfl) (by kernel_rfl) (fun _ _ _ h => h) (Or.inl ⟨by rfl, fun w hw => by go_simp⟩) h33 ?_
          simp only [Act.put, List.setIfInBounds_toArray, List.set_cons_zero, List.set_cons_succ]
          have hcy := HCY.out _ HM33.out.bel
          have hfy := HF0.out _ HM33.out.bel
          have HE := Lib.hid (HEnd.out _ _ _ HM33.out)
          have HR0 := Lib.hid (HSS.out _ HM33.out.bel)
          refine wpAnyH_ready (rs := [12]) (by kernel_rfl) (by simp) (AllReadyH.cons rfl (fun K hK => ?_) AllReadyH.nil)
          go_simp
          clear hcy hfy
          refine hK.out _ _ (range_set HR0.out HGy.out _) (fun h9 => ?_)
          clear hK K
          refine wpAnyH_done (by kernel_rfl) ?_ _
          clear h9 HR0
          go_wp2_with fail
          go_ret
          exact HE.out.fin HAS.out HA2.out
end Go.Proofs.YtlpondbcnfaggaaGreatDoor.Tr
