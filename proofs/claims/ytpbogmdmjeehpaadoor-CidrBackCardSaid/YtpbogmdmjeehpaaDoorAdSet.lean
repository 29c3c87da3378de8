/-
  Contracts of package cidr's New, has, Add and Drop over this seat's translation.
-/
import Derived.Test.YtpbogmdmjeehpaaDoorAdKey
import Derived.Deep.Cut
namespace Go.Proofs.YtpbogmdmjeehpaaDoor.Ad
open Go.RowKit Go.Proofs.YtpbogmdmjeehpaaDoor.Wd Go.Maps

theorem undM : Tryd.prog.underlying 51 = some (.map 25 55) := by kernel_rfl
theorem zeroU (w : World) : (zeroValue 55).run Tryd.prog w = .ok (.agg #[]) w := by kernel_rfl
theorem new_any (w : World) : Calls Tryd.prog 8 #[] w fun e w' => e = .returned (.pointer (some ⟨w.heap.size + 1, 0, none⟩)) ∧ SetIs w' (w.heap.size + 1) w.heap.size 0 (.map []) [] ∧ Below w.heap.size w w' := by
  have hmm := @run_makeMap Tryd.prog
  go_enter Tryd.func8, Tryd.ntmps8
  go_wp2
  go_ret
  refine ⟨by simp, ⟨blk_at _ _ _ _ _ (by simp) rfl, (World.ownsMap_made w _ _ _).alloc _, fun kl => ?_, fun c h => (by cases h), List.nodup_nil, rfl⟩, ((Below.refl _ _).alloc (Nat.le_refl _) _).alloc (by simp) _⟩
  simp [Maps.has]
theorem go_ldg {ops : Array Oper} {rest : List Oper} {o : Oper} {a : Act} {w : World} {Q : Exit → Act → World → Prop} {x : Operand} {g t n : Nat} {C : Array Value} {d : TypeDesc} (ty : TypeId) (hb : Blk w g t C) (hu : Tryd.prog.underlying ty = some d)
    (hd : d.isRow = true) (hi : (Tryd.prog.info? ty).map (·.size) = some n) (hn : C.size = n) (hw : Region.wanted o (yielded ops a.tmps) = true) (ho : o.op = .load ty x)
    (hx : a.eval x = .pointer (some ⟨g, 0, none⟩)) (h : wpList Tryd.prog ops Q rest (a.put o.dst (.agg C)) w) : wpList Tryd.prog ops Q (o :: rest) a w := by
  show if Region.wanted o (yielded ops a.tmps) = true then _ else _
  rw [if_pos hw]
  exact .inl (wp_load_row ty x ho g hx t C (0, 0) d hb hu (by cases d <;> first | rfl | cases hd) (by rw [hi, hn]) h)
theorem set_lk {w : World} {s b n : Nat} {D : DataW Unit} {L : List C} (h : SetIs w s b n D L) (c : C) (hc : OkC c) : (Instr.lookup 51 (.map (some b)) (.agg c.cells) true).run Tryd.prog w = .ok (.tuple #[.agg #[], .bool (decide (c ∈ L))]) w := by
  obtain ⟨v, ps, hrun, hv⟩ := h.own.look_ok keyedC undM (zeroU w) unitElem_mk (keyC c hc)
  obtain ⟨rfl, _⟩ := unitElem_inv hv
  rw [h.in_ c hc] at hrun
  exact hrun
theorem set_cell {w : World} {s b n : Nat} {D : DataW Unit} {L : List C} (h : SetIs w s b n D L) : w.cell? ⟨s, 0, none⟩ = some (.map (some b)) := by
  rw [h.cell.cell]; rfl

set_option linter.unusedSimpArgs false in
set_option maxRecDepth 100000 in
set_option maxHeartbeats 2000000 in
theorem shas_any {s b n : Nat} {D : DataW Unit} {L : List C} (c : C) (hc : OkC c) (w : World) (hS : SetIs w s b n D L) :
    Calls Tryd.prog 23 #[.pointer (some ⟨s, 0, none⟩), .agg c.cells] w fun e w' => e = .returned (.bool (decide (c ∈ L))) ∧ Below w.heap.size w w' := by
  have hi17 : (Tryd.prog.info? 25).map (·.size) = some (cL c).length := by rw [cL_len c hc.len]; exact info17
  have hlk := fun w (h : SetIs w s b n D L) => set_lk h c hc
  have HLK := Lib.hid hlk
  clear hlk
  go_enter Tryd.func23, Tryd.ntmps23
  go_wp2_with fail
  have b0 := Blk.new w 25 c.cells
  have hbel : Below w.heap.size w (w.alloc (.cells c.cells 25)) := (Below.refl _ _).alloc (Nat.le_refl _) _
  have s1 := hS.on hbel
  generalize w.alloc (.cells c.cells 25) = w1 at *
  generalize hG : w.heap.size = G at *
  have HL := Lib.hid hbel
  have HA := Lib.hid (And.intro (rangeC (w := w1.drew) b0) (s1.on (w' := w1.drew) (Below.refl _ _).drew))
  have HB : Hid (Blk w1.drew G 25 c.cells) := b0
  generalize hR : decide (c ∈ L) = R at HLK
  have HR := Lib.hid hR
  clear hR
  clear b0 hbel s1 hS
  refine wp_region_held_drew (S := fun w' => w'.rangeAt G 0 (cL c) ∧ SetIs w' s b n D L) (by kernel_rfl) HA.out (fun h0 => ?_)
  refine hd_take 0 (some 8) (.pointer (some ⟨s, 0, none⟩)) rfl rfl (by kernel_rfl) (by kernel_rfl) (by kernel_rfl) (fun _ _ _ h => h) (Or.inl ⟨by rfl, fun w hw => by go_simp⟩) h0 ?_
  simp only [Act.put, List.setIfInBounds_toArray, List.set_cons_zero, List.set_cons_succ]
  refine hd_take 1 (some 9) (.pointer (some ⟨s, 0, none⟩)) rfl rfl (by kernel_rfl) (by kernel_rfl) (by kernel_rfl) (fun _ _ _ h => h) (Or.inl ⟨by rfl, fun w hw => by go_simp⟩) h0 ?_
  simp only [Act.put, List.setIfInBounds_toArray, List.set_cons_zero, List.set_cons_succ]
  refine hd_take 2 (some 10) (.pointer (some ⟨s, 0, none⟩)) rfl rfl (by kernel_rfl) (by kernel_rfl) (by kernel_rfl) (fun _ _ _ h => h) (Or.inl ⟨by rfl, fun w hw => by go_simp⟩) h0 ?_
  simp only [Act.put, List.setIfInBounds_toArray, List.set_cons_zero, List.set_cons_succ]
  refine hd_take 3 (some 11) (.map (some b)) rfl rfl (by kernel_rfl) (by kernel_rfl) (by kernel_rfl) (fun _ _ _ h => h) (Or.inl ⟨by rfl, fun w hw => by have h16 := set_cell hw.2; go_simp⟩) h0 ?_
  simp only [Act.put, List.setIfInBounds_toArray, List.set_cons_zero, List.set_cons_succ]
  refine hd_take 4 (some 12) (.agg c.cells) rfl rfl (by kernel_rfl) (by kernel_rfl) (by kernel_rfl) (fun _ _ _ h => h) (yieldsIf_load_mid (by rfl) _ _ rfl G 0 rfl (cL c) _ (fun _ h => h.1) und17 rfl hi17) h0 ?_
  simp only [Act.put, List.setIfInBounds_toArray, List.set_cons_zero, List.set_cons_succ]
  refine hd_take 5 (some 13) (.tuple #[.agg #[], .bool R]) rfl rfl (by kernel_rfl) (by kernel_rfl) (by kernel_rfl) (fun _ _ _ h => h) (Or.inl ⟨by rfl, fun w hw => by have h16 := HLK.out w hw.2; go_simp⟩) h0 ?_
  simp only [Act.put, List.setIfInBounds_toArray, List.set_cons_zero, List.set_cons_succ]
  refine hd_take 6 (some 7) (.tuple #[.agg #[], .bool R]) rfl rfl (by kernel_rfl) (by kernel_rfl) (by kernel_rfl) (fun _ _ _ h => h) (Or.inl ⟨by rfl, fun w hw => by go_simp⟩) h0 ?_
  simp only [Act.put, List.setIfInBounds_toArray, List.set_cons_zero, List.set_cons_succ]
  refine hd_take 7 (some 14) (.agg #[]) rfl rfl (by kernel_rfl) (by kernel_rfl) (by kernel_rfl) (fun _ _ _ h => h) (Or.inl ⟨by rfl, fun w hw => by go_simp⟩) h0 ?_
  simp only [Act.put, List.setIfInBounds_toArray, List.set_cons_zero, List.set_cons_succ]
  refine hd_take 8 (some 15) (.bool R) rfl rfl (by kernel_rfl) (by kernel_rfl) (by kernel_rfl) (fun _ _ _ h => h) (Or.inl ⟨by rfl, fun w hw => by go_simp⟩) h0 ?_
  simp only [Act.put, List.setIfInBounds_toArray, List.set_cons_zero, List.set_cons_succ]
  refine wpAnyH_ready (rs := [9]) (by kernel_rfl) (by simp) (AllReadyH.cons rfl (fun K hK => ?_) AllReadyH.nil)
  go_simp
  refine hK.out _ _ ⟨rangeC (HB.out.alloc _), HA.out.2.on ((Below.refl _ _).alloc (Nat.le_refl _) _)⟩ (fun h2 => ?_)
  clear hK K
  refine wpAnyH_ready (rs := [10]) (by kernel_rfl) (by simp) (AllReadyH.cons rfl (fun K hK => ?_) AllReadyH.nil)
  go_simp
  refine hK.out _ _ (by first | exact h2 | exact ⟨rangeC (HB.out.alloc _), HA.out.2.on ((Below.refl _ _).alloc (Nat.le_refl _) _)⟩) (fun h3 => ?_)
  clear hK K
  refine hd_take 11 (some 6) (.bool R) rfl rfl (by kernel_rfl) (by kernel_rfl) (by kernel_rfl) (fun _ _ _ h => h) (Or.inl ⟨by rfl, fun w hw => by go_simp⟩) h3 ?_
  simp only [Act.put, List.setIfInBounds_toArray, List.set_cons_zero, List.set_cons_succ]
  refine wpAnyH_done (by kernel_rfl) ?_ _
  go_wp2_with fail
  go_ret
  refine ⟨by rw [HR.out]; rfl, ?_⟩
  rw [hG]
  exact HL.out.trans (((Below.refl _ _).drew.alloc (Nat.le_refl _) _).mono (by show G ≤ w1.heap.size; have := HB.out.lt; have : G < w1.heap.size := this; omega))

theorem set_put {w w' : World} {s b n : Nat} {D : DataW Unit} {L : List C} (h : SetIs w s b n D L) (c : C) (hc : OkC c) (hn : c ∉ L) (ho : w'.ownsMap Tryd.prog 25 (unitElem (H := Unit)) b (n + 1) (D.put (kC c) (.agg []))) (hg : w.grownBy w' (some b)) : SetIs w' s b (n + 1) (D.put (kC c) (.agg [])) (L ++ [c]) where
  cell := h.cell.grown hg (by intro e; injection e with e; exact h.ne e)
  own := ho
  has := fun kl => by
    by_cases hk : kl = kC c
    · subst hk
      rw [Maps.has_put_same h.own.isMap (kC_key c hc)]
      exact ⟨fun _ => ⟨c, by simp, rfl⟩, fun _ => rfl⟩
    · rw [Maps.has_put_other hk, h.has]
      constructor
      · rintro ⟨d, hd, he⟩; exact ⟨d, by simp [hd], he⟩
      · rintro ⟨d, hd, he⟩
        rcases List.mem_append.1 hd with hd | hd
        · exact ⟨d, hd, he⟩
        · simp at hd; subst hd; exact absurd he.symm hk
  ok := fun d hd => by
    rcases List.mem_append.1 hd with hd | hd
    · exact h.ok d hd
    · simp at hd; subst hd; exact hc
  nodup := by
    rw [List.nodup_append]
    exact ⟨h.nodup, by simp, fun a ha d hd e => by simp at hd; subst hd e; exact hn ha⟩
  size := by
    rw [Maps.size_put (h.own.tidy keyedC), h.in_ c hc, h.size]
    simp [hn]
theorem set_del {w w' : World} {s b n : Nat} {D : DataW Unit} {L : List C} (h : SetIs w s b n D L) (c : C) (hc : OkC c) (hn : c ∈ L) (ho : w'.ownsMap Tryd.prog 25 (unitElem (H := Unit)) b n (D.del (kC c))) (hg : w.grownBy w' (some b)) : SetIs w' s b n (D.del (kC c)) (L.erase c) where
  cell := h.cell.grown hg (by intro e; injection e with e; exact h.ne e)
  own := ho
  has := fun kl => by
    by_cases hk : kl = kC c
    · subst hk
      rw [Maps.has_del_same]
      constructor
      · intro h; cases h
      · rintro ⟨d, hd, he⟩
        obtain ⟨h1, h2⟩ := (List.Nodup.mem_erase_iff h.nodup).1 hd
        exact absurd (kC_inj (h.ok d h2) hc he) h1
    · rw [Maps.has_del_other hk, h.has]
      constructor
      · rintro ⟨d, hd, he⟩; exact ⟨d, (List.Nodup.mem_erase_iff h.nodup).2 ⟨by rintro rfl; exact hk he.symm, hd⟩, he⟩
      · rintro ⟨d, hd, he⟩; exact ⟨d, List.mem_of_mem_erase hd, he⟩
  ok := fun d hd => h.ok d (List.mem_of_mem_erase hd)
  nodup := h.nodup.erase c
  size := by
    have := Maps.size_del (k := kC c) (h.own.tidy keyedC)
    rw [h.in_ c hc, h.size] at this
    rw [List.length_erase_of_mem hn]
    simp [hn] at this
    omega
theorem SetIs.more {w : World} {s b n : Nat} {D : DataW Unit} {L : List C} (h : SetIs w s b n D L) : SetIs w s b (n + 1) D L := { h with own := h.own.mono (Nat.le_succ _) }
theorem SetIs.range {w w' : World} {g b : Nat} {l : List Value} (h : w.rangeAt g 0 l) (hg : w.grownBy w' (some b)) (hlt : g < w.heap.size) (hne : g ≠ b) : w'.rangeAt g 0 l := fun j v hv => by
  have := h j v hv
  have hb := hg.block g hlt (by intro e; injection e with e; exact hne e)
  unfold World.cell? at this ⊢
  simp only at this ⊢
  rw [hb]
  exact this
/-- what Add leaves -/
def addL (L : List C) (c : C) : List C := if rightS c = true ∧ c ∉ L then L ++ [c] else L
def addB (L : List C) (c : C) : Bool := rightS c && !decide (c ∈ L)
def SetPost (w : World) (s b n : Nat) (L' : List C) (r : Bool) (e : Ending) (w' : World) : Prop := e = .returned (.bool r) ∧ (∃ D', SetIs w' s b n D' L') ∧ w.grownBy w' (some b)

set_option linter.unusedSimpArgs false in
set_option maxRecDepth 100000 in
set_option maxHeartbeats 2000000 in
theorem sadd_any {s b n : Nat} {D : DataW Unit} {L : List C} (c : C) (hc : OkC c) (w : World) (hS : SetIs w s b n D L) (hn : n < maxLen) :
    Calls Tryd.prog 10 #[.pointer (some ⟨s, 0, none⟩), .agg c.cells] w (SetPost w s b (n + 1) (addL L c) (addB L c)) := by
  have hi17 : (Tryd.prog.info? 25).map (·.size) = some (cL c).length := by rw [cL_len c hc.len]; exact info17
  have h17 := C_size c hc.len
  go_enter Tryd.func10, Tryd.ntmps10
  go_upto_region 1 with fail
  have b0 := Blk.new w 25 c.cells
  have hbel : Below w.heap.size w (w.alloc (.cells c.cells 25)) := (Below.refl _ _).alloc (Nat.le_refl _) _
  have s1 := hS.on hbel
  have hbw := hS.own.lt
  generalize w.alloc (.cells c.cells 25) = w1 at *
  have S1 := Lib.hid s1
  clear s1 hS
  cases hr : rightS c with
  | false =>
    have H1 := Lib.hid (show addL L c = L by rw [addL, if_neg (by rw [hr]; simp)])
    have H2 := Lib.hid (show addB L c = false by rw [addB, hr]; rfl)
    have HR := Lib.hid hr
    clear hr
    go_wp2_with (refine go_ld 25 b0 und17 rfl info17 h17 rfl rfl rfl ?_)
    refine (right_any c hc.len _).mono ?_
    rintro e w2 ⟨rfl, hb2⟩
    rw [HR.out]
    have S2 := Lib.hid (S1.out.on hb2)
    have HL := Lib.hid (hbel.trans (hb2.mono hbel.size))
    clear hb2 hbel b0
    go_wp2_with fail
    go_ret
    exact ⟨by rw [H2.out]; rfl, ⟨D, by rw [H1.out]; exact S2.out.more⟩, only_of_below HL.out _⟩
  | true =>
    have HR := Lib.hid hr
    go_wp2_with (refine go_ld 25 b0 und17 rfl info17 h17 rfl rfl rfl ?_)
    refine (right_any c hc.len _).mono ?_
    rintro e w2 ⟨rfl, hb2⟩
    rw [HR.out]
    have S2 := Lib.hid (S1.out.on hb2)
    have hbel2 := hbel.trans (hb2.mono hbel.size)
    have b2 := b0.below hb2 b0.lt
    clear hb2 hbel b0
    go_wp2_with (refine go_ldg 25 b2 und17 rfl info17 h17 rfl rfl rfl ?_)
    refine (shas_any c hc _ S2.out).mono ?_
    rintro e w3 ⟨rfl, hb3⟩
    have S3 := Lib.hid (S2.out.on hb3)
    have HL := Lib.hid (hbel2.trans (hb3.mono hbel2.size))
    have b3 := b2.below hb3 b2.lt
    clear hb3 hbel2 b2
    by_cases hm : c ∈ L
    · have H1 := Lib.hid (show addL L c = L by rw [addL, if_neg (by simp [hm])])
      have H2 := Lib.hid (show addB L c = false by rw [addB]; simp [hm])
      rw [show decide (c ∈ L) = true from decide_eq_true hm]
      clear hm hr
      go_wp2_with fail
      go_ret
      exact ⟨by rw [H2.out]; rfl, ⟨D, by rw [H1.out]; exact S3.out.more⟩, only_of_below HL.out _⟩
    · have H1 := Lib.hid (show addL L c = L ++ [c] by rw [addL, if_pos ⟨hr, hm⟩])
      have H2 := Lib.hid (show addB L c = true by rw [addB, hr]; simp [hm])
      have HM := Lib.hid hm
      rw [show decide (c ∈ L) = false from decide_eq_false hm]
      clear hm hr
      go_upto_region 3 with fail
      have hcell := set_cell S3.out
      have HG := Lib.hid (And.intro (rangeC (w := w3.drew) b3) (show w3.drew.cell? ⟨s, 0, none⟩ = some (.map (some b)) from hcell))
      obtain ⟨w4, hrun, hown, hturn⟩ := (S3.out.own.drew).store keyedC undM hn (keyC c hc) (unitElem_mk (H := Unit))
      have hgr : w3.grownBy w4 (some b) := (only_of_below (Below.refl _ _).drew _).trans hturn.grown
      have S4 := Lib.hid (set_put S3.out c hc HM.out hown hgr)
      have hlt3 := b3.lt
      have HFIN : Hid (w.grownBy w4 (some b)) := only_trans (only_of_below HL.out _) hgr
      have HS4 : Hid (w4.rangeAt w.heap.size 0 (cL c) ∧ w4.cell? ⟨s, 0, none⟩ = some (.map (some b))) := ⟨SetIs.range HG.out.1 hturn.grown hlt3 (by omega), set_cell S4.out⟩
      clear hcell hown hturn hgr
      generalize hG : w.heap.size = G at *
      refine wp_region_held_drew (S := fun w' => w'.rangeAt G 0 (cL c) ∧ w'.cell? ⟨s, 0, none⟩ = some (.map (some b))) (by kernel_rfl) HG.out (fun h0 => ?_)
      refine hd_take 0 (some 13) (.pointer (some ⟨s, 0, none⟩)) rfl rfl (by kernel_rfl) (by kernel_rfl) (by kernel_rfl) (fun _ _ _ h => h) (Or.inl ⟨by rfl, fun w hw => by go_simp⟩) h0 ?_
      simp only [Act.put, List.setIfInBounds_toArray, List.set_cons_zero, List.set_cons_succ]
      refine hd_take 1 (some 14) (.pointer (some ⟨s, 0, none⟩)) rfl rfl (by kernel_rfl) (by kernel_rfl) (by kernel_rfl) (fun _ _ _ h => h) (Or.inl ⟨by rfl, fun w hw => by go_simp⟩) h0 ?_
      simp only [Act.put, List.setIfInBounds_toArray, List.set_cons_zero, List.set_cons_succ]
      refine hd_take 2 (some 15) (.pointer (some ⟨s, 0, none⟩)) rfl rfl (by kernel_rfl) (by kernel_rfl) (by kernel_rfl) (fun _ _ _ h => h) (Or.inl ⟨by rfl, fun w hw => by go_simp⟩) h0 ?_
      simp only [Act.put, List.setIfInBounds_toArray, List.set_cons_zero, List.set_cons_succ]
      refine hd_take 3 (some 16) (.map (some b)) rfl rfl (by kernel_rfl) (by kernel_rfl) (by kernel_rfl) (fun _ _ _ h => h) (Or.inl ⟨by rfl, fun w hw => by have h16 := hw.2; go_simp⟩) h0 ?_
      simp only [Act.put, List.setIfInBounds_toArray, List.set_cons_zero, List.set_cons_succ]
      refine hd_take 4 (some 17) (.agg c.cells) rfl rfl (by kernel_rfl) (by kernel_rfl) (by kernel_rfl) (fun _ _ _ h => h) (yieldsIf_load_mid (by rfl) _ _ rfl G 0 rfl (cL c) _ (fun _ h => h.1) und17 rfl hi17) h0 ?_
      simp only [Act.put, List.setIfInBounds_toArray, List.set_cons_zero, List.set_cons_succ]
      refine hd_take 5 (some 18) (.agg #[]) rfl rfl (by kernel_rfl) (by kernel_rfl) (by kernel_rfl) (fun _ _ _ h => h) (Or.inl ⟨by rfl, fun w hw => by go_simp⟩) h0 ?_
      simp only [Act.put, List.setIfInBounds_toArray, List.set_cons_zero, List.set_cons_succ]
      refine wpAnyH_ready (rs := [6]) (by kernel_rfl) (by simp) (AllReadyH.cons rfl (fun K hK => ?_) AllReadyH.nil)
      go_simp
      refine hK.out _ _ HS4.out (fun h4 => ?_)
      clear hK K
      refine wpAnyH_done (by kernel_rfl) ?_ _
      go_wp2_with fail
      go_ret
      exact ⟨by rw [H2.out]; rfl, ⟨_, by rw [H1.out]; exact S4.out⟩, HFIN.out⟩
end Go.Proofs.YtpbogmdmjeehpaaDoor.Ad
