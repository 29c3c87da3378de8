/-
  Contracts of package policy's says, ruleLine and pinLine over this seat's translation: the words of a line, in a row. No condition but numbers of 64 bits.
-/
import Derived.Test.YtlpondbcnfaggaaGreatDoorR43
import Derived.Test.YtlpondbcnfaggaaGreatDoorR07
import Derived.Test.YtlpondbcnfaggaaGreatDoorR29
import Derived.Test.YtlpondbcnfaggaaGreatDoorR16
import Derived.Shelf.Strings.OnBuilder
namespace Go.Proofs.YtlpondbcnfaggaaGreatDoor.Po
open Go.RowKit Go.Shelf Go.Proofs.YtlpondbcnfaggaaGreatDoor.Wd Go.Proofs.YtlpondbcnfaggaaGreatDoor.Asc Go.Proofs.YtlpondbcnfaggaaGreatDoor.Tx Go.Proofs.YtlpondbcnfaggaaGreatDoor.St Go.Proofs.YtlpondbcnfaggaaGreatDoor.Tr Go.Proofs.YtlpondbcnfaggaaGreatDoor.Te Go.Maps

/-- strings, as elements of a row -/
def elS : El (List UInt8) := ⟨9, 1, fun l => [.string (str l)]⟩
theorem fineS : elS.Fine 30 (.string .empty) 16 := ⟨Tryz.underlying30, by kernel_rfl, rfl, Nat.one_pos, fun _ => rfl, fun x v h => by
  simp [elS] at h; subst h; rfl⟩
section
variable {α : Type} {e : El α} {sl : TypeId} {z : Value} {bytes : Nat}
theorem src_flat (F : e.Fine sl z bytes) {w : World} {g t : Nat} {C : Array Value} {l : List α} (h : Blk w g t C) (hC : C.toList = flat e l) : SrcE w e (some ⟨g, 0, none⟩) l := fun i x hx => by
  refine ⟨g, 0, rfl, h.lt, fun j v hj => ?_⟩
  rw [Nat.zero_add, h.cell, ← Array.getElem?_toList, hC]
  exact flat_at F l i x hx j v hj
theorem own_lit (F : e.Fine sl z bytes) (w : World) (C : Array Value) (l : List α) (hC : C.toList = flat e l) (B : Nat) (hB : B ≤ w.heap.size) (hl : l.length ≤ maxLen) : OwnE (w.alloc (.cells C e.ty)) e B (.slice (some ⟨w.heap.size, 0, none⟩) l.length l.length) l := by
  refine ⟨by rw [flat_len F], .inr ⟨w.heap.size, l.length, C, rfl, hB, heap_alloc_new w _, Nat.le_refl _, hl, by rw [← Array.length_toList, hC, flat_len F], ?_⟩⟩
  rw [hC, List.take_of_length_le (by rw [flat_len F]; exact Nat.le_refl _)]
end
/-- a line's words so far: the box that they are read from, the row -/
structure LnI (w : World) (G t : Nat) (C : Array Value) (v : Value) (l : List (List UInt8)) (ww : World) : Prop where
  box : Blk ww G t C
  own : OwnE ww elS w.heap.size v l
  bel : Below w.heap.size w ww
  nG : ∀ b, v.ownBlock = some b → b ≠ G
section
variable {w ww w' : World} {G t : Nat} {C : Array Value} {v : Value} {l : List (List UInt8)}
theorem LnI.on (h : LnI w G t C v l ww) (hb : Below ww.heap.size ww w') : LnI w G t C v l w' := ⟨h.box.below hb h.box.lt, h.own.below hb, h.bel.trans (hb.mono h.bel.size), h.nG⟩
theorem LnI.app {v' : Value} {m : List (List UInt8)} (h : LnI w G t C v l ww) (ht : t ≠ 9) (ho : OwnE w' elS w.heap.size v' m) (hg : ww.grownBy w' v.ownBlock) : LnI w G t C v' m w' := by
  have k : But v.ownBlock.toList ww w' := but_grown hg
  have hb : Blk w' G t C := h.box.but k (fun hm => h.nG G (Option.mem_toList.1 hm) rfl)
  refine ⟨hb, ho, h.bel.trans (k.below (fun i hi => h.own.ge i (Option.mem_toList.1 hi)) h.bel.size), fun b hv e => ?_⟩
  obtain ⟨cur, hc⟩ := ho.typ b hv
  exact hb.ne_ hc ht e.symm
end
set_option maxRecDepth 100000 in
theorem says_any (b : Bool) (w : World) : Calls Tryz.prog 65 #[.bool b] w fun e w' => e = .returned (.string (str (verb b))) ∧ w = w' := by
  cases b <;>
  · go_enter Tryz.func65, Tryz.ntmps65
    go_wp2_with fail
    go_ret
    exact ⟨rfl, rfl⟩
def ruPort (r : Ru) : List (List UInt8) := if r.po ≠ 0 then [kPort, Lib.itoa r.po] else []
def ruAlpn (r : Ru) : List (List UInt8) := if r.ap ≠ [] then [kAlpn, r.ap] else []
theorem ruleW_is (r : Ru) : ruleW r = [verb r.al, Lib.itoa r.pr, r.pa] ++ ruPort r ++ ruAlpn r := by
  unfold ruleW ruPort ruAlpn
  simp
def RowP (w : World) (l : List (List UInt8)) (e : Ending) (w' : World) : Prop := ∃ v, e = .returned v ∧ OwnE w' elS w.heap.size v l ∧ Below w.heap.size w w'
set_option linter.unusedSimpArgs false in
set_option maxRecDepth 100000 in
set_option maxHeartbeats 16000000 in
theorem ruleLine_any {B : Nat} {w : World} (hE : Ad.Env B w) (r : Ru) (hk : OkU r) : Calls Tryz.prog 66 #[.agg (ruC r)] w (RowP w (ruleW r)) := by
  have HW := Lib.hid (ruleW_is r)
  obtain ⟨w1, hw1⟩ : ∃ w1, w.alloc (.cells (ruC r) 23) = w1 := ⟨_, rfl⟩
  have hb1 : Below w.heap.size w w1 := by rw [← hw1]; exact (Below.refl _ _).alloc (Nat.le_refl _) _
  have hx1 : Blk w1 w.heap.size 23 (ruC r) := by rw [← hw1]; exact Blk.new w _ _
  have HW1 := Lib.hid hw1
  have HB1 := Lib.hid hb1
  have HX1 := Lib.hid hx1
  have HE := Lib.hid (fun w' (hb : Below w.heap.size w w') => hE.on hb)
  have HSy := Lib.hid (fun w' => says_any r.al w')
  have HI1 := Lib.hid (fun w' hE' => Ad.itoa_any (B := B) r.pr hk.p0 hk.p1 w' hE')
  have HI2 := Lib.hid (fun w' hE' => Ad.itoa_any (B := B) r.po hk.o0 hk.o1 w' hE')
  clear hw1 hb1 hx1 hE
  go_enter Tryz.func66, Tryz.ntmps66
  go_upto_region 1 with fail
  rw [HW1.out]
  obtain ⟨G, hG⟩ : ∃ G, w.heap.size = G := ⟨_, rfl⟩
  have HG := Lib.hid hG
  rw [hG] at HX1 ⊢
  clear hG HW1
  have hdr : Below w1.heap.size w1 w1.drew := (Below.refl _ _).drew
  have HXd := Lib.hid (HX1.out.below hdr HX1.out.lt)
  have HBd := Lib.hid (HB1.out.trans (hdr.mono HB1.out.size))
  clear hdr HX1 HB1
  refine wp_norm ?_
  refine wp_region_held_drew (S := fun w' => w'.cell? ⟨G, 0, none⟩ = some (.bool r.al) ∧ w'.cell? ⟨G, 1, none⟩ = some (.int .i64 r.pr) ∧ w'.cell? ⟨G, 2, none⟩ = some (.string (str r.pa))) (by kernel_rfl) ⟨HXd.out.cell 0, HXd.out.cell 1, HXd.out.cell 2⟩ (fun h0 => ?_)
  generalize w1.drew = w2 at *
  refine hd_take 0 (some 4) (.pointer (some ⟨G, 0, none⟩)) rfl rfl (by kernel_rfl) (by kernel_rfl) (by kernel_rfl) (fun _ _ _ h => nomatch h.1) (Or.inl ⟨by rfl, fun w hw => by go_simp⟩) h0 ?_
  simp only [Act.put, List.setIfInBounds_toArray, List.set_cons_zero, List.set_cons_succ]
  refine hd_take 1 (some 5) (.bool r.al) rfl rfl (by kernel_rfl) (by kernel_rfl) (by kernel_rfl) (fun _ _ _ h => nomatch h.1) (Or.inl ⟨by rfl, fun w hw => by have h9 := hw.1; go_simp⟩) h0 ?_
  simp only [Act.put, List.setIfInBounds_toArray, List.set_cons_zero, List.set_cons_succ]
  refine hd_take 3 (some 7) (.pointer (some ⟨G, 1, none⟩)) rfl rfl (by kernel_rfl) (by kernel_rfl) (by kernel_rfl) (fun _ _ _ h => nomatch h.1) (Or.inl ⟨by rfl, fun w hw => by go_simp⟩) h0 ?_
  simp only [Act.put, List.setIfInBounds_toArray, List.set_cons_zero, List.set_cons_succ]
  refine hd_take 4 (some 8) (.int .i64 r.pr) rfl rfl (by kernel_rfl) (by kernel_rfl) (by kernel_rfl) (fun _ _ _ h => nomatch h.1) (Or.inl ⟨by rfl, fun w hw => by have h9 := hw.2.1; go_simp⟩) h0 ?_
  simp only [Act.put, List.setIfInBounds_toArray, List.set_cons_zero, List.set_cons_succ]
  refine hd_take 6 (some 10) (.pointer (some ⟨G, 2, none⟩)) rfl rfl (by kernel_rfl) (by kernel_rfl) (by kernel_rfl) (fun _ _ _ h => nomatch h.1) (Or.inl ⟨by rfl, fun w hw => by go_simp⟩) h0 ?_
  simp only [Act.put, List.setIfInBounds_toArray, List.set_cons_zero, List.set_cons_succ]
  refine hd_take 7 (some 11) (.string (str r.pa)) rfl rfl (by kernel_rfl) (by kernel_rfl) (by kernel_rfl) (fun _ _ _ h => nomatch h.1) (Or.inl ⟨by rfl, fun w hw => by have h9 := hw.2.2; go_simp⟩) h0 ?_
  simp only [Act.put, List.setIfInBounds_toArray, List.set_cons_zero, List.set_cons_succ]
  refine wpAnyH_ready (rs := [2]) (by kernel_rfl) (by simp) (AllReadyH.cons rfl (fun K hK => ?_) AllReadyH.nil)
  go_simp
  refine (HSy.out _).mono ?_
  rintro e w3 ⟨rfl, rfl⟩
  refine hK.out _ _ ⟨HXd.out.cell 0, HXd.out.cell 1, HXd.out.cell 2⟩ (fun h1 => ?_)
  clear hK K h0
  refine wpAnyH_ready (rs := [5]) (by kernel_rfl) (by simp) (AllReadyH.cons rfl (fun K hK => ?_) AllReadyH.nil)
  go_simp
  refine (HI1.out _ (HE.out _ HBd.out)).mono ?_
  rintro e w4 ⟨rfl, hb4⟩
  have HX4 := Lib.hid (HXd.out.below hb4 HXd.out.lt)
  have HB4 := Lib.hid (HBd.out.trans (hb4.mono HBd.out.size))
  refine hK.out _ _ ⟨HX4.out.cell 0, HX4.out.cell 1, HX4.out.cell 2⟩ (fun h2 => ?_)
  clear hK K h1 hb4 HXd HBd
  refine wpAnyH_ready (rs := [8]) (by kernel_rfl) (by simp) (AllReadyH.cons rfl (fun K hK => ?_) AllReadyH.nil)
  go_simp
  have HL5 := Lib.hid (show LnI w G 23 (ruC r) (.slice (some ⟨w4.heap.size, 0, none⟩) 3 3) [verb r.al, Lib.itoa r.pr, r.pa] (w4.alloc (.cells #[.string (str (verb r.al)), .string (str (Lib.itoa r.pr)), .string (str r.pa)] 9)) from
    ⟨HX4.out.alloc _, own_lit fineS w4 _ [verb r.al, Lib.itoa r.pr, r.pa] rfl _ HB4.out.size (show 3 ≤ maxLen from by decide), HB4.out.alloc HB4.out.size _, fun b hb e => by
      have e2 : w4.heap.size = b := Option.some.inj hb
      have := HX4.out.lt
      omega⟩)
  refine hK.out _ (w4.alloc (.cells #[.string (str (verb r.al)), .string (str (Lib.itoa r.pr)), .string (str r.pa)] 9)) ⟨HL5.out.box.cell 0, HL5.out.box.cell 1, HL5.out.box.cell 2⟩ (fun h3 => ?_)
  clear hK K h2 HX4 HB4
  generalize w4.alloc (.cells #[.string (str (verb r.al)), .string (str (Lib.itoa r.pr)), .string (str r.pa)] 9) = w5 at *
  refine hd_take 9 (some 3) (.slice (some ⟨w4.heap.size, 0, none⟩) 3 3) rfl rfl (by kernel_rfl) (by kernel_rfl) (by kernel_rfl) (fun _ _ _ h => nomatch h.1) (Or.inl ⟨by rfl, fun w hw => by go_simp⟩) h3 ?_
  simp only [Act.put, List.setIfInBounds_toArray, List.set_cons_zero, List.set_cons_succ]
  refine wpAnyH_done (by kernel_rfl) ⟨rfl, ?_⟩ _
  clear h3
  generalize Value.slice (some ⟨w4.heap.size, 0, none⟩) 3 3 = v5 at *
  have c3 : w5.cell? ⟨G, 3, none⟩ = some (.int .i64 r.po) := HL5.out.box.cell 3
  by_cases hpo : r.po = 0
  · have HPo : Hid (ruPort r = []) := Lib.hid (by unfold ruPort; rw [hpo]; rfl)
    have hnz : (r.po != 0) = false := by rw [hpo]; rfl
    have c4 : w5.cell? ⟨G, 4, none⟩ = some (.string (str r.ap)) := HL5.out.box.cell 4
    by_cases hap : r.ap = []
    · have HAp : Hid (ruAlpn r = []) := Lib.hid (by unfold ruAlpn; rw [hap]; rfl)
      have hae : r.ap.isEmpty = true := by rw [hap]; rfl
      go_wp2_with fail
      go_ret
      exact ⟨_, rfl, by rw [HW.out, HPo.out, HAp.out]; rw [List.append_nil, List.append_nil]; exact HL5.out.own, HL5.out.bel⟩
    · have HAp : Hid (ruAlpn r = [kAlpn, r.ap]) := Lib.hid (by unfold ruAlpn; rw [if_pos hap])
      have hae : r.ap.isEmpty = false := by cases h : r.ap with | nil => exact absurd h hap | cons _ _ => rfl
      have hO := HL5.out.own
      have hsr : SrcE (w5.alloc (.cells #[.string ⟨#[97, 108, 112, 110]⟩, .string (str r.ap)] 9)) elS (some ⟨w5.heap.size, 0, none⟩) [kAlpn, r.ap] := src_flat fineS (Blk.new w5 9 #[.string ⟨#[97, 108, 112, 110]⟩, .string (str r.ap)]) rfl
      have hO2 := hO.alloc (.cells #[.string ⟨#[97, 108, 112, 110]⟩, .string (str r.ap)] 9)
      have HFm := Lib.hid (HL5.out.on ((Below.refl _ _).alloc (Nat.le_refl _) (.cells #[.string ⟨#[97, 108, 112, 110]⟩, .string (str r.ap)] 9)))
      have hB9 : w.heap.size ≤ (w5.alloc (.cells #[.string ⟨#[97, 108, 112, 110]⟩, .string (str r.ap)] 9)).heap.size := HFm.out.bel.size
      go_upto_region 6 with (refine wpList_appE fineS rfl (.tmp 25) (.tmp 28) rfl w.heap.size _ [verb r.al, Lib.itoa r.pr, r.pa] rfl hO2 (some ⟨w5.heap.size, 0, none⟩) 2 2 [kAlpn, r.ap] rfl rfl (by simp) hsr (by simp) (by decide) hB9 ?_)
      intro vHL9 wHL9 ho hg _
      have HL9 := Lib.hid (HFm.out.app (by decide) ho.out hg.out)
      clear ho hg hO hsr hO2 HFm hB9
      go_wp2_with fail
      go_ret
      exact ⟨_, rfl, by rw [HW.out, HPo.out, HAp.out]; rw [List.append_nil]; exact HL9.out.own, HL9.out.bel⟩
  · have HPo : Hid (ruPort r = [kPort, Lib.itoa r.po]) := Lib.hid (by unfold ruPort; rw [if_pos hpo])
    have hnz : (r.po != 0) = true := by rw [bne_iff_ne]; exact hpo
    go_wp2_with fail
    refine (HI2.out _ (HE.out _ HL5.out.bel)).mono ?_
    rintro e wHL6 ⟨rfl, hb6⟩
    have HL6 := Lib.hid (HL5.out.on hb6)
    clear hb6 c3
    have hO := HL6.out.own
    have hsr : SrcE (wHL6.alloc (.cells #[.string ⟨#[112, 111, 114, 116]⟩, .string (str (Lib.itoa r.po))] 9)) elS (some ⟨wHL6.heap.size, 0, none⟩) [kPort, Lib.itoa r.po] := src_flat fineS (Blk.new wHL6 9 #[.string ⟨#[112, 111, 114, 116]⟩, .string (str (Lib.itoa r.po))]) rfl
    have hO2 := hO.alloc (.cells #[.string ⟨#[112, 111, 114, 116]⟩, .string (str (Lib.itoa r.po))] 9)
    have HFm := Lib.hid (HL6.out.on ((Below.refl _ _).alloc (Nat.le_refl _) (.cells #[.string ⟨#[112, 111, 114, 116]⟩, .string (str (Lib.itoa r.po))] 9)))
    have hB9 : w.heap.size ≤ (wHL6.alloc (.cells #[.string ⟨#[112, 111, 114, 116]⟩, .string (str (Lib.itoa r.po))] 9)).heap.size := HFm.out.bel.size
    go_upto_region 4 with (refine wpList_appE fineS rfl (.tmp 16) (.tmp 20) rfl w.heap.size _ [verb r.al, Lib.itoa r.pr, r.pa] rfl hO2 (some ⟨wHL6.heap.size, 0, none⟩) 2 2 [kPort, Lib.itoa r.po] rfl rfl (by simp) hsr (by simp) (by decide) hB9 ?_)
    intro vHL7 wHL7 ho hg _
    have HL7 := Lib.hid (HFm.out.app (by decide) ho.out hg.out)
    clear ho hg hO hsr hO2 HFm hB9
    have c4 : wHL7.cell? ⟨G, 4, none⟩ = some (.string (str r.ap)) := HL7.out.box.cell 4
    by_cases hap : r.ap = []
    · have HAp : Hid (ruAlpn r = []) := Lib.hid (by unfold ruAlpn; rw [hap]; rfl)
      have hae : r.ap.isEmpty = true := by rw [hap]; rfl
      go_wp2_with fail
      go_ret
      exact ⟨_, rfl, by rw [HW.out, HPo.out, HAp.out]; rw [List.append_nil]; exact HL7.out.own, HL7.out.bel⟩
    · have HAp : Hid (ruAlpn r = [kAlpn, r.ap]) := Lib.hid (by unfold ruAlpn; rw [if_pos hap])
      have hae : r.ap.isEmpty = false := by cases h : r.ap with | nil => exact absurd h hap | cons _ _ => rfl
      have hO := HL7.out.own
      have hsr : SrcE (wHL7.alloc (.cells #[.string ⟨#[97, 108, 112, 110]⟩, .string (str r.ap)] 9)) elS (some ⟨wHL7.heap.size, 0, none⟩) [kAlpn, r.ap] := src_flat fineS (Blk.new wHL7 9 #[.string ⟨#[97, 108, 112, 110]⟩, .string (str r.ap)]) rfl
      have hO2 := hO.alloc (.cells #[.string ⟨#[97, 108, 112, 110]⟩, .string (str r.ap)] 9)
      have HFm := Lib.hid (HL7.out.on ((Below.refl _ _).alloc (Nat.le_refl _) (.cells #[.string ⟨#[97, 108, 112, 110]⟩, .string (str r.ap)] 9)))
      have hB9 : w.heap.size ≤ (wHL7.alloc (.cells #[.string ⟨#[97, 108, 112, 110]⟩, .string (str r.ap)] 9)).heap.size := HFm.out.bel.size
      go_upto_region 6 with (refine wpList_appE fineS rfl (.tmp 25) (.tmp 28) rfl w.heap.size _ ([verb r.al, Lib.itoa r.pr, r.pa] ++ [kPort, Lib.itoa r.po]) rfl hO2 (some ⟨wHL7.heap.size, 0, none⟩) 2 2 [kAlpn, r.ap] rfl rfl (by simp) hsr (by simp) (by decide) hB9 ?_)
      intro vHL9 wHL9 ho hg _
      have HL9 := Lib.hid (HFm.out.app (by decide) ho.out hg.out)
      clear ho hg hO hsr hO2 HFm hB9
      go_wp2_with fail
      go_ret
      exact ⟨_, rfl, by rw [HW.out, HPo.out, HAp.out]; exact HL9.out.own, HL9.out.bel⟩
end Go.Proofs.YtlpondbcnfaggaaGreatDoor.Po

/-
  Contract of package policy's pinLine over this seat's translation: the words of a pin's line, in a row. No condition but numbers of 64 bits.
-/
namespace Go.Proofs.YtlpondbcnfaggaaGreatDoor.Po
open Go.RowKit Go.Shelf Go.Proofs.YtlpondbcnfaggaaGreatDoor.Wd Go.Proofs.YtlpondbcnfaggaaGreatDoor.Asc Go.Proofs.YtlpondbcnfaggaaGreatDoor.Tx Go.Proofs.YtlpondbcnfaggaaGreatDoor.St Go.Proofs.YtlpondbcnfaggaaGreatDoor.Tr Go.Proofs.YtlpondbcnfaggaaGreatDoor.Te Go.Maps

/-- a pin's three words -/
def pinH (x : Pn) : List (List UInt8) := [kPin, x.nm, Ad.cprintS (Ad.ctext x.ci.a) x.ci]
def pnUnt (x : Pn) : List (List UInt8) := if x.un ≠ 0 then [kUntil, Lib.itoa x.un] else []
theorem pinW_is (x : Pn) : pinW x = pinH x ++ pnUnt x := by
  unfold pinW pinH pnUnt
  simp
set_option linter.unusedSimpArgs false in
set_option maxRecDepth 100000 in
set_option maxHeartbeats 16000000 in
theorem pinLine_any {B : Nat} {w : World} (hE : Ad.Env B w) (x : Pl) (hk : OkP x) : Calls Tryz.prog 67 #[.agg (pnC x.1)] w (RowP w (pinW x.1)) := by
  have HW := Lib.hid (pinW_is x.1)
  have h19 := pnC_size x
  obtain ⟨w1, hw1⟩ : ∃ w1, w.alloc (.cells (pnC x.1) 97) = w1 := ⟨_, rfl⟩
  have hb1 : Below w.heap.size w w1 := by rw [← hw1]; exact (Below.refl _ _).alloc (Nat.le_refl _) _
  have hx1 : Blk w1 w.heap.size 97 (pnC x.1) := by rw [← hw1]; exact Blk.new w _ _
  have HW1 := Lib.hid hw1
  have HB1 := Lib.hid hb1
  have HX1 := Lib.hid hx1
  have HE := Lib.hid (fun w' (hb : Below w.heap.size w w') => hE.on hb)
  obtain ⟨T, hT⟩ : ∃ T, Ad.cprintS (Ad.ctext x.1.ci.a) x.1.ci = T := ⟨_, rfl⟩
  have HPr := Lib.hid (fun w' (hE' : Ad.Env B w') => show Calls Tryz.prog 111 #[.agg x.1.ci.cells] w' fun e w'' => e = .returned (.string (str T)) ∧ Below w'.heap.size w' w'' from by
    rw [← hT]
    exact Ad.cprint_any x.1.ci x.2 hk.c0 hk.c1 (Ad.ctext x.1.ci.a) (Ad.ctext_len x.1.ci.a x.2) w' hE' (fun w1 h1 => Ad.print_any x.1.ci.a x.2 w1 h1))
  have HI2 := Lib.hid (fun w' hE' => Ad.itoa_any (B := B) x.1.un hk.u0 hk.u1 w' hE')
  have HH := Lib.hid (show pinH x.1 = [kPin, x.1.nm, T] from by unfold pinH; rw [hT])
  have hci : (Tryz.prog.info? 95).map (·.size) = some x.1.ci.cells.toList.length := by rw [Array.length_toList, Ad.C_size _ x.2]; exact Ad.info17
  clear hw1 hb1 hx1 hE hT
  go_enter Tryz.func67, Tryz.ntmps67
  go_upto_region 1 with fail
  rw [HW1.out]
  obtain ⟨G, hG⟩ : ∃ G, w.heap.size = G := ⟨_, rfl⟩
  rw [hG] at HX1 ⊢
  clear hG HW1
  have hdr : Below w1.heap.size w1 w1.drew := (Below.refl _ _).drew
  have HXd := Lib.hid (HX1.out.below hdr HX1.out.lt)
  have HBd := Lib.hid (HB1.out.trans (hdr.mono HB1.out.size))
  clear hdr HX1 HB1
  refine wp_norm ?_
  refine wp_region_held_drew (S := fun w' => w'.cell? ⟨G, 0, none⟩ = some (.string (str x.1.nm)) ∧ w'.rangeAt G 1 x.1.ci.cells.toList) (by kernel_rfl) ⟨HXd.out.cell 0, ci_range HXd.out⟩ (fun h0 => ?_)
  generalize w1.drew = w2 at *
  refine hd_take 0 (some 4) (.pointer (some ⟨G, 0, none⟩)) rfl rfl (by kernel_rfl) (by kernel_rfl) (by kernel_rfl) (fun _ _ _ h => nomatch h.1) (Or.inl ⟨by rfl, fun w hw => by go_simp⟩) h0 ?_
  simp only [Act.put, List.setIfInBounds_toArray, List.set_cons_zero, List.set_cons_succ]
  refine hd_take 1 (some 5) (.string (str x.1.nm)) rfl rfl (by kernel_rfl) (by kernel_rfl) (by kernel_rfl) (fun _ _ _ h => nomatch h.1) (Or.inl ⟨by rfl, fun w hw => by have h9 := hw.1; go_simp⟩) h0 ?_
  simp only [Act.put, List.setIfInBounds_toArray, List.set_cons_zero, List.set_cons_succ]
  refine hd_take 2 (some 6) (.pointer (some ⟨G, 1, none⟩)) rfl rfl (by kernel_rfl) (by kernel_rfl) (by kernel_rfl) (fun _ _ _ h => nomatch h.1) (Or.inl ⟨by rfl, fun w hw => by go_simp⟩) h0 ?_
  simp only [Act.put, List.setIfInBounds_toArray, List.set_cons_zero, List.set_cons_succ]
  refine hd_take 3 (some 7) (.agg x.1.ci.cells) rfl rfl (by kernel_rfl) (by kernel_rfl) (by kernel_rfl) (fun _ _ _ h => nomatch h.1) (yieldsIf_load_mid (by rfl) _ _ rfl G 1 rfl x.1.ci.cells.toList _ (fun _ h => h.2) Ad.und17 rfl hci) h0 ?_
  simp only [Act.put, List.setIfInBounds_toArray, List.set_cons_zero, List.set_cons_succ]
  refine wpAnyH_ready (rs := [4]) (by kernel_rfl) (by simp) (AllReadyH.cons rfl (fun K hK => ?_) AllReadyH.nil)
  go_simp
  refine (HPr.out _ (HE.out _ HBd.out)).mono ?_
  rintro e w4 ⟨rfl, hb4⟩
  have HX4 := Lib.hid (HXd.out.below hb4 HXd.out.lt)
  have HB4 := Lib.hid (HBd.out.trans (hb4.mono HBd.out.size))
  refine hK.out _ _ ⟨HX4.out.cell 0, ci_range HX4.out⟩ (fun h2 => ?_)
  clear hK K h0 hb4 HXd HBd
  refine wpAnyH_ready (rs := [5]) (by kernel_rfl) (by simp) (AllReadyH.cons rfl (fun K hK => ?_) AllReadyH.nil)
  go_simp
  have HL5 := Lib.hid (show LnI w G 97 (pnC x.1) (.slice (some ⟨w4.heap.size, 0, none⟩) 3 3) [kPin, x.1.nm, T] (w4.alloc (.cells #[.string ⟨#[112, 105, 110]⟩, .string (str x.1.nm), .string (str T)] 9)) from
    ⟨HX4.out.alloc _, own_lit fineS w4 _ [kPin, x.1.nm, T] rfl _ HB4.out.size (show 3 ≤ maxLen from by decide), HB4.out.alloc HB4.out.size _, fun b hb e => by
      have e2 : w4.heap.size = b := Option.some.inj hb
      have := HX4.out.lt
      omega⟩)
  refine hK.out _ (w4.alloc (.cells #[.string ⟨#[112, 105, 110]⟩, .string (str x.1.nm), .string (str T)] 9)) ⟨HL5.out.box.cell 0, ci_range HL5.out.box⟩ (fun h3 => ?_)
  clear hK K h2 HX4 HB4
  generalize w4.alloc (.cells #[.string ⟨#[112, 105, 110]⟩, .string (str x.1.nm), .string (str T)] 9) = w5 at *
  refine hd_take 6 (some 3) (.slice (some ⟨w4.heap.size, 0, none⟩) 3 3) rfl rfl (by kernel_rfl) (by kernel_rfl) (by kernel_rfl) (fun _ _ _ h => nomatch h.1) (Or.inl ⟨by rfl, fun w hw => by go_simp⟩) h3 ?_
  simp only [Act.put, List.setIfInBounds_toArray, List.set_cons_zero, List.set_cons_succ]
  refine wpAnyH_done (by kernel_rfl) ⟨rfl, ?_⟩ _
  clear h3 hci
  generalize Value.slice (some ⟨w4.heap.size, 0, none⟩) 3 3 = v5 at *
  have c18 : w5.cell? ⟨G, 18, none⟩ = some (.int .i64 x.1.un) := (HL5.out.box.cell 18).trans (pn_18 x)
  by_cases hun : x.1.un = 0
  · have HU : Hid (pnUnt x.1 = []) := Lib.hid (by unfold pnUnt; rw [hun]; rfl)
    have hnz : (x.1.un != 0) = false := by rw [hun]; rfl
    go_wp2_with fail
    go_ret
    exact ⟨_, rfl, by rw [HW.out, HH.out, HU.out, List.append_nil]; exact HL5.out.own, HL5.out.bel⟩
  · have HU : Hid (pnUnt x.1 = [kUntil, Lib.itoa x.1.un]) := Lib.hid (by unfold pnUnt; rw [if_pos hun])
    have hnz : (x.1.un != 0) = true := by rw [bne_iff_ne]; exact hun
    go_wp2_with fail
    refine (HI2.out _ (HE.out _ HL5.out.bel)).mono ?_
    rintro e wHL6 ⟨rfl, hb6⟩
    have HL6 := Lib.hid (HL5.out.on hb6)
    clear hb6 c18
    have hO := HL6.out.own
    have hsr : SrcE (wHL6.alloc (.cells #[.string ⟨#[117, 110, 116, 105, 108]⟩, .string (str (Lib.itoa x.1.un))] 9)) elS (some ⟨wHL6.heap.size, 0, none⟩) [kUntil, Lib.itoa x.1.un] := src_flat fineS (Blk.new wHL6 9 #[.string ⟨#[117, 110, 116, 105, 108]⟩, .string (str (Lib.itoa x.1.un))]) rfl
    have hO2 := hO.alloc (.cells #[.string ⟨#[117, 110, 116, 105, 108]⟩, .string (str (Lib.itoa x.1.un))] 9)
    have HFm := Lib.hid (HL6.out.on ((Below.refl _ _).alloc (Nat.le_refl _) (.cells #[.string ⟨#[117, 110, 116, 105, 108]⟩, .string (str (Lib.itoa x.1.un))] 9)))
    have hB9 : w.heap.size ≤ (wHL6.alloc (.cells #[.string ⟨#[117, 110, 116, 105, 108]⟩, .string (str (Lib.itoa x.1.un))] 9)).heap.size := HFm.out.bel.size
    go_upto_region 4 with (refine wpList_appE fineS rfl (.tmp 13) (.tmp 17) rfl w.heap.size _ [kPin, x.1.nm, T] rfl hO2 (some ⟨wHL6.heap.size, 0, none⟩) 2 2 [kUntil, Lib.itoa x.1.un] rfl rfl (by simp) hsr (by simp) (by decide) hB9 ?_)
    intro vHL7 wHL7 ho hg _
    have HL7 := Lib.hid (HFm.out.app (by decide) ho.out hg.out)
    clear ho hg hO hsr hO2 HFm hB9
    go_wp2_with fail
    go_ret
    exact ⟨_, rfl, by rw [HW.out, HH.out, HU.out]; exact HL7.out.own, HL7.out.bel⟩
end Go.Proofs.YtlpondbcnfaggaaGreatDoor.Po

/-
  Contract of package policy's Print over this seat's translation: of a right policy it answers what printP says. Condition: a right policy.
-/
namespace Go.Proofs.YtlpondbcnfaggaaGreatDoor.Po
open Go.RowKit Go.Shelf Go.Proofs.YtlpondbcnfaggaaGreatDoor.Wd Go.Proofs.YtlpondbcnfaggaaGreatDoor.Asc Go.Proofs.YtlpondbcnfaggaaGreatDoor.Tx Go.Proofs.YtlpondbcnfaggaaGreatDoor.St Go.Proofs.YtlpondbcnfaggaaGreatDoor.Tr Go.Proofs.YtlpondbcnfaggaaGreatDoor.Te Go.Maps

/-! the builder -/
abbrev Bld (B b : Nat) (acc : List UInt8) (w : World) : Prop := Lib.IsBuilder 112 5 B b (Lib.byteCells acc) w
theorem bldAt_on {B b : Nat} {q : Value} {cs : List Value} {w w' : World} (h : Lib.BuilderAt 112 5 B b q cs w) (hb : Below w.heap.size w w') : Lib.BuilderAt 112 5 B b q cs w' := by
  obtain ⟨h1, v, h2, ⟨h3, h4⟩, h5⟩ := h
  have hlt : b < w.heap.size := (Array.getElem?_eq_some_iff.1 h2).1
  refine ⟨h1, v, (hb.block b hlt).trans h2, ⟨h3, ?_⟩, h5⟩
  rcases h4 with h4 | ⟨g, cap, cur, e, hg, hh, r⟩
  · exact .inl h4
  · exact .inr ⟨g, cap, cur, e, hg, (hb.block g (Array.getElem?_eq_some_iff.1 hh).1).trans hh, r⟩
theorem bld_on {B b : Nat} {acc : List UInt8} {w w' : World} (h : Bld B b acc w) (hb : Below w.heap.size w w') : Bld B b acc w' := h.imp (fun h => bldAt_on h hb) (fun h => bldAt_on h hb)
theorem bld_wr {B b : Nat} {acc : List UInt8} {w : World} (h : Bld B b acc w) (s : ByteArray) (hl : acc.length + s.size ≤ 140737488355328) (hB : B ≤ w.heap.size) :
    Calls Tryz.prog 63 #[.pointer (some ⟨b, 0, none⟩), .string s] w fun e w' => e = .returned (.tuple #[.int .i64 s.size, .nilIface]) ∧ Bld B b (acc ++ bs s) w' ∧ Below B w w' := by
  have hk : Calls Tryz.prog 63 #[.pointer (some ⟨b, 0, none⟩), .string s] w fun e w' => e = .returned (.tuple #[.int .i64 s.size, .nilIface]) ∧ (Lib.BuilderAt 112 5 B b (.pointer (some ⟨b, 0, none⟩)) (Lib.byteCells acc ++ Lib.strCells s) w' ∧ Below B w w') :=
    Any.Builder_WriteString { Tryz.lays156 with } Tryz.Builder_Extra_156 B b (Lib.byteCells acc) s w h (by rw [show (Lib.byteCells acc).length = acc.length by simp [Lib.byteCells]]; exact hl) hB
  refine hk.mono ?_
  rintro e w' ⟨h1, h2, h3⟩
  refine ⟨h1, .inr ?_, h3⟩
  rw [Lib.byteCells_append]
  exact h2
theorem line_join : ∀ ws : List (List UInt8), Lib.join ws [32] = lineW ws
  | [] => rfl
  | [w] => Lib.join_one w [32]
  | w :: v :: l => by
    have ih := line_join (v :: l)
    unfold Lib.join at ih ⊢
    show _ = w ++ 32 :: lineW (v :: l)
    rw [← ih]
    simp [List.intercalate]
theorem map_str (ws : List (List UInt8)) : (ws.map str).map (fun s => s.data.toList) = ws := by
  rw [List.map_map]
  exact List.map_id ws
set_option linter.unusedSimpArgs false in
set_option maxRecDepth 100000 in
set_option maxHeartbeats 8000000 in
theorem addLine_any {B : Nat} {w : World} {b : Nat} {acc : List UInt8} {v : Value} {ws : List (List UInt8)} (h : Bld B b acc w) (hB : B ≤ w.heap.size) (ho : OwnE w elS 0 v ws) (hne : ws ≠ []) (hl : acc.length + lenW ws ≤ 1000000) :
    Calls Tryz.prog 62 #[v, .pointer (some ⟨b, 0, none⟩)] w fun e w' => e = .returned (.tuple #[]) ∧ Bld B b (acc ++ (lineW ws ++ [10])) w' ∧ Below B w w' := by
  obtain ⟨A, c, hv, hc, _, hs⟩ := ho.src fineS
  obtain ⟨w0, hw0⟩ : ∃ w0, ws[0]? = some w0 := by
    cases ws with
    | nil => exact absurd rfl hne
    | cons x l => exact ⟨x, rfl⟩
  obtain ⟨g, o, rfl, hg, _⟩ := hs 0 w0 hw0
  have hLen : ws.length ≤ lenW ws := by
    clear hl hs ho h hv hc hne hw0
    induction ws with
    | nil => exact Nat.le_refl _
    | cons x l ih => rw [lenW_cons, List.length_cons]; omega
  have hline := lineW_len ws
  obtain ⟨n, hn⟩ : ∃ n, ws.length = n := ⟨_, rfl⟩
  have HJ := Lib.hid (show Calls Tryz.prog 64 #[.slice (some ⟨g, o, none⟩) n c, .string ⟨#[32]⟩] w fun e w' => e = .returned (.string (str (lineW ws))) ∧ Below w.heap.size w w' from by
    have hk := Tryz.strings_Join g o c (ws.map str) ⟨#[32]⟩ w (fun j x hx => by
      rw [List.getElem?_map, Option.map_eq_some_iff] at hx
      obtain ⟨y, hy, rfl⟩ := hx
      obtain ⟨g', o', hA, _, hc'⟩ := hs j y hy
      injection hA with hA
      injection hA with e1 e2
      subst e1 e2
      have := hc' 0 _ rfl
      rw [show o + (j * elS.n + 0) = o + j from by show o + (j * 1 + 0) = _; omega] at this
      exact this) hg (by rw [List.length_map]; omega) (by rw [List.length_map]; exact hc) (by
      rw [map_str]
      show (Lib.join ws [32]).length ≤ _
      rw [line_join]
      omega)
    rw [map_str, List.length_map, hn] at hk
    have e : Lib.join ws (⟨#[32]⟩ : ByteArray).data.toList = lineW ws := line_join ws
    rw [e] at hk
    exact hk)
  obtain ⟨L, hL⟩ : ∃ L, str (lineW ws) = L := ⟨_, rfl⟩
  have hLz : L.size ≤ 1000000 := by rw [← hL, str_size]; omega
  have hLb : bs L = lineW ws := by rw [← hL, bs_str]
  rw [hL] at HJ
  have HWr := Lib.hid (fun w' (hb : Below w.heap.size w w') => bld_wr (bld_on h hb) (L ++ ⟨#[10]⟩) (by rw [ba_size]; show acc.length + (L.size + 1) ≤ _; omega) (Nat.le_trans hB hb.size))
  rw [bs_add, hLb] at HWr
  rw [hv, hn]
  have HBw := Lib.hid hB
  have hz1 : L.size + 1 ≤ maxLen := by unfold maxLen; omega
  clear h ho hl hv hs hw0 hg hLen hline hL hLb hB
  go_enter Tryz.func62, Tryz.ntmps62
  go_wp2_with fail
  refine HJ.out.mono ?_
  rintro e w1 ⟨rfl, hb1⟩
  have HB1 := Lib.hid hb1
  clear hb1 HJ
  go_wp2_with fail
  refine (HWr.out _ HB1.out).mono ?_
  rintro e w2 ⟨rfl, h2, hb2⟩
  have H2 := Lib.hid h2
  have HB2 := Lib.hid ((HB1.out.mono HBw.out).trans hb2)
  clear h2 hb2 HWr
  go_wp2_with fail
  first | (go_ret; exact ⟨rfl, H2.out, HB2.out⟩) | exact ⟨rfl, H2.out, HB2.out⟩ | (go_end0; exact ⟨rfl, H2.out, HB2.out⟩)
end Go.Proofs.YtlpondbcnfaggaaGreatDoor.Po

/-
  Contract of package policy's Print over this seat's translation, whole: of a right policy it answers what printP says. Condition: a right policy.
-/
namespace Go.Proofs.YtlpondbcnfaggaaGreatDoor.Po
open Go.RowKit Go.Shelf Go.Proofs.YtlpondbcnfaggaaGreatDoor.Wd Go.Proofs.YtlpondbcnfaggaaGreatDoor.Asc Go.Proofs.YtlpondbcnfaggaaGreatDoor.Tx Go.Proofs.YtlpondbcnfaggaaGreatDoor.St Go.Proofs.YtlpondbcnfaggaaGreatDoor.Tr Go.Proofs.YtlpondbcnfaggaaGreatDoor.Te Go.Maps

def lnF (ws : List (List UInt8)) : List UInt8 := lineW ws ++ [10]
def ruF (l : List Ru) : List UInt8 := l.flatMap fun r => lnF (ruleW r)
def pnF (l : List Pn) : List UInt8 := l.flatMap fun x => lnF (pinW x)
theorem printP_is (p : Pol) : printP p = lnF [kDefault, verb p.al] ++ (ruF p.ru ++ pnF p.pn) := by
  unfold printP linesP ruF pnF lnF
  rw [List.flatMap_cons, List.flatMap_append, List.flatMap_map, List.flatMap_map]
theorem ruF_next {l : List Ru} {k : Nat} {r : Ru} (h : l[k]? = some r) : ruF (l.take (k + 1)) = ruF (l.take k) ++ lnF (ruleW r) := by
  unfold ruF
  rw [List.take_add_one, h, List.flatMap_append]
  simp
theorem pnF_next {l : List Pn} {k : Nat} {x : Pn} (h : l[k]? = some x) : pnF (l.take (k + 1)) = pnF (l.take k) ++ lnF (pinW x) := by
  unfold pnF
  rw [List.take_add_one, h, List.flatMap_append]
  simp
theorem right_okP {x : Pl} {L : List Pn} (h : pinE L x.1 = 0) : OkP x := by
  obtain ⟨h1, h2, h3, h4⟩ := pin_parts h
  have p3 : x.1.nm.length ≤ 253 := by
    unfold nameB at h1
    have h1 : Nm.normalS x.1.nm = (x.1.nm, 0) := by simpa using h1
    exact (Nm.normal_len h1).2
  have e : x.1.ci.n = ((Ad.bitN x.1.ci.n : Nat) : Int) := by
    have h5 : x.1.ci = Ad.ofS x.1.ci.a x.1.ci.n := by unfold Ad.rightS at h2; rwa [beq_iff_eq] at h2
    exact congrArg Ad.C.n h5
  have := Ad.bitN_le x.1.ci.n
  exact ⟨by omega, by omega, by omega, by omega, by omega⟩
/-- what Print keeps: its own box, the builder -/
structure PrI (w : World) (P b : Nat) (C : Array Value) (acc : List UInt8) (ww : World) : Prop where
  box : Blk ww P 53 C
  bld : Bld b b acc ww
  bel : Below w.heap.size w ww
  lo : P < b
  lw : w.heap.size ≤ b
  le : b ≤ ww.heap.size
section
variable {w ww w' : World} {P b : Nat} {C : Array Value} {acc acc' : List UInt8}
theorem PrI.on (h : PrI w P b C acc ww) (hb : Below ww.heap.size ww w') : PrI w P b C acc w' :=
  ⟨h.box.below hb h.box.lt, bld_on h.bld hb, h.bel.trans (hb.mono h.bel.size), h.lo, h.lw, Nat.le_trans h.le hb.size⟩
theorem PrI.wr (h : PrI w P b C acc ww) (k : Bld b b acc' w') (hb : Below b ww w') : PrI w P b C acc' w' :=
  ⟨h.box.below hb h.lo, k, h.bel.trans (hb.mono h.lw), h.lo, h.lw, Nat.le_trans h.le hb.size⟩
end
theorem own_zero {α : Type} {e : El α} {w : World} {B : Nat} {v : Value} {l : List α} (h : OwnE w e B v l) : OwnE w e 0 v l := h.lower (Nat.zero_le _)
set_option linter.unusedSimpArgs false in
set_option maxRecDepth 100000 in
set_option maxHeartbeats 16000000 in
theorem print_any {B : Nat} {w : World} (hE : Ad.Env B w) (p : Pol) (A1 A2 : Option Addr) (n1 c1 n2 c2 : Nat) (pn : List Pl) (hs1 : SrcU w A1 p.ru) (hn1 : p.ru.length = n1) (hs2 : SrcE w elPn A2 pn) (hpn : plain pn = p.pn) (hn2 : p.pn.length = n2) (hr : rightP p = 0) :
    Calls Tryz.prog 33 #[.agg #[.bool p.al, .slice A1 n1 c1, .slice A2 n2 c2]] w fun e w' => e = .returned (.string (str (printP p))) ∧ Below w.heap.size w w' := by
  have hmf : ∀ (fn : Fn) (first cap : Array Value) (w : World), (Instr.makeFunc fn first cap).run Tryz.prog w = .ok (.func fn first cap) w := fun _ _ _ _ => rfl
  have hmost := right_most hr
  obtain ⟨hr1, _, hr3⟩ := rightP_parts.1 hr
  have hm1 : n1 ≤ 200 := by rw [← hn1]; exact hmost.1
  have hm2 : n2 ≤ 200 := by rw [← hn2]; exact hmost.2
  have HPr := Lib.hid (printP_is p)
  have HR1 := Lib.hid (rules_all hr1)
  have HR3 := Lib.hid (pins_all hr3)
  have HN1 := Lib.hid hn1
  have HN3 := Lib.hid hn2
  have HN2 := Lib.hid (show pn.length = n2 from by rw [← hn2, ← hpn]; simp [plain])
  have HPn := Lib.hid (fun (k : Nat) (x : Pl) (h : pn[k]? = some x) => show p.pn[k]? = some x.1 from by rw [← hpn]; unfold plain; rw [List.getElem?_map, h]; rfl)
  have HS1 := Lib.hid hs1
  have HS2 := Lib.hid hs2
  obtain ⟨H, hH⟩ : ∃ H, lnF [kDefault, verb p.al] = H := ⟨_, rfl⟩
  have hHl : H.length ≤ 701 := by rw [← hH]; cases p.al <;> decide
  rw [hH] at HPr
  have HHd := Lib.hid hH
  have HHl := Lib.hid hHl
  obtain ⟨w1, hw1⟩ : ∃ w1, w.alloc (.cells (plV p.al A1 n1 c1 A2 n2 c2) 53) = w1 := ⟨_, rfl⟩
  have hb1 : Below w.heap.size w w1 := by rw [← hw1]; exact (Below.refl _ _).alloc (Nat.le_refl _) _
  have hbox : Blk w1 w.heap.size 53 (plV p.al A1 n1 c1 A2 n2 c2) := by rw [← hw1]; exact Blk.new w _ _
  obtain ⟨w2, hw2⟩ : ∃ w2, w1.alloc (.cells #[.pointer none, .slice none 0 0] 112) = w2 := ⟨_, rfl⟩
  have HI2 := Lib.hid (show PrI w w.heap.size w1.heap.size (plV p.al A1 n1 c1 A2 n2 c2) [] w2 from by
    rw [← hw2]
    exact ⟨hbox.alloc _, Lib.fresh_isBuilder _ _ w1, hb1.alloc hb1.size _, hbox.lt, hb1.size, by rw [alloc_size]; omega⟩)
  have HW2 := Lib.hid (show (w.alloc (.cells #[.bool p.al, .slice A1 n1 c1, .slice A2 n2 c2] 53)).alloc (.cells #[.pointer none, .slice none 0 0] 112) = w2 from by rw [← hw2, ← hw1]; rfl)
  have HZ1 := Lib.hid (show w1.heap.size = w.heap.size + 1 from by rw [← hw1, alloc_size])
  have HE := Lib.hid (fun w' (hb : Below w.heap.size w w') => hE.on hb)
  have HSy := Lib.hid (fun w' => says_any p.al w')
  clear hw1 hw2 hb1 hbox hE hs1 hs2 hn1 hn2 hpn hmost hr1 hr3 hr hH
  go_enter Tryz.func33, Tryz.ntmps33
  go_upto_region 3 with fail
  rw [HW2.out]
  obtain ⟨P, hP⟩ : ∃ P, w.heap.size = P := ⟨_, rfl⟩
  obtain ⟨b, hb⟩ : ∃ b, w1.heap.size = b := ⟨_, rfl⟩
  have hbP : w.heap.size + 1 = b := by rw [← hb, HZ1.out]
  rw [hb] at HI2
  rw [hbP]
  rw [hP] at HI2 ⊢
  have v0 : w2.cell? ⟨P, 0, none⟩ = some (.bool p.al) := HI2.out.box.cell 0
  clear HW2 HZ1 hb hbP hP
  go_wp2_with fail
  refine (HSy.out _).mono ?_
  rintro e w3 ⟨rfl, rfl⟩
  obtain ⟨V, hV⟩ : ∃ V, str (verb p.al) = V := ⟨_, rfl⟩
  have HI3 := Lib.hid (HI2.out.on ((Below.refl w2.heap.size w2).alloc (Nat.le_refl _) (.cells #[.string ⟨#[100, 101, 102, 97, 117, 108, 116]⟩, .string V] 9)))
  have HO3 := Lib.hid (show OwnE (w2.alloc (.cells #[.string ⟨#[100, 101, 102, 97, 117, 108, 116]⟩, .string V] 9)) elS 0 (.slice (some ⟨w2.heap.size, 0, none⟩) 2 2) [kDefault, verb p.al] from by
    rw [← hV]
    exact own_lit fineS w2 _ [kDefault, verb p.al] rfl 0 (Nat.zero_le _) (show 2 ≤ maxLen from by decide))
  have HA3 := Lib.hid (addLine_any HI3.out.bld HI3.out.le HO3.out (by simp) (by cases p.al <;> decide))
  rw [show ([] : List UInt8) ++ (lineW [kDefault, verb p.al] ++ [10]) = H from HHd.out] at HA3
  have HVs := Lib.hid hV
  rw [hV]
  clear hV v0 HI2 HSy HO3
  go_wp2_with fail
  refine HA3.out.mono ?_
  rintro e w4 ⟨rfl, hk, hb⟩
  have HI4 := Lib.hid (HI3.out.wr hk hb)
  clear hk hb HA3 HI3
  have v1 : w4.cell? ⟨P, 1, none⟩ = some (.slice A1 n1 c1) := HI4.out.box.cell 1
  go_wp2_with fail
  clear v1
  have HI4 : Hid (PrI w P b (plV p.al A1 n1 c1 A2 n2 c2) (H ++ ruF (p.ru.take 0)) w4) := by
    rw [show H ++ ruF (p.ru.take 0) = H from List.append_nil H]
    exact HI4
  go_loopw [19] (fun x19 wr => ∃ (k : Nat) (ww : World), ww = wr ∧ k ≤ n1 ∧ x19 = .int .i64 (k : Nat) ∧ Hid (PrI w P b (plV p.al A1 n1 c1 A2 n2 c2) (H ++ ruF (p.ru.take k)) ww) ∧ Hid ((H ++ ruF (p.ru.take k)).length ≤ 701 * (k + 1))) (fun x19 _ => n1 - (intOf x19).toNat)
  case atStart => exact ⟨0, _, rfl, Nat.zero_le _, rfl, HI4, Lib.hid (by rw [show H ++ ruF (p.ru.take 0) = H from List.append_nil H]; have := HHl.out; omega)⟩
  case round =>
    clear HI4
    obtain ⟨k, ww, rfl, hk, rfl, HI, HLn⟩ := hrel
    by_cases hlt : k < n1
    · have hki : (k : Int) < (n1 : Int) := by omega
      obtain ⟨r, g, o, hr, rfl, hg, hra⟩ := HS1.out.get (wr := ww) (k := k) (by rw [HN1.out]; exact hlt) HI.out.bel
      have HTk := Lib.hid (show H ++ ruF (p.ru.take (k + 1)) = H ++ ruF (p.ru.take k) ++ (lineW (ruleW r) ++ [10]) from by rw [ruF_next hr, List.append_assoc]; rfl)
      have HRr := Lib.hid (HR1.out r (List.mem_of_getElem? hr))
      obtain ⟨w5, hw5, hx5, hl5⟩ := box_row (w := ww) 23 #[.bool false, .int .i64 0, .string ⟨#[]⟩, .int .i64 0, .string ⟨#[]⟩] (ruC r)
      have HW5 := Lib.hid hw5
      have HI5 := Lib.hid (HI.out.on hl5)
      have HRl := Lib.hid (ruleLine_any (HE.out _ HI5.out.bel) r (right_ok HRr.out).1)
      have HLe := Lib.hid (ruleW_len HRr.out)
      have hne : ruleW r ≠ [] := by unfold ruleW; simp
      have HNe := Lib.hid hne
      unfold RowP at HRl
      clear hr hg hw5 hl5 HI hne
      go_upto_region 7 with (first | (refine go_ldr r hra (by rfl) rfl (by first | rfl | (go_simp; done)) ?_) | (refine go_st 23 (Blk.new _ _ _) infU rfl (ruC_size _) (ruC_one _) rfl rfl rfl rfl ?_))
      rw [HW5.out]
      clear hra HW5
      go_wp2_with (refine go_ld (x := .tmp 6) 23 hx5 undU rfl infU (ruC_size _) rfl rfl rfl ?_)
      refine HRl.out.mono ?_
      rintro e w6 ⟨v6, rfl, ho6, hb6⟩
      have HI6 := Lib.hid (HI5.out.on hb6)
      have HA6 := Lib.hid (addLine_any HI6.out.bld HI6.out.le (own_zero ho6) HNe.out (by have := HLn.out; have := HLe.out; omega))
      rw [← HTk.out] at HA6
      clear ho6 hb6 HI5 hx5 HRl
      go_wp2_with fail
      refine HA6.out.mono ?_
      rintro e w7 ⟨rfl, hk7, hb7⟩
      have HI7 := Lib.hid (HI6.out.wr hk7 hb7)
      have HL7 := Lib.hid (show (H ++ ruF (p.ru.take (k + 1))).length ≤ 701 * (k + 1 + 1) from by
        have h1 := HLn.out
        have h2 := HLe.out
        have h3 := lineW_len (ruleW r)
        have h4 := congrArg List.length HTk.out
        simp only [List.length_append, List.length_cons, List.length_nil] at h1 h4 ⊢
        omega)
      clear hk7 hb7 HI6 HA6
      go_wp2_with fail
      go_roundw
      case rel => exact ⟨k + 1, _, rfl, by omega, rfl, HI7, HL7⟩
      case measure => simp [intOf]; omega
    · obtain rfl : k = n1 := by omega
      have hki : ¬ (k : Int) < (k : Int) := by omega
      have HTk := Lib.hid (show p.ru.take k = p.ru from List.take_of_length_le (by rw [HN1.out]; exact Nat.le_refl _))
      have v2 : ww.cell? ⟨P, 2, none⟩ = some (.slice A2 n2 c2) := HI.out.box.cell 2
      clear hlt
      go_wp2_with fail
      clear v2
      have HI : Hid (PrI w P b (plV p.al A1 k c1 A2 n2 c2) (H ++ ruF p.ru ++ pnF (p.pn.take 0)) ww) := by
        rw [show H ++ ruF p.ru ++ pnF (p.pn.take 0) = H ++ ruF p.ru from List.append_nil _, ← HTk.out]
        exact HI
      have HLn : Hid ((H ++ ruF p.ru ++ pnF (p.pn.take 0)).length ≤ 701 * (k + 1 + 0)) := by
        rw [show H ++ ruF p.ru ++ pnF (p.pn.take 0) = H ++ ruF p.ru from List.append_nil _, ← HTk.out]
        exact HLn
      go_loopw [31] (fun x31 wr => ∃ (j : Nat) (ww : World), ww = wr ∧ j ≤ n2 ∧ x31 = .int .i64 (j : Nat) ∧ Hid (PrI w P b (plV p.al A1 k c1 A2 n2 c2) (H ++ ruF p.ru ++ pnF (p.pn.take j)) ww) ∧ Hid ((H ++ ruF p.ru ++ pnF (p.pn.take j)).length ≤ 701 * (k + 1 + j))) (fun x31 _ => n2 - (intOf x31).toNat)
      case atStart => exact ⟨0, _, rfl, Nat.zero_le _, rfl, HI, HLn⟩
      case round =>
        clear HI HLn
        obtain ⟨j, ww, rfl, hj, rfl, HI, HLn⟩ := hrel
        by_cases hlt : j < n2
        · have hji : (j : Int) < (n2 : Int) := by omega
          obtain ⟨x, g, o, hx, rfl, hg, hra⟩ := HS2.out.pin (wr := ww) (k := j) (by rw [HN2.out]; exact hlt) HI.out.bel
          have hx2 := HPn.out j x hx
          have HTj := Lib.hid (show H ++ ruF p.ru ++ pnF (p.pn.take (j + 1)) = H ++ ruF p.ru ++ pnF (p.pn.take j) ++ (lineW (pinW x.1) ++ [10]) from by rw [pnF_next hx2]; simp [lnF, List.append_assoc])
          obtain ⟨L9, hL9⟩ := HR3.out x.1 (List.mem_of_getElem? hx2)
          obtain ⟨w5, hw5, hx5, hl5⟩ := box_row (w := ww) 97 #[Value.string ⟨#[]⟩, Value.int .u8 0, Value.int .u8 0, Value.int .u8 0, Value.int .u8 0, Value.int .u8 0, Value.int .u8 0, Value.int .u8 0, Value.int .u8 0, Value.int .u8 0, Value.int .u8 0, Value.int .u8 0, Value.int .u8 0, Value.int .u8 0, Value.int .u8 0, Value.int .u8 0, Value.int .u8 0, Value.int .i64 0, Value.int .i64 0] (pnC x.1)
          have HW5 := Lib.hid hw5
          have HI5 := Lib.hid (HI.out.on hl5)
          have HRl := Lib.hid (pinLine_any (HE.out _ HI5.out.bel) x (right_okP hL9))
          have HLe := Lib.hid (pinW_len hL9 x.2)
          have hne : pinW x.1 ≠ [] := by unfold pinW; simp
          have HNe := Lib.hid hne
          have h19 := pnC_size x
          unfold RowP at HRl
          clear hx hx2 hg hw5 hl5 HI hne hL9
          go_upto_region 12 with (first | (refine wpList_load_mid rfl 97 _ rfl g (o + j * 19) (by first | rfl | (go_simp; done)) (pnL x.1) _ hra undPn rfl (pn_len' x) ?_) | (refine go_st 97 (Blk.new _ _ _) infPn rfl h19 (pnC_one _) rfl rfl rfl rfl ?_))
          first | rw [HW5.out] | (rw [show (ww.alloc (.cells #[Value.string ⟨#[]⟩, Value.int .u8 0, Value.int .u8 0, Value.int .u8 0, Value.int .u8 0, Value.int .u8 0, Value.int .u8 0, Value.int .u8 0, Value.int .u8 0, Value.int .u8 0, Value.int .u8 0, Value.int .u8 0, Value.int .u8 0, Value.int .u8 0, Value.int .u8 0, Value.int .u8 0, Value.int .u8 0, Value.int .i64 0, Value.int .i64 0] 97)).setRow ww.heap.size (pnC x.1) = w5 from HW5.out])
          clear hra HW5
          go_wp2_with (refine go_ld (x := .tmp 8) 97 hx5 undPn rfl infPn h19 rfl rfl rfl ?_)
          refine HRl.out.mono ?_
          rintro e w6 ⟨v6, rfl, ho6, hb6⟩
          have HI6 := Lib.hid (HI5.out.on hb6)
          have HA6 := Lib.hid (addLine_any HI6.out.bld HI6.out.le (own_zero ho6) HNe.out (by have := HLn.out; have := HLe.out; omega))
          rw [← HTj.out] at HA6
          clear ho6 hb6 HI5 hx5 HRl
          go_wp2_with fail
          refine HA6.out.mono ?_
          rintro e w7 ⟨rfl, hk7, hb7⟩
          have HI7 := Lib.hid (HI6.out.wr hk7 hb7)
          have HL7 := Lib.hid (show (H ++ ruF p.ru ++ pnF (p.pn.take (j + 1))).length ≤ 701 * (k + 1 + (j + 1)) from by
            have h1 := HLn.out
            have h2 := HLe.out
            have h3 := lineW_len (pinW x.1)
            have h4 := congrArg List.length HTj.out
            simp only [List.length_append, List.length_cons, List.length_nil] at h1 h4 ⊢
            omega)
          clear hk7 hb7 HI6 HA6
          go_wp2_with fail
          go_roundw
          case rel => exact ⟨j + 1, _, rfl, by omega, rfl, HI7, HL7⟩
          case measure => simp [intOf]; omega
        · obtain rfl : j = n2 := by omega
          have hji : ¬ (j : Int) < (j : Int) := by omega
          have HTj := Lib.hid (show p.pn.take j = p.pn from List.take_of_length_le (by rw [HN3.out]; exact Nat.le_refl _))
          have HSt := Lib.hid (show Calls Tryz.prog 68 #[.pointer (some ⟨b, 0, none⟩)] ww fun e w' => e = .returned (.string (str (printP p))) ∧ Below b ww w' from by
            have hk := Tryz.Builder_String_any b b (H ++ ruF p.ru ++ pnF (p.pn.take j)) ww HI.out.bld HI.out.le
            rw [HTj.out, List.append_assoc, ← HPr.out] at hk
            exact hk)
          have HBz := Lib.hid (And.intro HI.out.bel HI.out.lw)
          clear hlt HI
          go_wp2_with fail
          refine HSt.out.mono ?_
          rintro e w8 ⟨rfl, hb8⟩
          have HF := Lib.hid (HBz.out.1.trans (hb8.mono HBz.out.2))
          clear hb8 HSt
          go_wp2_with fail
          go_ret
          exact ⟨rfl, HF.out⟩
end Go.Proofs.YtlpondbcnfaggaaGreatDoor.Po
