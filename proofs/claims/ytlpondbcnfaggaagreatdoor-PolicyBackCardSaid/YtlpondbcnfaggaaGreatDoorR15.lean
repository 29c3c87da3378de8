/-
  Contract of hagioscoperef18's Same over this seat's translation: are two rows of rules the same? No condition.
-/
import Derived.Test.YtlpondbcnfaggaaGreatDoorR14
namespace Go.Proofs.YtlpondbcnfaggaaGreatDoor.Tr
open Go.RowKit Go.Proofs.YtlpondbcnfaggaaGreatDoor.Wd Go.Proofs.YtlpondbcnfaggaaGreatDoor.Asc Go.Proofs.YtlpondbcnfaggaaGreatDoor.Tx Go.Proofs.YtlpondbcnfaggaaGreatDoor.St

theorem same_take {l m : List Ru} {k : Nat} {r q : Ru} (h : l.take k = m.take k) (hr : l[k]? = some r) (hq : m[k]? = some q) : (l.take (k + 1) = m.take (k + 1)) ↔ r = q := by
  rw [List.take_add_one, List.take_add_one, hr, hq, h]
  simp
set_option linter.unusedSimpArgs false in
set_option maxRecDepth 100000 in
set_option maxHeartbeats 4000000 in
theorem rsame_any (l m : List Ru) (A B : Option Addr) (n p c d : Nat) (w : World) (hl : SrcU w A l) (hn : l.length = n) (hm : SrcU w B m) (hp : m.length = p) (hz : n ≤ 1000000) :
    Calls Tryz.prog 26 #[.slice A n c, .slice B p d] w fun e w' => e = .returned (.bool (decide (l = m))) ∧ Below w.heap.size w w' := by
  have HL := Lib.hid hl
  have HM := Lib.hid hm
  have HN := Lib.hid hn
  have HP := Lib.hid hp
  clear hl hm hn hp
  by_cases hnp : n = p
  · subst hnp
    have e0 : ((n : Int) != (n : Int)) = false := by simp
    go_enter Tryz.func26, Tryz.ntmps26
    go_wp2_with fail
    go_loopw [5] (fun x5 wr => ∃ (k : Nat) (ww : World), ww = wr ∧ k ≤ n ∧ x5 = .int .i64 (k : Nat) ∧ Hid (l.take k = m.take k) ∧ Hid (Below w.heap.size w ww)) (fun x5 _ => n - (intOf x5).toNat)
    case atStart => exact ⟨0, w, rfl, Nat.zero_le _, rfl, Lib.hid rfl, Lib.hid (Below.refl _ _)⟩
    case round =>
      obtain ⟨k, ww, rfl, hk, rfl, HQ, HB⟩ := hrel
      by_cases hlt : k < n
      · have hki : (k : Int) < (n : Int) := by omega
        obtain ⟨r, g, o, hr, rfl, hg, hra⟩ := HL.out.get (wr := ww) (k := k) (by rw [HN.out]; exact hlt) HB.out
        obtain ⟨q, g', o', hq, rfl, hg', hqa⟩ := HM.out.get (wr := ww) (k := k) (by rw [HP.out]; exact hlt) HB.out
        have HS := Lib.hid (show ww.rangeAt g (o + k * 5) (ruC r).toList ∧ ww.rangeAt g' (o' + k * 5) (ruC q).toList from ⟨hra.range, hqa.range⟩)
        have HQ2 := Lib.hid (same_take HQ.out hr hq)
        obtain ⟨b, hb⟩ : ∃ b, decide (r = q) = b := ⟨_, rfl⟩
        have Hb := Lib.hid hb
        have HLe := Lib.hid (show r ≠ q → l ≠ m from fun h e => h (by rw [e, hq] at hr; injection hr with hr; exact hr.symm))
        clear hr hq hra hqa hg hg' hb
        go_upto_region 6 with fail
        refine wp_region_held_drew (S := fun w' => w'.rangeAt g (o + k * 5) (ruC r).toList ∧ w'.rangeAt g' (o' + k * 5) (ruC q).toList) (by kernel_rfl) HS.out (fun h0 => ?_)
        refine hd_take 0 (some 17) (.slice (some ⟨g, o, none⟩) n c) rfl rfl (by kernel_rfl) (by kernel_rfl) (by kernel_rfl) (fun _ _ _ h => h) (Or.inl ⟨by rfl, fun w hw => by go_simp⟩) h0 ?_
        simp only [Act.put, List.setIfInBounds_toArray, List.set_cons_zero, List.set_cons_succ]
        refine hd_take 1 (some 18) (.int .i64 (k : Int)) rfl rfl (by kernel_rfl) (by kernel_rfl) (by kernel_rfl) (fun _ _ _ h => h) (Or.inl ⟨by rfl, fun w hw => by go_simp⟩) h0 ?_
        simp only [Act.put, List.setIfInBounds_toArray, List.set_cons_zero, List.set_cons_succ]
        refine hd_take 2 (some 19) (.pointer (some ⟨g, o + k * 5, none⟩)) rfl rfl (by kernel_rfl) (by kernel_rfl) (by kernel_rfl) (fun _ _ _ h => h) (Or.inl ⟨by rfl, fun w hw => by go_simp <;> omega⟩) h0 ?_
        simp only [Act.put, List.setIfInBounds_toArray, List.set_cons_zero, List.set_cons_succ]
        refine hd_take 3 (some 20) (.agg (ruC r)) rfl rfl (by kernel_rfl) (by kernel_rfl) (by kernel_rfl) (fun _ _ _ h => h) (yieldsIf_load_mid (by rfl) _ _ rfl g (o + k * 5) rfl (ruC r).toList _ (fun _ h => h.1) undU rfl (ruU_len r)) h0 ?_
        simp only [Act.put, List.setIfInBounds_toArray, List.set_cons_zero, List.set_cons_succ]
        refine hd_take 4 (some 21) (.slice (some ⟨g', o', none⟩) n d) rfl rfl (by kernel_rfl) (by kernel_rfl) (by kernel_rfl) (fun _ _ _ h => h) (Or.inl ⟨by rfl, fun w hw => by go_simp⟩) h0 ?_
        simp only [Act.put, List.setIfInBounds_toArray, List.set_cons_zero, List.set_cons_succ]
        refine hd_take 5 (some 22) (.int .i64 (k : Int)) rfl rfl (by kernel_rfl) (by kernel_rfl) (by kernel_rfl) (fun _ _ _ h => h) (Or.inl ⟨by rfl, fun w hw => by go_simp⟩) h0 ?_
        simp only [Act.put, List.setIfInBounds_toArray, List.set_cons_zero, List.set_cons_succ]
        refine hd_take 6 (some 23) (.pointer (some ⟨g', o' + k * 5, none⟩)) rfl rfl (by kernel_rfl) (by kernel_rfl) (by kernel_rfl) (fun _ _ _ h => h) (Or.inl ⟨by rfl, fun w hw => by go_simp <;> omega⟩) h0 ?_
        simp only [Act.put, List.setIfInBounds_toArray, List.set_cons_zero, List.set_cons_succ]
        refine hd_take 7 (some 24) (.agg (ruC q)) rfl rfl (by kernel_rfl) (by kernel_rfl) (by kernel_rfl) (fun _ _ _ h => h) (yieldsIf_load_mid (by rfl) _ _ rfl g' (o' + k * 5) rfl (ruC q).toList _ (fun _ h => h.2) undU rfl (ruU_len q)) h0 ?_
        simp only [Act.put, List.setIfInBounds_toArray, List.set_cons_zero, List.set_cons_succ]
        refine hd_take 8 (some 25) (.bool (!b)) rfl rfl (by kernel_rfl) (by kernel_rfl) (by kernel_rfl) (fun _ _ _ h => h) (yields_neqU r q b Hb.out (by rfl) (by rfl) rfl rfl) h0 ?_
        simp only [Act.put, List.setIfInBounds_toArray, List.set_cons_zero, List.set_cons_succ]
        refine wpAnyH_done (by kernel_rfl) ?_ _
        cases b
        · go_wp2_with fail
          go_ret
          exact ⟨by rw [decide_eq_false (HLe.out (of_decide_eq_false Hb.out))]; rfl, HB.out.drew⟩
        · go_wp2_with fail
          go_roundw
          case rel => exact ⟨k + 1, _, rfl, by omega, by go_num, Lib.hid (HQ2.out.2 (of_decide_eq_true Hb.out)), Lib.hid HB.out.drew⟩
          case measure => simp [intOf]; omega
      · have hki : ¬ (k : Int) < (n : Int) := by omega
        have HE := Lib.hid (show l = m by
          have h := HQ.out
          rwa [List.take_of_length_le (by rw [HN.out]; omega), List.take_of_length_le (by rw [HP.out]; omega)] at h)
        go_wp2_with fail
        go_ret
        exact ⟨by rw [decide_eq_true HE.out]; rfl, HB.out⟩
  · have e0 : ((n : Int) != (p : Int)) = true := by rw [bne_iff_ne]; omega
    have HE := Lib.hid (show l ≠ m from fun e => hnp (by rw [← HN.out, ← HP.out, e]))
    clear hnp
    go_enter Tryz.func26, Tryz.ntmps26
    go_wp2_with fail
    go_ret
    exact ⟨by rw [decide_eq_false HE.out]; rfl, Below.refl _ _⟩
end Go.Proofs.YtlpondbcnfaggaaGreatDoor.Tr

/-
  Contract of hagioscoperef19's Same over this seat's translation: are two policies the same? Condition: up to a million rules and pins.
-/
namespace Go.Proofs.YtlpondbcnfaggaaGreatDoor.Po
open Go.RowKit Go.Proofs.YtlpondbcnfaggaaGreatDoor.Wd Go.Proofs.YtlpondbcnfaggaaGreatDoor.Asc Go.Proofs.YtlpondbcnfaggaaGreatDoor.Tx Go.Proofs.YtlpondbcnfaggaaGreatDoor.St Go.Proofs.YtlpondbcnfaggaaGreatDoor.Tr Go.Proofs.YtlpondbcnfaggaaGreatDoor.Te

/-- a policy's value -/
def plV (al : Bool) (A : Option Addr) (n c : Nat) (B : Option Addr) (m d : Nat) : Array Value := #[.bool al, .slice A n c, .slice B m d]
/-- two policies, boxed -/
structure BxI (w : World) (X Y : Nat) (C D : Array Value) (ww : World) : Prop where
  x : Blk ww X 53 C
  y : Blk ww Y 53 D
  bel : Below w.heap.size w ww
theorem BxI.on {w : World} {X Y : Nat} {C D : Array Value} {ww w' : World} (h : BxI w X Y C D ww) (hb : Below ww.heap.size ww w') : BxI w X Y C D w' :=
  ⟨h.x.below hb h.x.lt, h.y.below hb h.y.lt, h.bel.trans (hb.mono h.bel.size)⟩
theorem box_two (w : World) (C D : Array Value) : ∃ w2, (w.alloc (.cells C 53)).alloc (.cells D 53) = w2 ∧ BxI w w.heap.size (w.heap.size + 1) C D w2 := by
  have b1 := Blk.new w 53 C
  have b2 := Blk.new (w.alloc (.cells C 53)) 53 D
  have l1 : Below w.heap.size w (w.alloc (.cells C 53)) := (Below.refl _ _).alloc (Nat.le_refl _) _
  rw [alloc_size] at b2
  exact ⟨_, rfl, b1.alloc _, b2, l1.alloc (by rw [alloc_size]; omega) _⟩
theorem same_takeP {l m : List Pl} {k : Nat} {r q : Pl} (h : l.take k = m.take k) (hr : l[k]? = some r) (hq : m[k]? = some q) : (l.take (k + 1) = m.take (k + 1)) ↔ r.1 = q.1 := by
  rw [List.take_add_one, List.take_add_one, hr, hq, h]
  simp [Subtype.ext_iff]
theorem plain_inj {l m : List Pl} : plain l = plain m ↔ l = m := ⟨fun h => (List.map_inj_right (fun _ _ e => Subtype.ext e)).1 h, fun h => by rw [h]⟩
set_option linter.unusedSimpArgs false in
set_option maxRecDepth 100000 in
set_option maxHeartbeats 16000000 in
theorem psame_any (al al' : Bool) (ru ru' : List Ru) (ps qs : List Pl) (A1 A2 B1 B2 : Option Addr) (n1 c1 n2 c2 m1 d1 m2 d2 : Nat) (w : World) (h1 : SrcU w A1 ru) (l1 : ru.length = n1) (h2 : SrcE w elPn A2 ps) (l2 : ps.length = n2)
    (k1 : SrcU w B1 ru') (j1 : ru'.length = m1) (k2 : SrcE w elPn B2 qs) (j2 : qs.length = m2) (hz : n1 ≤ 1000000) (hz2 : n2 ≤ 1000000) :
    Calls Tryz.prog 34 #[.agg (plV al A1 n1 c1 A2 n2 c2), .agg (plV al' B1 m1 d1 B2 m2 d2)] w fun e w' => e = .returned (.bool (decide ((⟨al, ru, plain ps⟩ : Pol) = ⟨al', ru', plain qs⟩))) ∧ Below w.heap.size w w' := by
  obtain ⟨w2, hw, hI⟩ := box_two w (plV al A1 n1 c1 A2 n2 c2) (plV al' B1 m1 d1 B2 m2 d2)
  have HW := Lib.hid hw
  have HI2 := Lib.hid hI
  have HSm := Lib.hid (fun (w' : World) (hb : Below w.heap.size w w') => rsame_any ru ru' A1 B1 n1 m1 c1 d1 w' (h1.below hb) l1 (k1.below hb) j1 hz)
  have HP := Lib.hid h2
  have HQ := Lib.hid k2
  have HL2 := Lib.hid l2
  have HJ2 := Lib.hid j2
  obtain ⟨z, hz9⟩ : ∃ z, decide ((⟨al, ru, plain ps⟩ : Pol) = ⟨al', ru', plain qs⟩) = z := ⟨_, rfl⟩
  rw [hz9]
  have HEq := Lib.hid (show ∀ b : Bool, (b = true ↔ (al = al' ∧ ru = ru') ∧ ps = qs) → z = b from fun b hb => by
    rw [← hz9, Bool.eq_iff_iff, hb, decide_eq_true_iff, Pol.mk.injEq, plain_inj]
    exact ⟨fun h => ⟨⟨h.1, h.2.1⟩, h.2.2⟩, fun h => ⟨h.1.1, h.1.2, h.2⟩⟩)
  clear hw hI h1 l1 h2 l2 k1 j1 k2 j2 hz hz9
  go_enter Tryz.func34, Tryz.ntmps34
  go_upto_region 1 with fail
  rw [HW.out]
  clear HW
  obtain ⟨X, hX⟩ : ∃ X, w.heap.size = X := ⟨_, rfl⟩
  have HX := Lib.hid hX
  rw [hX] at HI2 ⊢
  clear hX
  have x0 : w2.cell? ⟨X, 0, none⟩ = some (.bool al) := HI2.out.x.cell 0
  have x1 : w2.cell? ⟨X, 1, none⟩ = some (.slice A1 n1 c1) := HI2.out.x.cell 1
  have y0 : w2.cell? ⟨X + 1, 0, none⟩ = some (.bool al') := HI2.out.y.cell 0
  have y1 : w2.cell? ⟨X + 1, 1, none⟩ = some (.slice B1 m1 d1) := HI2.out.y.cell 1
  by_cases ha : al = al'
  case neg =>
    have HF := Lib.hid (HEq.out false (by simp [ha]))
    cases al <;> cases al'
    · exact absurd rfl ha
    · clear ha
      go_wp2_with fail
      go_ret
      exact ⟨by rw [HF.out]; rfl, HI2.out.bel⟩
    · clear ha
      go_wp2_with fail
      go_ret
      exact ⟨by rw [HF.out]; rfl, HI2.out.bel⟩
    · exact absurd rfl ha
  subst ha
  obtain ⟨b, hb⟩ : ∃ b, decide (ru = ru') = b := ⟨_, rfl⟩
  have HB := Lib.hid hb
  go_wp2_with fail
  refine (HSm.out _ HI2.out.bel).mono ?_
  rintro e w3 ⟨rfl, hb3⟩
  rw [hb]
  have HI3 := Lib.hid (HI2.out.on hb3)
  clear hb hb3 HI2 x0 x1 y0 y1 HSm
  cases b
  case false =>
    have HF := Lib.hid (HEq.out false (by simp [of_decide_eq_false HB.out]))
    go_wp2_with fail
    go_ret
    exact ⟨by rw [HF.out]; rfl, HI3.out.bel⟩
  have x2 : w3.cell? ⟨X, 2, none⟩ = some (.slice A2 n2 c2) := HI3.out.x.cell 2
  have y2 : w3.cell? ⟨X + 1, 2, none⟩ = some (.slice B2 m2 d2) := HI3.out.y.cell 2
  by_cases hnm : n2 = m2
  case neg =>
    have e1 : ((n2 : Int) != (m2 : Int)) = true := by rw [bne_iff_ne]; omega
    have HF := Lib.hid (HEq.out false (by
      simp only [Bool.false_eq_true, false_iff]
      rintro ⟨_, rfl⟩
      exact hnm (HL2.out.symm.trans HJ2.out)))
    clear hnm
    go_wp2_with fail
    go_ret
    exact ⟨by rw [HF.out]; rfl, HI3.out.bel⟩
  subst hnm
  have e1 : ((n2 : Int) != (n2 : Int)) = false := by simp
  go_wp2_with fail
  clear x2 y2 e1
  go_loopw [5] (fun x5 wr => ∃ (k : Nat) (ww : World), ww = wr ∧ k ≤ n2 ∧ x5 = .int .i64 (k : Nat) ∧ Hid (ps.take k = qs.take k) ∧ Hid (BxI w X (X + 1) (plV al A1 n1 c1 A2 n2 c2) (plV al B1 m1 d1 B2 n2 d2) ww)) (fun x5 _ => n2 - (intOf x5).toNat)
  case atStart => exact ⟨0, w3, rfl, Nat.zero_le _, rfl, Lib.hid rfl, HI3⟩
  case round =>
    clear HI3
    obtain ⟨k, ww, rfl, hk, rfl, HK, HI⟩ := hrel
    have x2 : ww.cell? ⟨X, 2, none⟩ = some (.slice A2 n2 c2) := HI.out.x.cell 2
    have y2 : ww.cell? ⟨X + 1, 2, none⟩ = some (.slice B2 n2 d2) := HI.out.y.cell 2
    by_cases hlt : k < n2
    · have hki : (k : Int) < (n2 : Int) := by omega
      obtain ⟨r, g, o, hr, rfl, hg, hra⟩ := HP.out.pin (wr := ww) (k := k) (by rw [HL2.out]; exact hlt) HI.out.bel
      obtain ⟨q, g', o', hq, rfl, hg', hqa⟩ := HQ.out.pin (wr := ww) (k := k) (by rw [HJ2.out]; exact hlt) HI.out.bel
      have HS := Lib.hid (show ww.cell? ⟨X, 2, none⟩ = some (.slice (some ⟨g, o, none⟩) n2 c2) ∧ ww.cell? ⟨X + 1, 2, none⟩ = some (.slice (some ⟨g', o', none⟩) n2 d2) ∧ ww.rangeAt g (o + k * 19) (pnL r.1) ∧ ww.rangeAt g' (o' + k * 19) (pnL q.1) from ⟨x2, y2, hra, hqa⟩)
      have HK2 := Lib.hid (same_takeP HK.out hr hq)
      obtain ⟨b, hb⟩ : ∃ b, decide (r.1 = q.1) = b := ⟨_, rfl⟩
      have Hb := Lib.hid hb
      have HNe := Lib.hid (show r.1 ≠ q.1 → ps ≠ qs from fun h e => h (by rw [e, hq] at hr; injection hr with hr; rw [hr]))
      clear hr hq hra hqa hg hg' hb
      go_upto_region 6 with fail
      clear x2 y2
      refine wp_region_held_drew (S := fun w' => w'.cell? ⟨X, 2, none⟩ = some (.slice (some ⟨g, o, none⟩) n2 c2) ∧ w'.cell? ⟨X + 1, 2, none⟩ = some (.slice (some ⟨g', o', none⟩) n2 d2) ∧ w'.rangeAt g (o + k * 19) (pnL r.1) ∧ w'.rangeAt g' (o' + k * 19) (pnL q.1)) (by kernel_rfl) HS.out (fun h0 => ?_)
      refine hd_take 0 (some 35) (.pointer (some ⟨X, 2, none⟩)) rfl rfl (by kernel_rfl) (by kernel_rfl) (by kernel_rfl) (fun _ _ _ h => h) (Or.inl ⟨by rfl, fun w hw => by go_simp⟩) h0 ?_
      simp only [Act.put, List.setIfInBounds_toArray, List.set_cons_zero, List.set_cons_succ]
      refine hd_take 1 (some 36) (.slice (some ⟨g, o, none⟩) n2 c2) rfl rfl (by kernel_rfl) (by kernel_rfl) (by kernel_rfl) (fun _ _ _ h => h) (Or.inl ⟨by rfl, fun w hw => by have h9 := hw.1; go_simp⟩) h0 ?_
      simp only [Act.put, List.setIfInBounds_toArray, List.set_cons_zero, List.set_cons_succ]
      refine hd_take 2 (some 37) (.int .i64 (k : Nat)) rfl rfl (by kernel_rfl) (by kernel_rfl) (by kernel_rfl) (fun _ _ _ h => h) (Or.inl ⟨by rfl, fun w hw => by go_simp⟩) h0 ?_
      simp only [Act.put, List.setIfInBounds_toArray, List.set_cons_zero, List.set_cons_succ]
      refine hd_take 3 (some 38) (.pointer (some ⟨g, o + k * 19, none⟩)) rfl rfl (by kernel_rfl) (by kernel_rfl) (by kernel_rfl) (fun _ _ _ h => h) (Or.inl ⟨by rfl, fun w hw => by go_simp <;> omega⟩) h0 ?_
      simp only [Act.put, List.setIfInBounds_toArray, List.set_cons_zero, List.set_cons_succ]
      refine hd_take 4 (some 39) (.agg (pnC r.1)) rfl rfl (by kernel_rfl) (by kernel_rfl) (by kernel_rfl) (fun _ _ _ h => h) (yieldsIf_load_mid (by rfl) _ _ rfl g (o + k * 19) rfl (pnL r.1) _ (fun _ h => h.2.2.1) undPn rfl (pn_len' r)) h0 ?_
      simp only [Act.put, List.setIfInBounds_toArray, List.set_cons_zero, List.set_cons_succ]
      refine hd_take 5 (some 40) (.pointer (some ⟨X + 1, 2, none⟩)) rfl rfl (by kernel_rfl) (by kernel_rfl) (by kernel_rfl) (fun _ _ _ h => h) (Or.inl ⟨by rfl, fun w hw => by go_simp⟩) h0 ?_
      simp only [Act.put, List.setIfInBounds_toArray, List.set_cons_zero, List.set_cons_succ]
      refine hd_take 6 (some 41) (.slice (some ⟨g', o', none⟩) n2 d2) rfl rfl (by kernel_rfl) (by kernel_rfl) (by kernel_rfl) (fun _ _ _ h => h) (Or.inl ⟨by rfl, fun w hw => by have h9 := hw.2.1; go_simp⟩) h0 ?_
      simp only [Act.put, List.setIfInBounds_toArray, List.set_cons_zero, List.set_cons_succ]
      refine hd_take 7 (some 42) (.int .i64 (k : Nat)) rfl rfl (by kernel_rfl) (by kernel_rfl) (by kernel_rfl) (fun _ _ _ h => h) (Or.inl ⟨by rfl, fun w hw => by go_simp⟩) h0 ?_
      simp only [Act.put, List.setIfInBounds_toArray, List.set_cons_zero, List.set_cons_succ]
      refine hd_take 8 (some 43) (.pointer (some ⟨g', o' + k * 19, none⟩)) rfl rfl (by kernel_rfl) (by kernel_rfl) (by kernel_rfl) (fun _ _ _ h => h) (Or.inl ⟨by rfl, fun w hw => by go_simp <;> omega⟩) h0 ?_
      simp only [Act.put, List.setIfInBounds_toArray, List.set_cons_zero, List.set_cons_succ]
      refine hd_take 9 (some 44) (.agg (pnC q.1)) rfl rfl (by kernel_rfl) (by kernel_rfl) (by kernel_rfl) (fun _ _ _ h => h) (yieldsIf_load_mid (by rfl) _ _ rfl g' (o' + k * 19) rfl (pnL q.1) _ (fun _ h => h.2.2.2) undPn rfl (pn_len' q)) h0 ?_
      simp only [Act.put, List.setIfInBounds_toArray, List.set_cons_zero, List.set_cons_succ]
      refine hd_take 10 (some 45) (.bool (!b)) rfl rfl (by kernel_rfl) (by kernel_rfl) (by kernel_rfl) (fun _ _ _ h => h) (yields_neqPn r q b Hb.out (by rfl) (by rfl) rfl rfl) h0 ?_
      simp only [Act.put, List.setIfInBounds_toArray, List.set_cons_zero, List.set_cons_succ]
      refine wpAnyH_done (by kernel_rfl) ?_ _
      have HId := Lib.hid (HI.out.on (show Below ww.heap.size ww ww.drew from (Below.refl _ _).drew))
      clear h0
      cases b
      · have HF := Lib.hid (HEq.out false (by
          simp only [Bool.false_eq_true, false_iff]
          exact fun h => HNe.out (of_decide_eq_false Hb.out) h.2))
        go_wp2_with fail
        go_ret
        exact ⟨by rw [HF.out]; rfl, HId.out.bel⟩
      · go_wp2_with fail
        go_roundw
        case rel => exact ⟨k + 1, _, rfl, by omega, by go_num, Lib.hid (HK2.out.2 (of_decide_eq_true Hb.out)), HId⟩
        case measure => simp [intOf]; omega
    · have hki : ¬ (k : Int) < (n2 : Int) := by omega
      have HF := Lib.hid (HEq.out true (by
        have h := HK.out
        rw [List.take_of_length_le (by rw [HL2.out]; omega), List.take_of_length_le (by rw [HJ2.out]; omega)] at h
        simp [of_decide_eq_true HB.out, h]))
      go_wp2_with fail
      go_ret
      exact ⟨by rw [HF.out]; rfl, HI.out.bel⟩
end Go.Proofs.YtlpondbcnfaggaaGreatDoor.Po

/-
  A policy in a box, its rows wherever; what Parse answered, put in a box; how many rules a right policy has. Plain lemmas, no condition.
-/
namespace Go.Proofs.YtlpondbcnfaggaaGreatDoor.Po
open Go.RowKit Go.Proofs.YtlpondbcnfaggaaGreatDoor.Wd Go.Proofs.YtlpondbcnfaggaaGreatDoor.Asc Go.Proofs.YtlpondbcnfaggaaGreatDoor.Tx Go.Proofs.YtlpondbcnfaggaaGreatDoor.St Go.Proofs.YtlpondbcnfaggaaGreatDoor.Tr Go.Proofs.YtlpondbcnfaggaaGreatDoor.Te
theorem undPo : Tryz.prog.underlying 53 = some (.struct (Tryz.prog.fieldsOf 53)) := by kernel_rfl
theorem infPo : (Tryz.prog.info? 53).map (·.size) = some 3 := by kernel_rfl
theorem plV_one (al : Bool) (A : Option Addr) (n c : Nat) (B : Option Addr) (m d : Nat) : (plV al A n c B m d).all (·.oneCell') = true := by simp [plV, Value.oneCell']
theorem bs_add (a b : ByteArray) : bs (a ++ b) = bs a ++ bs b := by simp [bs]
theorem ba_size (a b : ByteArray) : (a ++ b).size = a.size + b.size := ByteArray.size_append
/-- a policy in a box, its rows wherever -/
structure PoV (ww : World) (X : Nat) (al : Bool) (A1 : Option Addr) (n1 c1 : Nat) (A2 : Option Addr) (n2 c2 : Nat) (ru : List Ru) (ps : List Pl) : Prop where
  blk : Blk ww X 53 (plV al A1 n1 c1 A2 n2 c2)
  su : SrcU ww A1 ru
  lu : ru.length = n1
  se : SrcE ww elPn A2 ps
  lp : ps.length = n2
theorem PoV.on {ww w' : World} {X : Nat} {al : Bool} {A1 A2 : Option Addr} {n1 c1 n2 c2 : Nat} {ru : List Ru} {ps : List Pl} (h : PoV ww X al A1 n1 c1 A2 n2 c2 ru ps) (hb : Below ww.heap.size ww w') : PoV w' X al A1 n1 c1 A2 n2 c2 ru ps :=
  ⟨h.blk.below hb h.blk.lt, h.su.below hb, h.lu, h.se.below hb, h.lp⟩
/-- what Parse answered, put in a new box -/
theorem po_put {w0 w : World} {al : Bool} {A1 A2 : Option Addr} {c1 c2 : Nat} {ru : List Ru} {pn : List Pn} {ps : List Pl} {B : Nat} (h1 : OwnU w B (.slice A1 ru.length c1) ru) (h2 : OwnE w elPn B (.slice A2 pn.length c2) ps) (h3 : plain ps = pn) (hb : Below w0.heap.size w0 w) (Z : Array Value) :
    ∃ w2, (w.alloc (.cells Z 53)).setRow w.heap.size (plV al A1 ru.length c1 A2 pn.length c2) = w2 ∧ PoV w2 w.heap.size al A1 ru.length c1 A2 pn.length c2 ru ps ∧ Below w.heap.size w w2 ∧ Below w0.heap.size w0 w2 := by
  have hl : Below w.heap.size w ((w.alloc (.cells Z 53)).setRow w.heap.size (plV al A1 ru.length c1 A2 pn.length c2)) := setRow_below ((Below.refl _ _).alloc (Nat.le_refl _) _) (Blk.new _ _ _) (Nat.le_refl _) _
  obtain ⟨A, c, hv, _, hs⟩ := h1.src
  injection hv with e1 e2 e3
  obtain ⟨A', c', hv', _, _, hs'⟩ := h2.src finePn
  injection hv' with e4 e5 e6
  subst e1 e4
  have hz : ps.length = pn.length := by rw [← h3]; simp [plain]
  exact ⟨_, rfl, ⟨setRow_blk (Blk.new _ _ _), hs.below hl, rfl, hs'.below hl, hz⟩, hl, hb.trans (hl.mono hb.size)⟩
theorem own_srcs {w : World} {B : Nat} {A1 A2 : Option Addr} {n1 c1 n2 c2 : Nat} {ru : List Ru} {ps : List Pl} (h1 : OwnU w B (.slice A1 n1 c1) ru) (h2 : OwnE w elPn B (.slice A2 n2 c2) ps) : SrcU w A1 ru ∧ SrcE w elPn A2 ps := by
  obtain ⟨A, c, hv, _, hs⟩ := h1.src
  injection hv with e1 e2 e3
  obtain ⟨A', c', hv', _, _, hs'⟩ := h2.src finePn
  injection hv' with e4 e5 e6
  subst e1 e4
  exact ⟨hs, hs'⟩
theorem rules_most : ∀ (rs L : List Ru), rulesE L rs = 0 → L.length ≤ 200 → (L ++ rs).length ≤ 200
  | [], L, _, h => by simpa using h
  | r :: rs, L, h0, h => by
    have h1 : addE L r = 0 := Decidable.byContradiction (fun e => by rw [rulesE, if_pos e] at h0; exact e h0)
    rw [rulesE, if_neg (by simp [h1])] at h0
    have h2 : L.length < 200 := by
      unfold addE at h1
      split at h1
      · rename_i hr; exact absurd h1 hr
      · split at h1
        · cases h1
        · omega
    have := rules_most rs (L ++ [r]) h0 (by rw [List.length_append, List.length_singleton]; omega)
    simpa using this
theorem right_most {p : Pol} (h : rightP p = 0) : p.ru.length ≤ 200 ∧ p.pn.length ≤ 200 := by
  obtain ⟨h1, h2, _⟩ := rightP_parts.1 h
  exact ⟨by simpa using rules_most p.ru [] h1 (by simp), h2⟩
end Go.Proofs.YtlpondbcnfaggaaGreatDoor.Po
