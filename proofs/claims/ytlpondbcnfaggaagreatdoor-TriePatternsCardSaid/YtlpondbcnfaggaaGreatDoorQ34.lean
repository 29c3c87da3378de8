/-
  A place more in a trie's node, in memory. Plain lemmas, no condition.
-/
import Derived.Test.YtlpondbcnfaggaaGreatDoorQ33
namespace Go.Proofs.YtlpondbcnfaggaaGreatDoor.Tr
open Go.RowKit Go.Proofs.YtlpondbcnfaggaaGreatDoor.Wd Go.Proofs.YtlpondbcnfaggaaGreatDoor.Asc Go.Proofs.YtlpondbcnfaggaaGreatDoor.Tx Go.Proofs.YtlpondbcnfaggaaGreatDoor.St Go.Proofs.YtlpondbcnfaggaaGreatDoor.Te Go.Maps

section
variable {w w6 : World} {S : List Nat} {L : List Ru} {sb sn : Nat} {D : DataW Unit} {vn : Value} {N : List (Sv × Sv)} {PT : List (List (List UInt8))} {k gn : Nat} {s : Sv × Sv} {s6 : Sv} {q : List (List UInt8)} {r : Ru}
/-- a node's two rows, where they lie -/
theorem NodesIs.cells (h : NodesIs w S L sb sn D vn N PT) (hs : N[k]? = some s) : ∃ gn c, vn = .slice (some ⟨gn, 0, none⟩) N.length c ∧ vn.ownBlock = some gn ∧ gn < w.heap.size ∧ w.cell? ⟨gn, k * 2, none⟩ = some s.1.v ∧ w.cell? ⟨gn, k * 2 + 1, none⟩ = some s.2.v := by
  rcases h.nod.row with ⟨_, e⟩ | ⟨gn, c, cur, e, _, hb, _, _, _, _⟩
  · rw [e] at hs; simp at hs
  · obtain ⟨g', e1, _, e2, _⟩ := h.nod.put fineN (y := s) hs
    rw [e] at e1
    have e3 : gn = g' := Option.some.inj e1
    subst e3
    exact ⟨gn, c, e, by rw [e]; rfl, hb.lt, e2 0 _ rfl, e2 1 _ rfl⟩
/-- what a store into a node's row leaves -/
theorem nodes_set (h : OwnE w elN 0 vn N) (hs : N[k]? = some s) (hg : vn.ownBlock = some gn) (t : Sv × Sv) (j : Nat) (hj : j < 2) (u : Value) (h1 : (elN.c t)[j]? = some u) (h2 : ∀ i, i ≠ j → (elN.c t)[i]? = (elN.c s)[i]?) :
    OwnE (w.setCell ⟨gn, k * 2 + j, none⟩ u) elN 0 vn (N.set k t) ∧ (∃ v, w.cell? ⟨gn, k * 2 + j, none⟩ = some v) ∧ w.frozen? ⟨gn, k * 2 + j, none⟩ = false := by
  obtain ⟨g', e1, _, e2, e3⟩ := h.put fineN (y := t) hs
  have e4 : gn = g' := Option.some.inj (hg.symm.trans e1)
  subst e4
  obtain ⟨cur, hb⟩ := h.typ gn hg
  have hv : ∃ v, (elN.c s)[j]? = some v := by
    match j, hj with
    | 0, _ => exact ⟨_, rfl⟩
    | 1, _ => exact ⟨_, rfl⟩
  obtain ⟨v, hv⟩ := hv
  have hc := e2 j v hv
  refine ⟨e3 (cur.setIfInBounds (k * 2 + j) u) _ (fun cur' hb' => ?_), ⟨v, hc⟩, hb.frozen _⟩
  have e5 : cur' = cur := by
    have := hb'.heap.symm.trans hb.heap
    injection this with this
    injection this
  subst e5
  refine ⟨hb.set_ _ _, by simp, fun i hi => ?_, fun i v' hv' => ?_⟩
  · rw [Array.getElem?_setIfInBounds, if_neg]
    show ¬ k * 2 + j = i
    have : elN.n = 2 := rfl
    rw [this] at hi
    omega
  · show (cur'.setIfInBounds (k * 2 + j) u)[k * 2 + i]? = some v'
    rw [Array.getElem?_setIfInBounds]
    by_cases e : k * 2 + j = k * 2 + i
    · obtain rfl : j = i := by omega
      rw [if_pos rfl]
      rw [h1] at hv'
      have hlt : k * 2 + j < cur'.size := by
        rw [hb.cell] at hc
        exact (Array.getElem?_eq_some_iff.1 hc).1
      rw [if_pos hlt]
      exact hv'
    · rw [if_neg e]
      rw [h2 i (by omega)] at hv'
      have := e2 i v' hv'
      rw [hb.cell] at this
      exact this
theorem place_frame (h : NodesIs w S L sb sn D vn N PT) {v : Value} (hv : ∀ b, v.ownBlock = some b → ∃ cur, Blk w b 3 cur) (h56 : But v.ownBlock.toList w w6) (u : Value) (i : Nat) :
    OwnE w6 elN 0 vn N ∧ But (gn :: v.ownBlock.toList) w (w6.setCell ⟨gn, i, none⟩ u) ∧ But [gn] w6 (w6.setCell ⟨gn, i, none⟩ u) := by
  have hty := h.nod.typ
  have h67 : But [gn] w6 (w6.setCell ⟨gn, i, none⟩ u) := (But.refl [gn] w6).set_ (p := ⟨gn, i, none⟩) (.inl (by simp)) u
  refine ⟨h.nod.but h56 (fun b hb hm => ?_), (h56.more (fun i hi => List.mem_cons_of_mem _ hi)).trans (h67.more (fun i hi => by simp at hi; simp [hi])), h67⟩
  rw [Option.mem_toList] at hm
  obtain ⟨c1, k1⟩ := hty b hb
  obtain ⟨c2, k2⟩ := hv b hm
  exact absurd rfl (k1.ne_ k2 (by decide))
/-- a place more, of a rule that matches what has more labels -/
theorem place_bel (h : NodesIs w S L sb sn D vn N PT) (hs : N[k]? = some s) (hq : PT[k]? = some q) (hr : wayP r.pa = q) (hbl : belB r.pa = true) (hg : vn.ownBlock = some gn) (h56 : But s.2.v.ownBlock.toList w w6)
    (ho : OwnE w6 elP 0 s6.v (belR L q ++ [L.length])) (hf : s6.v.ownBlock = s.2.v.ownBlock ∨ ∃ b, s6.v.ownBlock = some b ∧ w.heap.size ≤ b) :
    NodesIs (w6.setCell ⟨gn, k * 2 + 1, none⟩ s6.v) (S ++ newB w (w6.setCell ⟨gn, k * 2 + 1, none⟩ s6.v)) (L ++ [r]) sb sn D vn (N.set k (s.1, s6)) PT ∧ But (gn :: s.2.v.ownBlock.toList) w (w6.setCell ⟨gn, k * 2 + 1, none⟩ s6.v) ∧
    (∃ v, w6.cell? ⟨gn, k * 2 + 1, none⟩ = some v) ∧ w6.frozen? ⟨gn, k * 2 + 1, none⟩ = false := by
  have hv := (h.bel k s q hs hq).typ
  obtain ⟨n6, b7, b67⟩ := place_frame (gn := gn) h hv h56 s6.v (k * 2 + 1)
  obtain ⟨n7, hc, hf7⟩ := nodes_set n6 hs hg (s.1, s6) 1 (by decide) s6.v rfl (fun i hi => by
    match i, hi with
    | 0, _ => rfl
    | i + 2, _ => rfl)
  have ho7 : OwnE (w6.setCell ⟨gn, k * 2 + 1, none⟩ s6.v) elP 0 s6.v (belR L q ++ [L.length]) := ho.but b67 (fun b hb hm => by
    rw [List.mem_singleton] at hm
    subst hm
    obtain ⟨c1, k1⟩ := n6.typ b hg
    obtain ⟨c2, k2⟩ := ho.typ b hb
    exact absurd rfl (k1.ne_ k2 (by decide)))
  refine ⟨h.add_bel hs hq hr hbl ho7 hf n7 b7 (fun b hb => ?_) (fun i hi => List.mem_append_left _ hi) (fun b hb => ?_), b7, hc, hf7⟩
  · rcases List.mem_cons.1 hb with rfl | hb
    · exact .inr (h.nod.typ b hg)
    · exact .inl (Option.mem_toList.1 hb)
  · rcases hf with e | ⟨c, e, hc'⟩
    · rw [e] at hb
      exact List.mem_append_left _ (h.in3 s (List.mem_of_getElem? hs) b (.inr hb))
    · have := ho7.lt b hb
      rw [e] at hb
      injection hb with hb
      exact List.mem_append_right _ ((newB_mem b7.size).2 ⟨by omega, this⟩)
/-- a place more, of a rule that matches just these labels -/
theorem place_jus (h : NodesIs w S L sb sn D vn N PT) (hs : N[k]? = some s) (hq : PT[k]? = some q) (hr : wayP r.pa = q) (hbl : belB r.pa = false) (hg : vn.ownBlock = some gn) (h56 : But s.1.v.ownBlock.toList w w6)
    (ho : OwnE w6 elP 0 s6.v (jusR L q ++ [L.length])) (hf : s6.v.ownBlock = s.1.v.ownBlock ∨ ∃ b, s6.v.ownBlock = some b ∧ w.heap.size ≤ b) :
    NodesIs (w6.setCell ⟨gn, k * 2, none⟩ s6.v) (S ++ newB w (w6.setCell ⟨gn, k * 2, none⟩ s6.v)) (L ++ [r]) sb sn D vn (N.set k (s6, s.2)) PT ∧ But (gn :: s.1.v.ownBlock.toList) w (w6.setCell ⟨gn, k * 2, none⟩ s6.v) ∧
    (∃ v, w6.cell? ⟨gn, k * 2, none⟩ = some v) ∧ w6.frozen? ⟨gn, k * 2, none⟩ = false := by
  have hv := (h.jus k s q hs hq).typ
  obtain ⟨n6, b7, b67⟩ := place_frame (gn := gn) h hv h56 s6.v (k * 2)
  obtain ⟨n7, hc, hf7⟩ := nodes_set n6 hs hg (s6, s.2) 0 (by decide) s6.v rfl (fun i hi => by
    match i, hi with
    | 1, _ => rfl
    | i + 2, _ => rfl)
  rw [Nat.add_zero] at n7 hc hf7
  have ho7 : OwnE (w6.setCell ⟨gn, k * 2, none⟩ s6.v) elP 0 s6.v (jusR L q ++ [L.length]) := ho.but b67 (fun b hb hm => by
    rw [List.mem_singleton] at hm
    subst hm
    obtain ⟨c1, k1⟩ := n6.typ b hg
    obtain ⟨c2, k2⟩ := ho.typ b hb
    exact absurd rfl (k1.ne_ k2 (by decide)))
  refine ⟨h.add_jus hs hq hr hbl ho7 hf n7 b7 (fun b hb => ?_) (fun i hi => List.mem_append_left _ hi) (fun b hb => ?_), b7, hc, hf7⟩
  · rcases List.mem_cons.1 hb with rfl | hb
    · exact .inr (h.nod.typ b hg)
    · exact .inl (Option.mem_toList.1 hb)
  · rcases hf with e | ⟨c, e, hc'⟩
    · rw [e] at hb
      exact List.mem_append_left _ (h.in3 s (List.mem_of_getElem? hs) b (.inl hb))
    · have := ho7.lt b hb
      rw [e] at hb
      injection hb with hb
      exact List.mem_append_right _ ((newB_mem b7.size).2 ⟨by omega, this⟩)
end
end Go.Proofs.YtlpondbcnfaggaaGreatDoor.Tr

/-
  Contract of package trie's matching over this seat's translation: the rows of places whose rules' patterns match a host, those that weigh most last. Condition: a host of up to a million bytes.
-/
namespace Go.Proofs.YtlpondbcnfaggaaGreatDoor.Tr
open Go.RowKit Go.Proofs.YtlpondbcnfaggaaGreatDoor.Wd Go.Proofs.YtlpondbcnfaggaaGreatDoor.Asc Go.Proofs.YtlpondbcnfaggaaGreatDoor.Tx Go.Proofs.YtlpondbcnfaggaaGreatDoor.St Go.Proofs.YtlpondbcnfaggaaGreatDoor.Te Go.Maps

/-- rows of places, as they lie -/
def RowsAt (w : World) (S : List Nat) (rows : List Sv) (RR : List (List Nat)) : Prop := rows.length = RR.length ∧ ∀ (i : Nat) (sv : Sv) (l : List Nat), rows[i]? = some sv → RR[i]? = some l → OwnE w elP 0 sv.v l ∧ ∀ b, sv.v.ownBlock = some b → b ∈ S
theorem RowsAt.snoc {w : World} {S : List Nat} {rows : List Sv} {RR : List (List Nat)} (h : RowsAt w S rows RR) {sv : Sv} {l : List Nat} (ho : OwnE w elP 0 sv.v l ∧ ∀ b, sv.v.ownBlock = some b → b ∈ S) : RowsAt w S (rows ++ [sv]) (RR ++ [l]) := by
  refine ⟨by rw [List.length_append, List.length_append, h.1]; rfl, fun i sv' l' h1 h2 => ?_⟩
  rcases at_snoc h1 with ⟨hi, h1⟩ | ⟨hi, rfl⟩
  · rcases at_snoc h2 with ⟨_, h2⟩ | ⟨hj, _⟩
    · exact h.2 i sv' l' h1 h2
    · rw [h.1] at hi; omega
  · rcases at_snoc h2 with ⟨hj, _⟩ | ⟨_, rfl⟩
    · rw [h.1] at hi; omega
    · exact ho
theorem rows_step (L : List Ru) (hl : List (List UInt8)) (k : Nat) : (List.range (k + 1)).map (rowW L hl) = (List.range k).map (rowW L hl) ++ [rowW L hl k] := by rw [List.range_succ, List.map_append]; rfl
theorem rows_short {L : List Ru} {hl : List (List UInt8)} : ∀ (d k : Nat), k + d = hl.length → (∀ i, k < i → i ≤ hl.length → rowW L hl i = []) → ((List.range (k + 1)).map (rowW L hl)).reverse.flatten = (rowsW L hl).reverse.flatten
  | 0, k, hk, _ => by unfold rowsW; rw [← hk]
  | d + 1, k, hk, h => by
    rw [← rows_short d (k + 1) (by omega) (fun i h1 h2 => h i (by omega) h2), rows_step L hl (k + 1), h (k + 1) (by omega) (by omega), List.reverse_append]
    rfl
set_option linter.unusedSimpArgs false in
set_option maxRecDepth 100000 in
set_option maxHeartbeats 16000000 in
theorem tmatching_any {B : Nat} (h : ByteArray) (w : World) (hE : Ad.Env B w) (hh : h.size ≤ 1000000) {g : Nat} {S1 S2 : List Nat} {L : List Ru} {vr : Value} {tb tn : Nat} {T : DataW Unit} {sb sn : Nat} {D : DataW Unit} {vn : Value} {N : List (Sv × Sv)} {PT : List (List (List UInt8))}
    (hT : TriI w g S1 S2 L vr tb tn T sb sn D vn N PT) :
    Calls Tryz.prog 44 #[.pointer (some ⟨g, 0, none⟩), .string h] w fun e w' => ∃ A m c rows RR, e = .returned (.slice A m c) ∧ OwnE w' elV w.heap.size (.slice A m c) rows ∧ RowsAt w S2 rows RR ∧ RR.reverse.flatten = (rowsW L (Nm.labelsS (tailS (bs h)))).reverse.flatten ∧ rows.length ≤ 1000000 ∧ Below w.heap.size w w' := by
  obtain ⟨hl, hhl⟩ : ∃ hl, Nm.labelsS (tailS (bs h)) = hl := ⟨_, rfl⟩
  obtain ⟨t, ht⟩ : ∃ t, str (tailS (bs h)) = t := ⟨_, rfl⟩
  have htb : bs t = tailS (bs h) := by rw [← ht, bs_str]
  have htz : t.size ≤ 1000000 := by
    rw [← bs_length, htb]
    unfold tailS
    rw [List.length_drop, bs_length]
    omega
  have HTl := Lib.hid (ttail_any h w (by omega))
  rw [ht] at HTl
  have HLb := Lib.hid (name_labels (B := B) t w hE (by omega))
  rw [htb, hhl] at HLb
  rw [hhl]
  have hlz : ∀ x ∈ hl, x.length ≤ 1000000 := fun x hx => by
    have h1 := (labP_len (bs t)).2
    unfold labP at h1
    by_cases e : bs t = []
    · rw [← hhl, ← htb, e] at hx
      have : x = [] := by
        rw [show Nm.labelsS [] = [[]] from by decide +kernel] at hx
        simpa using hx
      rw [this]; exact Nat.zero_le _
    · rw [if_neg e, bs_length, htb, hhl] at h1
      have := h1 x hx
      omega
  have hln : hl.length ≤ 1000001 := by
    rw [← hhl]
    unfold Nm.labelsS
    split
    · simp
    · rw [List.length_reverse]
      have := Nm.spl_len 46 (tailS (bs h))
      rw [← htb, bs_length] at this
      rw [← htb]
      omega
  have hln2 : hl.length ≤ 300 := by
    rw [← hhl]
    unfold Nm.labelsS
    split
    · simp
    · rw [List.length_reverse]
      have := Nm.spl_len 46 (tailS (bs h))
      have h2 : (tailS (bs h)).length ≤ 254 := by unfold tailS; rw [List.length_drop]; omega
      omega
  have HZ := Lib.hid hlz
  obtain ⟨n, hn⟩ : ∃ n, hl.length = n := ⟨_, rfl⟩
  rw [hn] at HLb hln2
  have HN := Lib.hid hn
  have HT := Lib.hid hT
  obtain ⟨s0, hs0⟩ : ∃ s, N[0]? = some s := ⟨_, List.getElem?_eq_getElem (by rw [hT.nod.len]; exact (List.getElem?_eq_some_iff.1 hT.nod.ste.root).1)⟩
  obtain ⟨gn, cn, hvn, hgo, hgl, _, _⟩ := hT.nod.cells hs0
  obtain ⟨nn, hnn⟩ : ∃ nn, N.length = nn := ⟨_, rfl⟩
  rw [hnn] at hvn
  have HV := Lib.hid hvn
  have HNn := Lib.hid hnn
  have HGo := Lib.hid hgo
  obtain ⟨B0, hB0⟩ : ∃ B0, w.heap.size = B0 := ⟨_, rfl⟩
  have HB0 := Lib.hid hB0
  -- what stays of the trie while new blocks come
  have HK := Lib.hid (fun (ww : World) (hb : Below w.heap.size w ww) => hT.below hb)
  have HC2 := Lib.hid (fun (ww : World) (hb : Below w.heap.size w ww) => show ww.cell? ⟨g, 2, none⟩ = some (.map (some sb)) ∧ ww.cell? ⟨g, 3, none⟩ = some (.slice (some ⟨gn, 0, none⟩) nn cn) from ⟨(hT.below hb).blk.cell 2, by rw [← hvn]; exact (hT.below hb).blk.cell 3⟩)
  clear hT hs0 hgl hvn hnn hgo hlz hln hhl ht htb htz hE hh hn
  rw [hB0] at HK HC2 HLb
  rw [hB0]
  clear hB0
  go_enter Tryz.func44, Tryz.ntmps44
  go_wp2_with fail
  refine HTl.out.mono ?_
  rintro e w1 ⟨rfl, rfl⟩
  go_wp2_with fail
  refine HLb.out.mono ?_
  rintro e w2 ⟨A, c, rfl, hr, hb⟩
  have HR2 := Lib.hid hr
  have HB2 := Lib.hid hb
  clear hr hb HLb HTl
  go_wp2_with fail
  go_loopw [5, 6, 15] (fun x5 x6 x15 wr => ∃ (k a : Nat) (ww : World) (A' : Option Addr) (m' c' : Nat) (rows : List Sv), ww = wr ∧ k ≤ n ∧ x5 = .slice A' m' c' ∧ x6 = .int .i64 (a : Nat) ∧ x15 = .int .i64 (k : Nat) ∧ Hid (PT[a]? = some (hl.take k)) ∧ Hid (OwnE ww elV B0 (.slice A' m' c') rows) ∧ Hid (RowsAt w S2 rows ((List.range k).map (rowW L hl))) ∧ Hid (Below B0 w ww) ∧ Hid (RowT ww A hl)) (fun _ _ x15 _ => n - (intOf x15).toNat)
  case atStart => exact ⟨0, 0, w2, none, 0, 0, [], rfl, Nat.zero_le _, rfl, rfl, rfl, Lib.hid HT.out.nod.ste.root, Lib.hid (OwnE.nil _ _ _), Lib.hid ⟨rfl, fun i sv l h => by simp at h⟩, HB2, HR2⟩
  case round =>
    clear HB2 HR2
    obtain ⟨k, a, ww, A', m', c', rows, rfl, hk, rfl, rfl, rfl, HP, HO, HRs, HB, HR⟩ := hrel
    obtain ⟨s, hs⟩ : ∃ s, N[a]? = some s := ⟨_, List.getElem?_eq_getElem (by rw [HT.out.nod.len]; exact (List.getElem?_eq_some_iff.1 HP.out).1)⟩
    have HNs := Lib.hid hs
    have hai : (a : Int) < (nn : Int) := by
      have h1 := (List.getElem?_eq_some_iff.1 hs).1
      have := HNn.out
      omega
    obtain ⟨c2, c3⟩ := HC2.out _ HB.out
    obtain ⟨gn', cn', hvn', hgo', _, hc1, hc2⟩ := (HK.out _ HB.out).nod.cells hs
    have e0 : gn = gn' := Option.some.inj (HGo.out.symm.trans hgo')
    subst e0
    obtain ⟨⟨a1, n1, q1⟩, ⟨a2, n2, q2⟩⟩ := s
    have hd1 : ww.cell? ⟨gn, a * 2, none⟩ = some (.slice a1 n1 q1) := hc1
    have hd2 : ww.cell? ⟨gn, a * 2 + 1, none⟩ = some (.slice a2 n2 q2) := hc2
    have hbz : rows.length + 1 ≤ 4294967296 := by
      have := HRs.out.1
      rw [List.length_map, List.length_range] at this
      omega
    clear hs hc1 hc2 hvn' hgo'
    by_cases hlt : k < n
    · have hki : (k : Int) < (n : Int) := by omega
      obtain ⟨x, hx⟩ : ∃ x, hl[k]? = some x := ⟨_, List.getElem?_eq_getElem (by rw [HN.out]; exact hlt)⟩
      obtain ⟨gl, hA, hgl, hcl⟩ := HR.out.at_ hx
      subst hA
      have HXz := Lib.hid (HZ.out x (List.mem_of_getElem? hx))
      have HTk := Lib.hid (show hl.take (k + 1) = hl.take k ++ [x] by rw [List.take_add_one, hx]; rfl)
      have HRow := Lib.hid (show RowsAt w S2 (rows ++ [⟨a2, n2, q2⟩]) ((List.range (k + 1)).map (rowW L hl)) from by
        rw [rows_step]
        refine HRs.out.snoc ?_
        have h1 := HT.out.nod.bel a _ _ HNs.out HP.out
        unfold rowW
        rw [if_pos (by rw [HN.out]; exact hlt)]
        exact ⟨h1, fun b hb => HT.out.nod.in3 _ (List.mem_of_getElem? HNs.out) b (.inr hb)⟩)
      have hO := HO.out.alloc (.cells #[.slice a2 n2 q2] 82)
      have hsr : SrcE (ww.alloc (.cells #[.slice a2 n2 q2] 82)) elV (some ⟨ww.heap.size, 0, none⟩) [⟨a2, n2, q2⟩] := SrcE.one _ (Blk.new _ _ _) rfl
      have hB8 : B0 ≤ (ww.alloc (.cells #[.slice a2 n2 q2] 82)).heap.size := by have := HB.out.size; have := HB0.out; rw [alloc_size]; omega
      clear hx hgl
      go_upto_region 7 with (refine wpList_appE fineV rfl (.tmp 19) (.tmp 28) rfl B0 (.slice A' m' c') rows rfl hO (some ⟨ww.heap.size, 0, none⟩) 1 1 [⟨a2, n2, q2⟩] rfl rfl (by simp) hsr hbz (by decide) hB8 ?_)
      intro v6 w6 ho6 hg6 hf6
      have HB6 := Lib.hid (show Below B0 w w6 from (HB.out.alloc (by have := HB.out.size; have := HB0.out; omega) _).grown hg6.out (by have := HB.out.size; have := HB0.out; rw [alloc_size]; omega) (fun b hb => HO.out.ge b hb))
      have HR6 := Lib.hid ((HR.out.below ((Below.refl _ ww).alloc (Nat.le_refl _) (.cells #[.slice a2 n2 q2] 82))).but (but_grown hg6.out) (fun b hb cur hc => by
        rw [Option.mem_toList] at hb
        obtain ⟨cur', hc'⟩ := hO.typ b hb
        exact absurd rfl (hc'.ne_ hc (by decide))))
      obtain ⟨⟨a6, m6, c6⟩, hv6, hn6⟩ := ho6.out.sv
      have hv6' : v6 = .slice a6 m6 c6 := hv6
      clear hv6 hn6
      subst hv6'
      have HO6 := ho6
      have ha9 : a ≤ 4294967296 := by
        have := HT.out.pts
        have := HT.out.most
        have := (List.getElem?_eq_some_iff.1 HP.out).1
        omega
      have HA9 := Lib.hid ha9
      obtain ⟨c26, c36⟩ := HC2.out _ HB6.out
      have hstp := (HK.out _ HB6.out).nod.stp
      clear hO hsr hB8 hbz c2 c3 hd1 hd2 hg6 hf6 HO HR HB HRs ho6 ha9 hcl
      by_cases hm : hl.take (k + 1) ∈ PT
      · obtain ⟨j, hj⟩ := List.getElem?_of_mem hm
        have hlk := (step_is hstp HT.out.nod.ste HA9.out HXz.out HP.out (j := j) (by rw [← HTk.out]; exact hj)).1
        simp only [spC] at hlk
        have HJ := Lib.hid hj
        clear hm hj hstp
        go_wp2_with fail
        go_roundw
        case rel => exact ⟨k + 1, j, w6, a6, m6, c6, rows ++ [⟨a2, n2, q2⟩], rfl, by omega, rfl, rfl, by go_num, HJ, HO6, HRow, HB6, HR6⟩
        case measure => simp [intOf]; omega
      · have hlk := step_not hstp HT.out.nod.ste HA9.out HXz.out HP.out (by rw [← HTk.out]; exact hm)
        simp only [spC] at hlk
        have HF := Lib.hid (show ((List.range (k + 1)).map (rowW L hl)).reverse.flatten = (rowsW L hl).reverse.flatten from rows_short (n - k) k (by have := HN.out; omega) (fun i h1 h2 => by
          have h3 := HT.out.nod.ste.short hm i (by omega)
          unfold rowW
          split
          · exact (no_row HT.out.nod h3).2
          · rw [List.take_of_length_le (by omega)] at h3
            exact (no_row HT.out.nod h3).1))
        clear hm hstp
        go_wp2_with fail
        go_ret
        exact ⟨a6, m6, c6, _, _, rfl, HO6.out, HRow.out, HF.out, by have := HRow.out.1; rw [List.length_map, List.length_range] at this; omega, HB6.out⟩
    · obtain rfl : k = n := by omega
      have HRow := Lib.hid (show RowsAt w S2 (rows ++ [⟨a1, n1, q1⟩]) (rowsW L hl) from by
        unfold rowsW
        rw [rows_step, HN.out]
        refine HRs.out.snoc ?_
        have h1 := HT.out.nod.jus a _ _ HNs.out HP.out
        unfold rowW
        rw [if_neg (by rw [HN.out]; exact Nat.lt_irrefl _)]
        rw [List.take_of_length_le (by rw [HN.out]; exact Nat.le_refl _)] at h1
        exact ⟨h1, fun b hb => HT.out.nod.in3 _ (List.mem_of_getElem? HNs.out) b (.inl hb)⟩)
      have hO := HO.out.alloc (.cells #[.slice a1 n1 q1] 82)
      have hsr : SrcE (ww.alloc (.cells #[.slice a1 n1 q1] 82)) elV (some ⟨ww.heap.size, 0, none⟩) [⟨a1, n1, q1⟩] := SrcE.one _ (Blk.new _ _ _) rfl
      have hB8 : B0 ≤ (ww.alloc (.cells #[.slice a1 n1 q1] 82)).heap.size := by have := HB.out.size; have := HB0.out; rw [alloc_size]; omega
      go_wp2_with (refine wpList_appE fineV rfl (.tmp 46) (.tmp 55) rfl B0 (.slice A' m' c') rows rfl hO (some ⟨ww.heap.size, 0, none⟩) 1 1 [⟨a1, n1, q1⟩] rfl rfl (by simp) hsr hbz (by decide) hB8 ?_)
      intro v6 w6 ho6 hg6 hf6
      have HB6 := Lib.hid (show Below B0 w w6 from (HB.out.alloc (by have := HB.out.size; have := HB0.out; omega) _).grown hg6.out (by have := HB.out.size; have := HB0.out; rw [alloc_size]; omega) (fun b hb => HO.out.ge b hb))
      obtain ⟨⟨a6, m6, c6⟩, hv6, hn6⟩ := ho6.out.sv
      have hv6' : v6 = .slice a6 m6 c6 := hv6
      clear hv6 hn6
      subst hv6'
      clear hO hsr hB8 hbz c2 c3 hd1 hd2 hg6 hf6 HO HR HB HRs
      go_wp2_with fail
      go_ret
      exact ⟨a6, m6, c6, _, _, rfl, ho6.out, HRow.out, rfl, by have := HRow.out.1; unfold rowsW at this; rw [List.length_map, List.length_range, HN.out] at this; omega, HB6.out⟩
end Go.Proofs.YtlpondbcnfaggaaGreatDoor.Tr
