/-
  A place more in a trie's node, in memory. Plain lemmas, no condition.
-/
import Derived.Test.YtlpondbcnfaggaaGreatDoorR33
namespace Go.Proofs.YtlpondbcnfaggaaGreatDoor.Tr
open Go.RowKit Go.Proofs.YtlpondbcnfaggaaGreatDoor.Wd Go.Proofs.YtlpondbcnfaggaaGreatDoor.Asc Go.Proofs.YtlpondbcnfaggaaGreatDoor.Tx Go.Proofs.YtlpondbcnfaggaaGreatDoor.St Go.Proofs.YtlpondbcnfaggaaGreatDoor.Te Go.Maps

section
variable {w w6 : World} {S : List Nat} {L : List Ru} {sb sn : Nat} {D : DataW Unit} {vn : Value} {N : List (Sv × Sv)} {PT : List (List (List UInt8))} {k gn : Nat} {s : Sv × Sv} {s6 : Sv} {q : List (List UInt8)} {r : Ru}
/-- a node's two rows, where they lie -/
theorem NodesIs.cells (h : NodesIs w S L sb sn D vn N PT) (hs : N[k]? = some s) : ∃ gn c, vn = .slice (some ⟨gn, 0, none⟩) N.length c ∧ vn.ownBlock = some gn ∧ gn < w.heap.size ∧ w.cell? ⟨gn, k * 2, none⟩ = some s.1.v ∧ w.cell? ⟨gn, k * 2 + 1, none⟩ = some s.2.v := by
  rcases h.nod.row with ⟨_, e⟩ | ⟨gn, c, cur, e, _, hb, _, _, _, _⟩
  · rw [e] at hs; simp at hs
  · obtain ⟨g', e1, _, e2, _⟩ := h.nod.put fineN (y := s) hs
    rw [e] at e1
    have e3 : gn = g' := Option.some.inj e1
    subst e3
    exact ⟨gn, c, e, by rw [e]; rfl, hb.lt, e2 0 _ rfl, e2 1 _ rfl⟩
/-- what a store into a node's row leaves -/
theorem nodes_set (h : OwnE w elN 0 vn N) (hs : N[k]? = some s) (hg : vn.ownBlock = some gn) (t : Sv × Sv) (j : Nat) (hj : j < 2) (u : Value) (h1 : (elN.c t)[j]? = some u) (h2 : ∀ i, i ≠ j → (elN.c t)[i]? = (elN.c s)[i]?) :
    OwnE (w.setCell ⟨gn, k * 2 + j, none⟩ u) elN 0 vn (N.set k t) ∧ (∃ v, w.cell? ⟨gn, k * 2 + j, none⟩ = some v) ∧ w.frozen? ⟨gn, k * 2 + j, none⟩ = false := by
  obtain ⟨g', e1, _, e2, e3⟩ := h.put fineN (y := t) hs
  have e4 : gn = g' := Option.some.inj (hg.symm.trans e1)
  subst e4
  obtain ⟨cur, hb⟩ := h.typ gn hg
  have hv : ∃ v, (elN.c s)[j]? = some v := by
    match j, hj with
    | 0, _ => exact ⟨_, rfl⟩
    | 1, _ => exact ⟨_, rfl⟩
  obtain ⟨v, hv⟩ := hv
  have hc := e2 j v hv
  refine ⟨e3 (cur.setIfInBounds (k * 2 + j) u) _ (fun cur' hb' => ?_), ⟨v, hc⟩, hb.frozen _⟩
  have e5 : cur' = cur := by
    have := hb'.heap.symm.trans hb.heap
    injection this with this
    injection this
  subst e5
  refine ⟨hb.set_ _ _, by simp, fun i hi => ?_, fun i v' hv' => ?_⟩
  · rw [Array.getElem?_setIfInBounds, if_neg]
    show ¬ k * 2 + j = i
    have : elN.n = 2 := rfl
    rw [this] at hi
    omega
  · show (cur'.setIfInBounds (k * 2 + j) u)[k * 2 + i]? = some v'
    rw [Array.getElem?_setIfInBounds]
    by_cases e : k * 2 + j = k * 2 + i
    · obtain rfl : j = i := by omega
      rw [if_pos rfl]
      rw [h1] at hv'
      have hlt : k * 2 + j < cur'.size := by
        rw [hb.cell] at hc
        exact (Array.getElem?_eq_some_iff.1 hc).1
      rw [if_pos hlt]
      exact hv'
    · rw [if_neg e]
      rw [h2 i (by omega)] at hv'
      have := e2 i v' hv'
      rw [hb.cell] at this
      exact this
theorem place_frame (h : NodesIs w S L sb sn D vn N PT) {v : Value} (hv : ∀ b, v.ownBlock = some b → ∃ cur, Blk w b 3 cur) (h56 : But v.ownBlock.toList w w6) (u : Value) (i : Nat) :
    OwnE w6 elN 0 vn N ∧ But (gn :: v.ownBlock.toList) w (w6.setCell ⟨gn, i, none⟩ u) ∧ But [gn] w6 (w6.setCell ⟨gn, i, none⟩ u) := by
  have hty := h.nod.typ
  have h67 : But [gn] w6 (w6.setCell ⟨gn, i, none⟩ u) := (But.refl [gn] w6).set_ (p := ⟨gn, i, none⟩) (.inl (by simp)) u
  refine ⟨h.nod.but h56 (fun b hb hm => ?_), (h56.more (fun i hi => List.mem_cons_of_mem _ hi)).trans (h67.more (fun i hi => by simp at hi; simp [hi])), h67⟩
  rw [Option.mem_toList] at hm
  obtain ⟨c1, k1⟩ := hty b hb
  obtain ⟨c2, k2⟩ := hv b hm
  exact absurd rfl (k1.ne_ k2 (by decide))
/-- a place more, of a rule that matches what has more labels -/
theorem place_bel (h : NodesIs w S L sb sn D vn N PT) (hs : N[k]? = some s) (hq : PT[k]? = some q) (hr : wayP r.pa = q) (hbl : belB r.pa = true) (hg : vn.ownBlock = some gn) (h56 : But s.2.v.ownBlock.toList w w6)
    (ho : OwnE w6 elP 0 s6.v (belR L q ++ [L.length])) (hf : s6.v.ownBlock = s.2.v.ownBlock ∨ ∃ b, s6.v.ownBlock = some b ∧ w.heap.size ≤ b) :
    NodesIs (w6.setCell ⟨gn, k * 2 + 1, none⟩ s6.v) (S ++ newB w (w6.setCell ⟨gn, k * 2 + 1, none⟩ s6.v)) (L ++ [r]) sb sn D vn (N.set k (s.1, s6)) PT ∧ But (gn :: s.2.v.ownBlock.toList) w (w6.setCell ⟨gn, k * 2 + 1, none⟩ s6.v) ∧
    (∃ v, w6.cell? ⟨gn, k * 2 + 1, none⟩ = some v) ∧ w6.frozen? ⟨gn, k * 2 + 1, none⟩ = false := by
  have hv := (h.bel k s q hs hq).typ
  obtain ⟨n6, b7, b67⟩ := place_frame (gn := gn) h hv h56 s6.v (k * 2 + 1)
  obtain ⟨n7, hc, hf7⟩ := nodes_set n6 hs hg (s.1, s6) 1 (by decide) s6.v rfl (fun i hi => by
    match i, hi with
    | 0, _ => rfl
    | i + 2, _ => rfl)
  have ho7 : OwnE (w6.setCell ⟨gn, k * 2 + 1, none⟩ s6.v) elP 0 s6.v (belR L q ++ [L.length]) := ho.but b67 (fun b hb hm => by
    rw [List.mem_singleton] at hm
    subst hm
    obtain ⟨c1, k1⟩ := n6.typ b hg
    obtain ⟨c2, k2⟩ := ho.typ b hb
    exact absurd rfl (k1.ne_ k2 (by decide)))
  refine ⟨h.add_bel hs hq hr hbl ho7 hf n7 b7 (fun b hb => ?_) (fun i hi => List.mem_append_left _ hi) (fun b hb => ?_), b7, hc, hf7⟩
  · rcases List.mem_cons.1 hb with rfl | hb
    · exact .inr (h.nod.typ b hg)
    · exact .inl (Option.mem_toList.1 hb)
  · rcases hf with e | ⟨c, e, hc'⟩
    · rw [e] at hb
      exact List.mem_append_left _ (h.in3 s (List.mem_of_getElem? hs) b (.inr hb))
    · have := ho7.lt b hb
      rw [e] at hb
      injection hb with hb
      exact List.mem_append_right _ ((newB_mem b7.size).2 ⟨by omega, this⟩)
/-- a place more, of a rule that matches just these labels -/
theorem place_jus (h : NodesIs w S L sb sn D vn N PT) (hs : N[k]? = some s) (hq : PT[k]? = some q) (hr : wayP r.pa = q) (hbl : belB r.pa = false) (hg : vn.ownBlock = some gn) (h56 : But s.1.v.ownBlock.toList w w6)
    (ho : OwnE w6 elP 0 s6.v (jusR L q ++ [L.length])) (hf : s6.v.ownBlock = s.1.v.ownBlock ∨ ∃ b, s6.v.ownBlock = some b ∧ w.heap.size ≤ b) :
    NodesIs (w6.setCell ⟨gn, k * 2, none⟩ s6.v) (S ++ newB w (w6.setCell ⟨gn, k * 2, none⟩ s6.v)) (L ++ [r]) sb sn D vn (N.set k (s6, s.2)) PT ∧ But (gn :: s.1.v.ownBlock.toList) w (w6.setCell ⟨gn, k * 2, none⟩ s6.v) ∧
    (∃ v, w6.cell? ⟨gn, k * 2, none⟩ = some v) ∧ w6.frozen? ⟨gn, k * 2, none⟩ = false := by
  have hv := (h.jus k s q hs hq).typ
  obtain ⟨n6, b7, b67⟩ := place_frame (gn := gn) h hv h56 s6.v (k * 2)
  obtain ⟨n7, hc, hf7⟩ := nodes_set n6 hs hg (s6, s.2) 0 (by decide) s6.v rfl (fun i hi => by
    match i, hi with
    | 1, _ => rfl
    | i + 2, _ => rfl)
  rw [Nat.add_zero] at n7 hc hf7
  have ho7 : OwnE (w6.setCell ⟨gn, k * 2, none⟩ s6.v) elP 0 s6.v (jusR L q ++ [L.length]) := ho.but b67 (fun b hb hm => by
    rw [List.mem_singleton] at hm
    subst hm
    obtain ⟨c1, k1⟩ := n6.typ b hg
    obtain ⟨c2, k2⟩ := ho.typ b hb
    exact absurd rfl (k1.ne_ k2 (by decide)))
  refine ⟨h.add_jus hs hq hr hbl ho7 hf n7 b7 (fun b hb => ?_) (fun i hi => List.mem_append_left _ hi) (fun b hb => ?_), b7, hc, hf7⟩
  · rcases List.mem_cons.1 hb with rfl | hb
    · exact .inr (h.nod.typ b hg)
    · exact .inl (Option.mem_toList.1 hb)
  · rcases hf with e | ⟨c, e, hc'⟩
    · rw [e] at hb
      exact List.mem_append_left _ (h.in3 s (List.mem_of_getElem? hs) b (.inl hb))
    · have := ho7.lt b hb
      rw [e] at hb
      injection hb with hb
      exact List.mem_append_right _ ((newB_mem b7.size).2 ⟨by omega, this⟩)
end
end Go.Proofs.YtlpondbcnfaggaaGreatDoor.Tr

/-
  Contract of package trie's place over this seat's translation: the place of a rule stands at the node of its pattern. Condition: a right rule, fewer than a million nodes.
-/
namespace Go.Proofs.YtlpondbcnfaggaaGreatDoor.Tr
open Go.RowKit Go.Proofs.YtlpondbcnfaggaaGreatDoor.Wd Go.Proofs.YtlpondbcnfaggaaGreatDoor.Asc Go.Proofs.YtlpondbcnfaggaaGreatDoor.Tx Go.Proofs.YtlpondbcnfaggaaGreatDoor.St Go.Proofs.YtlpondbcnfaggaaGreatDoor.Te Go.Maps

/-- what place leaves -/
structure PlcI (w : World) (g : Nat) (S2 : List Nat) (L : List Ru) (vr : Value) (tb sb : Nat) (M : Nat) (ww : World) (S' : List Nat) (sn : Nat) (D : DataW Unit) (vn : Value) (N : List (Sv × Sv)) (PT : List (List (List UInt8))) : Prop where
  blk : Blk ww g 73 (trC4 vr tb sb vn)
  nod : NodesIs ww S' L sb sn D vn N PT
  new : ∀ i ∈ S', i ∈ S2 ∨ w.heap.size ≤ i
  lt : ∀ i ∈ S', i < ww.heap.size
  gn : g ∉ S'
  sns : sn ≤ PT.length
  pts : PT.length ≤ M + 300
  but : But (g :: S2) w ww
def PlcP (w : World) (g : Nat) (S2 : List Nat) (L : List Ru) (vr : Value) (tb sb M : Nat) (ww : World) : Prop := ∃ S' sn D vn N PT, PlcI w g S2 L vr tb sb M ww S' sn D vn N PT
theorem PlcI.make {w0 w : World} {g : Nat} {S2 : List Nat} {L L' : List Ru} {vr : Value} {tb sb : Nat} {ls : List (List UInt8)} {M k a : Nat} {w4 w7 : World} {S' : List Nat} {sn : Nat} {D : DataW Unit} {vn : Value} {N N' : List (Sv × Sv)} {PT : List (List (List UInt8))} {gn : Nat} {bs : List Nat}
    (h : RchI w g S2 L vr tb sb ls M k a w4 S' sn D vn N PT) (hg : vn.ownBlock = some gn) (hN : NodesIs w7 (S' ++ newB w4 w7) L' sb sn D vn N' PT) (hB : But (gn :: bs) w4 w7) (hbs : ∀ b ∈ bs, b ∈ S') (hw : Below w0.heap.size w0 w) (hp : PT.length ≤ M + 300) :
    PlcP w0 g S2 L' vr tb sb M w7 := by
  have hgn : gn ∈ S' := h.nod.in2 gn hg
  have z := hB.size
  have hSn : ∀ i ∈ newB w4 w7, w4.heap.size ≤ i ∧ i < w7.heap.size := fun i hi => (newB_mem z).1 hi
  have hin : ∀ i ∈ gn :: bs, i ∈ S' := fun i hi => by
    rcases List.mem_cons.1 hi with rfl | hi
    · exact hgn
    · exact hbs i hi
  have h0 : But (g :: S2) w0 w4 := but_more (But.of_below hw (g :: S2)) h.but (fun i hi => .inl hi)
  refine ⟨S' ++ newB w4 w7, sn, D, vn, N', PT, h.blk.but hB (fun hm => h.gn (hin g hm)), hN, fun i hi => ?_, fun i hi => ?_, fun hm => ?_, h.sns, hp, but_more h0 hB (fun i hi => ?_)⟩
  · rcases List.mem_append.1 hi with hi | hi
    · rcases h.new i hi with e | e
      · exact .inl e
      · have := hw.size
        exact .inr (by omega)
    · have := hSn i hi
      have := h0.size
      exact .inr (by omega)
  · rcases List.mem_append.1 hi with hi | hi
    · have := h.lt i hi; omega
    · exact (hSn i hi).2
  · rcases List.mem_append.1 hm with hm | hm
    · exact h.gn hm
    · have := hSn g hm
      have := h.blk.lt
      omega
  · rcases h.new i (hin i hi) with e | e
    · exact .inl (List.mem_cons_of_mem _ e)
    · have := hw.size
      exact .inr (by omega)
set_option linter.unusedSimpArgs false in
set_option maxRecDepth 100000 in
set_option maxHeartbeats 16000000 in
theorem tplace_any {B : Nat} (r : Ru) (hr : rightS r = 0) (w : World) (hE : Ad.Env B w) {g : Nat} {S2 : List Nat} {L : List Ru} {vr : Value} {tb sb sn : Nat} {D : DataW Unit} {vn : Value} {N : List (Sv × Sv)} {PT : List (List (List UInt8))}
    (hblk : Blk w g 73 (trC4 vr tb sb vn)) (hnod : NodesIs w S2 L sb sn D vn N PT) (hg : g ∉ S2) (hlt : ∀ i ∈ S2, i < w.heap.size) (hsn : sn ≤ PT.length) (hpt : PT.length ≤ 1000000) (hL : L.length ≤ 100000) :
    Calls Tryz.prog 42 #[.pointer (some ⟨g, 0, none⟩), .string (str r.pa), .int .i64 (L.length : Nat)] w fun e w' => e = .returned (.tuple #[]) ∧ PlcP w g S2 (L ++ [r]) vr tb sb PT.length w' := by
  obtain ⟨_, hk3, hpl⟩ := right_ok hr
  obtain ⟨P, hP⟩ : ∃ P, str r.pa = P := ⟨_, rfl⟩
  have hPb : bs P = r.pa := by rw [← hP, bs_str]
  have hPz : P.size ≤ 255 := by rw [← bs_length, hPb]; exact hpl
  obtain ⟨K, X, hc, hK, hXz, hXe, hC⟩ := tparse_at (B := B) P (by omega)
  rw [hPb] at hc
  rw [hc] at hk3
  have hk3' : K ≠ 3 := hk3
  obtain ⟨bb, hbb⟩ : ∃ bb, decide (K < 2) = bb := ⟨_, rfl⟩
  have hbl : belB r.pa = bb := by
    unfold belB
    rw [hc, ← hbb]
    have h2 : (K ≠ 2) ↔ (K < 2) := by omega
    simp only [h2]
  have hw : wayP r.pa = labP (bs X) := by
    unfold wayP labP
    rw [hc]
    by_cases h0 : K = 0
    · rw [if_pos h0, if_pos (hXe.2 (.inl h0))]
    · rw [if_neg h0, if_neg (fun h => by have := hXe.1 h; omega)]
  have HC := Lib.hid (hC w hE)
  rw [hbb, show decide (K ≠ 3) = true from decide_eq_true hk3'] at HC
  rw [hP]
  have HE := Lib.hid hE
  have HRch := Lib.hid (fun (w' : World) (hb : Below w.heap.size w w') => treach_any (B := B) X bb w' (hE.on hb) (by omega) (hblk.below hb hblk.lt) (hnod.below hb) hg (fun i hi => Nat.lt_of_lt_of_le (hlt i hi) hb.size) hsn hpt)
  have HGl := Lib.hid (show ∀ i ∈ g :: S2, i < w.heap.size from fun i hi => by
    rcases List.mem_cons.1 hi with rfl | hi
    · exact hblk.lt
    · exact hlt i hi)
  have hll := (labP_len (bs X)).1
  rw [bs_length] at hll
  rw [← hw] at HRch hll
  obtain ⟨q, hq⟩ : ∃ q, wayP r.pa = q := ⟨_, rfl⟩
  rw [hq] at HRch hll
  have HW := Lib.hid hq
  have HBl := Lib.hid hbl
  obtain ⟨n, hn⟩ : ∃ n, q.length = n := ⟨_, rfl⟩
  rw [hn] at HRch hll
  have HNq := Lib.hid hn
  obtain ⟨M, hM⟩ : ∃ M, PT.length = M := ⟨_, rfl⟩
  rw [hM] at HRch ⊢
  have hn9 : n ≤ 256 := by omega
  obtain ⟨m, hm⟩ : ∃ m, L.length = m := ⟨_, rfl⟩
  rw [hm] at hL ⊢
  have HM := Lib.hid hm
  clear hk3 hk3' hpl hP hPb hPz hc hK hXz hXe hC hbb hbl hw hE hblk hnod hg hlt hsn hpt hll hq hn hM hm hr
  go_enter Tryz.func42, Tryz.ntmps42
  go_wp2_with fail
  refine HC.out.mono ?_
  rintro e w2 ⟨rfl, hb2⟩
  go_upto_region 1 with (refine go_st 63 (Blk.new _ _ _) infH rfl (shC_size _ _) (shC_one _ _) rfl rfl rfl rfl ?_)
  obtain ⟨w3, hw3, hb3, hl3⟩ := sh_put w2 X bb
  rw [hw3]
  have HBw := Lib.hid (hb2.trans (hl3.mono hb2.size))
  have hz2 := hb2.size
  generalize w2.heap.size = h0 at *
  clear hb2 hw3 hl3 HC
  go_wp2_with (refine go_ld (x := .tmp 6) 63 hb3 undH rfl infH (shC_size _ _) rfl rfl rfl ?_)
  refine (HRch.out _ HBw.out).mono ?_
  rintro e w4 ⟨a, rfl, S', sn', D', vn', N', PT', hI⟩
  have hb4 := hb3.but hI.but (fun hm => by have := HGl.out h0 hm; omega)
  have HQ := Lib.hid (show PT'[a]? = some q from by rw [hI.at_, List.take_of_length_le (by rw [HNq.out]; omega)])
  obtain ⟨s, hs⟩ : ∃ s, N'[a]? = some s := ⟨_, List.getElem?_eq_getElem (by rw [hI.nod.len]; exact (List.getElem?_eq_some_iff.1 HQ.out).1)⟩
  have HNs := Lib.hid hs
  obtain ⟨gn, cn, hvn, hgo, hgl, hc1, hc2⟩ := hI.nod.cells hs
  have HI := Lib.hid hI
  obtain ⟨nn, hnn⟩ : ∃ nn, N'.length = nn := ⟨_, rfl⟩
  have hai : (a : Int) < (nn : Int) := by
    have := (List.getElem?_eq_some_iff.1 hs).1
    omega
  have hrj := hI.nod.jus a s q hs HQ.out
  have hrb := hI.nod.bel a s q hs HQ.out
  rw [hnn] at hvn
  have c3 : w4.cell? ⟨g, 3, none⟩ = some (.slice (some ⟨gn, 0, none⟩) nn cn) := by rw [hI.cells.2.1, hvn]
  have cb : w4.cell? ⟨h0, 1, none⟩ = some (.bool bb) := hb4.cell 1
  obtain ⟨⟨a1, n1, c1⟩, ⟨a2, n2, c2⟩⟩ := s
  have hd1 : w4.cell? ⟨gn, a * 2, none⟩ = some (.slice a1 n1 c1) := hc1
  have hd2 : w4.cell? ⟨gn, a * 2 + 1, none⟩ = some (.slice a2 n2 c2) := hc2
  clear hc1 hc2
  have hln : ∀ f, (plc f L).length + [m].length ≤ 4294967296 := fun f => by
    have h1 : (plc f L).length ≤ L.length := by
      unfold plc
      have := List.length_filter_le (fun i => (L[i]?).any f) (List.range L.length)
      rwa [List.length_range] at this
    rw [HM.out] at h1
    rw [List.length_singleton]
    omega
  clear hs hI hnn hb3 hb4 hgl hvn
  cases bb with
  | true =>
    · have hrow : OwnE w4 elP 0 (.slice a2 n2 c2) (belR L q) := hrb
      have hbz : (belR L q).length + [m].length ≤ 4294967296 := hln _
      clear hrj hrb hln
      go_upto_region 4 with fail
      have hO := hrow.alloc (.cells #[.int .i64 (m : Nat)] 3)
      have hsr : SrcE (w4.alloc (.cells #[.int .i64 (m : Nat)] 3)) elP (some ⟨w4.heap.size, 0, none⟩) [m] := SrcE.one _ (Blk.new _ _ _) rfl
      have HWA := Lib.hid (show But [] w4 (w4.alloc (.cells #[.int .i64 (m : Nat)] 3)) from (But.refl [] w4).alloc _)
      clear hrow
      go_wp2_with (refine wpList_appE fineP rfl (.tmp 30) (.tmp 32) rfl 0 (.slice a2 n2 c2) (belR L q) rfl hO (some ⟨w4.heap.size, 0, none⟩) 1 1 [m] rfl rfl (by simp) hsr hbz (by decide) (Nat.zero_le _) ?_)
      intro v6 w6 ho6 hg6 hf6
      obtain ⟨⟨a6, n6, c6⟩, hv6, hn6⟩ := ho6.out.sv
      have hv6' : v6 = .slice a6 n6 c6 := hv6
      clear hv6 hn6
      subst hv6'
      have h56 : But (Value.slice a2 n2 c2).ownBlock.toList w4 w6 := (HWA.out.none _).trans (but_grown hg6.out)
      obtain ⟨hN7, hB7, ⟨v7, hc7⟩, hf7⟩ := place_bel (s6 := ⟨a6, n6, c6⟩) HI.out.nod HNs.out HQ.out HW.out HBl.out hgo h56 (by rw [HM.out]; exact ho6.out) (by
        rcases hf6.out with e | e
        · exact .inl e
        · exact .inr ⟨_, e, Nat.le_succ _⟩)
      have HN7 := Lib.hid hN7
      have HB7 := Lib.hid hB7
      clear hN7 hB7 ho6 hg6 hf6 h56 hO hsr HWA hbz
      go_wp2_with fail
      go_end0
      clear hc7 hf7
      exact ⟨rfl, PlcI.make HI.out hgo HN7.out HB7.out (fun b hb => HI.out.nod.in3 _ (List.mem_of_getElem? HNs.out) b (.inr (Option.mem_toList.1 hb))) HBw.out (by have := HI.out.pts; omega)⟩
  | false =>
    · have hrow : OwnE w4 elP 0 (.slice a1 n1 c1) (jusR L q) := hrj
      have hbz : (jusR L q).length + [m].length ≤ 4294967296 := hln _
      clear hrj hrb hln
      go_upto_region 5 with fail
      have hO := hrow.alloc (.cells #[.int .i64 (m : Nat)] 3)
      have hsr : SrcE (w4.alloc (.cells #[.int .i64 (m : Nat)] 3)) elP (some ⟨w4.heap.size, 0, none⟩) [m] := SrcE.one _ (Blk.new _ _ _) rfl
      have HWA := Lib.hid (show But [] w4 (w4.alloc (.cells #[.int .i64 (m : Nat)] 3)) from (But.refl [] w4).alloc _)
      clear hrow
      go_wp2_with (refine wpList_appE fineP rfl (.tmp 40) (.tmp 42) rfl 0 (.slice a1 n1 c1) (jusR L q) rfl hO (some ⟨w4.heap.size, 0, none⟩) 1 1 [m] rfl rfl (by simp) hsr hbz (by decide) (Nat.zero_le _) ?_)
      intro v6 w6 ho6 hg6 hf6
      obtain ⟨⟨a6, n6, c6⟩, hv6, hn6⟩ := ho6.out.sv
      have hv6' : v6 = .slice a6 n6 c6 := hv6
      clear hv6 hn6
      subst hv6'
      have h56 : But (Value.slice a1 n1 c1).ownBlock.toList w4 w6 := (HWA.out.none _).trans (but_grown hg6.out)
      obtain ⟨hN7, hB7, ⟨v7, hc7⟩, hf7⟩ := place_jus (s6 := ⟨a6, n6, c6⟩) HI.out.nod HNs.out HQ.out HW.out HBl.out hgo h56 (by rw [HM.out]; exact ho6.out) (by
        rcases hf6.out with e | e
        · exact .inl e
        · exact .inr ⟨_, e, Nat.le_succ _⟩)
      have HN7 := Lib.hid hN7
      have HB7 := Lib.hid hB7
      clear hN7 hB7 ho6 hg6 hf6 h56 hO hsr HWA hbz
      go_wp2_with fail
      go_end0
      clear hc7 hf7
      exact ⟨rfl, PlcI.make HI.out hgo HN7.out HB7.out (fun b hb => HI.out.nod.in3 _ (List.mem_of_getElem? HNs.out) b (.inl (Option.mem_toList.1 hb))) HBw.out (by have := HI.out.pts; omega)⟩
end Go.Proofs.YtlpondbcnfaggaaGreatDoor.Tr
