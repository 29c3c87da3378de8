/-
  Contract of package trie's place over this seat's translation: the place of a rule stands at the node of its pattern. Condition: a right rule, fewer than a million nodes.
-/
import Derived.Test.YtlpondbcnfaggaaGreatDoorQ34
import Derived.Test.YtlpondbcnfaggaaGreatDoorQ35
namespace Go.Proofs.YtlpondbcnfaggaaGreatDoor.Tr
open Go.RowKit Go.Proofs.YtlpondbcnfaggaaGreatDoor.Wd Go.Proofs.YtlpondbcnfaggaaGreatDoor.Asc Go.Proofs.YtlpondbcnfaggaaGreatDoor.Tx Go.Proofs.YtlpondbcnfaggaaGreatDoor.St Go.Proofs.YtlpondbcnfaggaaGreatDoor.Te Go.Maps

/-- what place leaves -/
structure PlcI (w : World) (g : Nat) (S2 : List Nat) (L : List Ru) (vr : Value) (tb sb : Nat) (M : Nat) (ww : World) (S' : List Nat) (sn : Nat) (D : DataW Unit) (vn : Value) (N : List (Sv × Sv)) (PT : List (List (List UInt8))) : Prop where
  blk : Blk ww g 73 (trC4 vr tb sb vn)
  nod : NodesIs ww S' L sb sn D vn N PT
  new : ∀ i ∈ S', i ∈ S2 ∨ w.heap.size ≤ i
  lt : ∀ i ∈ S', i < ww.heap.size
  gn : g ∉ S'
  sns : sn ≤ PT.length
  pts : PT.length ≤ M + 300
  but : But (g :: S2) w ww
def PlcP (w : World) (g : Nat) (S2 : List Nat) (L : List Ru) (vr : Value) (tb sb M : Nat) (ww : World) : Prop := ∃ S' sn D vn N PT, PlcI w g S2 L vr tb sb M ww S' sn D vn N PT
theorem PlcI.make {w0 w : World} {g : Nat} {S2 : List Nat} {L L' : List Ru} {vr : Value} {tb sb : Nat} {ls : List (List UInt8)} {M k a : Nat} {w4 w7 : World} {S' : List Nat} {sn : Nat} {D : DataW Unit} {vn : Value} {N N' : List (Sv × Sv)} {PT : List (List (List UInt8))} {gn : Nat} {bs : List Nat}
    (h : RchI w g S2 L vr tb sb ls M k a w4 S' sn D vn N PT) (hg : vn.ownBlock = some gn) (hN : NodesIs w7 (S' ++ newB w4 w7) L' sb sn D vn N' PT) (hB : But (gn :: bs) w4 w7) (hbs : ∀ b ∈ bs, b ∈ S') (hw : Below w0.heap.size w0 w) (hp : PT.length ≤ M + 300) :
    PlcP w0 g S2 L' vr tb sb M w7 := by
  have hgn : gn ∈ S' := h.nod.in2 gn hg
  have z := hB.size
  have hSn : ∀ i ∈ newB w4 w7, w4.heap.size ≤ i ∧ i < w7.heap.size := fun i hi => (newB_mem z).1 hi
  have hin : ∀ i ∈ gn :: bs, i ∈ S' := fun i hi => by
    rcases List.mem_cons.1 hi with rfl | hi
    · exact hgn
    · exact hbs i hi
  have h0 : But (g :: S2) w0 w4 := but_more (But.of_below hw (g :: S2)) h.but (fun i hi => .inl hi)
  refine ⟨S' ++ newB w4 w7, sn, D, vn, N', PT, h.blk.but hB (fun hm => h.gn (hin g hm)), hN, fun i hi => ?_, fun i hi => ?_, fun hm => ?_, h.sns, hp, but_more h0 hB (fun i hi => ?_)⟩
  · rcases List.mem_append.1 hi with hi | hi
    · rcases h.new i hi with e | e
      · exact .inl e
      · have := hw.size
        exact .inr (by omega)
    · have := hSn i hi
      have := h0.size
      exact .inr (by omega)
  · rcases List.mem_append.1 hi with hi | hi
    · have := h.lt i hi; omega
    · exact (hSn i hi).2
  · rcases List.mem_append.1 hm with hm | hm
    · exact h.gn hm
    · have := hSn g hm
      have := h.blk.lt
      omega
  · rcases h.new i (hin i hi) with e | e
    · exact .inl (List.mem_cons_of_mem _ e)
    · have := hw.size
      exact .inr (by omega)
set_option linter.unusedSimpArgs false in
set_option maxRecDepth 100000 in
set_option maxHeartbeats 16000000 in
theorem tplace_any {B : Nat} (r : Ru) (hr : rightS r = 0) (w : World) (hE : Ad.Env B w) {g : Nat} {S2 : List Nat} {L : List Ru} {vr : Value} {tb sb sn : Nat} {D : DataW Unit} {vn : Value} {N : List (Sv × Sv)} {PT : List (List (List UInt8))}
    (hblk : Blk w g 73 (trC4 vr tb sb vn)) (hnod : NodesIs w S2 L sb sn D vn N PT) (hg : g ∉ S2) (hlt : ∀ i ∈ S2, i < w.heap.size) (hsn : sn ≤ PT.length) (hpt : PT.length ≤ 1000000) (hL : L.length ≤ 100000) :
    Calls Tryz.prog 42 #[.pointer (some ⟨g, 0, none⟩), .string (str r.pa), .int .i64 (L.length : Nat)] w fun e w' => e = .returned (.tuple #[]) ∧ PlcP w g S2 (L ++ [r]) vr tb sb PT.length w' := by
  obtain ⟨_, hk3, hpl⟩ := right_ok hr
  obtain ⟨P, hP⟩ : ∃ P, str r.pa = P := ⟨_, rfl⟩
  have hPb : bs P = r.pa := by rw [← hP, bs_str]
  have hPz : P.size ≤ 255 := by rw [← bs_length, hPb]; exact hpl
  obtain ⟨K, X, hc, hK, hXz, hXe, hC⟩ := tparse_at (B := B) P (by omega)
  rw [hPb] at hc
  rw [hc] at hk3
  have hk3' : K ≠ 3 := hk3
  obtain ⟨bb, hbb⟩ : ∃ bb, decide (K < 2) = bb := ⟨_, rfl⟩
  have hbl : belB r.pa = bb := by
    unfold belB
    rw [hc, ← hbb]
    have h2 : (K ≠ 2) ↔ (K < 2) := by omega
    simp only [h2]
  have hw : wayP r.pa = labP (bs X) := by
    unfold wayP labP
    rw [hc]
    by_cases h0 : K = 0
    · rw [if_pos h0, if_pos (hXe.2 (.inl h0))]
    · rw [if_neg h0, if_neg (fun h => by have := hXe.1 h; omega)]
  have HC := Lib.hid (hC w hE)
  rw [hbb, show decide (K ≠ 3) = true from decide_eq_true hk3'] at HC
  rw [hP]
  have HE := Lib.hid hE
  have HRch := Lib.hid (fun (w' : World) (hb : Below w.heap.size w w') => treach_any (B := B) X bb w' (hE.on hb) (by omega) (hblk.below hb hblk.lt) (hnod.below hb) hg (fun i hi => Nat.lt_of_lt_of_le (hlt i hi) hb.size) hsn hpt)
  have HGl := Lib.hid (show ∀ i ∈ g :: S2, i < w.heap.size from fun i hi => by
    rcases List.mem_cons.1 hi with rfl | hi
    · exact hblk.lt
    · exact hlt i hi)
  have hll := (labP_len (bs X)).1
  rw [bs_length] at hll
  rw [← hw] at HRch hll
  obtain ⟨q, hq⟩ : ∃ q, wayP r.pa = q := ⟨_, rfl⟩
  rw [hq] at HRch hll
  have HW := Lib.hid hq
  have HBl := Lib.hid hbl
  obtain ⟨n, hn⟩ : ∃ n, q.length = n := ⟨_, rfl⟩
  rw [hn] at HRch hll
  have HNq := Lib.hid hn
  obtain ⟨M, hM⟩ : ∃ M, PT.length = M := ⟨_, rfl⟩
  rw [hM] at HRch ⊢
  have hn9 : n ≤ 256 := by omega
  obtain ⟨m, hm⟩ : ∃ m, L.length = m := ⟨_, rfl⟩
  rw [hm] at hL ⊢
  have HM := Lib.hid hm
  clear hk3 hk3' hpl hP hPb hPz hc hK hXz hXe hC hbb hbl hw hE hblk hnod hg hlt hsn hpt hll hq hn hM hm hr
  go_enter Tryz.func42, Tryz.ntmps42
  go_wp2_with fail
  refine HC.out.mono ?_
  rintro e w2 ⟨rfl, hb2⟩
  go_upto_region 1 with (refine go_st 63 (Blk.new _ _ _) infH rfl (shC_size _ _) (shC_one _ _) rfl rfl rfl rfl ?_)
  obtain ⟨w3, hw3, hb3, hl3⟩ := sh_put w2 X bb
  rw [hw3]
  have HBw := Lib.hid (hb2.trans (hl3.mono hb2.size))
  have hz2 := hb2.size
  generalize w2.heap.size = h0 at *
  clear hb2 hw3 hl3 HC
  go_wp2_with (refine go_ld (x := .tmp 6) 63 hb3 undH rfl infH (shC_size _ _) rfl rfl rfl ?_)
  refine (HRch.out _ HBw.out).mono ?_
  rintro e w4 ⟨a, rfl, S', sn', D', vn', N', PT', hI⟩
  have hb4 := hb3.but hI.but (fun hm => by have := HGl.out h0 hm; omega)
  have HQ := Lib.hid (show PT'[a]? = some q from by rw [hI.at_, List.take_of_length_le (by rw [HNq.out]; omega)])
  obtain ⟨s, hs⟩ : ∃ s, N'[a]? = some s := ⟨_, List.getElem?_eq_getElem (by rw [hI.nod.len]; exact (List.getElem?_eq_some_iff.1 HQ.out).1)⟩
  have HNs := Lib.hid hs
  obtain ⟨gn, cn, hvn, hgo, hgl, hc1, hc2⟩ := hI.nod.cells hs
  have HI := Lib.hid hI
  obtain ⟨nn, hnn⟩ : ∃ nn, N'.length = nn := ⟨_, rfl⟩
  have hai : (a : Int) < (nn : Int) := by
    have := (List.getElem?_eq_some_iff.1 hs).1
    omega
  have hrj := hI.nod.jus a s q hs HQ.out
  have hrb := hI.nod.bel a s q hs HQ.out
  rw [hnn] at hvn
  have c3 : w4.cell? ⟨g, 3, none⟩ = some (.slice (some ⟨gn, 0, none⟩) nn cn) := by rw [hI.cells.2.1, hvn]
  have cb : w4.cell? ⟨h0, 1, none⟩ = some (.bool bb) := hb4.cell 1
  obtain ⟨⟨a1, n1, c1⟩, ⟨a2, n2, c2⟩⟩ := s
  have hd1 : w4.cell? ⟨gn, a * 2, none⟩ = some (.slice a1 n1 c1) := hc1
  have hd2 : w4.cell? ⟨gn, a * 2 + 1, none⟩ = some (.slice a2 n2 c2) := hc2
  clear hc1 hc2
  have hln : ∀ f, (plc f L).length + [m].length ≤ 4294967296 := fun f => by
    have h1 : (plc f L).length ≤ L.length := by
      unfold plc
      have := List.length_filter_le (fun i => (L[i]?).any f) (List.range L.length)
      rwa [List.length_range] at this
    rw [HM.out] at h1
    rw [List.length_singleton]
    omega
  clear hs hI hnn hb3 hb4 hgl hvn
  cases bb with
  | true =>
    · have hrow : OwnE w4 elP 0 (.slice a2 n2 c2) (belR L q) := hrb
      have hbz : (belR L q).length + [m].length ≤ 4294967296 := hln _
      clear hrj hrb hln
      go_upto_region 4 with fail
      have hO := hrow.alloc (.cells #[.int .i64 (m : Nat)] 3)
      have hsr : SrcE (w4.alloc (.cells #[.int .i64 (m : Nat)] 3)) elP (some ⟨w4.heap.size, 0, none⟩) [m] := SrcE.one _ (Blk.new _ _ _) rfl
      have HWA := Lib.hid (show But [] w4 (w4.alloc (.cells #[.int .i64 (m : Nat)] 3)) from (But.refl [] w4).alloc _)
      clear hrow
      go_wp2_with (refine wpList_appE fineP rfl (.tmp 30) (.tmp 32) rfl 0 (.slice a2 n2 c2) (belR L q) rfl hO (some ⟨w4.heap.size, 0, none⟩) 1 1 [m] rfl rfl (by simp) hsr hbz (by decide) (Nat.zero_le _) ?_)
      intro v6 w6 ho6 hg6 hf6
      obtain ⟨⟨a6, n6, c6⟩, hv6, hn6⟩ := ho6.out.sv
      have hv6' : v6 = .slice a6 n6 c6 := hv6
      clear hv6 hn6
      subst hv6'
      have h56 : But (Value.slice a2 n2 c2).ownBlock.toList w4 w6 := (HWA.out.none _).trans (but_grown hg6.out)
      obtain ⟨hN7, hB7, ⟨v7, hc7⟩, hf7⟩ := place_bel (s6 := ⟨a6, n6, c6⟩) HI.out.nod HNs.out HQ.out HW.out HBl.out hgo h56 (by rw [HM.out]; exact ho6.out) (by
        rcases hf6.out with e | e
        · exact .inl e
        · exact .inr ⟨_, e, Nat.le_succ _⟩)
      have HN7 := Lib.hid hN7
      have HB7 := Lib.hid hB7
      clear hN7 hB7 ho6 hg6 hf6 h56 hO hsr HWA hbz
      go_wp2_with fail
      go_end0
      clear hc7 hf7
      exact ⟨rfl, PlcI.make HI.out hgo HN7.out HB7.out (fun b hb => HI.out.nod.in3 _ (List.mem_of_getElem? HNs.out) b (.inr (Option.mem_toList.1 hb))) HBw.out (by have := HI.out.pts; omega)⟩
  | false =>
    · have hrow : OwnE w4 elP 0 (.slice a1 n1 c1) (jusR L q) := hrj
      have hbz : (jusR L q).length + [m].length ≤ 4294967296 := hln _
      clear hrj hrb hln
      go_upto_region 5 with fail
      have hO := hrow.alloc (.cells #[.int .i64 (m : Nat)] 3)
      have hsr : SrcE (w4.alloc (.cells #[.int .i64 (m : Nat)] 3)) elP (some ⟨w4.heap.size, 0, none⟩) [m] := SrcE.one _ (Blk.new _ _ _) rfl
      have HWA := Lib.hid (show But [] w4 (w4.alloc (.cells #[.int .i64 (m : Nat)] 3)) from (But.refl [] w4).alloc _)
      clear hrow
      go_wp2_with (refine wpList_appE fineP rfl (.tmp 40) (.tmp 42) rfl 0 (.slice a1 n1 c1) (jusR L q) rfl hO (some ⟨w4.heap.size, 0, none⟩) 1 1 [m] rfl rfl (by simp) hsr hbz (by decide) (Nat.zero_le _) ?_)
      intro v6 w6 ho6 hg6 hf6
      obtain ⟨⟨a6, n6, c6⟩, hv6, hn6⟩ := ho6.out.sv
      have hv6' : v6 = .slice a6 n6 c6 := hv6
      clear hv6 hn6
      subst hv6'
      have h56 : But (Value.slice a1 n1 c1).ownBlock.toList w4 w6 := (HWA.out.none _).trans (but_grown hg6.out)
      obtain ⟨hN7, hB7, ⟨v7, hc7⟩, hf7⟩ := place_jus (s6 := ⟨a6, n6, c6⟩) HI.out.nod HNs.out HQ.out HW.out HBl.out hgo h56 (by rw [HM.out]; exact ho6.out) (by
        rcases hf6.out with e | e
        · exact .inl e
        · exact .inr ⟨_, e, Nat.le_succ _⟩)
      have HN7 := Lib.hid hN7
      have HB7 := Lib.hid hB7
      clear hN7 hB7 ho6 hg6 hf6 h56 hO hsr HWA hbz
      go_wp2_with fail
      go_end0
      clear hc7 hf7
      exact ⟨rfl, PlcI.make HI.out hgo HN7.out HB7.out (fun b hb => HI.out.nod.in3 _ (List.mem_of_getElem? HNs.out) b (.inl (Option.mem_toList.1 hb))) HBw.out (by have := HI.out.pts; omega)⟩
end Go.Proofs.YtlpondbcnfaggaaGreatDoor.Tr

/-
  What package trie's Add keeps in memory: ahead of place, behind it, behind the map's store, at the end. Plain memory lemmas.
-/
namespace Go.Proofs.YtlpondbcnfaggaaGreatDoor.Tr
open Go.RowKit Go.Proofs.YtlpondbcnfaggaaGreatDoor.Wd Go.Proofs.YtlpondbcnfaggaaGreatDoor.Asc Go.Proofs.YtlpondbcnfaggaaGreatDoor.Tx Go.Proofs.YtlpondbcnfaggaaGreatDoor.St Go.Proofs.YtlpondbcnfaggaaGreatDoor.Te Go.Maps

/-- what Add keeps, ahead of place: the trie, its own box with the rule -/
structure AdI (w : World) (G g : Nat) (S1 S2 : List Nat) (L : List Ru) (vr : Value) (tb tn : Nat) (T : DataW Unit) (sb sn : Nat) (D : DataW Unit) (vn : Value) (N : List (Sv × Sv)) (PT : List (List (List UInt8))) (r : Ru) (ww : World) : Prop where
  tri : TriI ww g S1 S2 L vr tb tn T sb sn D vn N PT
  box : Blk ww G 23 (ruC r)
  bel : Below w.heap.size w ww
  lo : w.heap.size ≤ G
  lts : ∀ i ∈ g :: (S1 ++ S2), i < w.heap.size
/-- what Add keeps, behind place -/
structure AmI (w : World) (G g : Nat) (S1 S2 S' : List Nat) (L : List Ru) (vr : Value) (tb tn : Nat) (T : DataW Unit) (sb sn : Nat) (D : DataW Unit) (vn : Value) (N : List (Sv × Sv)) (PT : List (List (List UInt8))) (r : Ru) (M : Nat) (ww : World) : Prop where
  blk : Blk ww g 73 (trC4 vr tb sb vn)
  rul : OwnU ww 0 vr L
  thr : ww.ownsMap Tryz.prog 23 (unitElem (H := Unit)) tb tn T
  nod : NodesIs ww S' (L ++ [r]) sb sn D vn N PT
  box : Blk ww G 23 (ruC r)
  in1 : ∀ b, vr.ownBlock = some b → b ∈ S1
  in2 : tb ∈ S1
  g1 : g ∉ S1
  gn : g ∉ S'
  ap : ∀ i ∈ S1, i ∉ S'
  new : ∀ i ∈ S', i ∈ S2 ∨ w.heap.size ≤ i
  lt : ∀ i ∈ S', i < ww.heap.size
  lo : w.heap.size ≤ G
  lts : ∀ i ∈ g :: (S1 ++ S2), i < w.heap.size
  sns : sn ≤ PT.length
  pts : PT.length ≤ M + 300
  but : But (g :: (S1 ++ S2)) w ww
section
variable {w : World} {G g : Nat} {S1 S2 S' : List Nat} {L : List Ru} {vr : Value} {tb tn : Nat} {T : DataW Unit} {sb sn : Nat} {D : DataW Unit} {vn : Value} {N : List (Sv × Sv)} {PT : List (List (List UInt8))} {r : Ru} {ww w' : World}
theorem AdI.on (h : AdI w G g S1 S2 L vr tb tn T sb sn D vn N PT r ww) (hb : Below ww.heap.size ww w') : AdI w G g S1 S2 L vr tb tn T sb sn D vn N PT r w' :=
  ⟨h.tri.below hb, h.box.below hb h.box.lt, h.bel.trans (hb.mono h.bel.size), h.lo, h.lts⟩
theorem AdI.row (h : AdI w G g S1 S2 L vr tb tn T sb sn D vn N PT r ww) (r' : Ru) : AdI w G g S1 S2 L vr tb tn T sb sn D vn N PT r' (ww.setRow G (ruC r')) :=
  have k : But [G] ww (ww.setRow G (ruC r')) := (But.refl [G] ww).row (.inl (by simp)) _
  have ne : ∀ i ∈ g :: (S1 ++ S2), i ∉ [G] := fun i hi hm => by
    rw [List.mem_singleton] at hm
    have := h.lts i hi
    have := h.lo
    omega
  ⟨h.tri.but k (ne g (by simp)) (fun i hi => ne i (by simp [hi])) (fun i hi => ne i (by simp [hi])), setRow_blk h.box, setRow_below h.bel h.box h.lo _, h.lo, h.lts⟩
theorem AdI.place {M : Nat} {w6 : World} {S9 : List Nat} {sn' : Nat} {D' : DataW Unit} {vn' : Value} {N' : List (Sv × Sv)} {PT' : List (List (List UInt8))}
    (h : AdI w G g S1 S2 L vr tb tn T sb sn D vn N PT r ww) (k : PlcI ww g S2 (L ++ [r]) vr tb sb M w6 S9 sn' D' vn' N' PT') : AmI w G g S1 S2 S9 L vr tb tn T sb sn' D' vn' N' PT' r M w6 :=
  have ne1 : ∀ i ∈ S1, i ∉ g :: S2 := fun i hi hm => by
    rcases List.mem_cons.1 hm with e | hm
    · exact h.tri.g1 (e ▸ hi)
    · exact h.tri.apart i hi hm
  { blk := k.blk
    rul := h.tri.rul.but k.but (fun b hb => ne1 b (h.tri.in1 b hb))
    thr := map_but h.tri.thr k.but (ne1 _ h.tri.in2)
    nod := k.nod
    box := h.box.but k.but (fun hm => by
      have := h.lts G (by
        rcases List.mem_cons.1 hm with e | hm
        · rw [e]; simp
        · simp [hm])
      have := h.lo
      omega)
    in1 := h.tri.in1
    in2 := h.tri.in2
    g1 := h.tri.g1
    gn := k.gn
    ap := fun i hi hm => (k.new i hm).elim (h.tri.apart i hi) (fun e => by have := h.tri.lt1 i hi; omega)
    new := fun i hm => (k.new i hm).imp id (fun e => Nat.le_trans h.bel.size e)
    lt := k.lt
    lo := h.lo
    lts := h.lts
    sns := k.sns
    pts := k.pts
    but := but_more (But.of_below h.bel _) k.but (fun i hi => .inl (by
      rcases List.mem_cons.1 hi with e | hi
      · rw [e]; simp
      · simp [hi])) }
theorem AmI.on {M : Nat} (h : AmI w G g S1 S2 S' L vr tb tn T sb sn D vn N PT r M ww) (hb : Below ww.heap.size ww w') : AmI w G g S1 S2 S' L vr tb tn T sb sn D vn N PT r M w' :=
  have k : But [] ww w' := But.of_below hb []
  have no : ∀ i : Nat, i ∉ ([] : List Nat) := fun _ hm => by cases hm
  { blk := h.blk.but k (no _)
    rul := h.rul.but k (fun _ _ => no _)
    thr := map_but h.thr k (no _)
    nod := h.nod.but k (fun _ _ => no _)
    box := h.box.but k (no _)
    in1 := h.in1
    in2 := h.in2
    g1 := h.g1
    gn := h.gn
    ap := h.ap
    new := h.new
    lt := fun i hi => Nat.lt_of_lt_of_le (h.lt i hi) hb.size
    lo := h.lo
    lts := h.lts
    sns := h.sns
    pts := h.pts
    but := but_more h.but k (fun _ hm => by cases hm) }
theorem AmI.store {M tn' : Nat} {T' : DataW Unit} (h : AmI w G g S1 S2 S' L vr tb tn T sb sn D vn N PT r M ww) (hm : w'.ownsMap Tryz.prog 23 (unitElem (H := Unit)) tb tn' T') (k : But [tb] ww w') : AmI w G g S1 S2 S' L vr tb tn' T' sb sn D vn N PT r M w' :=
  have ne : ∀ i : Nat, i ≠ tb → i ∉ [tb] := fun i hi hm => hi (List.mem_singleton.1 hm)
  { blk := h.blk.but k (ne _ (fun e => h.g1 (e ▸ h.in2)))
    rul := h.rul.but k (fun b hb => ne _ (fun e => by
      obtain ⟨cur, hc⟩ := h.rul.typ b hb
      exact map_ne h.thr hc e.symm))
    thr := hm
    nod := h.nod.but k (fun i hi => ne _ (fun e => h.ap tb h.in2 (e ▸ hi)))
    box := h.box.but k (ne _ (fun e => map_ne h.thr h.box e.symm))
    in1 := h.in1
    in2 := h.in2
    g1 := h.g1
    gn := h.gn
    ap := h.ap
    new := h.new
    lt := fun i hi => Nat.lt_of_lt_of_le (h.lt i hi) k.size
    lo := h.lo
    lts := h.lts
    sns := h.sns
    pts := h.pts
    but := but_more h.but k (fun i hm => .inl (by
      rw [List.mem_singleton.1 hm]
      simp [h.in2])) }
set_option maxRecDepth 100000 in
/-- the end: the rules' row, a rule longer, put in the trie -/
theorem AmI.done {M : Nat} {w8 : World} {v : Value} (h : AmI w G g S1 S2 S' L vr tb tn T sb sn D vn N PT r M ww) (hA : OwnU w8 0 v (L ++ [r])) (k8 : But vr.ownBlock.toList ww w8) (hv : v.ownBlock = vr.ownBlock ∨ v.ownBlock = some ww.heap.size)
    (tha : ∀ q, OkU q → (Maps.has T (kU q) = true ↔ ∃ x ∈ L ++ [r], { x with al := false } = q)) (right : ∀ x ∈ L ++ [r], rightS x = 0) (hL : L.length < 200) (htn : tn ≤ L.length + 1) (hM : M ≤ 1 + 300 * L.length) :
    ∃ S9, TriP (w8.setCell ⟨g, 0, none⟩ v) g S9 (L ++ [r]) ∧ (∀ i ∈ S9, i ∈ S1 ++ S2 ∨ w.heap.size ≤ i) ∧ But (g :: (S1 ++ S2)) w (w8.setCell ⟨g, 0, none⟩ v) := by
  have k9 : But [g] w8 (w8.setCell ⟨g, 0, none⟩ v) := (But.refl [g] w8).set_ (p := ⟨g, 0, none⟩) (.inl (by simp)) v
  have gv : g ∉ vr.ownBlock.toList := fun hm => h.g1 (h.in1 g (Option.mem_toList.1 hm))
  have b8 := h.blk.but k8 gv
  have b9 : Blk (w8.setCell ⟨g, 0, none⟩ v) g 73 (trC4 v tb sb vn) := b8.set_ 0 v
  have hg : ww.heap.size ≤ w8.heap.size := k8.size
  have z9 : w8.heap.size ≤ (w8.setCell ⟨g, 0, none⟩ v).heap.size := k9.size
  have zw : w.heap.size ≤ ww.heap.size := h.but.size
  have ne : ∀ i : Nat, i ≠ g → i ∉ [g] := fun i hi hm => hi (List.mem_singleton.1 hm)
  have hnb : ∀ i ∈ newB ww w8, ww.heap.size ≤ i ∧ i < w8.heap.size := fun i hi => (newB_mem hg).1 hi
  have hl : ∀ i ∈ S1 ++ newB ww w8, i < w8.heap.size := fun i hi => by
    rcases List.mem_append.1 hi with hi | hi
    · have := h.lts i (by simp [hi])
      omega
    · exact (hnb i hi).2
  refine ⟨(S1 ++ newB ww w8) ++ S', ⟨S1 ++ newB ww w8, S', v, tb, tn, T, sb, sn, D, vn, N, PT, fun i => List.mem_append, ?_⟩, fun i hi => ?_, but_more (but_more h.but k8 (fun i hi => .inl (by
    have := h.in1 i (Option.mem_toList.1 hi)
    simp [this]))) k9 (fun i hi => .inl (by
    rw [List.mem_singleton.1 hi]
    simp))⟩
  · refine ⟨b9, ?_, ?_, tha, ?_, ?_, by simp [h.in2], ?_, ?_, h.gn, fun i hi => Nat.lt_of_lt_of_le (hl i hi) z9, fun i hi => ?_, right, by rw [List.length_append, List.length_singleton]; omega, ?_, by rw [List.length_append, List.length_singleton]; exact htn, h.sns⟩
    · refine hA.but k9 (fun b hb => ne b (fun e => ?_))
      obtain ⟨cur, hc⟩ := hA.typ b hb
      exact hc.ne_ b8 (by decide) e
    · refine map_but (map_but h.thr k8 (fun hm => ?_)) k9 (ne _ (fun e => h.g1 (e ▸ h.in2)))
      obtain ⟨cur, hc⟩ := h.rul.typ tb (Option.mem_toList.1 hm)
      exact map_ne h.thr hc rfl
    · refine (h.nod.but k8 (fun i hi hm => h.ap i (h.in1 i (Option.mem_toList.1 hm)) hi)).but k9 (fun i hi => ne _ (fun e => h.gn (e ▸ hi)))
    · intro b hb
      rcases hv with e | e
      · rw [e] at hb
        simp [h.in1 b hb]
      · have h1 := (hA.ge b hb).2
        rw [e] at hb
        injection hb with hb
        exact List.mem_append.2 (.inr ((newB_mem hg).2 ⟨by omega, h1⟩))
    · intro i hi hm
      rcases List.mem_append.1 hi with hi | hi
      · exact h.ap i hi hm
      · have := h.lt i hm
        have := (hnb i hi).1
        omega
    · intro hm
      rcases List.mem_append.1 hm with hm | hm
      · exact h.g1 hm
      · have := (hnb g hm).1
        have := h.blk.lt
        omega
    · have := h.lt i hi
      omega
    · have := h.pts
      rw [List.length_append, List.length_singleton]
      omega
  · rcases List.mem_append.1 hi with hi | hi
    · rcases List.mem_append.1 hi with hi | hi
      · exact .inl (by simp [hi])
      · exact .inr (by have := (hnb i hi).1; omega)
    · rcases h.new i hi with h1 | h1
      · exact .inl (by simp [h1])
      · exact .inr h1
/-- a rule more, of those that are there -/
theorem tha_put (hm : IsMap T) (h : ∀ q, OkU q → (Maps.has T (kU q) = true ↔ ∃ x ∈ L, { x with al := false } = q)) (hr : OkU r) (d : DataW Unit) :
    ∀ q, OkU q → (Maps.has (T.put (kU { r with al := false }) d) (kU q) = true ↔ ∃ x ∈ L ++ [r], { x with al := false } = q) := by
  intro q hq
  by_cases e : q = { r with al := false }
  · subst e
    rw [has_put_same hm (kU_key _ (ok_bare hr))]
    exact ⟨fun _ => ⟨r, by simp, rfl⟩, fun _ => rfl⟩
  · rw [has_put_other (fun hk => e (kU_inj hq (ok_bare hr) hk)), h q hq]
    constructor
    · rintro ⟨x, h1, h2⟩
      exact ⟨x, by simp [h1], h2⟩
    · rintro ⟨x, h1, h2⟩
      rcases List.mem_append.1 h1 with h1 | h1
      · exact ⟨x, h1, h2⟩
      · rw [List.mem_singleton.1 h1] at h2
        exact absurd h2.symm e
set_option maxRecDepth 100000 in
/-- is such a rule there -/
theorem thr_look {b : Bool} {q : Ru} (h : w.ownsMap Tryz.prog 23 (unitElem (H := Unit)) tb tn T) (hq : OkU q) (hb : Maps.has T (kU q) = b) :
    (Instr.lookup 69 (.map (some tb)) (.agg (ruC q)) true).run Tryz.prog w = .ok (.tuple #[.agg #[], .bool b]) w := by
  obtain ⟨v, ps, h1, h2⟩ := h.look_ok keyedU undThr (zeroT w) unitElem_mk (keyU q hq)
  obtain ⟨rfl, _⟩ := unitElem_inv h2
  rw [hb] at h1
  exact h1
set_option maxRecDepth 100000 in
/-- such a rule is put there -/
theorem thr_store {q : Ru} (h : w.ownsMap Tryz.prog 23 (unitElem (H := Unit)) tb tn T) (hq : OkU q) (hn : tn < 1000) : ∃ w9, (Instr.mapUpdate 69 (.map (some tb)) (.agg (ruC q)) (.agg #[])).run Tryz.prog w = .ok () w9 ∧
    w9.ownsMap Tryz.prog 23 (unitElem (H := Unit)) tb (tn + 1) (T.put (kU q) (.agg [])) ∧ But [tb] w w9 := by
  obtain ⟨w9, h1, h2, h3⟩ := h.store keyedU undThr (by unfold maxLen; omega) (keyU q hq) unitElem_mk
  exact ⟨w9, h1, h2, but_grown h3.grown⟩
end
end Go.Proofs.YtlpondbcnfaggaaGreatDoor.Tr
