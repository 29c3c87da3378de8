/-
  Contract of package trie's Rules over this seat's translation: all rules, in order, in new memory. No condition.
-/
import Derived.Test.YtlpondbcnfaggaaGreatDoorR24
import Derived.Test.YtlpondbcnfaggaaGreatDoorR31
import Derived.Laws.MakeOwn
import Derived.Test.YtlpondbcnfaggaaGreatDoorR34
namespace Go.Proofs.YtlpondbcnfaggaaGreatDoor.Tr
open Go.RowKit Go.Proofs.YtlpondbcnfaggaaGreatDoor.Wd Go.Proofs.YtlpondbcnfaggaaGreatDoor.Asc Go.Proofs.YtlpondbcnfaggaaGreatDoor.Tx Go.Proofs.YtlpondbcnfaggaaGreatDoor.St Go.Proofs.YtlpondbcnfaggaaGreatDoor.Te Go.Maps

/-- rules, as elements of a row -/
def elU : El Ru := ⟨23, 5, fun r => (ruC r).toList⟩
theorem fineU : elU.Fine 29 (.agg #[.bool false, .int .i64 0, .string .empty, .int .i64 0, .string .empty]) 56 := ⟨undRL, infRZ, rfl, by decide, fun _ => rfl, fun x v h => by
  simp [elU, ruC] at h
  rcases h with rfl | rfl | rfl | rfl | rfl <;> rfl⟩
/-- rules of L in the row's places, as far as k -/
structure FillU (w : World) (g n k : Nat) (L : List Ru) : Prop where
  at_ : ∃ cur, Blk w g 23 cur ∧ cur.size = n * 5 ∧ ∀ (i : Nat) (r : Ru), i < k → L[i]? = some r → ∀ (j : Nat) (u : Value), (ruC r).toList[j]? = some u → cur[i * 5 + j]? = some u
theorem FillU.below {w w' : World} {g n k : Nat} {L : List Ru} (h : FillU w g n k L) (hb : Below w.heap.size w w') : FillU w' g n k L := by
  obtain ⟨cur, h1, h2, h3⟩ := h.at_
  exact ⟨cur, h1.below hb h1.lt, h2, h3⟩
/-- a rule's cells, one behind the other -/
def put5 (w : World) (g o : Nat) (al : Bool) (pr : Int) (PA : ByteArray) (po : Int) (AP : ByteArray) : World :=
  ((((w.setCell ⟨g, o, none⟩ (.bool al)).setCell ⟨g, o + 1, none⟩ (.int .i64 pr)).setCell ⟨g, o + 2, none⟩ (.string PA)).setCell ⟨g, o + 3, none⟩ (.int .i64 po)).setCell ⟨g, o + 4, none⟩ (.string AP)
theorem FillU.next {w : World} {g n k : Nat} {L : List Ru} {al : Bool} {pr : Int} {pa ap : List UInt8} {po : Int} (h : FillU w g n k L) (hk : k < n) (hl : L[k]? = some ⟨al, pr, pa, po, ap⟩) : FillU (put5 w g (k * 5) al pr (str pa) po (str ap)) g n (k + 1) L := by
  obtain ⟨cur, h1, h2, h3⟩ := h.at_
  refine ⟨_, ((((h1.set_ (k * 5) _).set_ (k * 5 + 1) _).set_ (k * 5 + 2) _).set_ (k * 5 + 3) _).set_ (k * 5 + 4) _, by simpa using h2, fun i r hi hr j u hu => ?_⟩
  have hj : j < 5 := (List.getElem?_eq_some_iff.1 hu).1
  have hz : k * 5 + 4 < cur.size := by omega
  simp only [Array.getElem?_setIfInBounds, Array.size_setIfInBounds]
  by_cases e : i = k
  · subst e
    rw [hl] at hr
    injection hr with hr
    subst hr
    match j, hj, hu with
    | 0, _, hu => rw [if_neg (by omega), if_neg (by omega), if_neg (by omega), if_neg (by omega), if_pos (by omega), if_pos (by omega)]; exact hu
    | 1, _, hu => rw [if_neg (by omega), if_neg (by omega), if_neg (by omega), if_pos (by omega), if_pos (by omega)]; exact hu
    | 2, _, hu => rw [if_neg (by omega), if_neg (by omega), if_pos (by omega), if_pos (by omega)]; exact hu
    | 3, _, hu => rw [if_neg (by omega), if_pos (by omega), if_pos (by omega)]; exact hu
    | 4, _, hu => rw [if_pos (by omega), if_pos (by omega)]; exact hu
  · rw [if_neg (by omega), if_neg (by omega), if_neg (by omega), if_neg (by omega), if_neg (by omega)]
    exact h3 i r (by omega) hr j u hu
theorem FillU.own {w : World} {g n B : Nat} {L : List Ru} (h : FillU w g n n L) (hn : L.length = n) (hB : B ≤ g) (hm : n ≤ maxLen) : OwnU w B (.slice (some ⟨g, 0, none⟩) n n) L := by
  obtain ⟨cur, h1, h2, h3⟩ := h.at_
  have hf : cur.toList.take (L.length * 5) = flat elU L := flat_of fineU L cur.toList (fun i x hx j v hv => by
    rw [Array.getElem?_toList]
    exact h3 i x (by have := (List.getElem?_eq_some_iff.1 hx).1; omega) hx j v hv)
  refine ⟨by rw [flatU_len], .inr ⟨g, n, cur, by rw [hn], hB, h1, by omega, hm, h2, hf⟩⟩
theorem put5_below {B g o : Nat} {a w : World} (h : Below B a w) (hg : B ≤ g) (al : Bool) (pr : Int) (PA : ByteArray) (po : Int) (AP : ByteArray) : Below B a (put5 w g o al pr PA po AP) :=
  ((((h.setCell (p := ⟨g, o, none⟩) hg _).setCell (p := ⟨g, o + 1, none⟩) hg _).setCell (p := ⟨g, o + 2, none⟩) hg _).setCell (p := ⟨g, o + 3, none⟩) hg _).setCell (p := ⟨g, o + 4, none⟩) hg _
/-- a rule in a new block -/
theorem ru_put (w : World) (r : Ru) : ∃ w2, (w.alloc (.cells zU 23)).setRow w.heap.size (ruC r) = w2 ∧ Blk w2 w.heap.size 23 (ruC r) ∧ Below w.heap.size w w2 :=
  ⟨_, rfl, setRow_blk (ru_zero w).1, setRow_below (ru_zero w).2 (ru_zero w).1 (Nat.le_refl _) _⟩
set_option linter.unusedSimpArgs false in
set_option maxRecDepth 100000 in
set_option maxHeartbeats 16000000 in
theorem trules_any {w : World} {g : Nat} {S : List Nat} {L : List Ru} (hT : TriP w g S L) :
    Calls Tryz.prog 25 #[.pointer (some ⟨g, 0, none⟩)] w fun e w' => ∃ v, e = .returned v ∧ OwnU w' w.heap.size v L ∧ Below w.heap.size w w' := by
  obtain ⟨S1, S2, vr, tb, tn, T, sb, sn, D, vn, N, PT, _, hI⟩ := hT
  obtain ⟨A, c, hv, _, hsrc⟩ := hI.rul.src
  obtain ⟨n, hn⟩ : ∃ n, L.length = n := ⟨_, rfl⟩
  rw [hn] at hv
  have hmost : n ≤ 200 := by rw [← hn]; exact hI.most
  have HN := Lib.hid hn
  have HI := Lib.hid hI
  have HS := Lib.hid hsrc
  have HR := Lib.hid (show ∀ r ∈ L, r.pa.length ≤ 2147483640 ∧ r.ap.length ≤ 2147483640 from fun r hr => by
    have h1 := (right_ok (hI.right r hr)).1
    have := h1.pa
    have := h1.ap
    omega)
  have c0 : w.cell? ⟨g, 0, none⟩ = some (.slice A n c) := by rw [hI.blk.cell 0]; rw [← hv]; rfl
  obtain ⟨i0, hi, hz0, hz1, hz2⟩ := info_parts infRZ
  have hmk := run_make (P := Tryz.prog) w 29 23 i0 (.agg #[.bool false, .int .i64 0, .string .empty, .int .i64 0, .string .empty]) undRL hi hz0 .i64 .i64 (n : Int) (n : Int) (by omega) (Int.le_refl _) (by rw [hz2]; omega) (by omega)
  rw [Int.toNat_natCast, hz1] at hmk
  obtain ⟨C, hC⟩ : ∃ C, madeCells (Value.agg #[.bool false, .int .i64 0, .string .empty, .int .i64 0, .string .empty]).cells (n * 5) = C := ⟨_, rfl⟩
  have hCz : C.size = n * 5 := by rw [← hC, size_madeCells]
  rw [hC] at hmk
  have hb1 := Blk.new w 23 C
  have hl1 : Below w.heap.size w (w.alloc (.cells C 23)) := (Below.refl _ _).alloc (Nat.le_refl _) _
  have HF1 : Hid (FillU (w.alloc (.cells C 23)) w.heap.size n 0 L) := Lib.hid ⟨C, hb1, hCz, fun i r hi => absurd hi (Nat.not_lt_zero _)⟩
  have HB1 := Lib.hid hl1
  have c1 : (w.alloc (.cells C 23)).cell? ⟨g, 0, none⟩ = some (.slice A n c) := (hl1.cell (p := ⟨g, 0, none⟩) hI.blk.lt).trans c0
  clear hI hv hsrc hi hz0 hz1 hz2 hC hb1 hl1 hn
  obtain ⟨G, hG⟩ : ∃ G, w.heap.size = G := ⟨_, rfl⟩
  rw [hG] at hmk HF1 HB1 ⊢
  have HGs := Lib.hid hG
  clear hG
  go_enter Tryz.func25, Tryz.ntmps25
  go_upto_region 2 with fail
  clear c0 hmk
  generalize w.alloc (.cells C 23) = w1 at *
  go_wp2_with fail
  clear c1
  go_loopw [17] (fun x17 wr => ∃ (k : Nat) (ww : World), ww = wr ∧ k ≤ n ∧ x17 = .int .i64 (k : Nat) ∧ Hid (FillU ww G n k L) ∧ Hid (Below G w ww)) (fun x17 _ => n - (intOf x17).toNat)
  case atStart => exact ⟨0, w1, rfl, Nat.zero_le _, rfl, HF1, HB1⟩
  case round =>
    clear HF1 HB1
    obtain ⟨k, ww, rfl, hk, rfl, HF, HB⟩ := hrel
    by_cases hlt : k < n
    · have hki : (k : Int) < (n : Int) := by omega
      obtain ⟨r, gr, p, hr, rfl, hg, hra⟩ := HS.out.get (wr := ww) (k := k) (by rw [HN.out]; exact hlt) (by rw [HGs.out]; exact HB.out)
      have HRk := Lib.hid hr
      obtain ⟨z1, z2⟩ := HR.out r (List.mem_of_getElem? hr)
      have HFr := Lib.hid (fun w' => tfresh_any r w' z1 z2)
      clear hr hg z1 z2
      go_upto_region 5 with (first | (refine go_ldr r hra (by rfl) rfl (by first | rfl | (go_simp; done)) ?_) | (refine go_st 23 (ru_zero _).1 infU (ruC_size _) (ruC_size _) (ruC_one _) rfl rfl rfl rfl ?_))
      obtain ⟨w3, hw3, hb3, hl3⟩ := ru_put ww r
      rw [hw3]
      have HF3 := Lib.hid (HF.out.below hl3)
      have HB3 := Lib.hid (HB.out.trans (hl3.mono (by have := HB.out.size; have := HGs.out; omega)))
      clear hra hw3 hl3 HF HB
      go_wp2_with (refine go_ld (x := .tmp 5) 23 hb3 undU rfl infU (ruC_size _) rfl rfl rfl ?_)
      refine (HFr.out _).mono ?_
      rintro e w4 ⟨rfl, hb4⟩
      have HF4 := Lib.hid (HF3.out.below hb4)
      have HB4 := Lib.hid (HB3.out.trans (hb4.mono (by have := HB3.out.size; have := HGs.out; omega)))
      obtain ⟨al, pr, pa, po, ap⟩ := r
      have HF5 := Lib.hid (HF4.out.next hlt HRk.out)
      have HB5 := Lib.hid (put5_below (o := k * 5) HB4.out (Nat.le_refl _) al pr (str pa) po (str ap))
      obtain ⟨cur, hbc, hcz, _⟩ := HF4.out.at_
      have hcell : ∀ j, j < 5 → (∃ u, w4.cell? ⟨G, k * 5 + j, none⟩ = some u) ∧ w4.frozen? ⟨G, k * 5 + j, none⟩ = false := fun j hj => ⟨by
        rw [hbc.cell]
        exact ⟨_, Array.getElem?_eq_getElem (by omega)⟩, hbc.frozen _⟩
      obtain ⟨⟨u0, d0⟩, f0⟩ := hcell 0 (by decide)
      obtain ⟨⟨u1, d1⟩, f1⟩ := hcell 1 (by decide)
      obtain ⟨⟨u2, d2⟩, f2⟩ := hcell 2 (by decide)
      obtain ⟨⟨u3, d3⟩, f3⟩ := hcell 3 (by decide)
      obtain ⟨⟨u4, d4⟩, f4⟩ := hcell 4 (by decide)
      rw [Nat.add_zero] at d0 f0
      clear hcell hbc hcz hb3 hb4 HF3 HB3 HF4 HB4 HFr
      unfold ruC
      unfold put5 at HF5 HB5
      generalize str pa = PA at *
      generalize str ap = AP at *
      go_wp2_with fail
      clear d0 d1 d2 d3 d4 f0 f1 f2 f3 f4
      go_roundw
      case rel => exact ⟨k + 1, _, rfl, by omega, by go_num, HF5, HB5⟩
      case measure => simp [intOf]; omega
    · obtain rfl : k = n := by omega
      go_wp2_with fail
      go_ret
      exact ⟨_, rfl, HF.out.own HN.out (Nat.le_refl _) (by unfold maxLen; omega), HB.out⟩
end Go.Proofs.YtlpondbcnfaggaaGreatDoor.Tr

/-
  What package trie's Add keeps in memory: ahead of place, behind it, behind the map's store, at the end. Plain memory lemmas.
-/
namespace Go.Proofs.YtlpondbcnfaggaaGreatDoor.Tr
open Go.RowKit Go.Proofs.YtlpondbcnfaggaaGreatDoor.Wd Go.Proofs.YtlpondbcnfaggaaGreatDoor.Asc Go.Proofs.YtlpondbcnfaggaaGreatDoor.Tx Go.Proofs.YtlpondbcnfaggaaGreatDoor.St Go.Proofs.YtlpondbcnfaggaaGreatDoor.Te Go.Maps

/-- what Add keeps, ahead of place: the trie, its own box with the rule -/
structure AdI (w : World) (G g : Nat) (S1 S2 : List Nat) (L : List Ru) (vr : Value) (tb tn : Nat) (T : DataW Unit) (sb sn : Nat) (D : DataW Unit) (vn : Value) (N : List (Sv × Sv)) (PT : List (List (List UInt8))) (r : Ru) (ww : World) : Prop where
  tri : TriI ww g S1 S2 L vr tb tn T sb sn D vn N PT
  box : Blk ww G 23 (ruC r)
  bel : Below w.heap.size w ww
  lo : w.heap.size ≤ G
  lts : ∀ i ∈ g :: (S1 ++ S2), i < w.heap.size
/-- what Add keeps, behind place -/
structure AmI (w : World) (G g : Nat) (S1 S2 S' : List Nat) (L : List Ru) (vr : Value) (tb tn : Nat) (T : DataW Unit) (sb sn : Nat) (D : DataW Unit) (vn : Value) (N : List (Sv × Sv)) (PT : List (List (List UInt8))) (r : Ru) (M : Nat) (ww : World) : Prop where
  blk : Blk ww g 73 (trC4 vr tb sb vn)
  rul : OwnU ww 0 vr L
  thr : ww.ownsMap Tryz.prog 23 (unitElem (H := Unit)) tb tn T
  nod : NodesIs ww S' (L ++ [r]) sb sn D vn N PT
  box : Blk ww G 23 (ruC r)
  in1 : ∀ b, vr.ownBlock = some b → b ∈ S1
  in2 : tb ∈ S1
  g1 : g ∉ S1
  gn : g ∉ S'
  ap : ∀ i ∈ S1, i ∉ S'
  new : ∀ i ∈ S', i ∈ S2 ∨ w.heap.size ≤ i
  lt : ∀ i ∈ S', i < ww.heap.size
  lo : w.heap.size ≤ G
  lts : ∀ i ∈ g :: (S1 ++ S2), i < w.heap.size
  sns : sn ≤ PT.length
  pts : PT.length ≤ M + 300
  but : But (g :: (S1 ++ S2)) w ww
section
variable {w : World} {G g : Nat} {S1 S2 S' : List Nat} {L : List Ru} {vr : Value} {tb tn : Nat} {T : DataW Unit} {sb sn : Nat} {D : DataW Unit} {vn : Value} {N : List (Sv × Sv)} {PT : List (List (List UInt8))} {r : Ru} {ww w' : World}
theorem AdI.on (h : AdI w G g S1 S2 L vr tb tn T sb sn D vn N PT r ww) (hb : Below ww.heap.size ww w') : AdI w G g S1 S2 L vr tb tn T sb sn D vn N PT r w' :=
  ⟨h.tri.below hb, h.box.below hb h.box.lt, h.bel.trans (hb.mono h.bel.size), h.lo, h.lts⟩
theorem AdI.row (h : AdI w G g S1 S2 L vr tb tn T sb sn D vn N PT r ww) (r' : Ru) : AdI w G g S1 S2 L vr tb tn T sb sn D vn N PT r' (ww.setRow G (ruC r')) :=
  have k : But [G] ww (ww.setRow G (ruC r')) := (But.refl [G] ww).row (.inl (by simp)) _
  have ne : ∀ i ∈ g :: (S1 ++ S2), i ∉ [G] := fun i hi hm => by
    rw [List.mem_singleton] at hm
    have := h.lts i hi
    have := h.lo
    omega
  ⟨h.tri.but k (ne g (by simp)) (fun i hi => ne i (by simp [hi])) (fun i hi => ne i (by simp [hi])), setRow_blk h.box, setRow_below h.bel h.box h.lo _, h.lo, h.lts⟩
theorem AdI.place {M : Nat} {w6 : World} {S9 : List Nat} {sn' : Nat} {D' : DataW Unit} {vn' : Value} {N' : List (Sv × Sv)} {PT' : List (List (List UInt8))}
    (h : AdI w G g S1 S2 L vr tb tn T sb sn D vn N PT r ww) (k : PlcI ww g S2 (L ++ [r]) vr tb sb M w6 S9 sn' D' vn' N' PT') : AmI w G g S1 S2 S9 L vr tb tn T sb sn' D' vn' N' PT' r M w6 :=
  have ne1 : ∀ i ∈ S1, i ∉ g :: S2 := fun i hi hm => by
    rcases List.mem_cons.1 hm with e | hm
    · exact h.tri.g1 (e ▸ hi)
    · exact h.tri.apart i hi hm
  { blk := k.blk
    rul := h.tri.rul.but k.but (fun b hb => ne1 b (h.tri.in1 b hb))
    thr := map_but h.tri.thr k.but (ne1 _ h.tri.in2)
    nod := k.nod
    box := h.box.but k.but (fun hm => by
      have := h.lts G (by
        rcases List.mem_cons.1 hm with e | hm
        · rw [e]; simp
        · simp [hm])
      have := h.lo
      omega)
    in1 := h.tri.in1
    in2 := h.tri.in2
    g1 := h.tri.g1
    gn := k.gn
    ap := fun i hi hm => (k.new i hm).elim (h.tri.apart i hi) (fun e => by have := h.tri.lt1 i hi; omega)
    new := fun i hm => (k.new i hm).imp id (fun e => Nat.le_trans h.bel.size e)
    lt := k.lt
    lo := h.lo
    lts := h.lts
    sns := k.sns
    pts := k.pts
    but := but_more (But.of_below h.bel _) k.but (fun i hi => .inl (by
      rcases List.mem_cons.1 hi with e | hi
      · rw [e]; simp
      · simp [hi])) }
theorem AmI.on {M : Nat} (h : AmI w G g S1 S2 S' L vr tb tn T sb sn D vn N PT r M ww) (hb : Below ww.heap.size ww w') : AmI w G g S1 S2 S' L vr tb tn T sb sn D vn N PT r M w' :=
  have k : But [] ww w' := But.of_below hb []
  have no : ∀ i : Nat, i ∉ ([] : List Nat) := fun _ hm => by cases hm
  { blk := h.blk.but k (no _)
    rul := h.rul.but k (fun _ _ => no _)
    thr := map_but h.thr k (no _)
    nod := h.nod.but k (fun _ _ => no _)
    box := h.box.but k (no _)
    in1 := h.in1
    in2 := h.in2
    g1 := h.g1
    gn := h.gn
    ap := h.ap
    new := h.new
    lt := fun i hi => Nat.lt_of_lt_of_le (h.lt i hi) hb.size
    lo := h.lo
    lts := h.lts
    sns := h.sns
    pts := h.pts
    but := but_more h.but k (fun _ hm => by cases hm) }
theorem AmI.store {M tn' : Nat} {T' : DataW Unit} (h : AmI w G g S1 S2 S' L vr tb tn T sb sn D vn N PT r M ww) (hm : w'.ownsMap Tryz.prog 23 (unitElem (H := Unit)) tb tn' T') (k : But [tb] ww w') : AmI w G g S1 S2 S' L vr tb tn' T' sb sn D vn N PT r M w' :=
  have ne : ∀ i : Nat, i ≠ tb → i ∉ [tb] := fun i hi hm => hi (List.mem_singleton.1 hm)
  { blk := h.blk.but k (ne _ (fun e => h.g1 (e ▸ h.in2)))
    rul := h.rul.but k (fun b hb => ne _ (fun e => by
      obtain ⟨cur, hc⟩ := h.rul.typ b hb
      exact map_ne h.thr hc e.symm))
    thr := hm
    nod := h.nod.but k (fun i hi => ne _ (fun e => h.ap tb h.in2 (e ▸ hi)))
    box := h.box.but k (ne _ (fun e => map_ne h.thr h.box e.symm))
    in1 := h.in1
    in2 := h.in2
    g1 := h.g1
    gn := h.gn
    ap := h.ap
    new := h.new
    lt := fun i hi => Nat.lt_of_lt_of_le (h.lt i hi) k.size
    lo := h.lo
    lts := h.lts
    sns := h.sns
    pts := h.pts
    but := but_more h.but k (fun i hm => .inl (by
      rw [List.mem_singleton.1 hm]
      simp [h.in2])) }
set_option maxRecDepth 100000 in
/-- the end: the rules' row, a rule longer, put in the trie -/
theorem AmI.done {M : Nat} {w8 : World} {v : Value} (h : AmI w G g S1 S2 S' L vr tb tn T sb sn D vn N PT r M ww) (hA : OwnU w8 0 v (L ++ [r])) (k8 : But vr.ownBlock.toList ww w8) (hv : v.ownBlock = vr.ownBlock ∨ v.ownBlock = some ww.heap.size)
    (tha : ∀ q, OkU q → (Maps.has T (kU q) = true ↔ ∃ x ∈ L ++ [r], { x with al := false } = q)) (right : ∀ x ∈ L ++ [r], rightS x = 0) (hL : L.length < 200) (htn : tn ≤ L.length + 1) (hM : M ≤ 1 + 300 * L.length) :
    ∃ S9, TriP (w8.setCell ⟨g, 0, none⟩ v) g S9 (L ++ [r]) ∧ (∀ i ∈ S9, i ∈ S1 ++ S2 ∨ w.heap.size ≤ i) ∧ But (g :: (S1 ++ S2)) w (w8.setCell ⟨g, 0, none⟩ v) := by
  have k9 : But [g] w8 (w8.setCell ⟨g, 0, none⟩ v) := (But.refl [g] w8).set_ (p := ⟨g, 0, none⟩) (.inl (by simp)) v
  have gv : g ∉ vr.ownBlock.toList := fun hm => h.g1 (h.in1 g (Option.mem_toList.1 hm))
  have b8 := h.blk.but k8 gv
  have b9 : Blk (w8.setCell ⟨g, 0, none⟩ v) g 73 (trC4 v tb sb vn) := b8.set_ 0 v
  have hg : ww.heap.size ≤ w8.heap.size := k8.size
  have z9 : w8.heap.size ≤ (w8.setCell ⟨g, 0, none⟩ v).heap.size := k9.size
  have zw : w.heap.size ≤ ww.heap.size := h.but.size
  have ne : ∀ i : Nat, i ≠ g → i ∉ [g] := fun i hi hm => hi (List.mem_singleton.1 hm)
  have hnb : ∀ i ∈ newB ww w8, ww.heap.size ≤ i ∧ i < w8.heap.size := fun i hi => (newB_mem hg).1 hi
  have hl : ∀ i ∈ S1 ++ newB ww w8, i < w8.heap.size := fun i hi => by
    rcases List.mem_append.1 hi with hi | hi
    · have := h.lts i (by simp [hi])
      omega
    · exact (hnb i hi).2
  refine ⟨(S1 ++ newB ww w8) ++ S', ⟨S1 ++ newB ww w8, S', v, tb, tn, T, sb, sn, D, vn, N, PT, fun i => List.mem_append, ?_⟩, fun i hi => ?_, but_more (but_more h.but k8 (fun i hi => .inl (by
    have := h.in1 i (Option.mem_toList.1 hi)
    simp [this]))) k9 (fun i hi => .inl (by
    rw [List.mem_singleton.1 hi]
    simp))⟩
  · refine ⟨b9, ?_, ?_, tha, ?_, ?_, by simp [h.in2], ?_, ?_, h.gn, fun i hi => Nat.lt_of_lt_of_le (hl i hi) z9, fun i hi => ?_, right, by rw [List.length_append, List.length_singleton]; omega, ?_, by rw [List.length_append, List.length_singleton]; exact htn, h.sns⟩
    · refine hA.but k9 (fun b hb => ne b (fun e => ?_))
      obtain ⟨cur, hc⟩ := hA.typ b hb
      exact hc.ne_ b8 (by decide) e
    · refine map_but (map_but h.thr k8 (fun hm => ?_)) k9 (ne _ (fun e => h.g1 (e ▸ h.in2)))
      obtain ⟨cur, hc⟩ := h.rul.typ tb (Option.mem_toList.1 hm)
      exact map_ne h.thr hc rfl
    · refine (h.nod.but k8 (fun i hi hm => h.ap i (h.in1 i (Option.mem_toList.1 hm)) hi)).but k9 (fun i hi => ne _ (fun e => h.gn (e ▸ hi)))
    · intro b hb
      rcases hv with e | e
      · rw [e] at hb
        simp [h.in1 b hb]
      · have h1 := (hA.ge b hb).2
        rw [e] at hb
        injection hb with hb
        exact List.mem_append.2 (.inr ((newB_mem hg).2 ⟨by omega, h1⟩))
    · intro i hi hm
      rcases List.mem_append.1 hi with hi | hi
      · exact h.ap i hi hm
      · have := h.lt i hm
        have := (hnb i hi).1
        omega
    · intro hm
      rcases List.mem_append.1 hm with hm | hm
      · exact h.g1 hm
      · have := (hnb g hm).1
        have := h.blk.lt
        omega
    · have := h.lt i hi
      omega
    · have := h.pts
      rw [List.length_append, List.length_singleton]
      omega
  · rcases List.mem_append.1 hi with hi | hi
    · rcases List.mem_append.1 hi with hi | hi
      · exact .inl (by simp [hi])
      · exact .inr (by have := (hnb i hi).1; omega)
    · rcases h.new i hi with h1 | h1
      · exact .inl (by simp [h1])
      · exact .inr h1
/-- a rule more, of those that are there -/
theorem tha_put (hm : IsMap T) (h : ∀ q, OkU q → (Maps.has T (kU q) = true ↔ ∃ x ∈ L, { x with al := false } = q)) (hr : OkU r) (d : DataW Unit) :
    ∀ q, OkU q → (Maps.has (T.put (kU { r with al := false }) d) (kU q) = true ↔ ∃ x ∈ L ++ [r], { x with al := false } = q) := by
  intro q hq
  by_cases e : q = { r with al := false }
  · subst e
    rw [has_put_same hm (kU_key _ (ok_bare hr))]
    exact ⟨fun _ => ⟨r, by simp, rfl⟩, fun _ => rfl⟩
  · rw [has_put_other (fun hk => e (kU_inj hq (ok_bare hr) hk)), h q hq]
    constructor
    · rintro ⟨x, h1, h2⟩
      exact ⟨x, by simp [h1], h2⟩
    · rintro ⟨x, h1, h2⟩
      rcases List.mem_append.1 h1 with h1 | h1
      · exact ⟨x, h1, h2⟩
      · rw [List.mem_singleton.1 h1] at h2
        exact absurd h2.symm e
set_option maxRecDepth 100000 in
/-- is such a rule there -/
theorem thr_look {b : Bool} {q : Ru} (h : w.ownsMap Tryz.prog 23 (unitElem (H := Unit)) tb tn T) (hq : OkU q) (hb : Maps.has T (kU q) = b) :
    (Instr.lookup 69 (.map (some tb)) (.agg (ruC q)) true).run Tryz.prog w = .ok (.tuple #[.agg #[], .bool b]) w := by
  obtain ⟨v, ps, h1, h2⟩ := h.look_ok keyedU undThr (zeroT w) unitElem_mk (keyU q hq)
  obtain ⟨rfl, _⟩ := unitElem_inv h2
  rw [hb] at h1
  exact h1
set_option maxRecDepth 100000 in
/-- such a rule is put there -/
theorem thr_store {q : Ru} (h : w.ownsMap Tryz.prog 23 (unitElem (H := Unit)) tb tn T) (hq : OkU q) (hn : tn < 1000) : ∃ w9, (Instr.mapUpdate 69 (.map (some tb)) (.agg (ruC q)) (.agg #[])).run Tryz.prog w = .ok () w9 ∧
    w9.ownsMap Tryz.prog 23 (unitElem (H := Unit)) tb (tn + 1) (T.put (kU q) (.agg [])) ∧ But [tb] w w9 := by
  obtain ⟨w9, h1, h2, h3⟩ := h.store keyedU undThr (by unfold maxLen; omega) (keyU q hq) unitElem_mk
  exact ⟨w9, h1, h2, but_grown h3.grown⟩
end
end Go.Proofs.YtlpondbcnfaggaaGreatDoor.Tr
