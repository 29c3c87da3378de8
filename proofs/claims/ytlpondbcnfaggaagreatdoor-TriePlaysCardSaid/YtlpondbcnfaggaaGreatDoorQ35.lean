/-
  Contract of package trie's Rules over this seat's translation: all rules, in order, in new memory. No condition.
-/
import Derived.Test.YtlpondbcnfaggaaGreatDoorQ30
import Derived.Test.YtlpondbcnfaggaaGreatDoorQ31
import Derived.Laws.MakeOwn
namespace Go.Proofs.YtlpondbcnfaggaaGreatDoor.Tr
open Go.RowKit Go.Proofs.YtlpondbcnfaggaaGreatDoor.Wd Go.Proofs.YtlpondbcnfaggaaGreatDoor.Asc Go.Proofs.YtlpondbcnfaggaaGreatDoor.Tx Go.Proofs.YtlpondbcnfaggaaGreatDoor.St Go.Proofs.YtlpondbcnfaggaaGreatDoor.Te Go.Maps

/-- rules, as elements of a row -/
def elU : El Ru := ⟨23, 5, fun r => (ruC r).toList⟩
theorem fineU : elU.Fine 29 (.agg #[.bool false, .int .i64 0, .string .empty, .int .i64 0, .string .empty]) 56 := ⟨undRL, infRZ, rfl, by decide, fun _ => rfl, fun x v h => by
  simp [elU, ruC] at h
  rcases h with rfl | rfl | rfl | rfl | rfl <;> rfl⟩
/-- rules of L in the row's places, as far as k -/
structure FillU (w : World) (g n k : Nat) (L : List Ru) : Prop where
  at_ : ∃ cur, Blk w g 23 cur ∧ cur.size = n * 5 ∧ ∀ (i : Nat) (r : Ru), i < k → L[i]? = some r → ∀ (j : Nat) (u : Value), (ruC r).toList[j]? = some u → cur[i * 5 + j]? = some u
theorem FillU.below {w w' : World} {g n k : Nat} {L : List Ru} (h : FillU w g n k L) (hb : Below w.heap.size w w') : FillU w' g n k L := by
  obtain ⟨cur, h1, h2, h3⟩ := h.at_
  exact ⟨cur, h1.below hb h1.lt, h2, h3⟩
/-- a rule's cells, one behind the other -/
def put5 (w : World) (g o : Nat) (al : Bool) (pr : Int) (PA : ByteArray) (po : Int) (AP : ByteArray) : World :=
  ((((w.setCell ⟨g, o, none⟩ (.bool al)).setCell ⟨g, o + 1, none⟩ (.int .i64 pr)).setCell ⟨g, o + 2, none⟩ (.string PA)).setCell ⟨g, o + 3, none⟩ (.int .i64 po)).setCell ⟨g, o + 4, none⟩ (.string AP)
theorem FillU.next {w : World} {g n k : Nat} {L : List Ru} {al : Bool} {pr : Int} {pa ap : List UInt8} {po : Int} (h : FillU w g n k L) (hk : k < n) (hl : L[k]? = some ⟨al, pr, pa, po, ap⟩) : FillU (put5 w g (k * 5) al pr (str pa) po (str ap)) g n (k + 1) L := by
  obtain ⟨cur, h1, h2, h3⟩ := h.at_
  refine ⟨_, ((((h1.set_ (k * 5) _).set_ (k * 5 + 1) _).set_ (k * 5 + 2) _).set_ (k * 5 + 3) _).set_ (k * 5 + 4) _, by simpa using h2, fun i r hi hr j u hu => ?_⟩
  have hj : j < 5 := (List.getElem?_eq_some_iff.1 hu).1
  have hz : k * 5 + 4 < cur.size := by omega
  simp only [Array.getElem?_setIfInBounds, Array.size_setIfInBounds]
  by_cases e : i = k
  · subst e
    rw [hl] at hr
    injection hr with hr
    subst hr
    match j, hj, hu with
    | 0, _, hu => rw [if_neg (by omega), if_neg (by omega), if_neg (by omega), if_neg (by omega), if_pos (by omega), if_pos (by omega)]; exact hu
    | 1, _, hu => rw [if_neg (by omega), if_neg (by omega), if_neg (by omega), if_pos (by omega), if_pos (by omega)]; exact hu
    | 2, _, hu => rw [if_neg (by omega), if_neg (by omega), if_pos (by omega), if_pos (by omega)]; exact hu
    | 3, _, hu => rw [if_neg (by omega), if_pos (by omega), if_pos (by omega)]; exact hu
    | 4, _, hu => rw [if_pos (by omega), if_pos (by omega)]; exact hu
  · rw [if_neg (by omega), if_neg (by omega), if_neg (by omega), if_neg (by omega), if_neg (by omega)]
    exact h3 i r (by omega) hr j u hu
theorem FillU.own {w : World} {g n B : Nat} {L : List Ru} (h : FillU w g n n L) (hn : L.length = n) (hB : B ≤ g) (hm : n ≤ maxLen) : OwnU w B (.slice (some ⟨g, 0, none⟩) n n) L := by
  obtain ⟨cur, h1, h2, h3⟩ := h.at_
  have hf : cur.toList.take (L.length * 5) = flat elU L := flat_of fineU L cur.toList (fun i x hx j v hv => by
    rw [Array.getElem?_toList]
    exact h3 i x (by have := (List.getElem?_eq_some_iff.1 hx).1; omega) hx j v hv)
  refine ⟨by rw [flatU_len], .inr ⟨g, n, cur, by rw [hn], hB, h1, by omega, hm, h2, hf⟩⟩
theorem put5_below {B g o : Nat} {a w : World} (h : Below B a w) (hg : B ≤ g) (al : Bool) (pr : Int) (PA : ByteArray) (po : Int) (AP : ByteArray) : Below B a (put5 w g o al pr PA po AP) :=
  ((((h.setCell (p := ⟨g, o, none⟩) hg _).setCell (p := ⟨g, o + 1, none⟩) hg _).setCell (p := ⟨g, o + 2, none⟩) hg _).setCell (p := ⟨g, o + 3, none⟩) hg _).setCell (p := ⟨g, o + 4, none⟩) hg _
/-- a rule in a new block -/
theorem ru_put (w : World) (r : Ru) : ∃ w2, (w.alloc (.cells zU 23)).setRow w.heap.size (ruC r) = w2 ∧ Blk w2 w.heap.size 23 (ruC r) ∧ Below w.heap.size w w2 :=
  ⟨_, rfl, setRow_blk (ru_zero w).1, setRow_below (ru_zero w).2 (ru_zero w).1 (Nat.le_refl _) _⟩
set_option linter.unusedSimpArgs false in
set_option maxRecDepth 100000 in
set_option maxHeartbeats 16000000 in
theorem trules_any {w : World} {g : Nat} {S : List Nat} {L : List Ru} (hT : TriP w g S L) :
    Calls Tryz.prog 25 #[.pointer (some ⟨g, 0, none⟩)] w fun e w' => ∃ v, e = .returned v ∧ OwnU w' w.heap.size v L ∧ Below w.heap.size w w' := by
  obtain ⟨S1, S2, vr, tb, tn, T, sb, sn, D, vn, N, PT, _, hI⟩ := hT
  obtain ⟨A, c, hv, _, hsrc⟩ := hI.rul.src
  obtain ⟨n, hn⟩ : ∃ n, L.length = n := ⟨_, rfl⟩
  rw [hn] at hv
  have hmost : n ≤ 200 := by rw [← hn]; exact hI.most
  have HN := Lib.hid hn
  have HI := Lib.hid hI
  have HS := Lib.hid hsrc
  have HR := Lib.hid (show ∀ r ∈ L, r.pa.length ≤ 2147483640 ∧ r.ap.length ≤ 2147483640 from fun r hr => by
    have h1 := (right_ok (hI.right r hr)).1
    have := h1.pa
    have := h1.ap
    omega)
  have c0 : w.cell? ⟨g, 0, none⟩ = some (.slice A n c) := by rw [hI.blk.cell 0]; rw [← hv]; rfl
  obtain ⟨i0, hi, hz0, hz1, hz2⟩ := info_parts infRZ
  have hmk := run_make (P := Tryz.prog) w 29 23 i0 (.agg #[.bool false, .int .i64 0, .string .empty, .int .i64 0, .string .empty]) undRL hi hz0 .i64 .i64 (n : Int) (n : Int) (by omega) (Int.le_refl _) (by rw [hz2]; omega) (by omega)
  rw [Int.toNat_natCast, hz1] at hmk
  obtain ⟨C, hC⟩ : ∃ C, madeCells (Value.agg #[.bool false, .int .i64 0, .string .empty, .int .i64 0, .string .empty]).cells (n * 5) = C := ⟨_, rfl⟩
  have hCz : C.size = n * 5 := by rw [← hC, size_madeCells]
  rw [hC] at hmk
  have hb1 := Blk.new w 23 C
  have hl1 : Below w.heap.size w (w.alloc (.cells C 23)) := (Below.refl _ _).alloc (Nat.le_refl _) _
  have HF1 : Hid (FillU (w.alloc (.cells C 23)) w.heap.size n 0 L) := Lib.hid ⟨C, hb1, hCz, fun i r hi => absurd hi (Nat.not_lt_zero _)⟩
  have HB1 := Lib.hid hl1
  have c1 : (w.alloc (.cells C 23)).cell? ⟨g, 0, none⟩ = some (.slice A n c) := (hl1.cell (p := ⟨g, 0, none⟩) hI.blk.lt).trans c0
  clear hI hv hsrc hi hz0 hz1 hz2 hC hb1 hl1 hn
  obtain ⟨G, hG⟩ : ∃ G, w.heap.size = G := ⟨_, rfl⟩
  rw [hG] at hmk HF1 HB1 ⊢
  have HGs := Lib.hid hG
  clear hG
  go_enter Tryz.func25, Tryz.ntmps25
  go_upto_region 2 with fail
  clear c0 hmk
  generalize w.alloc (.cells C 23) = w1 at *
  go_wp2_with fail
  clear c1
  go_loopw [17] (fun x17 wr => ∃ (k : Nat) (ww : World), ww = wr ∧ k ≤ n ∧ x17 = .int .i64 (k : Nat) ∧ Hid (FillU ww G n k L) ∧ Hid (Below G w ww)) (fun x17 _ => n - (intOf x17).toNat)
  case atStart => exact ⟨0, w1, rfl, Nat.zero_le _, rfl, HF1, HB1⟩
  case round =>
    clear HF1 HB1
    obtain ⟨k, ww, rfl, hk, rfl, HF, HB⟩ := hrel
    by_cases hlt : k < n
    · have hki : (k : Int) < (n : Int) := by omega
      obtain ⟨r, gr, p, hr, rfl, hg, hra⟩ := HS.out.get (wr := ww) (k := k) (by rw [HN.out]; exact hlt) (by rw [HGs.out]; exact HB.out)
      have HRk := Lib.hid hr
      obtain ⟨z1, z2⟩ := HR.out r (List.mem_of_getElem? hr)
      have HFr := Lib.hid (fun w' => tfresh_any r w' z1 z2)
      clear hr hg z1 z2
      go_upto_region 5 with (first | (refine go_ldr r hra (by rfl) rfl (by first | rfl | (go_simp; done)) ?_) | (refine go_st 23 (ru_zero _).1 infU (ruC_size _) (ruC_size _) (ruC_one _) rfl rfl rfl rfl ?_))
      obtain ⟨w3, hw3, hb3, hl3⟩ := ru_put ww r
      rw [hw3]
      have HF3 := Lib.hid (HF.out.below hl3)
      have HB3 := Lib.hid (HB.out.trans (hl3.mono (by have := HB.out.size; have := HGs.out; omega)))
      clear hra hw3 hl3 HF HB
      go_wp2_with (refine go_ld (x := .tmp 5) 23 hb3 undU rfl infU (ruC_size _) rfl rfl rfl ?_)
      refine (HFr.out _).mono ?_
      rintro e w4 ⟨rfl, hb4⟩
      have HF4 := Lib.hid (HF3.out.below hb4)
      have HB4 := Lib.hid (HB3.out.trans (hb4.mono (by have := HB3.out.size; have := HGs.out; omega)))
      obtain ⟨al, pr, pa, po, ap⟩ := r
      have HF5 := Lib.hid (HF4.out.next hlt HRk.out)
      have HB5 := Lib.hid (put5_below (o := k * 5) HB4.out (Nat.le_refl _) al pr (str pa) po (str ap))
      obtain ⟨cur, hbc, hcz, _⟩ := HF4.out.at_
      have hcell : ∀ j, j < 5 → (∃ u, w4.cell? ⟨G, k * 5 + j, none⟩ = some u) ∧ w4.frozen? ⟨G, k * 5 + j, none⟩ = false := fun j hj => ⟨by
        rw [hbc.cell]
        exact ⟨_, Array.getElem?_eq_getElem (by omega)⟩, hbc.frozen _⟩
      obtain ⟨⟨u0, d0⟩, f0⟩ := hcell 0 (by decide)
      obtain ⟨⟨u1, d1⟩, f1⟩ := hcell 1 (by decide)
      obtain ⟨⟨u2, d2⟩, f2⟩ := hcell 2 (by decide)
      obtain ⟨⟨u3, d3⟩, f3⟩ := hcell 3 (by decide)
      obtain ⟨⟨u4, d4⟩, f4⟩ := hcell 4 (by decide)
      rw [Nat.add_zero] at d0 f0
      clear hcell hbc hcz hb3 hb4 HF3 HB3 HF4 HB4 HFr
      unfold ruC
      unfold put5 at HF5 HB5
      generalize str pa = PA at *
      generalize str ap = AP at *
      go_wp2_with fail
      clear d0 d1 d2 d3 d4 f0 f1 f2 f3 f4
      go_roundw
      case rel => exact ⟨k + 1, _, rfl, by omega, by go_num, HF5, HB5⟩
      case measure => simp [intOf]; omega
    · obtain rfl : k = n := by omega
      go_wp2_with fail
      go_ret
      exact ⟨_, rfl, HF.out.own HN.out (Nat.le_refl _) (by unfold maxLen; omega), HB.out⟩
end Go.Proofs.YtlpondbcnfaggaaGreatDoor.Tr
