/-
  Contract of hagioscoperef11's Print over this seat's translation: it answers what printS says.
-/
import Derived.Test.YtnkcloebnlolaaaDoorRlPrint
namespace Go.Proofs.YtnkcloebnlolaaaDoor.Rl
open Go.RowKit Go.Proofs.YtnkcloebnlolaaaDoor.Wd Go.Proofs.YtnkcloebnlolaaaDoor.Asc Go.Proofs.YtnkcloebnlolaaaDoor.Tx Go.Proofs.YtnkcloebnlolaaaDoor.St

set_option linter.unusedSimpArgs false in
set_option maxRecDepth 100000 in
set_option maxHeartbeats 4000000 in
theorem rprint_any (r : Rq) (w : World) (h1 : r.meth.length ≤ 100000) (h2 : r.targ.length ≤ 100000) :
    Calls Tryd.prog 9 #[.agg (rqC r)] w fun e w' => e = .returned (optT (printS r)) ∧ Below w.heap.size w w' := by
  obtain ⟨k, hk⟩ : ∃ k, r.minor = k := ⟨_, rfl⟩
  have hC : rqC r = #[.string (str r.meth), .string (str r.targ), .int .i64 k] := by rw [← hk]; rfl
  obtain ⟨A, hA⟩ : ∃ A, str r.meth = A := ⟨_, rfl⟩
  obtain ⟨B, hB⟩ : ∃ B, str r.targ = B := ⟨_, rfl⟩
  have sA : A.size ≤ 100000 := by rw [← hA, str_size]; exact h1
  have sB : B.size ≤ 100000 := by rw [← hB, str_size]; exact h2
  have hT : ∀ d : UInt8, A ++ ⟨#[32]⟩ ++ B ++ ⟨#[32, 72, 84, 84, 80, 47, 49, 46, d]⟩ = str (lineT r.meth r.targ (v1 ++ [d])) := fun d => by
    rw [← hA, ← hB]
    apply bs_inj
    simp only [bs_add, bs_str]
    simp [lineT, v1, bs]
  have hLl : ∀ d : UInt8, (lineT r.meth r.targ (v1 ++ [d])).length ≤ 4294967290 := fun d => by simp [lineT, v1]; omega
  have HC := Lib.hid hC
  rw [hA, hB] at hC
  rw [hC]
  have z1 : (A ++ (⟨#[32]⟩ : ByteArray)).size ≤ 100001 := by rw [ByteArray.size_append]; show A.size + 1 ≤ _; omega
  have z2 : (A ++ (⟨#[32]⟩ : ByteArray) ++ B).size ≤ 200001 := by rw [ByteArray.size_append]; omega
  have HA := Lib.hid hA
  have HB := Lib.hid hB
  by_cases h0 : k = 0
  · skip
    obtain ⟨l, hl⟩ : ∃ l, lineT r.meth r.targ (v1 ++ [48]) = l := ⟨_, rfl⟩
    have HT := Lib.hid (hT 48)
    have HLl := Lib.hid (hLl 48)
    rw [hl] at HT HLl
    have HL : Hid ((r.minor = 0 ∨ r.minor = 1) → l = lineR r) := Lib.hid (fun h => by rw [← hl, lineR]; rw [hk, h0, itoa0])
    have hb0 : (k == 0) = true := by simp [h0]
    have hd0 : decide (k = 0) = true := by simp [h0]
    clear h0
    clear hA hB hl h1 h2 hC hk hT hLl
    go_enter Tryd.func9, Tryd.ntmps9
    go_upto_region 1 with fail
    have b0 := Blk.new w 23 #[.string A, .string B, .int .i64 k]
    have hbel : Below w.heap.size w (w.alloc (.cells #[.string A, .string B, .int .i64 k] 23)) := (Below.refl _ _).alloc (Nat.le_refl _) _
    generalize w.alloc (.cells #[.string A, .string B, .int .i64 k] 23) = w2 at *
    generalize hG : w.heap.size = G at *
    have HG := Lib.hid hG
    have HK2 := Lib.hid b0
    have HBL2 := Lib.hid hbel
    have c0 := b0.cell 0
    have c1 := b0.cell 1
    have c2 := b0.cell 2
    clear b0 hbel hG
    go_wp2_with fail
    rw [HT.out]
    refine (rparse_any l w2 HLl.out).mono ?_
    rintro e w3 ⟨rfl, hb3⟩
    obtain ⟨p, hp⟩ : ∃ p, parseS l = p := ⟨_, rfl⟩
    rw [hp]
    have HPp := Lib.hid hp
    obtain ⟨q, E⟩ := p
    have hb3G : G ≤ w2.heap.size := Nat.le_of_lt HK2.out.lt
    have HK3 := Lib.hid (show Blk w3 G 23 (rqC r) by rw [HC.out, HA.out, HB.out]; exact HK2.out.below hb3 HK2.out.lt)
    have HBL3 := Lib.hid (HBL2.out.trans (hb3.mono hb3G))
    have hlt3 : G < w3.heap.size := Nat.lt_of_lt_of_le HK2.out.lt hb3.size
    clear hp hb3 HK2 HBL2 hb3G HT
    go_upto_region 5 with (refine go_st 23 (Blk.new _ _ _) infR rfl rfl (rqC_one _) rfl rfl rfl rfl ?_)
    have b4 : Blk ((w3.alloc (.cells #[.string ⟨#[]⟩, .string ⟨#[]⟩, .int .i64 0] 23)).setRow w3.heap.size (rqC q)) w3.heap.size 23 (rqC q) := setRow_blk (Blk.new _ _ _)
    have b3 : Blk ((w3.alloc (.cells #[.string ⟨#[]⟩, .string ⟨#[]⟩, .int .i64 0] 23)).setRow w3.heap.size (rqC q)) G 23 (rqC r) := (setRow_far (by omega) _).trans (HK3.out.alloc _)
    have HF4 := Lib.hid (setRow_below (HBL3.out.alloc (Nat.le_of_lt hlt3) (.cells #[.string ⟨#[]⟩, .string ⟨#[]⟩, .int .i64 0] 23)) (Blk.new _ _ _) (Nat.le_of_lt hlt3) (rqC q))
    generalize (w3.alloc (.cells #[.string ⟨#[]⟩, .string ⟨#[]⟩, .int .i64 0] 23)).setRow w3.heap.size (rqC q) = w4 at *
    generalize w3.heap.size = g4 at *
    have h41 : (rqC q).size = 3 := rfl
    have h31 : (rqC r).size = 3 := rfl
    by_cases hE0 : E = 0
    · subst hE0
      cases hqr : decide (q = r) with
      | false =>
        have HF : Hid (printS r = none) := Lib.hid (print_no HL.out (by rw [HPp.out]; exact .inr (of_decide_eq_false hqr)))
        have HQ := Lib.hid hqr
        clear hqr
        go_wp2_with (first | (refine go_ldg (x := .tmp 5) 23 b4 undR rfl infR h41 (by rfl) rfl rfl ?_) | (refine go_ldg (x := .tmp 1) 23 b3 undR rfl infR h31 (by rfl) rfl rfl ?_; refine Hid.out ?_))
        refine Lib.hid ?_
        refine go_neqR (x := .tmp 32) (y := .tmp 33) (t := 23) q r _ HQ.out rfl (by rfl) rfl rfl ?_
        go_wp2_with fail
        go_ret2
        rw [HF.out]
        exact ⟨rfl, by rw [HG.out]; exact HF4.out⟩
      | true =>
        have HF : Hid (printS r = some l) := Lib.hid (print_yes (by rw [HPp.out]) (by rw [HPp.out]; exact of_decide_eq_true hqr))
        have HQ := Lib.hid hqr
        clear hqr
        go_wp2_with (first | (refine go_ldg (x := .tmp 5) 23 b4 undR rfl infR h41 (by rfl) rfl rfl ?_) | (refine go_ldg (x := .tmp 1) 23 b3 undR rfl infR h31 (by rfl) rfl rfl ?_; refine Hid.out ?_))
        refine Lib.hid ?_
        refine go_neqR (x := .tmp 32) (y := .tmp 33) (t := 23) q r _ HQ.out rfl (by rfl) rfl rfl ?_
        go_wp2_with fail
        go_ret2
        rw [HF.out]
        exact ⟨rfl, by rw [HG.out]; exact HF4.out⟩
    · have HF : Hid (printS r = none) := Lib.hid (print_no HL.out (by rw [HPp.out]; exact .inl hE0))
      have hb : (E != 0) = true := by simp [hE0]
      have hd : decide (E = 0) = false := by simp [hE0]
      clear hE0
      go_wp2_with fail
      go_ret2
      rw [HF.out]
      exact ⟨rfl, by rw [HG.out]; exact HF4.out⟩
  · skip
    obtain ⟨l, hl⟩ : ∃ l, lineT r.meth r.targ (v1 ++ [49]) = l := ⟨_, rfl⟩
    have HT := Lib.hid (hT 49)
    have HLl := Lib.hid (hLl 49)
    rw [hl] at HT HLl
    have HL : Hid ((r.minor = 0 ∨ r.minor = 1) → l = lineR r) := Lib.hid (fun h => h.elim (fun h => absurd (hk.symm.trans h) h0) (fun h => by rw [← hl, lineR, h, itoa1]))
    have hb0 : (k == 0) = false := by simp [h0]
    have hd0 : decide (k = 0) = false := by simp [h0]
    clear h0
    clear hA hB hl h1 h2 hC hk hT hLl
    go_enter Tryd.func9, Tryd.ntmps9
    go_upto_region 1 with fail
    have b0 := Blk.new w 23 #[.string A, .string B, .int .i64 k]
    have hbel : Below w.heap.size w (w.alloc (.cells #[.string A, .string B, .int .i64 k] 23)) := (Below.refl _ _).alloc (Nat.le_refl _) _
    generalize w.alloc (.cells #[.string A, .string B, .int .i64 k] 23) = w2 at *
    generalize hG : w.heap.size = G at *
    have HG := Lib.hid hG
    have HK2 := Lib.hid b0
    have HBL2 := Lib.hid hbel
    have c0 := b0.cell 0
    have c1 := b0.cell 1
    have c2 := b0.cell 2
    clear b0 hbel hG
    go_wp2_with fail
    rw [HT.out]
    refine (rparse_any l w2 HLl.out).mono ?_
    rintro e w3 ⟨rfl, hb3⟩
    obtain ⟨p, hp⟩ : ∃ p, parseS l = p := ⟨_, rfl⟩
    rw [hp]
    have HPp := Lib.hid hp
    obtain ⟨q, E⟩ := p
    have hb3G : G ≤ w2.heap.size := Nat.le_of_lt HK2.out.lt
    have HK3 := Lib.hid (show Blk w3 G 23 (rqC r) by rw [HC.out, HA.out, HB.out]; exact HK2.out.below hb3 HK2.out.lt)
    have HBL3 := Lib.hid (HBL2.out.trans (hb3.mono hb3G))
    have hlt3 : G < w3.heap.size := Nat.lt_of_lt_of_le HK2.out.lt hb3.size
    clear hp hb3 HK2 HBL2 hb3G HT
    go_upto_region 5 with (refine go_st 23 (Blk.new _ _ _) infR rfl rfl (rqC_one _) rfl rfl rfl rfl ?_)
    have b4 : Blk ((w3.alloc (.cells #[.string ⟨#[]⟩, .string ⟨#[]⟩, .int .i64 0] 23)).setRow w3.heap.size (rqC q)) w3.heap.size 23 (rqC q) := setRow_blk (Blk.new _ _ _)
    have b3 : Blk ((w3.alloc (.cells #[.string ⟨#[]⟩, .string ⟨#[]⟩, .int .i64 0] 23)).setRow w3.heap.size (rqC q)) G 23 (rqC r) := (setRow_far (by omega) _).trans (HK3.out.alloc _)
    have HF4 := Lib.hid (setRow_below (HBL3.out.alloc (Nat.le_of_lt hlt3) (.cells #[.string ⟨#[]⟩, .string ⟨#[]⟩, .int .i64 0] 23)) (Blk.new _ _ _) (Nat.le_of_lt hlt3) (rqC q))
    generalize (w3.alloc (.cells #[.string ⟨#[]⟩, .string ⟨#[]⟩, .int .i64 0] 23)).setRow w3.heap.size (rqC q) = w4 at *
    generalize w3.heap.size = g4 at *
    have h41 : (rqC q).size = 3 := rfl
    have h31 : (rqC r).size = 3 := rfl
    by_cases hE0 : E = 0
    · subst hE0
      cases hqr : decide (q = r) with
      | false =>
        have HF : Hid (printS r = none) := Lib.hid (print_no HL.out (by rw [HPp.out]; exact .inr (of_decide_eq_false hqr)))
        have HQ := Lib.hid hqr
        clear hqr
        go_wp2_with (first | (refine go_ldg (x := .tmp 5) 23 b4 undR rfl infR h41 (by rfl) rfl rfl ?_) | (refine go_ldg (x := .tmp 1) 23 b3 undR rfl infR h31 (by rfl) rfl rfl ?_; refine Hid.out ?_))
        refine Lib.hid ?_
        refine go_neqR (x := .tmp 32) (y := .tmp 33) (t := 23) q r _ HQ.out rfl (by rfl) rfl rfl ?_
        go_wp2_with fail
        go_ret2
        rw [HF.out]
        exact ⟨rfl, by rw [HG.out]; exact HF4.out⟩
      | true =>
        have HF : Hid (printS r = some l) := Lib.hid (print_yes (by rw [HPp.out]) (by rw [HPp.out]; exact of_decide_eq_true hqr))
        have HQ := Lib.hid hqr
        clear hqr
        go_wp2_with (first | (refine go_ldg (x := .tmp 5) 23 b4 undR rfl infR h41 (by rfl) rfl rfl ?_) | (refine go_ldg (x := .tmp 1) 23 b3 undR rfl infR h31 (by rfl) rfl rfl ?_; refine Hid.out ?_))
        refine Lib.hid ?_
        refine go_neqR (x := .tmp 32) (y := .tmp 33) (t := 23) q r _ HQ.out rfl (by rfl) rfl rfl ?_
        go_wp2_with fail
        go_ret2
        rw [HF.out]
        exact ⟨rfl, by rw [HG.out]; exact HF4.out⟩
    · have HF : Hid (printS r = none) := Lib.hid (print_no HL.out (by rw [HPp.out]; exact .inl hE0))
      have hb : (E != 0) = true := by simp [hE0]
      have hd : decide (E = 0) = false := by simp [hE0]
      clear hE0
      go_wp2_with fail
      go_ret2
      rw [HF.out]
      exact ⟨rfl, by rw [HG.out]; exact HF4.out⟩
end Go.Proofs.YtnkcloebnlolaaaDoor.Rl
