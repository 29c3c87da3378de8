/-
  hagioscoperef03.Print, by groups: what its loops keep.
-/
import Derived.Test.YtdofipjjodijcaaGreatDoorMRg
import Derived.Test.YtdofipjjodijcaaGreatDoorMRm
import Derived.Test.YtdofipjjodijcaaGreatDoorAdPrint4
import Derived.Test.YtdofipjjodijcaaGreatDoorAdCPrint4
import Derived.LoopTactic
namespace Go.Proofs.YtdofipjjodijcaaGreatDoor.Ad
open Go.RowKit Go.Proofs.YtdofipjjodijcaaGreatDoor.Wd Go.Proofs.YtdofipjjodijcaaGreatDoor.Asc

theorem go_ldw {ops : Array Oper} {rest : List Oper} {o : Oper} {a : Act} {w : World} {Q : Exit → Act → World → Prop} {x : Operand} {g t n : Nat} {C : Array Value} {d : TypeDesc} (ty : TypeId) (hb : Blk w g t C) (hu : Tryz.prog.underlying ty = some d)
    (hd : d.isRow = true) (hi : (Tryz.prog.info? ty).map (·.size) = some n) (hn : C.size = n) (hw : Region.wanted o (yielded ops a.tmps) = true) (ho : o.op = .load ty x)
    (hx : a.eval x = .pointer (some ⟨g, 0, none⟩)) (h : wpList Tryz.prog ops Q rest (a.put o.dst (.agg C)) w) : wpList Tryz.prog ops Q (o :: rest) a w := by
  show if Region.wanted o (yielded ops a.tmps) = true then _ else _
  rw [if_pos hw]
  exact .inl (wp_load_row ty x ho g hx t C (0, 0) d hb hu (by cases d <;> first | rfl | cases hd) (by rw [hi, hn]) h)
theorem pairs_len {a : List UInt8} (ha : a.length = 16) : (pairs a).length = 8 := by
  match a, ha with
  | [a0, a1, a2, a3, a4, a5, a6, a7, a8, a9, b0, b1, b2, b3, b4, b5], _ => rfl
theorem pairs_lt : ∀ (a : List UInt8) (n : Nat), n ∈ pairs a → n < 65536
  | [], n, h => by cases h
  | [c], n, h => by cases h
  | c :: d :: r, n, h => by
    have hc := c.toNat_lt
    have hd := d.toNat_lt
    rw [pairs] at h
    rcases List.mem_cons.1 h with rfl | h
    · omega
    · exact pairs_lt r n h
theorem pairs_D {a : List UInt8} (k : Nat) : (pairs a).getD k 0 < 65536 := by
  rw [List.getD_eq_getElem?_getD]
  cases h : (pairs a)[k]? with
  | none => simp
  | some n => exact pairs_lt a n (List.mem_of_getElem? h)
theorem pairs_some {a : List UInt8} (ha : a.length = 16) {k : Nat} (hk : k < 8) : (pairs a)[k]? = some ((pairs a).getD k 0) := by
  rw [List.getD_eq_getElem?_getD, List.getElem?_eq_getElem (by rw [pairs_len ha]; exact hk)]
  rfl
def RPrAt (a : List UInt8) (w : World) (f m k : Value) (w' : World) : Prop :=
  ∃ K : Nat, K ≤ 8 ∧ k = .int .i64 K ∧ f = .int .i64 ((bR (pairs a) K).1 : Nat) ∧ m = .int .i64 ((bR (pairs a) K).2 : Nat) ∧ Blk w' w.heap.size 32 (cA a) ∧ Below w.heap.size w w'
def RPrIn (a : List UInt8) (w : World) (K : Nat) (n : Value) (w' : World) : Prop :=
  ∃ N : Nat, K + N ≤ 8 ∧ n = .int .i64 N ∧ (∀ j, j < N → ((pairs a).drop K)[j]? = some 0) ∧ Blk w' w.heap.size 32 (cA a) ∧ Below w.heap.size w w'
def RPrTx (a : List UInt8) (w : World) (F T : Nat) (s k : Value) (w' : World) : Prop :=
  ∃ K : Nat, K ≤ 8 ∧ k = .int .i64 K ∧ s = .string (str (tR (pairs a) F T K)) ∧ Blk w' w.heap.size 32 (cA a) ∧ Below w.heap.size w w'
theorem bR_bd (row : List Nat) (hl : row.length = 8) : ∀ k, k ≤ 8 → (bR row k).1 + (bR row k).2 ≤ 8
  | 0, _ => by simp [bR]
  | k + 1, h => by
    have ih := bR_bd row hl k (by omega)
    unfold bR
    split
    · show k + lzS (row.drop k) ≤ 8
      have hz : ∀ l : List Nat, lzS l ≤ l.length := fun l => by
        induction l with
        | nil => simp [lzS]
        | cons x r ih2 => unfold lzS; split <;> simp <;> omega
      have := hz (row.drop k)
      rw [List.length_drop] at this
      omega
    · exact ih
end Go.Proofs.YtdofipjjodijcaaGreatDoor.Ad

/-
  Contract of hagioscoperef03.Print, by groups, where no two groups of zeros stand side by side.
-/
namespace Go.Proofs.YtdofipjjodijcaaGreatDoor.Ad
open Go.RowKit Go.Proofs.YtdofipjjodijcaaGreatDoor.Wd Go.Proofs.YtdofipjjodijcaaGreatDoor.Asc

set_option linter.unusedSimpArgs false in
set_option maxRecDepth 100000 in
set_option maxHeartbeats 8000000 in
theorem rprint_lo (a : List UInt8) (ha : a.length = 16) (hf : fourS a = false) (h2 : (bR (pairs a) 8).2 < 2) (w : World) :
    Calls Tryz.prog 16 #[.agg (cA a)] w fun e w' => e = .returned (.string (str (textG a))) ∧ Below w.heap.size w w' := by
  have HF := Lib.hid hf
  have H2 := Lib.hid h2
  have HTX := Lib.hid (textR_eq a ha)
  clear hf h2
  go_enter Tryz.func16, Tryz.ntmps16
  have b0 := Blk.new w 32 (cA a)
  go_wp2_with (refine go_ld 32 b0 und16 rfl info16 (by rw [cA_size, ha]) rfl rfl rfl ?_)
  refine (rfour_any a ha _).mono ?_
  rintro e w1 ⟨rfl, hb1⟩
  rw [HF.out]
  have B0 := Lib.hid (b0.below hb1 b0.lt)
  have HL := Lib.hid (((Below.refl w.heap.size w).alloc (Nat.le_refl _) (.cells (cA a) 32)).trans (hb1.mono (by simp)))
  clear b0 hb1
  go_wp2_with fail
  go_loopw [3, 4, 5] (fun f m k w' => RPrAt a w f m k w') (fun _ _ k _ => 8 - (intOf k).toNat)
  case atStart => exact ⟨0, by omega, rfl, rfl, rfl, B0.out, HL.out⟩
  case round =>
    obtain ⟨K, hK, rfl, rfl, rfl, b0, hbel⟩ := hrel
    have B0 := Lib.hid b0
    have HL := Lib.hid hbel
    have hsz := hbel.size
    have hbd := bR_bd (pairs a) (pairs_len ha) K hK
    clear b0 hbel
    by_cases hlt : K < 8
    · have hKi : (K : Int) < 8 := by omega
      go_wp2_with fail
      go_loopw [6] (fun n w' => RPrIn a w K n w') (fun n _ => 8 - (intOf n).toNat)
      case atStart => exact ⟨0, by omega, rfl, fun j hj => absurd hj (by omega), B0.out, HL.out⟩
      case round =>
        obtain ⟨N, hN, rfl, hz, b0, hbel⟩ := hrel
        have B0 := Lib.hid b0
        have HL := Lib.hid hbel
        have hsz := hbel.size
        have HN := Lib.hid hz
        clear b0 hbel hz
        by_cases hkn : K + N < 8
        · have hg : ((pairs a).drop K)[N]? = some ((pairs a).getD (K + N) 0) := by rw [List.getElem?_drop]; exact pairs_some ha hkn
          have hG := rgroup_any a ha (K + N) hkn
          rw [show (((K + N : Nat)) : Int) = (K : Int) + (N : Int) by omega] at hG
          have HG := Lib.hid hG
          clear hG
          have hkni : (K : Int) + (N : Int) < 8 := by omega
          go_wp2_with (refine go_ldw 32 B0.out und16 rfl info16 (by rw [cA_size, ha]) (by rfl) rfl rfl ?_)
          refine (HG.out _).mono ?_
          rintro e w1 ⟨rfl, hb1⟩
          have B1 := Lib.hid (B0.out.below hb1 B0.out.lt)
          have HL1 := Lib.hid (HL.out.trans (hb1.mono hsz))
          have hsz1 := HL1.out.size
          clear hb1 HG
          by_cases h0 : (pairs a).getD (K + N) 0 = 0
          · rw [h0] at hg ⊢
            have HNN := Lib.hid (show ∀ j, j < N + 1 → ((pairs a).drop K)[j]? = some 0 from fun j hj => by
              rcases Nat.lt_or_ge j N with h | h
              · exact HN.out j h
              · rw [show j = N by omega]; exact hg)
            clear hg
            go_wp2
            go_roundw
            case rel => exact ⟨N + 1, by omega, by go_num, HNN.out, B1.out, HL1.out⟩
            case measure => simp [intOf]; omega
          · have HZ := Lib.hid (lz_is ((pairs a).drop K) N HN.out (.inr ⟨_, hg, h0⟩))
            have h0i : ((((pairs a).getD (K + N) 0 : Nat) : Int) == 0) = false := by
              rw [beq_eq_false_iff_ne]
              intro e
              exact h0 (by omega)
            generalize (pairs a).getD (K + N) 0 = G at *
            clear hg h0
            by_cases hbig : (bR (pairs a) K).2 < N
            · have HB := Lib.hid (show bR (pairs a) (K + 1) = (K, N) by rw [bR, HZ.out, if_pos hbig])
              have hbi : (((bR (pairs a) K).2 : Nat) : Int) < (N : Int) := by omega
              go_wp2
              go_roundw
              case rel => exact ⟨K + 1, by omega, by go_num, by rw [HB.out], by rw [HB.out], B1.out, HL1.out⟩
              case measure => simp [intOf]; omega
            · have HB := Lib.hid (show bR (pairs a) (K + 1) = bR (pairs a) K by rw [bR, HZ.out, if_neg hbig])
              have hbi : ¬ (((bR (pairs a) K).2 : Nat) : Int) < (N : Int) := by omega
              go_wp2
              go_roundw
              case rel => exact ⟨K + 1, by omega, by go_num, by rw [HB.out], by rw [HB.out], B1.out, HL1.out⟩
              case measure => simp [intOf]; omega
        · have HZ := Lib.hid (lz_is ((pairs a).drop K) N HN.out (.inl (by rw [List.getElem?_drop]; exact List.getElem?_eq_none (by rw [pairs_len ha]; omega))))
          have B1 := B0
          have HL1 := HL
          have hkni : ¬ (K : Int) + (N : Int) < 8 := by omega
          by_cases hbig : (bR (pairs a) K).2 < N
          · have HB := Lib.hid (show bR (pairs a) (K + 1) = (K, N) by rw [bR, HZ.out, if_pos hbig])
            have hbi : (((bR (pairs a) K).2 : Nat) : Int) < (N : Int) := by omega
            go_wp2
            go_roundw
            case rel => exact ⟨K + 1, by omega, by go_num, by rw [HB.out], by rw [HB.out], B1.out, HL1.out⟩
            case measure => simp [intOf]; omega
          · have HB := Lib.hid (show bR (pairs a) (K + 1) = bR (pairs a) K by rw [bR, HZ.out, if_neg hbig])
            have hbi : ¬ (((bR (pairs a) K).2 : Nat) : Int) < (N : Int) := by omega
            go_wp2
            go_roundw
            case rel => exact ⟨K + 1, by omega, by go_num, by rw [HB.out], by rw [HB.out], B1.out, HL1.out⟩
            case measure => simp [intOf]; omega
    · obtain rfl : K = 8 := by omega
      have h2 := H2.out
      have HS := Lib.hid (show textR (pairs a) = tR (pairs a) (selR (pairs a)).1 (selR (pairs a)).2 8 from rfl)
      have HSel := Lib.hid (show selR (pairs a) = (8, 8) by rw [selR, if_pos h2])
      have h2i : (((bR (pairs a) 8).2 : Nat) : Int) < 2 := by omega
      rw [show ((8 : Nat) : Int) = 8 from rfl]
      go_wp2_with fail
      have hF : (8 : Nat) ≤ 8 := Nat.le_refl _
      have HT8 := Lib.hid (show tR (pairs a) 8 8 8 = textG a by rw [← HTX.out, HS.out, HSel.out])
      go_loopw [7, 8] (fun s k w' => RPrTx a w 8 8 s k w') (fun _ k _ => 8 - (intOf k).toNat)
      case atStart => exact ⟨0, by omega, rfl, rfl, B0.out, HL.out⟩
      case round =>
        obtain ⟨K, hK, rfl, rfl, b0, hbel⟩ := hrel
        have B0 := Lib.hid b0
        have HL := Lib.hid hbel
        have hsz := hbel.size
        clear b0 hbel
        by_cases hlt : K < 8
        · have hG := rgroup_any a ha K hlt
          have HG := Lib.hid hG
          have HD := Lib.hid (pairs_D (a := a) K)
          have hlen := tR_len (pairs a) 8 8 K
          have hss : (str (tR (pairs a) 8 8 K)).size ≤ 64 := by rw [str_size]; omega
          have hhs : (str (hexT ((pairs a).getD K 0))).size ≤ 4 := by rw [str_size]; exact (hexT_len _).2
          clear hG hlen
          have hK8 : ((K : Int) == 8) = false := by rw [beq_eq_false_iff_ne]; omega
          have hK9 : ¬ (8 : Int) ≤ (K : Int) := by omega
          by_cases hK0 : K = 0
          · skip
            have HT := Lib.hid (show tR (pairs a) 8 8 (K + 1) = tR (pairs a) 8 8 K ++ hexT ((pairs a).getD K 0) by rw [tR, if_neg (by omega), if_neg (by omega), if_neg (by omega)])
            have HV := Lib.hid (show str (tR (pairs a) 8 8 K) ++ str (hexT ((pairs a).getD K 0)) = str (tR (pairs a) 8 8 (K + 1)) by rw [HT.out]; rw [str_cat])
            subst hK0
            generalize str (tR (pairs a) 8 8 0) = sx at *
            have hX2 : (sx ++ (⟨#[58]⟩ : ByteArray)).size ≤ 65 := by rw [ByteArray.size_append]; show sx.size + 1 ≤ 65; omega
            go_wp2_with (refine go_ld 32 B0.out und16 rfl info16 (by rw [cA_size, ha]) rfl rfl rfl ?_)
            refine (Hid.out (show Hid (∀ w, Calls Tryz.prog 41 #[.agg (cA a), .int .i64 (0 : Int)] w fun e w1 => e = .returned (.int .i64 (((pairs a).getD 0 0 : Nat) : Int)) ∧ Below w.heap.size w w1) from HG) _).mono ?_
            rintro e w1 ⟨rfl, hb1⟩
            have B1 := Lib.hid (B0.out.below hb1 B0.out.lt)
            have HL1 := Lib.hid (HL.out.trans (hb1.mono hsz))
            clear hb1
            go_wp2_with fail
            refine (rhex_text ((pairs a).getD 0 0) _ _ rfl HD.out).mono ?_
            rintro e w2 ⟨rfl, rfl⟩
            generalize str (hexT ((pairs a).getD 0 0)) = sh at *
            go_wp2
            go_roundw
            case rel => exact ⟨0 + 1, by omega, by first | rfl | go_num, by rw [← HV.out], B1.out, HL1.out⟩
            case measure => simp [intOf]
          · have hKp : (0 : Int) < (K : Int) := by omega
            have hKn : ((K : Int) != 8) = true := by simp; omega
            have HT := Lib.hid (show tR (pairs a) 8 8 (K + 1) = tR (pairs a) 8 8 K ++ [58] ++ hexT ((pairs a).getD K 0) by rw [tR, if_neg (by omega), if_pos (by omega), if_neg (by omega)])
            have HV := Lib.hid (show str (tR (pairs a) 8 8 K) ++ (⟨#[58]⟩ : ByteArray) ++ str (hexT ((pairs a).getD K 0)) = str (tR (pairs a) 8 8 (K + 1)) by rw [HT.out]; rw [show (⟨#[58]⟩ : ByteArray) = str [58] from rfl, str_cat, str_cat])
            generalize str (tR (pairs a) 8 8 K) = sx at *
            have hX2 : (sx ++ (⟨#[58]⟩ : ByteArray)).size ≤ 65 := by rw [ByteArray.size_append]; show sx.size + 1 ≤ 65; omega
            go_wp2_with (refine go_ld 32 B0.out und16 rfl info16 (by rw [cA_size, ha]) rfl rfl rfl ?_)
            refine (HG.out _).mono ?_
            rintro e w1 ⟨rfl, hb1⟩
            have B1 := Lib.hid (B0.out.below hb1 B0.out.lt)
            have HL1 := Lib.hid (HL.out.trans (hb1.mono hsz))
            clear hb1
            go_wp2_with fail
            refine (rhex_text ((pairs a).getD K 0) _ _ rfl HD.out).mono ?_
            rintro e w2 ⟨rfl, rfl⟩
            generalize str (hexT ((pairs a).getD K 0)) = sh at *
            go_wp2
            go_roundw
            case rel => exact ⟨K + 1, by omega, by go_num, by rw [← HV.out], B1.out, HL1.out⟩
            case measure => simp [intOf]; omega
        · obtain rfl : K = 8 := by omega
          go_wp2
          go_ret
          exact ⟨by rw [HT8.out]; rfl, HL.out⟩
end Go.Proofs.YtdofipjjodijcaaGreatDoor.Ad

/-
  Contract of hagioscoperef03.Print, by groups, where two groups of zeros stand side by side.
-/
namespace Go.Proofs.YtdofipjjodijcaaGreatDoor.Ad
open Go.RowKit Go.Proofs.YtdofipjjodijcaaGreatDoor.Wd Go.Proofs.YtdofipjjodijcaaGreatDoor.Asc

set_option linter.unusedSimpArgs false in
set_option maxRecDepth 100000 in
set_option maxHeartbeats 8000000 in
theorem rprint_hi (a : List UInt8) (ha : a.length = 16) (hf : fourS a = false) (h2 : ¬ (bR (pairs a) 8).2 < 2) (w : World) :
    Calls Tryz.prog 16 #[.agg (cA a)] w fun e w' => e = .returned (.string (str (textG a))) ∧ Below w.heap.size w w' := by
  have HF := Lib.hid hf
  have H2 := Lib.hid h2
  have HTX := Lib.hid (textR_eq a ha)
  clear hf h2
  go_enter Tryz.func16, Tryz.ntmps16
  have b0 := Blk.new w 32 (cA a)
  go_wp2_with (refine go_ld 32 b0 und16 rfl info16 (by rw [cA_size, ha]) rfl rfl rfl ?_)
  refine (rfour_any a ha _).mono ?_
  rintro e w1 ⟨rfl, hb1⟩
  rw [HF.out]
  have B0 := Lib.hid (b0.below hb1 b0.lt)
  have HL := Lib.hid (((Below.refl w.heap.size w).alloc (Nat.le_refl _) (.cells (cA a) 32)).trans (hb1.mono (by simp)))
  clear b0 hb1
  go_wp2_with fail
  go_loopw [3, 4, 5] (fun f m k w' => RPrAt a w f m k w') (fun _ _ k _ => 8 - (intOf k).toNat)
  case atStart => exact ⟨0, by omega, rfl, rfl, rfl, B0.out, HL.out⟩
  case round =>
    obtain ⟨K, hK, rfl, rfl, rfl, b0, hbel⟩ := hrel
    have B0 := Lib.hid b0
    have HL := Lib.hid hbel
    have hsz := hbel.size
    have hbd := bR_bd (pairs a) (pairs_len ha) K hK
    clear b0 hbel
    by_cases hlt : K < 8
    · have hKi : (K : Int) < 8 := by omega
      go_wp2_with fail
      go_loopw [6] (fun n w' => RPrIn a w K n w') (fun n _ => 8 - (intOf n).toNat)
      case atStart => exact ⟨0, by omega, rfl, fun j hj => absurd hj (by omega), B0.out, HL.out⟩
      case round =>
        obtain ⟨N, hN, rfl, hz, b0, hbel⟩ := hrel
        have B0 := Lib.hid b0
        have HL := Lib.hid hbel
        have hsz := hbel.size
        have HN := Lib.hid hz
        clear b0 hbel hz
        by_cases hkn : K + N < 8
        · have hg : ((pairs a).drop K)[N]? = some ((pairs a).getD (K + N) 0) := by rw [List.getElem?_drop]; exact pairs_some ha hkn
          have hG := rgroup_any a ha (K + N) hkn
          rw [show (((K + N : Nat)) : Int) = (K : Int) + (N : Int) by omega] at hG
          have HG := Lib.hid hG
          clear hG
          have hkni : (K : Int) + (N : Int) < 8 := by omega
          go_wp2_with (refine go_ldw 32 B0.out und16 rfl info16 (by rw [cA_size, ha]) (by rfl) rfl rfl ?_)
          refine (HG.out _).mono ?_
          rintro e w1 ⟨rfl, hb1⟩
          have B1 := Lib.hid (B0.out.below hb1 B0.out.lt)
          have HL1 := Lib.hid (HL.out.trans (hb1.mono hsz))
          have hsz1 := HL1.out.size
          clear hb1 HG
          by_cases h0 : (pairs a).getD (K + N) 0 = 0
          · rw [h0] at hg ⊢
            have HNN := Lib.hid (show ∀ j, j < N + 1 → ((pairs a).drop K)[j]? = some 0 from fun j hj => by
              rcases Nat.lt_or_ge j N with h | h
              · exact HN.out j h
              · rw [show j = N by omega]; exact hg)
            clear hg
            go_wp2
            go_roundw
            case rel => exact ⟨N + 1, by omega, by go_num, HNN.out, B1.out, HL1.out⟩
            case measure => simp [intOf]; omega
          · have HZ := Lib.hid (lz_is ((pairs a).drop K) N HN.out (.inr ⟨_, hg, h0⟩))
            have h0i : ((((pairs a).getD (K + N) 0 : Nat) : Int) == 0) = false := by
              rw [beq_eq_false_iff_ne]
              intro e
              exact h0 (by omega)
            generalize (pairs a).getD (K + N) 0 = G at *
            clear hg h0
            by_cases hbig : (bR (pairs a) K).2 < N
            · have HB := Lib.hid (show bR (pairs a) (K + 1) = (K, N) by rw [bR, HZ.out, if_pos hbig])
              have hbi : (((bR (pairs a) K).2 : Nat) : Int) < (N : Int) := by omega
              go_wp2
              go_roundw
              case rel => exact ⟨K + 1, by omega, by go_num, by rw [HB.out], by rw [HB.out], B1.out, HL1.out⟩
              case measure => simp [intOf]; omega
            · have HB := Lib.hid (show bR (pairs a) (K + 1) = bR (pairs a) K by rw [bR, HZ.out, if_neg hbig])
              have hbi : ¬ (((bR (pairs a) K).2 : Nat) : Int) < (N : Int) := by omega
              go_wp2
              go_roundw
              case rel => exact ⟨K + 1, by omega, by go_num, by rw [HB.out], by rw [HB.out], B1.out, HL1.out⟩
              case measure => simp [intOf]; omega
        · have HZ := Lib.hid (lz_is ((pairs a).drop K) N HN.out (.inl (by rw [List.getElem?_drop]; exact List.getElem?_eq_none (by rw [pairs_len ha]; omega))))
          have B1 := B0
          have HL1 := HL
          have hkni : ¬ (K : Int) + (N : Int) < 8 := by omega
          by_cases hbig : (bR (pairs a) K).2 < N
          · have HB := Lib.hid (show bR (pairs a) (K + 1) = (K, N) by rw [bR, HZ.out, if_pos hbig])
            have hbi : (((bR (pairs a) K).2 : Nat) : Int) < (N : Int) := by omega
            go_wp2
            go_roundw
            case rel => exact ⟨K + 1, by omega, by go_num, by rw [HB.out], by rw [HB.out], B1.out, HL1.out⟩
            case measure => simp [intOf]; omega
          · have HB := Lib.hid (show bR (pairs a) (K + 1) = bR (pairs a) K by rw [bR, HZ.out, if_neg hbig])
            have hbi : ¬ (((bR (pairs a) K).2 : Nat) : Int) < (N : Int) := by omega
            go_wp2
            go_roundw
            case rel => exact ⟨K + 1, by omega, by go_num, by rw [HB.out], by rw [HB.out], B1.out, HL1.out⟩
            case measure => simp [intOf]; omega
    · obtain rfl : K = 8 := by omega
      have h2 := H2.out
      have HS := Lib.hid (show textR (pairs a) = tR (pairs a) (selR (pairs a)).1 (selR (pairs a)).2 8 from rfl)
      have HSel := Lib.hid (show selR (pairs a) = ((bR (pairs a) 8).1, (bR (pairs a) 8).1 + (bR (pairs a) 8).2) by rw [selR, if_neg h2])
      have h2i : ¬ (((bR (pairs a) 8).2 : Nat) : Int) < 2 := by omega
      have HT8 := Lib.hid (show tR (pairs a) (bR (pairs a) 8).1 ((bR (pairs a) 8).1 + (bR (pairs a) 8).2) 8 = textG a by rw [← HTX.out, HS.out, HSel.out])
      have hM2 : 2 ≤ (bR (pairs a) 8).2 := by omega
      clear HSel HS
      generalize (bR (pairs a) 8).1 = F at *
      generalize (bR (pairs a) 8).2 = M at *
      obtain ⟨T, hT⟩ : ∃ T, T = F + M := ⟨_, rfl⟩
      rw [← hT] at HT8
      have hTi : (F : Int) + (M : Int) = (T : Int) := by omega
      have hFT : F + 2 ≤ T ∧ T ≤ 8 := by omega
      clear hT
      go_wp2_with fail
      go_loopw [7, 8] (fun s k w' => RPrTx a w F T s k w') (fun _ k _ => 8 - (intOf k).toNat)
      case atStart => exact ⟨0, by omega, rfl, rfl, B0.out, HL.out⟩
      case round =>
        obtain ⟨K, hK, rfl, rfl, b0, hbel⟩ := hrel
        have B0 := Lib.hid b0
        have HL := Lib.hid hbel
        have hsz := hbel.size
        clear b0 hbel
        by_cases hlt : K < 8
        · have hG := rgroup_any a ha K hlt
          have HG := Lib.hid hG
          have HD := Lib.hid (pairs_D (a := a) K)
          have hlen := tR_len (pairs a) F T K
          have hss : (str (tR (pairs a) F T K)).size ≤ 64 := by rw [str_size]; omega
          have hhs : (str (hexT ((pairs a).getD K 0))).size ≤ 4 := by rw [str_size]; exact (hexT_len _).2
          clear hG hlen
          by_cases hKF : K = F
          · subst hKF
            have HT := Lib.hid (show tR (pairs a) K T (K + 1) = tR (pairs a) K T K ++ [58, 58] by rw [tR, if_pos (by omega), if_pos rfl])
            have HV := Lib.hid (show str (tR (pairs a) K T K) ++ (⟨#[58, 58]⟩ : ByteArray) = str (tR (pairs a) K T (K + 1)) by rw [HT.out, show (⟨#[58, 58]⟩ : ByteArray) = str [58, 58] from rfl, str_cat])
            have hK3 : (K : Int) < (T : Int) := by omega
            generalize str (tR (pairs a) K T K) = sx at *
            go_wp2
            go_roundw
            case rel => exact ⟨K + 1, by omega, by go_num, by rw [← HV.out], B0.out, HL.out⟩
            case measure => simp [intOf]; omega
          · have hK1 : ((K : Int) == (F : Int)) = false := by rw [beq_eq_false_iff_ne]; omega
            by_cases hlo : K < F
            · have hK2 : ¬ (F : Int) ≤ (K : Int) := by omega
              by_cases hK0 : K = 0
              · skip
                have HT := Lib.hid (show tR (pairs a) F T (K + 1) = tR (pairs a) F T K ++ hexT ((pairs a).getD K 0) by rw [tR, if_neg (by omega), if_neg (by omega), if_neg (by omega)])
                have HV := Lib.hid (show str (tR (pairs a) F T K) ++ str (hexT ((pairs a).getD K 0)) = str (tR (pairs a) F T (K + 1)) by rw [HT.out]; rw [str_cat])
                subst hK0
                generalize str (tR (pairs a) F T 0) = sx at *
                have hX2 : (sx ++ (⟨#[58]⟩ : ByteArray)).size ≤ 65 := by rw [ByteArray.size_append]; show sx.size + 1 ≤ 65; omega
                go_wp2_with (refine go_ld 32 B0.out und16 rfl info16 (by rw [cA_size, ha]) rfl rfl rfl ?_)
                refine (Hid.out (show Hid (∀ w, Calls Tryz.prog 41 #[.agg (cA a), .int .i64 (0 : Int)] w fun e w1 => e = .returned (.int .i64 (((pairs a).getD 0 0 : Nat) : Int)) ∧ Below w.heap.size w w1) from HG) _).mono ?_
                rintro e w1 ⟨rfl, hb1⟩
                have B1 := Lib.hid (B0.out.below hb1 B0.out.lt)
                have HL1 := Lib.hid (HL.out.trans (hb1.mono hsz))
                clear hb1
                go_wp2_with fail
                refine (rhex_text ((pairs a).getD 0 0) _ _ rfl HD.out).mono ?_
                rintro e w2 ⟨rfl, rfl⟩
                generalize str (hexT ((pairs a).getD 0 0)) = sh at *
                go_wp2
                go_roundw
                case rel => exact ⟨0 + 1, by omega, by first | rfl | go_num, by rw [← HV.out], B1.out, HL1.out⟩
                case measure => simp [intOf]
              · have hK4 : (0 : Int) < (K : Int) := by omega
                have hK5 : ((K : Int) != (T : Int)) = true := by simp; omega
                have HT := Lib.hid (show tR (pairs a) F T (K + 1) = tR (pairs a) F T K ++ [58] ++ hexT ((pairs a).getD K 0) by rw [tR, if_neg (by omega), if_pos (by omega), if_neg (by omega)])
                have HV := Lib.hid (show str (tR (pairs a) F T K) ++ (⟨#[58]⟩ : ByteArray) ++ str (hexT ((pairs a).getD K 0)) = str (tR (pairs a) F T (K + 1)) by rw [HT.out]; rw [show (⟨#[58]⟩ : ByteArray) = str [58] from rfl, str_cat, str_cat])
                generalize str (tR (pairs a) F T K) = sx at *
                have hX2 : (sx ++ (⟨#[58]⟩ : ByteArray)).size ≤ 65 := by rw [ByteArray.size_append]; show sx.size + 1 ≤ 65; omega
                go_wp2_with (refine go_ld 32 B0.out und16 rfl info16 (by rw [cA_size, ha]) rfl rfl rfl ?_)
                refine (HG.out _).mono ?_
                rintro e w1 ⟨rfl, hb1⟩
                have B1 := Lib.hid (B0.out.below hb1 B0.out.lt)
                have HL1 := Lib.hid (HL.out.trans (hb1.mono hsz))
                clear hb1
                go_wp2_with fail
                refine (rhex_text ((pairs a).getD K 0) _ _ rfl HD.out).mono ?_
                rintro e w2 ⟨rfl, rfl⟩
                generalize str (hexT ((pairs a).getD K 0)) = sh at *
                go_wp2
                go_roundw
                case rel => exact ⟨K + 1, by omega, by go_num, by rw [← HV.out], B1.out, HL1.out⟩
                case measure => simp [intOf]; omega
            · have hK2 : (F : Int) ≤ (K : Int) := by omega
              by_cases hin : K < T
              · have hK3 : (K : Int) < (T : Int) := by omega
                have HT := Lib.hid (show tR (pairs a) F T (K + 1) = tR (pairs a) F T K by rw [tR, if_pos (by omega), if_neg hKF])
                go_wp2
                go_roundw
                case rel => exact ⟨K + 1, by omega, by go_num, by rw [HT.out], B0.out, HL.out⟩
                case measure => simp [intOf]; omega
              · have hK3 : ¬ (K : Int) < (T : Int) := by omega
                have hK4 : (0 : Int) < (K : Int) := by omega
                by_cases hKT : K = T
                · subst hKT
                  have HT := Lib.hid (show tR (pairs a) F K (K + 1) = tR (pairs a) F K K ++ hexT ((pairs a).getD K 0) by rw [tR, if_neg (by omega), if_neg (by omega), if_neg (by omega)])
                  have HV := Lib.hid (show str (tR (pairs a) F K K) ++ str (hexT ((pairs a).getD K 0)) = str (tR (pairs a) F K (K + 1)) by rw [HT.out]; rw [str_cat])
                  generalize str (tR (pairs a) F K K) = sx at *
                  have hX2 : (sx ++ (⟨#[58]⟩ : ByteArray)).size ≤ 65 := by rw [ByteArray.size_append]; show sx.size + 1 ≤ 65; omega
                  go_wp2_with (refine go_ld 32 B0.out und16 rfl info16 (by rw [cA_size, ha]) rfl rfl rfl ?_)
                  refine (HG.out _).mono ?_
                  rintro e w1 ⟨rfl, hb1⟩
                  have B1 := Lib.hid (B0.out.below hb1 B0.out.lt)
                  have HL1 := Lib.hid (HL.out.trans (hb1.mono hsz))
                  clear hb1
                  go_wp2_with fail
                  refine (rhex_text ((pairs a).getD K 0) _ _ rfl HD.out).mono ?_
                  rintro e w2 ⟨rfl, rfl⟩
                  generalize str (hexT ((pairs a).getD K 0)) = sh at *
                  go_wp2
                  go_roundw
                  case rel => exact ⟨K + 1, by omega, by go_num, by rw [← HV.out], B1.out, HL1.out⟩
                  case measure => simp [intOf]; omega
                · have hK5 : ((K : Int) != (T : Int)) = true := by simp; omega
                  have HT := Lib.hid (show tR (pairs a) F T (K + 1) = tR (pairs a) F T K ++ [58] ++ hexT ((pairs a).getD K 0) by rw [tR, if_neg (by omega), if_pos (by omega), if_neg (by omega)])
                  have HV := Lib.hid (show str (tR (pairs a) F T K) ++ (⟨#[58]⟩ : ByteArray) ++ str (hexT ((pairs a).getD K 0)) = str (tR (pairs a) F T (K + 1)) by rw [HT.out]; rw [show (⟨#[58]⟩ : ByteArray) = str [58] from rfl, str_cat, str_cat])
                  generalize str (tR (pairs a) F T K) = sx at *
                  have hX2 : (sx ++ (⟨#[58]⟩ : ByteArray)).size ≤ 65 := by rw [ByteArray.size_append]; show sx.size + 1 ≤ 65; omega
                  go_wp2_with (refine go_ld 32 B0.out und16 rfl info16 (by rw [cA_size, ha]) rfl rfl rfl ?_)
                  refine (HG.out _).mono ?_
                  rintro e w1 ⟨rfl, hb1⟩
                  have B1 := Lib.hid (B0.out.below hb1 B0.out.lt)
                  have HL1 := Lib.hid (HL.out.trans (hb1.mono hsz))
                  clear hb1
                  go_wp2_with fail
                  refine (rhex_text ((pairs a).getD K 0) _ _ rfl HD.out).mono ?_
                  rintro e w2 ⟨rfl, rfl⟩
                  generalize str (hexT ((pairs a).getD K 0)) = sh at *
                  go_wp2
                  go_roundw
                  case rel => exact ⟨K + 1, by omega, by go_num, by rw [← HV.out], B1.out, HL1.out⟩
                  case measure => simp [intOf]; omega
        · obtain rfl : K = 8 := by omega
          go_wp2
          go_ret
          exact ⟨by rw [HT8.out]; rfl, HL.out⟩
end Go.Proofs.YtdofipjjodijcaaGreatDoor.Ad

/-
  Contract of hagioscoperef03.Print at an address of four bytes.
-/
namespace Go.Proofs.YtdofipjjodijcaaGreatDoor.Ad
open Go.RowKit Go.Proofs.YtdofipjjodijcaaGreatDoor.Wd Go.Proofs.YtdofipjjodijcaaGreatDoor.Asc

theorem text4_form (a : List UInt8) (ha : a.length = 16) : ∃ b0 b1 b2 b3 : UInt8, a[12]? = some b0 ∧ a[13]? = some b1 ∧ a[14]? = some b2 ∧ a[15]? = some b3 ∧
    txtS b0.toNat ++ (⟨#[46]⟩ : ByteArray) ++ txtS b1.toNat ++ (⟨#[46]⟩ : ByteArray) ++ txtS b2.toNat ++ (⟨#[46]⟩ : ByteArray) ++ txtS b3.toNat = str (text4 a) := by
  match a, ha with
  | [a0, a1, a2, a3, a4, a5, a6, a7, a8, a9, a10, a11, a12, a13, a14, a15], _ =>
    refine ⟨a12, a13, a14, a15, rfl, rfl, rfl, rfl, ?_⟩
    have ht : ∀ c : UInt8, txtS c.toNat = str (Lib.itoa (c.toNat : Int)) := fun c => by rw [Lib.itoa_nonneg, ← txt_dec]; rfl
    rw [ht, ht, ht, ht, show (⟨#[46]⟩ : ByteArray) = str [46] from rfl, str_cat, str_cat, str_cat, str_cat, str_cat, str_cat]
    congr 1
    show _ = rowT 46 Lib.itoa [(a12.toNat : Int), (a13.toNat : Int), (a14.toNat : Int), (a15.toNat : Int)] 4
    simp [rowT]

set_option linter.unusedSimpArgs false in
set_option maxRecDepth 100000 in
set_option maxHeartbeats 4000000 in
theorem rprint_four (a : List UInt8) (ha : a.length = 16) (hf : fourS a = true) (w : World) :
    Calls Tryz.prog 16 #[.agg (cA a)] w fun e w' => e = .returned (.string (str (text4 a))) ∧ Below w.heap.size w w' := by
  have HF := Lib.hid hf
  obtain ⟨b0, b1, b2, b3, c0, c1, c2, c3, htx⟩ := text4_form a ha
  have HTX := Lib.hid htx
  clear hf htx
  go_enter Tryz.func16, Tryz.ntmps16
  have k0 := Blk.new w 32 (cA a)
  go_wp2_with (refine go_ld 32 k0 und16 rfl info16 (by rw [cA_size, ha]) rfl rfl rfl ?_)
  refine (rfour_any a ha _).mono ?_
  rintro e w1 ⟨rfl, hb1⟩
  rw [HF.out]
  have k1 := k0.below hb1 k0.lt
  have HL := Lib.hid (((Below.refl w.heap.size w).alloc (Nat.le_refl _) (.cells (cA a) 32)).trans (hb1.mono (by simp)))
  have d0 : w1.cell? ⟨w.heap.size, 12, none⟩ = some (.int .u8 (b0.toNat : Int)) := by rw [cell_a k1 12, c0]; rfl
  have d1 : w1.cell? ⟨w.heap.size, 13, none⟩ = some (.int .u8 (b1.toNat : Int)) := by rw [cell_a k1 13, c1]; rfl
  have d2 : w1.cell? ⟨w.heap.size, 14, none⟩ = some (.int .u8 (b2.toNat : Int)) := by rw [cell_a k1 14, c2]; rfl
  have d3 : w1.cell? ⟨w.heap.size, 15, none⟩ = some (.int .u8 (b3.toNat : Int)) := by rw [cell_a k1 15, c3]; rfl
  have e0 := b0.toNat_lt
  have e1 := b1.toNat_lt
  have e2 := b2.toNat_lt
  have e3 := b3.toNat_lt
  have z0 := txtS_size b0.toNat
  have z1 := txtS_size b1.toNat
  have z2 := txtS_size b2.toNat
  have z3 := txtS_size b3.toNat
  have T0 := Lib.hid (fun w => text_any b0.toNat _ w rfl (by omega))
  have T1 := Lib.hid (fun w => text_any b1.toNat _ w rfl (by omega))
  have T2 := Lib.hid (fun w => text_any b2.toNat _ w rfl (by omega))
  have T3 := Lib.hid (fun w => text_any b3.toNat _ w rfl (by omega))
  generalize txtS b0.toNat = s0 at *
  generalize txtS b1.toNat = s1 at *
  generalize txtS b2.toNat = s2 at *
  generalize txtS b3.toNat = s3 at *
  generalize b0.toNat = n0 at *
  generalize b1.toNat = n1 at *
  generalize b2.toNat = n2 at *
  generalize b3.toNat = n3 at *
  have hd : (⟨#[46]⟩ : ByteArray).size = 1 := rfl
  have y1 : (s0 ++ (⟨#[46]⟩ : ByteArray)).size ≤ 300 := by rw [ByteArray.size_append]; omega
  have y2 : (s0 ++ (⟨#[46]⟩ : ByteArray) ++ s1).size ≤ 600 := by rw [ByteArray.size_append]; omega
  have y3 : (s0 ++ (⟨#[46]⟩ : ByteArray) ++ s1 ++ (⟨#[46]⟩ : ByteArray)).size ≤ 700 := by rw [ByteArray.size_append]; omega
  have y4 : (s0 ++ (⟨#[46]⟩ : ByteArray) ++ s1 ++ (⟨#[46]⟩ : ByteArray) ++ s2).size ≤ 1000 := by rw [ByteArray.size_append]; omega
  have y5 : (s0 ++ (⟨#[46]⟩ : ByteArray) ++ s1 ++ (⟨#[46]⟩ : ByteArray) ++ s2 ++ (⟨#[46]⟩ : ByteArray)).size ≤ 1100 := by rw [ByteArray.size_append]; omega
  have x0 : s0.size ≤ 300 := by omega
  have x1 : s1.size ≤ 300 := by omega
  have x2 : s2.size ≤ 300 := by omega
  have x3 : s3.size ≤ 300 := by omega
  have i0 : IntKind.i64.wrap (n0 : Int) = (n0 : Int) := IntWalk.i64_in _ (by omega)
  have i1 : IntKind.i64.wrap (n1 : Int) = (n1 : Int) := IntWalk.i64_in _ (by omega)
  have i2 : IntKind.i64.wrap (n2 : Int) = (n2 : Int) := IntWalk.i64_in _ (by omega)
  have i3 : IntKind.i64.wrap (n3 : Int) = (n3 : Int) := IntWalk.i64_in _ (by omega)
  clear z0 z1 z2 z3 k0 k1 hb1 c0 c1 c2 c3 hd
  generalize hG : w.heap.size = G at *
  have HA := Lib.hid (show w1.drew.cell? ⟨G, 12, none⟩ = some (.int .u8 (n0 : Int)) ∧ w1.drew.cell? ⟨G, 13, none⟩ = some (.int .u8 (n1 : Int)) ∧ w1.drew.cell? ⟨G, 14, none⟩ = some (.int .u8 (n2 : Int)) ∧ w1.drew.cell? ⟨G, 15, none⟩ = some (.int .u8 (n3 : Int)) from ⟨d0, d1, d2, d3⟩)
  clear d0 d1 d2 d3
  go_wp2_with fail
  refine wp_region_held_drew (S := fun w' => w'.cell? ⟨G, 12, none⟩ = some (.int .u8 (n0 : Int)) ∧ w'.cell? ⟨G, 13, none⟩ = some (.int .u8 (n1 : Int)) ∧ w'.cell? ⟨G, 14, none⟩ = some (.int .u8 (n2 : Int)) ∧ w'.cell? ⟨G, 15, none⟩ = some (.int .u8 (n3 : Int))) (by kernel_rfl) HA.out (fun h0 => ?_)
  refine hd_take 0 (some 11) (.pointer (some ⟨G, 12, none⟩)) rfl rfl (by kernel_rfl) (by kernel_rfl) (by kernel_rfl) (fun _ _ _ h => h) (Or.inl ⟨by rfl, fun w hw => by go_simp <;> omega⟩) h0 ?_
  simp only [Act.put, List.setIfInBounds_toArray, List.set_cons_zero, List.set_cons_succ]
  refine hd_take 1 (some 12) (.int .u8 (n0 : Int)) rfl rfl (by kernel_rfl) (by kernel_rfl) (by kernel_rfl) (fun _ _ _ h => h) (Or.inl ⟨by rfl, fun w hw => by obtain ⟨q0, q1, q2, q3⟩ := hw; go_simp⟩) h0 ?_
  simp only [Act.put, List.setIfInBounds_toArray, List.set_cons_zero, List.set_cons_succ]
  refine hd_take 2 (some 13) (.int .i64 (n0 : Int)) rfl rfl (by kernel_rfl) (by kernel_rfl) (by kernel_rfl) (fun _ _ _ h => h) (Or.inl ⟨by rfl, fun w hw => by go_simp <;> omega⟩) h0 ?_
  simp only [Act.put, List.setIfInBounds_toArray, List.set_cons_zero, List.set_cons_succ]
  refine hd_take 5 (some 16) (.pointer (some ⟨G, 13, none⟩)) rfl rfl (by kernel_rfl) (by kernel_rfl) (by kernel_rfl) (fun _ _ _ h => h) (Or.inl ⟨by rfl, fun w hw => by go_simp <;> omega⟩) h0 ?_
  simp only [Act.put, List.setIfInBounds_toArray, List.set_cons_zero, List.set_cons_succ]
  refine hd_take 6 (some 17) (.int .u8 (n1 : Int)) rfl rfl (by kernel_rfl) (by kernel_rfl) (by kernel_rfl) (fun _ _ _ h => h) (Or.inl ⟨by rfl, fun w hw => by obtain ⟨q0, q1, q2, q3⟩ := hw; go_simp⟩) h0 ?_
  simp only [Act.put, List.setIfInBounds_toArray, List.set_cons_zero, List.set_cons_succ]
  refine hd_take 7 (some 18) (.int .i64 (n1 : Int)) rfl rfl (by kernel_rfl) (by kernel_rfl) (by kernel_rfl) (fun _ _ _ h => h) (Or.inl ⟨by rfl, fun w hw => by go_simp <;> omega⟩) h0 ?_
  simp only [Act.put, List.setIfInBounds_toArray, List.set_cons_zero, List.set_cons_succ]
  refine hd_take 11 (some 22) (.pointer (some ⟨G, 14, none⟩)) rfl rfl (by kernel_rfl) (by kernel_rfl) (by kernel_rfl) (fun _ _ _ h => h) (Or.inl ⟨by rfl, fun w hw => by go_simp <;> omega⟩) h0 ?_
  simp only [Act.put, List.setIfInBounds_toArray, List.set_cons_zero, List.set_cons_succ]
  refine hd_take 12 (some 23) (.int .u8 (n2 : Int)) rfl rfl (by kernel_rfl) (by kernel_rfl) (by kernel_rfl) (fun _ _ _ h => h) (Or.inl ⟨by rfl, fun w hw => by obtain ⟨q0, q1, q2, q3⟩ := hw; go_simp⟩) h0 ?_
  simp only [Act.put, List.setIfInBounds_toArray, List.set_cons_zero, List.set_cons_succ]
  refine hd_take 13 (some 24) (.int .i64 (n2 : Int)) rfl rfl (by kernel_rfl) (by kernel_rfl) (by kernel_rfl) (fun _ _ _ h => h) (Or.inl ⟨by rfl, fun w hw => by go_simp <;> omega⟩) h0 ?_
  simp only [Act.put, List.setIfInBounds_toArray, List.set_cons_zero, List.set_cons_succ]
  refine hd_take 17 (some 28) (.pointer (some ⟨G, 15, none⟩)) rfl rfl (by kernel_rfl) (by kernel_rfl) (by kernel_rfl) (fun _ _ _ h => h) (Or.inl ⟨by rfl, fun w hw => by go_simp <;> omega⟩) h0 ?_
  simp only [Act.put, List.setIfInBounds_toArray, List.set_cons_zero, List.set_cons_succ]
  refine hd_take 18 (some 29) (.int .u8 (n3 : Int)) rfl rfl (by kernel_rfl) (by kernel_rfl) (by kernel_rfl) (fun _ _ _ h => h) (Or.inl ⟨by rfl, fun w hw => by obtain ⟨q0, q1, q2, q3⟩ := hw; go_simp⟩) h0 ?_
  simp only [Act.put, List.setIfInBounds_toArray, List.set_cons_zero, List.set_cons_succ]
  refine hd_take 19 (some 30) (.int .i64 (n3 : Int)) rfl rfl (by kernel_rfl) (by kernel_rfl) (by kernel_rfl) (fun _ _ _ h => h) (Or.inl ⟨by rfl, fun w hw => by go_simp <;> omega⟩) h0 ?_
  simp only [Act.put, List.setIfInBounds_toArray, List.set_cons_zero, List.set_cons_succ]
  refine wpAnyH_ready (rs := [3]) (by kernel_rfl) (by simp) (AllReadyH.cons rfl (fun K hK => ?_) AllReadyH.nil)
  go_simp
  go_wp2_with (go_at_call 40; refine (T0.out _).mono ?_; rintro e w4 ⟨rfl, rfl⟩)
  refine hK.out _ _ HA.out (fun h0 => ?_)
  clear hK K
  refine hd_take 4 (some 15) (.string (s0 ++ (⟨#[46]⟩ : ByteArray))) rfl rfl (by kernel_rfl) (by kernel_rfl) (by kernel_rfl) (fun _ _ _ h => h) (Or.inl ⟨by rfl, fun w hw => by go_simp <;> omega⟩) h0 ?_
  simp only [Act.put, List.setIfInBounds_toArray, List.set_cons_zero, List.set_cons_succ]
  refine wpAnyH_ready (rs := [8]) (by kernel_rfl) (by simp) (AllReadyH.cons rfl (fun K hK => ?_) AllReadyH.nil)
  go_simp
  go_wp2_with (go_at_call 40; refine (T1.out _).mono ?_; rintro e w4 ⟨rfl, rfl⟩)
  refine hK.out _ _ HA.out (fun h0 => ?_)
  clear hK K
  refine hd_take 9 (some 20) (.string (s0 ++ (⟨#[46]⟩ : ByteArray) ++ s1)) rfl rfl (by kernel_rfl) (by kernel_rfl) (by kernel_rfl) (fun _ _ _ h => h) (Or.inl ⟨by rfl, fun w hw => by go_simp <;> omega⟩) h0 ?_
  simp only [Act.put, List.setIfInBounds_toArray, List.set_cons_zero, List.set_cons_succ]
  refine hd_take 10 (some 21) (.string (s0 ++ (⟨#[46]⟩ : ByteArray) ++ s1 ++ (⟨#[46]⟩ : ByteArray))) rfl rfl (by kernel_rfl) (by kernel_rfl) (by kernel_rfl) (fun _ _ _ h => h) (Or.inl ⟨by rfl, fun w hw => by go_simp <;> omega⟩) h0 ?_
  simp only [Act.put, List.setIfInBounds_toArray, List.set_cons_zero, List.set_cons_succ]
  refine wpAnyH_ready (rs := [14]) (by kernel_rfl) (by simp) (AllReadyH.cons rfl (fun K hK => ?_) AllReadyH.nil)
  go_simp
  go_wp2_with (go_at_call 40; refine (T2.out _).mono ?_; rintro e w4 ⟨rfl, rfl⟩)
  refine hK.out _ _ HA.out (fun h0 => ?_)
  clear hK K
  refine hd_take 15 (some 26) (.string (s0 ++ (⟨#[46]⟩ : ByteArray) ++ s1 ++ (⟨#[46]⟩ : ByteArray) ++ s2)) rfl rfl (by kernel_rfl) (by kernel_rfl) (by kernel_rfl) (fun _ _ _ h => h) (Or.inl ⟨by rfl, fun w hw => by go_simp <;> omega⟩) h0 ?_
  simp only [Act.put, List.setIfInBounds_toArray, List.set_cons_zero, List.set_cons_succ]
  refine hd_take 16 (some 27) (.string (s0 ++ (⟨#[46]⟩ : ByteArray) ++ s1 ++ (⟨#[46]⟩ : ByteArray) ++ s2 ++ (⟨#[46]⟩ : ByteArray))) rfl rfl (by kernel_rfl) (by kernel_rfl) (by kernel_rfl) (fun _ _ _ h => h) (Or.inl ⟨by rfl, fun w hw => by go_simp <;> omega⟩) h0 ?_
  simp only [Act.put, List.setIfInBounds_toArray, List.set_cons_zero, List.set_cons_succ]
  refine wpAnyH_ready (rs := [20]) (by kernel_rfl) (by simp) (AllReadyH.cons rfl (fun K hK => ?_) AllReadyH.nil)
  go_simp
  go_wp2_with (go_at_call 40; refine (T3.out _).mono ?_; rintro e w4 ⟨rfl, rfl⟩)
  refine hK.out _ _ HA.out (fun h0 => ?_)
  clear hK K
  refine hd_take 21 (some 32) (.string (s0 ++ (⟨#[46]⟩ : ByteArray) ++ s1 ++ (⟨#[46]⟩ : ByteArray) ++ s2 ++ (⟨#[46]⟩ : ByteArray) ++ s3)) rfl rfl (by kernel_rfl) (by kernel_rfl) (by kernel_rfl) (fun _ _ _ h => h) (Or.inl ⟨by rfl, fun w hw => by go_simp <;> omega⟩) h0 ?_
  simp only [Act.put, List.setIfInBounds_toArray, List.set_cons_zero, List.set_cons_succ]
  refine hd_take 22 (some 2) (.string (s0 ++ (⟨#[46]⟩ : ByteArray) ++ s1 ++ (⟨#[46]⟩ : ByteArray) ++ s2 ++ (⟨#[46]⟩ : ByteArray) ++ s3)) rfl rfl (by kernel_rfl) (by kernel_rfl) (by kernel_rfl) (fun _ _ _ h => h) (Or.inl ⟨by rfl, fun w hw => by go_simp <;> omega⟩) h0 ?_
  simp only [Act.put, List.setIfInBounds_toArray, List.set_cons_zero, List.set_cons_succ]
  refine wpAnyH_done (by kernel_rfl) ?_ _
  go_wp2_with fail
  go_ret
  refine ⟨by rw [HTX.out]; rfl, ?_⟩
  rw [hG]
  exact HL.out.trans ((Below.refl _ _).drew)
end Go.Proofs.YtdofipjjodijcaaGreatDoor.Ad

/-
  Contract of hagioscoperef03.Print.
-/
namespace Go.Proofs.YtdofipjjodijcaaGreatDoor.Ad
open Go.RowKit Go.Proofs.YtdofipjjodijcaaGreatDoor.Wd Go.Proofs.YtdofipjjodijcaaGreatDoor.Asc

theorem rprint_any (a : List UInt8) (ha : a.length = 16) (w : World) :
    Calls Tryz.prog 16 #[.agg (cA a)] w fun e w' => e = .returned (.string (str (ctext a))) ∧ Below w.heap.size w w' := by
  unfold ctext
  cases hf : fourS a with
  | true => rw [if_pos rfl]; exact rprint_four a ha hf w
  | false =>
    rw [if_neg (by simp)]
    by_cases h2 : (bR (pairs a) 8).2 < 2
    · exact rprint_lo a ha hf h2 w
    · exact rprint_hi a ha hf h2 w
end Go.Proofs.YtdofipjjodijcaaGreatDoor.Ad
