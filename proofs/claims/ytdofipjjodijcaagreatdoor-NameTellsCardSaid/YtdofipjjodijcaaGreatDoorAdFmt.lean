/-
  Contracts of strconv.AppendInt in base 16 and of what it calls, at numbers of up to two bytes, over this seat's translation.
-/
import Derived.Test.YtdofipjjodijcaaGreatDoorAdHex
import Derived.Test.YtdofipjjodijcaaGreatDoorAdFns
import Derived.Test.YtdofipjjodijcaaGreatDoorApp
import Derived.Laws.BitsAllLaws
import Derived.LoopTactic
namespace Go.Proofs.YtdofipjjodijcaaGreatDoor.Ad
open Go.RowKit Go.Proofs.YtdofipjjodijcaaGreatDoor.Wd Go.Proofs.YtdofipjjodijcaaGreatDoor.Asc

theorem pow2_16 (w : World) : Calls Tryz.prog 101 #[.int .i64 16] w fun e w' => e = .returned (.bool true) ∧ w = w' := by
  have h : bits .and .i64 16 15 = 0 := by decide
  go_enter Tryz.func101, Tryz.ntmps101
  go_wp2
  go_ret
  exact ⟨rfl, rfl⟩
theorem tz64_16 (w : World) (h : w.cell? ⟨5, 15, none⟩ = some (.int .u8 4)) : Calls Tryz.prog 104 #[.int .u64 16] w fun e w' => e = .returned (.int .i64 4) ∧ w = w' := by
  have h1 : bits .and .u64 16 (IntKind.u64.wrap (-16)) = 16 := by decide
  have h2 : IntKind.u64.wrap (16 * 285870213051353865) = 4573923408821661840 := by decide
  go_enter Tryz.func104, Tryz.ntmps104
  go_wp2
  go_ret
  exact ⟨rfl, rfl⟩
theorem tz_16 (w : World) (h : w.cell? ⟨5, 15, none⟩ = some (.int .u8 4)) : Calls Tryz.prog 102 #[.int .u64 16] w fun e w' => e = .returned (.int .i64 4) ∧ w = w' := by
  go_enter Tryz.func102, Tryz.ntmps102
  go_wp2_with fail
  refine (tz64_16 w h).mono ?_
  rintro e w1 ⟨rfl, rfl⟩
  go_wp2
  go_ret
  exact ⟨rfl, rfl⟩

/-- the library's digits -/
abbrev digs : ByteArray := ⟨#[48, 49, 50, 51, 52, 53, 54, 55, 56, 57, 97, 98, 99, 100, 101, 102, 103, 104, 105, 106, 107, 108, 109, 110, 111, 112, 113, 114, 115, 116, 117, 118, 119, 120, 121, 122]⟩
theorem digs_all : ∀ d : Fin 16, digs.data[d.1]? = some (hdg d.1) := by decide
theorem digs_at {q : Nat} (h : q < 16) (h' : q < digs.size) : digs[q]'h' = hdg q := by
  have h1 := digs_all ⟨q, h⟩
  rw [Array.getElem?_eq_getElem h'] at h1
  injection h1
theorem set_drop {α : Type} {L : List α} {k : Nat} (h : k < L.length) (v : α) : (L.set k v).drop k = v :: L.drop (k + 1) := by
  rw [List.drop_eq_getElem_cons (by rw [List.length_set]; exact h), List.getElem_set_self, List.drop_set_of_lt (by omega)]
section
variable {P : Program} {t e : TypeId} {n : Nat} (ht : P.underlying t = some (.array n e)) (hs : (P.info? e).map (·.size) = some 1) (g k : Nat) (w : World)
include ht hs
omit ht in
theorem sz_one : (sizeOf e).run P w = .ok 1 w := by
  cases hq : P.info? e with
  | none => simp [hq] at hs
  | some i =>
    have hi : i.size = 1 := by simpa [hq] using hs
    simp [sizeOf, typeInfo, hq, hi]
theorem arr_from (hk : k ≤ n) : (Instr.sliceAt t (.pointer (some ⟨g, 0, none⟩)) (some (.int .i64 (k : Int))) none none).run P w = .ok (.slice (some (if n = k then ⟨g, 0, none⟩ else ⟨g, k, none⟩)) (n - k) (n - k)) w := by
  have h1 := sz_one (w := w) hs
  by_cases h : n = k
  · subst h
    simp [Instr.sliceAt, Instr.sureAddr, run_underlying ht, Instr.sliceBounds, run_sliceBound, h1]
  · have e2 : (Addr.mk g 0 none).add k = ⟨g, k, none⟩ := by rw [add_none, Nat.zero_add]
    simp [Instr.sliceAt, Instr.sureAddr, run_underlying ht, Instr.sliceBounds, run_sliceBound, h1, (by omega : (k : Int) ≤ (n : Int)), h, e2]
theorem arr_to (hk : k ≤ n) : (Instr.sliceAt t (.pointer (some ⟨g, 0, none⟩)) none (some (.int .i64 (k : Int))) none).run P w = .ok (.slice (some ⟨g, 0, none⟩) k n) w := by
  have h1 := sz_one (w := w) hs
  simp [Instr.sliceAt, Instr.sureAddr, run_underlying ht, Instr.sliceBounds, run_sliceBound, h1, (by omega : (k : Int) ≤ (n : Int)), Addr.add]
end
theorem und65 : Tryz.prog.underlying 110 = some (.array 65 5) := by kernel_rfl
theorem siz81 : (Tryz.prog.info? 5).map (·.size) = some 1 := by kernel_rfl
theorem inf81 : (Tryz.prog.info? 5).map (fun i => (i.zero, i.size, i.bytes)) = some (some (.int .u8 0), 1, 1) := by kernel_rfl
def FmtAt (N : Nat) (w : World) (u i : Value) (w' : World) : Prop :=
  ∃ (j : Nat) (L : List UInt8), j ≤ 3 ∧ u = .int .u64 ((N / 16 ^ j : Nat) : Int) ∧ i = .int .i64 ((65 - j : Nat) : Int) ∧ (j = 0 ∨ 16 ^ j ≤ N) ∧ L.length = 65 ∧ L.drop (65 - j) = lowT N j ∧ Blk w' w.heap.size 110 (cA L) ∧ Below w.heap.size w w'

set_option maxRecDepth 100000 in
set_option maxHeartbeats 2000000 in
theorem fmt_any {B : Nat} (N : Nat) (hN : N < 65536) (v : Value) (xs : List UInt8) (w : World) (hO : Own w B v xs) (hx : xs.length ≤ 1000) (hB : B ≤ w.heap.size) (h : w.cell? ⟨5, 15, none⟩ = some (.int .u8 4)) (hg : 5 < w.heap.size) :
    Calls Tryz.prog 97 #[v, .int .u64 (N : Int), .int .i64 16, .bool false, .bool true] w fun e w' => ∃ v', e = .returned (.tuple #[v', .string ⟨#[]⟩]) ∧ Own w' B v' (xs ++ hexT N) ∧ Below B w w' := by
  have HO := Lib.hid hO
  clear hO
  go_enter Tryz.func97, Tryz.ntmps97
  go_wp2_with fail
  have b0 : Blk (w.alloc (.cells (cA (List.replicate 65 0)) 110)) w.heap.size 110 (cA (List.replicate 65 0)) := Blk.new _ _ _
  have hb0 : Below w.heap.size w (w.alloc (.cells (cA (List.replicate 65 0)) 110)) := (Below.refl _ _).alloc (Nat.le_refl _) _
  rw [show (Obj.cells Tryz.zeroCells110 110) = .cells (cA (List.replicate 65 0)) 110 from by congr 1]
  generalize w.alloc (.cells (cA (List.replicate 65 0)) 110) = w1 at *
  refine (pow2_16 _).mono ?_
  rintro e w2 ⟨rfl, rfl⟩
  go_wp2_with fail
  refine (tz_16 _ ((hb0.cell (p := ⟨5, 15, none⟩) hg).trans h)).mono ?_
  rintro e w2 ⟨rfl, rfl⟩
  go_wp2_with fail
  go_loopw [1, 13] (fun u i w' => FmtAt N w u i w') (fun u _ _ => (intOf u).toNat)
  case atStart => exact ⟨0, List.replicate 65 0, by omega, by simp, rfl, .inl rfl, by simp, by simp [lowT], b0, hb0⟩
  case round =>
    clear b0 hb0
    obtain ⟨j, L, hj, rfl, rfl, hjn, hL, hLd, hb, hbel⟩ := hrel
    obtain ⟨U, hU⟩ : ∃ U, U = N / 16 ^ j := ⟨_, rfl⟩
    have HU := Lib.hid hU
    have hUN : U ≤ N := by rw [hU]; exact Nat.div_le_self _ _
    rw [← hU]
    obtain ⟨I, hI⟩ : ∃ I, I = 65 - j := ⟨_, rfl⟩
    rw [← hI] at hLd
    rw [← hI]
    have hI2 : 62 ≤ I ∧ I ≤ 65 := by omega
    have HI := Lib.hid hI
    clear hI
    have HLd := Lib.hid hLd
    have HB := Lib.hid hb
    have HBe := Lib.hid hbel
    have hw1 : IntKind.i64.wrap ((I : Int) - 1) = ((I - 1 : Nat) : Int) := by rw [IntWalk.i64_in _ (by omega)]; omega
    have hf := fun k => hb.frozen k
    have hcell := fun k => cell_a hb k
    clear hLd hb hbel hU
    by_cases h16 : 16 ≤ U
    · have h16i : (16 : Int) ≤ (U : Int) := by omega
      have hand : bits .and .u64 (U : Int) 15 = ((U % 16 : Nat) : Int) := by
        have h := u64_and_nat U 15 (by omega) (by omega)
        rw [show ((15 : Nat) : Int) = 15 from rfl] at h
        rw [h, show (15 : Nat) = 2 ^ 4 - 1 from rfl, Nat.and_two_pow_sub_one_eq_mod]
      have hq : U % 16 < 16 := by omega
      generalize hqq : U % 16 = q at *
      have HQ := Lib.hid hqq
      clear hqq
      have hc1 := hcell (I - 1)
      have hf1 := hf (I - 1)
      rw [List.getElem?_eq_getElem (by omega), Option.map_some] at hc1
      clear hcell hf
      have hIi : ((I - 1 : Nat) : Int) < 65 := by omega
      go_wp2_with fail
      go_roundw
      case rel =>
        rw [digs_at hq]
        have hj1 : 16 ^ (j + 1) ≤ N := by
          rw [Nat.pow_succ]
          have h1 := HU.out
          have h2 := Nat.div_mul_le_self N (16 ^ j)
          rw [← h1] at h2
          exact Nat.le_trans (Nat.mul_comm _ _ ▸ Nat.mul_le_mul_right _ h16) h2
        have hj4 : j + 1 ≤ 3 := by
          rcases Nat.lt_or_ge (j + 1) 4 with h4 | h4
          · omega
          · have h5 := Nat.pow_le_pow_right (n := 16) (by omega) h4
            have e : (16 : Nat) ^ 4 = 65536 := by decide
            omega
        have b2 := HB.out.set_ (I - 1) (.int .u8 ((hdg q).toNat : Int))
        rw [cA_set] at b2
        have hI1 := HI.out
        refine ⟨j + 1, L.set (I - 1) (hdg q), hj4, ?_, by congr 2; omega, .inr hj1, by rw [List.length_set, hL], ?_, b2, HBe.out.setCell (p := ⟨w.heap.size, I - 1, none⟩) (Nat.le_refl _) _⟩
        · congr 1
          rw [Nat.pow_succ, ← Nat.div_div_eq_div_mul, ← HU.out]
          omega
        · rw [show 65 - (j + 1) = I - 1 by omega, set_drop (by omega), show I - 1 + 1 = I by omega, HLd.out, lowT, ← HU.out, HQ.out]
      case measure => simp [intOf]; omega
    · have h16i : (U : Int) < 16 := by omega
      have hc1 := hcell (I - 1)
      have hf1 := hf (I - 1)
      rw [List.getElem?_eq_getElem (by omega), Option.map_some] at hc1
      clear hcell hf
      have hIi : ((I - 1 : Nat) : Int) < 65 := by omega
      have hsl := fun w' => arr_from und65 siz81 w.heap.size (I - 1) w' (by omega)
      rw [if_neg (by omega)] at hsl
      have HT := Lib.hid (hexT_low hN (j := j) (by rw [← HU.out]; omega) hjn)
      go_wp2_with (at_builtin; rw [digs_at (by omega)]; refine Hid.out ?_)
      refine Lib.hid ?_
      have b2 := HB.out.set_ (I - 1) (.int .u8 ((hdg U).toNat : Int))
      rw [cA_set] at b2
      have hb2 : Below w.heap.size w (wr.setCell ⟨w.heap.size, I - 1, none⟩ (.int .u8 ((hdg U).toNat : Int))) := HBe.out.setCell (p := ⟨w.heap.size, I - 1, none⟩) (Nat.le_refl _) _
      generalize wr.setCell ⟨w.heap.size, I - 1, none⟩ (.int .u8 ((hdg U).toNat : Int)) = w2 at *
      have HO2 := Lib.hid (HO.out.below hb2 (Nat.le_refl _))
      have hs2 : Src w2 (some ⟨w.heap.size, I - 1, none⟩) (65 - (I - 1)) (hexT N) := by
        have h1 := HI.out
        have hd : (L.set (I - 1) (hdg U)).drop (I - 1) = hexT N := by
          rw [set_drop (by omega), show I - 1 + 1 = I by omega, HLd.out, HU.out, HT.out]
        have hl : (hexT N).length = 65 - (I - 1) := by rw [← hd, List.length_drop, List.length_set, hL]
        rw [← hl]
        refine Src.of_blk b2 (fun j c hc => ?_)
        rw [← hd, List.getElem?_drop] at hc
        simpa [cellsOf] using cellsOf_get hc
      have HS2 := Lib.hid hs2
      have HB2 := Lib.hid (hb2.mono hB)
      have hsz := hb2.size
      clear b2 hs2 hb2 hc1 hf1 hsl
      go_wp2_with (at_builtin; refine wpList_app rfl (.tmp 95) (.tmp 97) 30 rfl Tryz.underlying30 inf81 B _ _ rfl HO2.out _ _ _ (hexT N) rfl HS2.out (by omega) (by omega) ?_; intro v3 w3 HO3 hb3)
      go_ret2
      exact ⟨_, rfl, HO3.out, HB2.out.trans hb3⟩

theorem appU_any {B : Nat} (N : Nat) (hN : N < 65536) (v : Value) (xs : List UInt8) (w : World) (hO : Own w B v xs) (hx : xs.length ≤ 1000) (hB : B ≤ w.heap.size) (h : w.cell? ⟨5, 15, none⟩ = some (.int .u8 4)) (hg : 5 < w.heap.size) :
    Calls Tryz.prog 84 #[v, .int .u64 (N : Int), .int .i64 16] w fun e w' => ∃ v', e = .returned v' ∧ Own w' B v' (xs ++ hexT N) ∧ Below B w w' := by
  have HF := Lib.hid (fmt_any N hN v xs w hO hx hB h hg)
  clear hO
  go_enter Tryz.func84, Tryz.ntmps84
  go_wp2_with fail
  refine HF.out.mono ?_
  rintro e w1 ⟨v1, rfl, hO1, hb1⟩
  have HO1 := Lib.hid hO1
  have HB1 := Lib.hid hb1
  clear hO1 hb1
  go_wp2_with fail
  go_ret
  exact ⟨_, rfl, HO1.out, HB1.out⟩
theorem appI_in {B : Nat} (N : Nat) (hN : N < 65536) (v : Value) (xs : List UInt8) (w : World) (hO : Own w B v xs) (hx : xs.length ≤ 1000) (hB : B ≤ w.heap.size) (h : w.cell? ⟨5, 15, none⟩ = some (.int .u8 4)) (hg : 5 < w.heap.size) :
    Calls Tryz.prog 70 #[v, .int .i64 (N : Int), .int .i64 16] w fun e w' => ∃ v', e = .returned v' ∧ Own w' B v' (xs ++ hexT N) ∧ Below B w w' := by
  have HF := Lib.hid (appU_any N hN v xs w hO hx hB h hg)
  clear hO
  go_enter Tryz.func70, Tryz.ntmps70
  go_wp2_with fail
  refine HF.out.mono ?_
  rintro e w1 ⟨v1, rfl, hO1, hb1⟩
  have HO1 := Lib.hid hO1
  have HB1 := Lib.hid hb1
  clear hO1 hb1
  go_wp2_with fail
  go_ret
  exact ⟨_, rfl, HO1.out, HB1.out⟩
theorem appI_any {B : Nat} (N : Nat) (hN : N < 65536) (v : Value) (xs : List UInt8) (w : World) (hO : Own w B v xs) (hx : xs.length ≤ 1000) (hB : B ≤ w.heap.size) (h : w.cell? ⟨5, 15, none⟩ = some (.int .u8 4)) (hg : 5 < w.heap.size) :
    Calls Tryz.prog 51 #[v, .int .i64 (N : Int), .int .i64 16] w fun e w' => ∃ v', e = .returned v' ∧ Own w' B v' (xs ++ hexT N) ∧ Below B w w' := by
  have HF := Lib.hid (appI_in N hN v xs w hO hx hB h hg)
  clear hO
  go_enter Tryz.func51, Tryz.ntmps51
  go_wp2_with fail
  refine HF.out.mono ?_
  rintro e w1 ⟨v1, rfl, hO1, hb1⟩
  have HO1 := Lib.hid hO1
  have HB1 := Lib.hid hb1
  clear hO1 hb1
  go_wp2_with fail
  go_ret
  exact ⟨_, rfl, HO1.out, HB1.out⟩
end Go.Proofs.YtdofipjjodijcaaGreatDoor.Ad
