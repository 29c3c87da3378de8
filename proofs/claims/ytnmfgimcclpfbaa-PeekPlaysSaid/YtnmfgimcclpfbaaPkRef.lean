/-
  Contracts of the document's own peek buffer (hagioscoperef06): New, Add, Next.
-/
import Derived.Test.YtnmfgimcclpfbaaPkAdd
namespace Go.Proofs.Ytnmfgimcclpfbaa.Pk
open Go.RowKit Go.Proofs.Ytnmfgimcclpfbaa.Wd

/-- the document's buffer at block y, its bytes in block q -/
def Rb (w : World) (y : Nat) (q : Option Nat) (M : Nat) (bs : List UInt8) (cur : Nat) (ov : Bool) : Prop :=
  ∃ c, Blk w y 35 #[.slice (ad q) bs.length c, .int .i64 (M : Int), .int .i64 (cur : Int), .bool ov] ∧ At w q c bs ∧ cur ≤ bs.length ∧ bs.length ≤ M
section
variable {w w' : World} {y M cur : Nat} {q : Option Nat} {bs : List UInt8} {ov : Bool} {S : List Nat}
theorem Rb.but (h : Rb w y q M bs cur ov) (k : But S w w') (hg : y ∉ S) (hp : ∀ i ∈ S, q ≠ some i) : Rb w' y q M bs cur ov := by
  obtain ⟨c, h1, h2, h3⟩ := h
  exact ⟨c, h1.but k hg, h2.but k (fun b hb hm => hp b hm hb), h3⟩
theorem Rb.same (h : Rb w y q M bs cur ov) (k : But [] w w') : Rb w' y q M bs cur ov := h.but k (by simp) (by simp)
theorem Rb.lt (h : Rb w y q M bs cur ov) : y < w.heap.size := by
  obtain ⟨c, h1, _⟩ := h
  exact h1.lt
theorem Rb.qlt (h : Rb w y q M bs cur ov) {b : Nat} (hb : q = some b) : b < w.heap.size := by
  obtain ⟨c, _, h2, _⟩ := h
  exact h2.lt hb
theorem Rb.le (h : Rb w y q M bs cur ov) : cur ≤ bs.length ∧ bs.length ≤ M := by
  obtain ⟨c, _, _, h3⟩ := h
  exact h3
theorem Rb.ne (h : Rb w y q M bs cur ov) : q ≠ some y := by
  obtain ⟨c, h1, h2, _⟩ := h
  exact h2.ne h1 (by decide)
end
theorem most_minmax (most M1 : Int) (h : M1 = if (16384 : Int) < most then 16384 else most) : ((mostR most : Nat) : Int) = if (0 : Int) < M1 then M1 else 0 := by
  rw [h]
  unfold mostR clampK withI
  split
  · split <;> split <;> omega
  · split <;> split <;> omega
theorem clampK_minmax (n : Int) (k : Nat) (M1 : Int) (h : M1 = if (k : Int) < n then (k : Int) else n) : ((clampK n k : Nat) : Int) = if (0 : Int) < M1 then M1 else 0 := by
  rw [h]
  unfold clampK withI
  split
  · split <;> split <;> omega
  · split <;> split <;> omega
theorem rnew_any (most : Int) (w : World) : Calls Try.prog 11 #[.int .i64 most] w fun e w' =>
    e = .returned (.pointer (some ⟨w.heap.size, 0, none⟩)) ∧ Rb w' w.heap.size none (mostR most) [] 0 false ∧ Below w.heap.size w w' := by
  obtain ⟨M1, hM1⟩ : ∃ M : Int, M = if (16384 : Int) < most then 16384 else most := ⟨_, rfl⟩
  have HM1 := Lib.hid hM1
  have HM2 := Lib.hid (most_minmax most M1 hM1)
  clear hM1
  generalize mostR most = R at *
  go_enter Try.func11, Try.ntmps11
  go_wp2_with (first
    | (with_reducible refine wpList_min2 (some 4) rfl rfl _ _ _ rfl most 16384 M1 rfl rfl HM1.out ?_)
    | (with_reducible refine wpList_max2 (some 5) rfl rfl _ _ _ rfl 0 M1 (R : Int) rfl rfl HM2.out ?_))
  go_ret
  exact ⟨rfl, ⟨0, Blk.new _ _ _, At.nil _, Nat.le_refl _, Nat.zero_le _⟩, (Below.refl _ _).alloc (Nat.le_refl _) _⟩

theorem setr_0 (a b c d x : Value) : (#[a, b, c, d] : Array Value).setIfInBounds 0 x = #[x, b, c, d] := by simp
set_option maxHeartbeats 1000000 in
theorem rnext_any {y M cur : Nat} {q : Option Nat} {bs : List UInt8} {ov : Bool} {w : World} (h : Rb w y q M bs cur ov) (hM : M ≤ 16384) (n : Int) :
    Calls Try.prog 15 #[.pointer (some ⟨y, 0, none⟩), .int .i64 n] w fun e w' =>
      ∃ v, e = .returned v ∧ Own w' w.heap.size v ((bs.drop cur).take (clampK n (bs.length - cur))) ∧ Rb w' y q M bs (cur + clampK n (bs.length - cur)) ov ∧ But [y] w w' := by
  have hne := Lib.hid h.ne
  obtain ⟨c, hb, ha, h1, h2⟩ := h
  have hk := clampK_le n (bs.length - cur)
  obtain ⟨M1, hM1⟩ : ∃ M : Int, M = if ((bs.length - cur : Nat) : Int) < n then ((bs.length - cur : Nat) : Int) else n := ⟨_, rfl⟩
  have HM1 := Lib.hid hM1
  have HM2 := Lib.hid (clampK_minmax n (bs.length - cur) M1 hM1)
  clear hM1
  have hcc := ha.src.1
  have HCut := Lib.hid (show Src w (slid (ad q) c cur) (clampK n (bs.length - cur)) ((bs.drop cur).take (clampK n (bs.length - cur))) from by
    have := cut_mid (l := cur) (h := cur + clampK n (bs.length - cur)) ha.src.2 (by omega) (by omega) hcc
    rwa [Nat.add_sub_cancel_left] at this)
  have hlty := hb.lt
  have HB := Lib.hid hb
  have HA := Lib.hid ha
  have hc0 : w.cell? ⟨y, 0, none⟩ = some (.slice (ad q) bs.length c) := by rw [hb.cell]; rfl
  have hc2 : w.cell? ⟨y, 2, none⟩ = some (.int .i64 (cur : Int)) := by rw [hb.cell]; rfl
  have hwr : IntKind.i64.wrap ((bs.length : Int) - (cur : Int)) = ((bs.length - cur : Nat) : Int) := by rw [IntWalk.i64_in _ (by omega)]; omega
  clear hb ha
  generalize (bs.drop cur).take (clampK n (bs.length - cur)) = out at *
  generalize clampK n (bs.length - cur) = k at *
  generalize hm : bs.length = m at *
  have HM := Lib.hid hm
  clear hm
  have hwk : IntKind.i64.wrap ((cur : Int) + (k : Int)) = ((cur + k : Nat) : Int) := by rw [IntWalk.i64_in _ (by omega)]; omega
  obtain ⟨h, hh⟩ : ∃ h, h = cur + k := ⟨_, rfl⟩
  have HH := Lib.hid hh
  have hsl := fun w' => slice_mid und8 siz8 (ad q) m c w' cur h (by omega) (by omega)
  have hhk : h - cur = k := by omega
  have hm2 : h ≤ m := by omega
  rw [← hh] at hwk
  clear hh
  go_enter Try.func15, Try.ntmps15
  go_wp2_with fail
  go_region_held_law (fun w' => w'.cell? ⟨y, 0, none⟩ = some (.slice (ad q) m c) ∧ w'.cell? ⟨y, 2, none⟩ = some (.int .i64 (cur : Int))) (exact ⟨hc0, hc2⟩)
    (first
      | (refine step_min2 (some 18) rfl rfl _ _ _ rfl n ((m - cur : Nat) : Int) M1 rfl rfl HM1.out ?_)
      | (refine step_max2 (some 19) rfl rfl _ _ _ rfl 0 M1 (k : Int) rfl rfl HM2.out ?_))
  have HB1 := Lib.hid (show Blk w.drew y _ _ from HB.out)
  have HA1 := Lib.hid (HA.out.but ((But.refl [] w).drew) (by simp))
  have HS1 := Lib.hid (show Src w.drew _ k out from HCut.out)
  have HZ := Lib.hid (show But [y] w w.drew from (But.refl _ w).drew)
  have hlt1 : y < w.drew.heap.size := hlty
  have hq0 : w.drew.cell? ⟨y, 0, none⟩ = some (.slice (ad q) m c) := hc0
  have hq2 : w.drew.cell? ⟨y, 2, none⟩ = some (.int .i64 (cur : Int)) := hc2
  clear HB HA HCut hc0 hc2 hwr
  generalize w.drew = w1 at *
  have HAl := Lib.hid (show Below w1.heap.size w1 (w1.drew.alloc (.cells #[] 5)) from ((Below.refl _ _).drew).alloc (Nat.le_refl _) _)
  have HC := Lib.hid (fun w' (hb : Below w1.heap.size w1 w') => And.intro ((hb.cell (p := ⟨y, 0, none⟩) hlt1).trans hq0) ((hb.cell (p := ⟨y, 2, none⟩) hlt1).trans hq2))
  go_wp2_with fail
  go_region_held_law (fun w' => w'.cell? ⟨y, 0, none⟩ = some (.slice (ad q) m c) ∧ w'.cell? ⟨y, 2, none⟩ = some (.int .i64 (cur : Int))) (first | exact ⟨hq0, hq2⟩ | exact k2 | exact HC.out _ HAl.out)
    (first
      | (refine step_own_app (some 36) rfl rfl (.tmp 20) (.tmp 35) 29 rfl und8 inf8 w1.heap.size _ [] rfl (Own.empty w1.drew _ (Nat.le_refl _)) (slid (ad q) c cur) k (c - cur) out rfl (HS1.out.below HAl.out) (by simp; omega) (by simp) ?_; intro v2 w2 HO2 hb2; rw [List.nil_append] at HO2; have HB2 := Lib.hid (HAl.out.trans hb2); have k2 := HC.out _ HB2.out; clear hb2))
  have HL2 := Lib.hid (show But [y] w w2 from HZ.out.trans (But.of_below HB2.out [y]))
  have HBk := Lib.hid (HB1.out.below HB2.out hlt1)
  have HA2 := Lib.hid (HA1.out.but (But.of_below HB2.out []) (by simp))
  have hf2 := HBk.out.frozen 2
  have HO3 := Lib.hid (show Own w2 w.heap.size v2 out from HO2.out.lower HZ.out.size)
  obtain ⟨k2a, k2b⟩ := k2
  clear hq0 hq2 HAl HC HB1 HA1 HS1 HO2
  go_wp2_with fail
  go_ret
  have hbut : But [y] w2 (w2.setCell ⟨y, 2, none⟩ (.int .i64 (h : Int))) := (But.refl _ _).set_ (p := ⟨y, 2, none⟩) (.inl (by simp)) _
  have hyw : y < w.heap.size := hlty
  refine ⟨_, rfl, ownsRow_setCell_below HO3.out (a := ⟨y, 2, none⟩) hyw _, ⟨c, ?_, HA2.out.but hbut (fun b hb hm => by simp at hm; subst hm; exact hne.out hb), by rw [HM.out, ← HH.out]; exact hm2, by rw [HM.out]; exact h2⟩, HL2.out.trans hbut⟩
  have h3 := HBk.out.set_ 2 (.int .i64 (h : Int))
  rw [set4_2] at h3
  rw [HM.out, ← HH.out]
  exact h3

def RaddPost (y M : Nat) (bs : List UInt8) (cur : Nat) (ov : Bool) (n : Nat) (b : List UInt8) (w : World) (e : Ending) (w' : World) : Prop :=
  e = .returned (.int .i64 ((roomK M bs.length n : Nat) : Int)) ∧ ∃ q', Rb w' y q' M (bs ++ b.take (roomK M bs.length n)) cur (ov || decide (roomK M bs.length n < n)) ∧ (∀ b, q' = some b → w.heap.size ≤ b) ∧ But [y] w w'
set_option maxHeartbeats 1000000 in
theorem radd_any {y M cur : Nat} {q : Option Nat} {bs : List UInt8} {ov : Bool} {w : World} (h : Rb w y q M bs cur ov) (hM : M ≤ 16384) (A : Option Addr) (n c : Nat) (b : List UInt8) (hs : Src w A n b) (hnc : n ≤ c) :
    Calls Try.prog 13 #[.pointer (some ⟨y, 0, none⟩), .slice A n c] w (RaddPost y M bs cur ov n b w) := by
  obtain ⟨c0, hb, ha, h1, h2⟩ := h
  have hkn : roomK M bs.length n ≤ n := Nat.min_le_left _ _
  have hkM : roomK M bs.length n ≤ M - bs.length := Nat.min_le_right _ _
  have HMin := Lib.hid (show ((roomK M bs.length n : Nat) : Int) = if ((M - bs.length : Nat) : Int) < (n : Int) then ((M - bs.length : Nat) : Int) else (n : Int) from by
    unfold roomK; split <;> omega)
  have HLn := Lib.hid (show (bs ++ b.take (roomK M bs.length n)).length = bs.length + roomK M bs.length n from by rw [List.length_append, List.length_take, hs.1]; omega)
  have hwr : IntKind.i64.wrap ((M : Int) - (bs.length : Int)) = ((M - bs.length : Nat) : Int) := by rw [IntWalk.i64_in _ (by omega)]; omega
  have HS := Lib.hid (hs.take hkn)
  have HSb := Lib.hid ha.src.2
  have hsl := fun w' => slice_to und8 siz8 A n c w' (roomK M bs.length n) (by omega)
  have q0 : w.cell? ⟨y, 0, none⟩ = some (.slice (ad q) bs.length c0) := by rw [hb.cell]; rfl
  have q1 : w.cell? ⟨y, 1, none⟩ = some (.int .i64 (M : Int)) := by rw [hb.cell]; rfl
  have hlt := hb.lt
  have HB := Lib.hid hb
  show Calls _ _ _ _ (fun e w' => e = .returned (.int .i64 ((roomK M bs.length n : Nat) : Int)) ∧ ∃ q', Rb w' y q' M (bs ++ b.take (roomK M bs.length n)) cur (ov || decide (roomK M bs.length n < n)) ∧ (∀ b, q' = some b → w.heap.size ≤ b) ∧ But [y] w w')
  clear hb hs ha
  generalize hbl : b.take (roomK M bs.length n) = bk at *
  clear hbl
  generalize roomK M bs.length n = k at *
  obtain ⟨z, hz⟩ : ∃ z, z = (ov || decide (k < n)) := ⟨_, rfl⟩
  have HD := Lib.hid hz
  rw [← hz]
  clear hz
  generalize hm : bs.length = m at *
  have HM := Lib.hid hm
  clear hm
  go_enter Try.func13, Try.ntmps13
  go_wp2_with fail
  go_region_held_law (fun w' => w'.cell? ⟨y, 0, none⟩ = some (.slice (ad q) m c0) ∧ w'.cell? ⟨y, 1, none⟩ = some (.int .i64 (M : Int))) (exact ⟨q0, q1⟩)
    ((refine step_min2 (some 18) rfl rfl _ _ _ rfl (n : Int) ((M - m : Nat) : Int) (k : Int) rfl rfl HMin.out ?_))
  have HL1 := Lib.hid (show But [y] w w.drew from (But.refl [y] w).drew)
  have HB1 := Lib.hid (show Blk w.drew y _ _ from HB.out)
  have HS1 := Lib.hid (show Src w.drew A k bk from HS.out)
  have HS01 := Lib.hid (show Src w.drew (ad q) m bs from HSb.out)
  have HZ0 := Lib.hid (show w.heap.size = w.drew.heap.size from rfl)
  have q2 : w.drew.cell? ⟨y, 0, none⟩ = some (.slice (ad q) m c0) := q0
  have hlt1 : y < w.drew.heap.size := hlt
  clear HB HS HSb q0 q1
  generalize w.drew = w1 at *
  go_wp2_with fail
  have hB0 : Below w1.heap.size w1 w1.drew := (Below.refl _ _).drew
  have HA0 := Lib.hid (show Below w1.heap.size w1 (w1.drew.alloc (.cells #[] 5)) from hB0.alloc (Nat.le_refl _) _)
  clear hB0
  go_region_law (first
    | (refine step_own_app (some 25) rfl rfl (.tmp 20) (.tmp 24) 29 rfl und8 inf8 w1.heap.size _ [] rfl (Own.empty w1.drew _ (Nat.le_refl _)) (ad q) m c0 bs rfl (HS01.out.below HA0.out) (by simp; omega) (by simp) ?_; intro v2 w2 HO2 hb2; rw [List.nil_append] at HO2; have HB2 := Lib.hid (HA0.out.trans hb2); obtain ⟨A2, c2, rfl, -⟩ := HO2.out.cut_; rw [HM.out]; clear hb2)
    | (refine step_own_app (some 29) rfl rfl (.tmp 25) (.tmp 28) 29 rfl und8 inf8 w1.heap.size _ bs (by rw [HM.out]; rfl) HO2.out A k c bk rfl (HS1.out.below HB2.out) (by have := HM.out; omega) (HB2.out.size) ?_; intro v3 w3 HO3 hb3; have HB3 := Lib.hid (HB2.out.trans hb3); obtain ⟨q3, c3, rfl, hA3, hq3⟩ := HO3.out.at_row; have g3 : w3.cell? ⟨y, 0, none⟩ = some (.slice (ad q) m c0) := (HB3.out.cell (p := ⟨y, 0, none⟩) hlt1).trans q2; have hfr3 : w3.frozen? ⟨y, 0, none⟩ = false := (HB3.out.frozen (p := ⟨y, 0, none⟩) hlt1).trans (HB1.out.frozen 0); have HA3 := Lib.hid hA3; have HQ3 := Lib.hid hq3; clear hb3 hA3 hq3))
  all_goals (
    have hL3 : But [y] w1 w3 := But.of_below HB3.out [y]
    have hB4 := HB1.out.below HB3.out hlt1
    have hbut : But [y] w3 (w3.setCell ⟨y, 0, none⟩ (.slice (ad q3) (bs.length + bk.length) c3)) := (But.refl _ _).set_ (p := ⟨y, 0, none⟩) (.inl (by simp)) _
    have hb4 : Blk (w3.setCell ⟨y, 0, none⟩ (.slice (ad q3) (bs.length + bk.length) c3)) y 35 #[.slice (ad q3) (bs.length + bk.length) c3, .int .i64 (M : Int), .int .i64 (cur : Int), .bool ov] := by
      have h := hB4.set_ 0 (.slice (ad q3) (bs.length + bk.length) c3)
      rw [setr_0] at h
      exact h
    have HA4 := Lib.hid (HA3.out.but hbut (fun b hb hm => by simp at hm; subst hm; have := HQ3.out _ hb; omega))
    have HL4 := Lib.hid (HL1.out.trans (hL3.trans hbut))
    have HB4 := Lib.hid hb4
    have HQ4 := Lib.hid (show ∀ b, q3 = some b → w.heap.size ≤ b from fun b hb => by rw [HZ0.out]; exact HQ3.out b hb)
    have HE := Lib.hid (show (bs ++ bk).length = bs.length + bk.length from List.length_append)
    have hc3 : (w3.setCell ⟨y, 0, none⟩ (.slice (ad q3) (bs.length + bk.length) c3)).cell? ⟨y, 3, none⟩ = some (.bool ov) := by rw [hb4.cell]; rfl
    have hf3 := hb4.frozen 3
    clear q2 g3 hfr3 hB4 hL3 hsl hbut hb4 HL1 HB1 HS1 HS01 HA0 HO2 HB2 HA3 HO3 HB3 HQ3
    generalize w3.setCell ⟨y, 0, none⟩ (.slice (ad q3) (bs.length + bk.length) c3) = w4 at *
    generalize bs.length + bk.length = mk at *
    have hz := HD.out
    have hbut : But [y] w4 (w4.setCell ⟨y, 3, none⟩ (.bool z)) := (But.refl _ _).set_ (p := ⟨y, 3, none⟩) (.inl (by simp)) _
    have hb5 : Blk (w4.setCell ⟨y, 3, none⟩ (.bool z)) y 35 #[.slice (ad q3) mk c3, .int .i64 (M : Int), .int .i64 (cur : Int), .bool z] := by
      have h := HB4.out.set_ 3 (.bool z)
      rw [set4_3] at h
      exact h
    have HA5 := Lib.hid (HA4.out.but hbut (fun b hb hm => by simp at hm; subst hm; have := HQ4.out _ hb; omega))
    have HL5 := Lib.hid (HL4.out.trans hbut)
    have HB5 := Lib.hid hb5
    clear hbut hb5 HA4 HL4 HB4
    cases ov with
    | true =>
      rw [Bool.true_or] at hz
      subst hz
      go_wp2_with fail
      go_ret
      exact ⟨rfl, q3, ⟨c3, by rw [HE.out]; exact HB5.out, HA5.out, by rw [HLn.out]; omega, by rw [HLn.out]; omega⟩, HQ4.out, HL5.out⟩
    | false =>
      rw [Bool.false_or] at hz
      by_cases hkl : k < n
      · have hki : decide ((k : Int) < (n : Int)) = true := decide_eq_true (by omega)
        rw [decide_eq_true hkl] at hz
        subst hz
        go_wp2_with fail
        go_ret
        exact ⟨rfl, q3, ⟨c3, by rw [HE.out]; exact HB5.out, HA5.out, by rw [HLn.out]; omega, by rw [HLn.out]; omega⟩, HQ4.out, HL5.out⟩
      · have hki : decide ((k : Int) < (n : Int)) = false := decide_eq_false (by omega)
        rw [decide_eq_false hkl] at hz
        subst hz
        go_wp2_with fail
        go_ret
        exact ⟨rfl, q3, ⟨c3, by rw [HE.out]; exact HB5.out, HA5.out, by rw [HLn.out]; omega, by rw [HLn.out]; omega⟩, HQ4.out, HL5.out⟩)
end Go.Proofs.Ytnmfgimcclpfbaa.Pk
