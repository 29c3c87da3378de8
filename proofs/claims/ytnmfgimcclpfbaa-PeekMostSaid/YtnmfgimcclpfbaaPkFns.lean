/-
  Contracts of package peek over this seat's translation: New, Len, Over, Left, Back, Bytes, Next, Add.
-/
import Derived.Test.YtnmfgimcclpfbaaOwn
namespace Go.Proofs.Ytnmfgimcclpfbaa.Pk
open Go.RowKit Go.Proofs.Ytnmfgimcclpfbaa.Wd

/-- a peek buffer at block g, its bytes in block p (if it has any memory), at most M of them, the cursor behind cur, Over as ov tells -/
def Pk (w : World) (g : Nat) (p : Option Nat) (M : Nat) (bs : List UInt8) (cur : Nat) (ov : Bool) : Prop :=
  ∃ c, Blk w g 47 #[.int .i64 (M : Int), .slice (ad p) bs.length c, .int .i64 (cur : Int), .bool ov] ∧ At w p c bs ∧ cur ≤ bs.length ∧ bs.length ≤ M
section
variable {w w' : World} {g M cur : Nat} {p : Option Nat} {bs : List UInt8} {ov : Bool} {S : List Nat}
theorem Pk.but (h : Pk w g p M bs cur ov) (k : But S w w') (hg : g ∉ S) (hp : ∀ b, p = some b → b ∉ S) : Pk w' g p M bs cur ov := by
  obtain ⟨c, h1, h2, h3⟩ := h
  exact ⟨c, h1.but k hg, h2.but k hp, h3⟩
theorem Pk.same (h : Pk w g p M bs cur ov) (k : But [] w w') : Pk w' g p M bs cur ov := h.but k (by simp) (by simp)
theorem Pk.lt (h : Pk w g p M bs cur ov) : g < w.heap.size := by
  obtain ⟨c, h1, _⟩ := h
  exact h1.lt
theorem Pk.plt (h : Pk w g p M bs cur ov) {b : Nat} (hb : p = some b) : b < w.heap.size := by
  obtain ⟨c, _, h2, _⟩ := h
  exact h2.lt hb
theorem Pk.le (h : Pk w g p M bs cur ov) : cur ≤ bs.length ∧ bs.length ≤ M := by
  obtain ⟨c, _, _, h3⟩ := h
  exact h3
theorem Pk.ne (h : Pk w g p M bs cur ov) : p ≠ some g := by
  obtain ⟨c, h1, h2, _⟩ := h
  exact h2.ne h1 (by decide)
end
def mostR (most : Int) : Nat := clampK most 16384
theorem mostR_le (most : Int) : mostR most ≤ 16384 := clampK_le _ _
theorem new_any (most : Int) (w : World) : Calls Try.prog 10 #[.int .i64 most] w fun e w' =>
    e = .returned (.pointer (some ⟨w.heap.size, 0, none⟩)) ∧ Pk w' w.heap.size none (mostR most) [] 0 false ∧ Below w.heap.size w w' := by
  have HC := Lib.hid (show withI most 0 16384 = ((mostR most : Nat) : Int) from clampK_eq most 16384)
  generalize mostR most = M at *
  go_enter Try.func10, Try.ntmps10
  go_wp2_with fail
  refine (with_any most 0 16384 _).mono ?_
  rintro e w1 ⟨rfl, rfl⟩
  rw [HC.out]
  go_wp2_with fail
  go_ret
  exact ⟨rfl, ⟨0, Blk.new _ _ _, At.nil _, Nat.le_refl _, Nat.zero_le _⟩, (Below.refl _ _).alloc (Nat.le_refl _) _⟩

section
variable {g M cur : Nat} {p : Option Nat} {bs : List UInt8} {ov : Bool} {w : World}
theorem len_any (h : Pk w g p M bs cur ov) : Calls Try.prog 18 #[.pointer (some ⟨g, 0, none⟩)] w fun e w' => e = .returned (.int .i64 (bs.length : Int)) ∧ w = w' := by
  obtain ⟨c, hb, -⟩ := h
  have hc1 : w.cell? ⟨g, 1, none⟩ = some (.slice (ad p) bs.length c) := by rw [hb.cell]; rfl
  clear hb
  generalize bs.length = m at *
  generalize ad p = A at *
  go_enter Try.func18, Try.ntmps18
  go_wp2
  go_ret
  exact ⟨rfl, rfl⟩
theorem over_any (h : Pk w g p M bs cur ov) : Calls Try.prog 19 #[.pointer (some ⟨g, 0, none⟩)] w fun e w' => e = .returned (.bool ov) ∧ w = w' := by
  obtain ⟨c, hb, -⟩ := h
  have hc1 : w.cell? ⟨g, 3, none⟩ = some (.bool ov) := by rw [hb.cell]; rfl
  clear hb
  go_enter Try.func19, Try.ntmps19
  go_wp2
  go_ret
  exact ⟨rfl, rfl⟩
theorem left_any (h : Pk w g p M bs cur ov) (hM : M ≤ 16384) : Calls Try.prog 20 #[.pointer (some ⟨g, 0, none⟩)] w fun e w' => e = .returned (.int .i64 ((bs.length - cur : Nat) : Int)) ∧ ∃ k, w' = w.drewN k := by
  obtain ⟨c, hb, -, h1, h2⟩ := h
  have hc1 : w.cell? ⟨g, 1, none⟩ = some (.slice (ad p) bs.length c) := by rw [hb.cell]; rfl
  have hc2 : w.cell? ⟨g, 2, none⟩ = some (.int .i64 (cur : Int)) := by rw [hb.cell]; rfl
  have hw : IntKind.i64.wrap ((bs.length : Int) - (cur : Int)) = ((bs.length - cur : Nat) : Int) := by rw [IntWalk.i64_in _ (by omega)]; omega
  clear hb
  generalize bs.length = m at *
  generalize ad p = A at *
  go_enter Try.func20, Try.ntmps20
  go_wp2
  go_quiet (fail)
  go_wp2
  go_ret
  exact ⟨rfl, _, rfl⟩
theorem set4_1 (a b c d x : Value) : (#[a, b, c, d] : Array Value).setIfInBounds 1 x = #[a, x, c, d] := by simp
theorem set4_2 (a b c d x : Value) : (#[a, b, c, d] : Array Value).setIfInBounds 2 x = #[a, b, x, d] := by simp
theorem set4_3 (a b c d x : Value) : (#[a, b, c, d] : Array Value).setIfInBounds 3 x = #[a, b, c, x] := by simp
theorem back_any (h : Pk w g p M bs cur ov) : Calls Try.prog 16 #[.pointer (some ⟨g, 0, none⟩)] w fun e w' => e = .returned (.tuple #[]) ∧ Pk w' g p M bs 0 ov ∧ But [g] w w' := by
  have hne := h.ne
  obtain ⟨c, hb, ha, h1, h2⟩ := h
  have hc2 : w.cell? ⟨g, 2, none⟩ = some (.int .i64 (cur : Int)) := by rw [hb.cell]; rfl
  have hf2 := hb.frozen 2
  have HB := Lib.hid hb
  have HA := Lib.hid ha
  clear hb ha
  go_enter Try.func16, Try.ntmps16
  go_wp2
  go_end0
  have hbut : But [g] w (w.setCell ⟨g, 2, none⟩ (.int .i64 0)) := (But.refl _ _).set_ (p := ⟨g, 2, none⟩) (.inl (by simp)) _
  refine ⟨rfl, ⟨c, ?_, HA.out.but hbut (fun b hb => by rintro h; simp at h; subst h; exact hne hb), Nat.zero_le _, h2⟩, hbut⟩
  have h := HB.out.set_ 2 (.int .i64 0)
  rw [set4_2] at h
  exact h
theorem bytes_any (h : Pk w g p M bs cur ov) (hM : M ≤ 16384) : Calls Try.prog 17 #[.pointer (some ⟨g, 0, none⟩)] w fun e w' => ∃ v, e = .returned v ∧ Own w' w.heap.size v bs ∧ Below w.heap.size w w' := by
  obtain ⟨c, hb, ha, h1, h2⟩ := h
  have hc1 : w.cell? ⟨g, 1, none⟩ = some (.slice (ad p) bs.length c) := by rw [hb.cell]; rfl
  have HC := Lib.hid (bclone_any w (ad p) bs.length c bs ha.src.2 (by omega))
  clear hb ha
  generalize bs.length = m at *
  generalize ad p = A at *
  go_enter Try.func17, Try.ntmps17
  go_wp2_with fail
  refine HC.out.mono ?_
  rintro e w1 ⟨v, rfl, hO, hb⟩
  have HO := Lib.hid hO
  have HB := Lib.hid hb
  clear hO hb
  go_wp2_with fail
  go_ret
  exact ⟨_, rfl, HO.out, HB.out⟩

set_option maxHeartbeats 1000000 in
theorem next_any (h : Pk w g p M bs cur ov) (hM : M ≤ 16384) (n : Int) : Calls Try.prog 14 #[.pointer (some ⟨g, 0, none⟩), .int .i64 n] w fun e w' =>
    ∃ v, e = .returned v ∧ Own w' w.heap.size v ((bs.drop cur).take (clampK n (bs.length - cur))) ∧ Pk w' g p M bs (cur + clampK n (bs.length - cur)) ov ∧ But [g] w w' := by
  have HP := Lib.hid h
  have hne := Lib.hid h.ne
  have HLeft := Lib.hid (left_any h hM)
  obtain ⟨c, hb, ha, h1, h2⟩ := h
  have hk := clampK_le n (bs.length - cur)
  have heq := Lib.hid (clampK_eq n (bs.length - cur))
  have hcc := ha.src.1
  have HCut := Lib.hid (show Src w (slid (ad p) c cur) (clampK n (bs.length - cur)) ((bs.drop cur).take (clampK n (bs.length - cur))) from by
    have := cut_mid (l := cur) (h := cur + clampK n (bs.length - cur)) ha.src.2 (by omega) (by omega) hcc
    rwa [Nat.add_sub_cancel_left] at this)
  have hltg := hb.lt
  have HB := Lib.hid hb
  have HA := Lib.hid ha
  have hc1 : w.cell? ⟨g, 1, none⟩ = some (.slice (ad p) bs.length c) := by rw [hb.cell]; rfl
  have hc2 : w.cell? ⟨g, 2, none⟩ = some (.int .i64 (cur : Int)) := by rw [hb.cell]; rfl
  have hf2 := hb.frozen 2
  clear hb ha
  generalize (bs.drop cur).take (clampK n (bs.length - cur)) = out at *
  generalize clampK n (bs.length - cur) = k at *
  generalize hm : bs.length = m at *
  have HM := Lib.hid hm
  clear hm
  have hwk : IntKind.i64.wrap ((cur : Int) + (k : Int)) = ((cur + k : Nat) : Int) := by rw [IntWalk.i64_in _ (by omega)]; omega
  obtain ⟨h, hh⟩ : ∃ h, h = cur + k := ⟨_, rfl⟩
  have HH := Lib.hid hh
  have hsl := fun w' => slice_mid und8 siz8 (ad p) m c w' cur h (by omega) (by omega)
  have hhk : h - cur = k := by omega
  have hm2 : h ≤ m := by omega
  rw [← hh] at hwk
  clear hh
  go_enter Try.func14, Try.ntmps14
  go_wp2_with fail
  go_region_law
    (first
      | (go_simp; go_at_call 20; refine (left_any (HP.out.same ((But.refl [] w).drew)) hM).mono ?_; rintro e w1 ⟨rfl, q, rfl⟩; rw [HM.out])
      | (go_simp; go_at_call 21; refine (with_any n 0 _ _).mono ?_; rintro e w1 ⟨rfl, rfl⟩; rw [heq.out]))
  all_goals (
    have hbut : But [g] w ((w.drewN (1 + q)).setCell ⟨g, 2, none⟩ (.int .i64 (h : Int))) := ((But.refl _ _).drewN _).set_ (p := ⟨g, 2, none⟩) (.inl (by simp)) _
    have hb2 : Blk ((w.drewN (1 + q)).setCell ⟨g, 2, none⟩ (.int .i64 (h : Int))) g 47 #[.int .i64 (M : Int), .slice (ad p) m c, .int .i64 (h : Int), .bool ov] := by
      have h2 := (show Blk (w.drewN (1 + q)) g _ _ from HB.out).set_ 2 (.int .i64 (h : Int))
      rw [set4_2] at h2
      exact h2
    have HBut := Lib.hid hbut
    have HB2 := Lib.hid hb2
    have HCl := Lib.hid (HCut.out.but hbut (fun h0 x hx => by
      obtain ⟨y, hy, hyx⟩ := slid_block hx
      rw [← hyx]
      rcases hp : p with _ | b
      · rw [hp] at hy; cases hy
      · rw [hp] at hy
        injection hy with hy
        subst hy
        have := hne.out
        rw [hp] at this
        simpa using this))
    clear hbut hc1 hc2 hf2
    generalize (w.drewN (1 + q)).setCell ⟨g, 2, none⟩ (.int .i64 (h : Int)) = w2 at *
    have hc1 : w2.cell? ⟨g, 1, none⟩ = some (.slice (ad p) m c) := by rw [hb2.cell]; rfl
    have hc2 : w2.cell? ⟨g, 2, none⟩ = some (.int .i64 (h : Int)) := by rw [hb2.cell]; rfl
    clear hb2
    go_wp2_with fail
    have HL2 : k ≤ 140737488355328 := by omega
    go_region_held_law (fun w' => w'.cell? ⟨g, 1, none⟩ = some (.slice (ad p) m c) ∧ w'.cell? ⟨g, 2, none⟩ = some (.int .i64 (h : Int))) (first | exact ⟨hc1, hc2⟩ | exact ⟨hd1, hd2⟩)
      ((go_at_call 22; refine (bclone_any w2.drew _ k _ out HCl.out HL2).mono ?_; rintro e w3 ⟨v3, rfl, hO3, hb3⟩; have HO3 := Lib.hid hO3; have HB3 := Lib.hid hb3; have hd1 := (hb3.cell (p := ⟨g, 1, none⟩) (by exact HB2.out.lt)).trans hc1; have hd2 := (hb3.cell (p := ⟨g, 2, none⟩) (by exact HB2.out.lt)).trans hc2; clear hO3 hb3))
    all_goals (
      have hb23 : But [] w2 w3 := ((But.refl [] w2).drew).trans (But.of_below HB3.out [])
      have HF := Lib.hid (show Blk w3 g _ _ from HB2.out.but hb23 (by simp))
      have HFA := Lib.hid (show At w3 p c bs from HA.out.but (HBut.out.trans (hb23.none [g])) (fun b hb hm => by simp at hm; subst hm; exact hne.out hb))
      have HFB := Lib.hid (show But [g] w w3 from HBut.out.trans (hb23.none [g]))
      have HFO := Lib.hid (show Own w3 w.heap.size v3 out from by
        have := HO3.out
        have h1 : w.heap.size ≤ w2.drew.heap.size := HBut.out.size
        exact this.lower h1)
      clear hb23 hd1 hd2 hc1 hc2
      go_wp2_with fail
      go_ret
      refine ⟨_, rfl, HFO.out, ⟨c, ?_, HFA.out, by rw [HM.out, ← HH.out]; exact hm2, by rw [HM.out]; exact h2⟩, HFB.out⟩
      rw [HM.out, ← HH.out]
      exact HF.out))
end
end Go.Proofs.Ytnmfgimcclpfbaa.Pk
