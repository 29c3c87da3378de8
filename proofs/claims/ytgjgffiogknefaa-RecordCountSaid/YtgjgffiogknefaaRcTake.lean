/-
  Contract of Take, package record, over this seat's translation: one byte is one step.
-/
import Derived.Test.YtgjgffiogknefaaRcFns
namespace Go.Proofs.Ytgjgffiogknefaa.Rc
open Go.RowKit Go.Proofs.Ytgjgffiogknefaa.Wd

/-- behind head: what it answers, and the deframer, whose error is not set yet -/
def HeadPost (w : World) (g : Nat) (s : D) (e : Ending) (w' : World) : Prop :=
  e = .returned (.int .i64 (s.e : Int)) ∧ Blk w' g 43 #[.int .i64 (s.a : Int), .int .i64 (s.l : Int), .int .i64 (s.n : Int), .int .i64 0] ∧ But [g] w w'
set_option maxRecDepth 100000 in
set_option maxHeartbeats 1000000 in
theorem head_any {w : World} {g a l n : Nat} (h : Rd w g ⟨a, l, n, 0⟩) (ha : a ≤ 4) (hl : a = 4 → l % 256 = 0 ∧ l ≤ 16384) (c : UInt8) :
    Calls Try.prog 20 #[.pointer (some ⟨g, 0, none⟩), .int .u8 (c.toNat : Int)] w (HeadPost w g (stepD ⟨a, l, n, 0⟩ c)) := by
  have HB := Lib.hid h
  have hc0 : w.cell? ⟨g, 0, none⟩ = some (.int .i64 (a : Int)) := by rw [Blk.cell h]; rfl
  have hc1 : w.cell? ⟨g, 1, none⟩ = some (.int .i64 (l : Int)) := by rw [Blk.cell h]; rfl
  have hf0 := Blk.frozen h 0
  have hf1 := Blk.frozen h 1
  have hb := c.toNat_lt
  have Hdef := Lib.hid (show stepD ⟨a, l, n, 0⟩ c = _ from by unfold stepD; rw [if_neg (by simp)])
  simp only at Hdef
  generalize stepD ⟨a, l, n, 0⟩ c = s at *
  generalize c.toNat = b at *
  clear h
  obtain rfl | rfl | rfl | rfl | rfl : a = 0 ∨ a = 1 ∨ a = 2 ∨ a = 3 ∨ a = 4 := by omega
  · by_cases hy : b = 22
    · have HS := Lib.hid (show s = ⟨1, l, n, 0⟩ from by rw [Hdef.out, if_pos rfl, if_pos hy])
      have hbi : (b : Int) = 22 := by omega
      clear Hdef hl hy
      go_enter Try.func20, Try.ntmps20
      go_wp2
      go_ret
      rw [HS.out]
      exact ⟨rfl, blk_0 HB.out, but_set (But.refl _ _) _ _⟩
    · have HS := Lib.hid (show s = ⟨0, l, n, 4⟩ from by rw [Hdef.out, if_pos rfl, if_neg hy])
      have hbi : (b : Int) ≠ 22 := by omega
      clear Hdef hl hy
      go_enter Try.func20, Try.ntmps20
      go_wp2
      go_ret
      rw [HS.out]
      exact ⟨rfl, HB.out, But.refl _ _⟩
  · by_cases hy : b = 3
    · have HS := Lib.hid (show s = ⟨2, l, n, 0⟩ from by rw [Hdef.out, if_neg (by simp), if_pos rfl, if_pos hy])
      have hbi : (b : Int) = 3 := by omega
      clear Hdef hl hy
      go_enter Try.func20, Try.ntmps20
      go_wp2
      go_ret
      rw [HS.out]
      exact ⟨rfl, blk_0 HB.out, but_set (But.refl _ _) _ _⟩
    · have HS := Lib.hid (show s = ⟨1, l, n, 5⟩ from by rw [Hdef.out, if_neg (by simp), if_pos rfl, if_neg hy])
      have hbi : (b : Int) ≠ 3 := by omega
      clear Hdef hl hy
      go_enter Try.func20, Try.ntmps20
      go_wp2
      go_ret
      rw [HS.out]
      exact ⟨rfl, HB.out, But.refl _ _⟩
  · by_cases hy : b ≤ 4
    · have HS := Lib.hid (show s = ⟨3, l, n, 0⟩ from by rw [Hdef.out, if_neg (by simp), if_neg (by simp), if_pos rfl, if_pos hy])
      have hbi : (b : Int) ≤ 4 := by omega
      clear Hdef hl hy
      go_enter Try.func20, Try.ntmps20
      go_wp2
      go_ret
      rw [HS.out]
      exact ⟨rfl, blk_0 HB.out, but_set (But.refl _ _) _ _⟩
    · have HS := Lib.hid (show s = ⟨2, l, n, 5⟩ from by rw [Hdef.out, if_neg (by simp), if_neg (by simp), if_pos rfl, if_neg hy])
      have hbi : 4 < (b : Int) := by omega
      clear Hdef hl hy
      go_enter Try.func20, Try.ntmps20
      go_wp2
      go_ret
      rw [HS.out]
      exact ⟨rfl, HB.out, But.refl _ _⟩
  · by_cases hy : b * 256 ≤ 16384
    · have HS := Lib.hid (show s = ⟨4, b * 256, n, 0⟩ from by rw [Hdef.out, if_neg (by simp), if_neg (by simp), if_neg (by simp), if_pos rfl, if_pos hy])
      have hbi : (b : Int) * 256 ≤ 16384 := by omega
      clear Hdef hl hy
      go_enter Try.func20, Try.ntmps20
      go_wp2
      go_ret
      rw [HS.out]
      refine ⟨rfl, ?_, but_set (but_set (But.refl _ _) _ _) _ _⟩
      have h := blk_0 (x := .int .i64 4) (blk_1 (x := .int .i64 ((b : Int) * 256)) HB.out)
      simpa using h
    · have HS := Lib.hid (show s = ⟨3, b * 256, n, 6⟩ from by rw [Hdef.out, if_neg (by simp), if_neg (by simp), if_neg (by simp), if_pos rfl, if_neg hy])
      have hbi : 16384 < (b : Int) * 256 := by omega
      clear Hdef hl hy
      go_enter Try.func20, Try.ntmps20
      go_wp2
      go_ret
      rw [HS.out]
      refine ⟨rfl, ?_, but_set (But.refl _ _) _ _⟩
      have h := blk_1 (x := .int .i64 ((b : Int) * 256)) HB.out
      simpa using h
  · obtain ⟨m, rfl⟩ : ∃ m, l = m * 256 := ⟨l / 256, by have := hl rfl; omega⟩
    have hor := or_byte m b (by have := hl rfl; omega) (by omega)
    have hmb : m * 256 + b ≤ 16639 := by have := hl rfl; omega
    obtain ⟨v, hv⟩ : ∃ v, v = m * 256 + b := ⟨_, rfl⟩
    rw [← hv] at hor hmb
    rw [← hv] at Hdef
    by_cases hy : 1 ≤ v ∧ v ≤ 16384
    · have HS := Lib.hid (show s = ⟨5, v, n, 0⟩ from by rw [Hdef.out, if_neg (by simp), if_neg (by simp), if_neg (by simp), if_neg (by simp), if_pos rfl, if_pos hy])
      have h1 : (1 : Int) ≤ (v : Int) := by omega
      have h2 : (v : Int) ≤ 16384 := by omega
      generalize m * 256 = l at *
      clear Hdef hl hy hv
      go_enter Try.func20, Try.ntmps20
      go_wp2
      go_ret
      rw [HS.out]
      exact ⟨rfl, blk_0 (blk_1 HB.out), but_set (but_set (But.refl _ _) _ _) _ _⟩
    · have HS := Lib.hid (show s = ⟨4, v, n, 6⟩ from by rw [Hdef.out, if_neg (by simp), if_neg (by simp), if_neg (by simp), if_neg (by simp), if_pos rfl, if_neg hy])
      generalize m * 256 = l at *
      by_cases h0 : v < 1
      · have h1 : (v : Int) < 1 := by omega
        clear Hdef hl hy hv
        go_enter Try.func20, Try.ntmps20
        go_wp2
        go_ret
        rw [HS.out]
        exact ⟨rfl, blk_1 HB.out, but_set (But.refl _ _) _ _⟩
      · have h1 : (1 : Int) ≤ (v : Int) := by omega
        have h2 : (16384 : Int) < (v : Int) := by omega
        clear Hdef hl hy hv
        go_enter Try.func20, Try.ntmps20
        go_wp2
        go_ret
        rw [HS.out]
        exact ⟨rfl, blk_1 HB.out, but_set (But.refl _ _) _ _⟩

/-- behind Take: what it answers, and the deframer -/
def TakePost (w : World) (g : Nat) (d : D) (c : UInt8) (e : Ending) (w' : World) : Prop :=
  e = .returned (.tuple #[.bool (payD d), .int .i64 ((stepD d c).e : Int)]) ∧ Rd w' g (stepD d c) ∧ But [g] w w'
set_option maxRecDepth 100000 in
set_option maxHeartbeats 1000000 in
theorem take_any {w : World} {g : Nat} {d : D} (h : Rd w g d) (hd : OkD d) (hn : d.n ≤ 4611686018427387904) (c : UInt8) :
    Calls Try.prog 11 #[.pointer (some ⟨g, 0, none⟩), .int .u8 (c.toNat : Int)] w (TakePost w g d c) := by
  obtain ⟨a, l, n, e⟩ := d
  have HB := Lib.hid h
  have hc0 : w.cell? ⟨g, 0, none⟩ = some (.int .i64 (a : Int)) := by rw [Blk.cell h]; rfl
  have hc3 : w.cell? ⟨g, 3, none⟩ = some (.int .i64 (e : Int)) := by rw [Blk.cell h]; rfl
  simp only at hn
  obtain ⟨hd1, hd2, hd3, hd4⟩ := hd
  simp only at hd1 hd2 hd3 hd4
  unfold TakePost
  by_cases he : e = 0
  · subst he
    have hd3 := hd3 rfl
    by_cases ha : a = 5
    · subst ha
      have HP := Lib.hid (show payD ⟨5, l, n, 0⟩ = true from rfl)
      have HE := Lib.hid (show (stepD ⟨5, l, n, 0⟩ c).e = 0 from by unfold stepD; simp only; split <;> first | rfl | (split <;> rfl) | skip <;> simp <;> split <;> rfl)
      have HC := Lib.hid (pay_any h ⟨hd3.1 rfl, hd2⟩ hn c)
      generalize stepD ⟨5, l, n, 0⟩ c = s at *
      clear h hd3
      go_enter Try.func11, Try.ntmps11
      go_wp2_with fail
      refine HC.out.mono ?_
      rintro e w1 ⟨rfl, hr, hbut⟩
      have HR := Lib.hid hr
      clear hr
      go_wp2_with fail
      go_ret2
      rw [HP.out, HE.out]
      exact ⟨rfl, HR.out, hbut⟩
    · have ha4 : a ≤ 4 := by omega
      have hai : (a : Int) ≠ 5 := by omega
      have HP := Lib.hid (show payD ⟨a, l, n, 0⟩ = false from decide_eq_false (fun h => by have := h.2; simp only at this; omega))
      have HC := Lib.hid (head_any h ha4 (fun h => hd3.2 h) c)
      generalize stepD ⟨a, l, n, 0⟩ c = s at *
      clear h hd3
      go_enter Try.func11, Try.ntmps11
      go_wp2_with fail
      refine HC.out.mono ?_
      rintro e w1 ⟨rfl, hb1, hbut⟩
      have hf3 := hb1.frozen 3
      have hc4 : w1.cell? ⟨g, 3, none⟩ = some (.int .i64 0) := by rw [hb1.cell]; rfl
      have HR := Lib.hid hb1
      have hlt := hb1.lt
      clear hb1
      go_wp2_with fail
      go_quiet (fail)
      go_wp2
      go_ret2
      rw [HP.out]
      exact ⟨rfl, blk_3 HR.out, (but_set hbut _ _).drewN _⟩
  · have hei : (e : Int) ≠ 0 := by omega
    have HP := Lib.hid (payD_no (d := ⟨a, l, n, e⟩) he)
    have HS := Lib.hid (stepD_stay (d := ⟨a, l, n, e⟩) he c)
    clear h hd3
    go_enter Try.func11, Try.ntmps11
    go_wp2
    go_quiet (fail)
    go_wp2
    go_ret2
    rw [HP.out, HS.out]
    exact ⟨rfl, HB.out, (But.refl _ _).drewN _⟩
end Go.Proofs.Ytgjgffiogknefaa.Rc
