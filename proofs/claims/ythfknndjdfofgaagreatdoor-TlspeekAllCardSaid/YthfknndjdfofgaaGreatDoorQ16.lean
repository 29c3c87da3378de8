/-
 '|' on int of a shifted number and a byte. Plain facts, no condition.
-/
import Derived.Test.YthfknndjdfofgaaGreatDoorQ01
import Derived.Laws.BitsAllLaws
import Derived.Laws.BitsLemmas
import Derived.Test.YthfknndjdfofgaaGreatDoorQ03
import Derived.Deep.QuietTactic
import Derived.BigQuiet
import Derived.LoopTactic
namespace Go.Proofs.YthfknndjdfofgaaGreatDoor.Rc
open Go.RowKit

theorem ofInt_i64 (a : Nat) (ha : a < 9223372036854775808) : (BitVec.ofInt 64 (a : Int)).toNat = a := by
 rw [BitVec.ofInt_natCast, BitVec.toNat_ofNat]; exact Nat.mod_eq_of_lt (by omega)
theorem i64_or_nat (a b : Nat) (ha : a < 9223372036854775808) (hb : b < 9223372036854775808) : bits .or .i64 (a : Int) (b : Int) = ((a ||| b : Nat) : Int) := by
 have hx : a ||| b < 2 ^ 63 := Nat.or_lt_two_pow (by omega) (by omega)
 show IntKind.i64.wrap ((BitVec.ofInt 64 (a : Int) ||| BitVec.ofInt 64 (b : Int)).toNat : Int) = _
 rw [BitVec.toNat_or, ofInt_i64 a ha, ofInt_i64 b hb, IntKind.wrap_i64]
 omega
theorem or_byte (a b : Nat) (ha : a < 16777216) (hb : b < 256) : bits .or .i64 ((a * 256 : Nat) : Int) (b : Int) = ((a * 256 + b : Nat) : Int) := by
 rw [i64_or_nat (a * 256) b (by omega) (by omega)]
 have := Nat.shiftLeft_add_eq_or_of_lt (i := 8) (b := b) (by omega) a
 rw [Nat.shiftLeft_eq, show (2 : Nat) ^ 8 = 256 from rfl] at this
 omega
end Go.Proofs.YthfknndjdfofgaaGreatDoor.Rc

/-
 Contracts of package record's deframer over this seat's translation: New, pay, head, Take, Open, Count.
-/
namespace Go.Proofs.YthfknndjdfofgaaGreatDoor.Rc
open Go.RowKit Go.Proofs.YthfknndjdfofgaaGreatDoor.Wd

def Rd (w : World) (g : Nat) (d : D) : Prop := Blk w g 92 #[.int .i64 (d.a : Int), .int .i64 (d.l : Int), .int .i64 (d.n : Int), .int .i64 (d.e : Int)]
theorem set4_0 (a b c d x : Value) : (#[a, b, c, d] : Array Value).setIfInBounds 0 x = #[x, b, c, d] := by simp
theorem set4_1 (a b c d x : Value) : (#[a, b, c, d] : Array Value).setIfInBounds 1 x = #[a, x, c, d] := by simp
theorem set4_2 (a b c d x : Value) : (#[a, b, c, d] : Array Value).setIfInBounds 2 x = #[a, b, x, d] := by simp
theorem set4_3 (a b c d x : Value) : (#[a, b, c, d] : Array Value).setIfInBounds 3 x = #[a, b, c, x] := by simp
section
variable {w : World} {g t : Nat} {a b c d x : Value}
theorem blk_0 (h : Blk w g t #[a, b, c, d]) : Blk (w.setCell ⟨g, 0, none⟩ x) g t #[x, b, c, d] := by have := h.set_ 0 x; rwa [set4_0] at this
theorem blk_1 (h : Blk w g t #[a, b, c, d]) : Blk (w.setCell ⟨g, 1, none⟩ x) g t #[a, x, c, d] := by have := h.set_ 1 x; rwa [set4_1] at this
theorem blk_2 (h : Blk w g t #[a, b, c, d]) : Blk (w.setCell ⟨g, 2, none⟩ x) g t #[a, b, x, d] := by have := h.set_ 2 x; rwa [set4_2] at this
theorem blk_3 (h : Blk w g t #[a, b, c, d]) : Blk (w.setCell ⟨g, 3, none⟩ x) g t #[a, b, c, x] := by have := h.set_ 3 x; rwa [set4_3] at this
theorem but_set {w0 : World} (h : But [g] w0 w) (o : Nat) (x : Value) : But [g] w0 (w.setCell ⟨g, o, none⟩ x) := h.set_ (p := ⟨g, o, none⟩) (.inl (by simp)) _
end
theorem new_any (w : World) : Calls Tryz.prog 26 #[] w fun e w' =>
   e = .returned (.pointer (some ⟨w.heap.size, 0, none⟩)) ∧ Rd w' w.heap.size (D.st 0) ∧ Below w.heap.size w w' := by
 go_enter Tryz.func26, Tryz.ntmps26
 go_wp2
 go_ret
 exact ⟨rfl, Blk.new _ _ _, (Below.refl _ _).alloc (Nat.le_refl _) _⟩

section
variable {w : World} {g : Nat} {d : D}
end

theorem pay_any {w : World} {g l n : Nat} (h : Rd w g ⟨5, l, n, 0⟩) (hl : 1 ≤ l ∧ l ≤ 65535) (hn : n ≤ 4611686018427387904) (c : UInt8) :
   Calls Tryz.prog 119 #[.pointer (some ⟨g, 0, none⟩)] w fun e w' => e = .returned (.tuple #[]) ∧ Rd w' g (stepD ⟨5, l, n, 0⟩ c) ∧ But [g] w w' := by
 have HB := Lib.hid h
 have hc0 : w.cell? ⟨g, 0, none⟩ = some (.int .i64 5) := by rw [Blk.cell h]; rfl
 have hc1 : w.cell? ⟨g, 1, none⟩ = some (.int .i64 (l : Int)) := by rw [Blk.cell h]; rfl
 have hc2 : w.cell? ⟨g, 2, none⟩ = some (.int .i64 (n : Int)) := by rw [Blk.cell h]; rfl
 have hf0 := Blk.frozen h 0
 have hf1 := Blk.frozen h 1
 have hf2 := Blk.frozen h 2
 clear h
 by_cases h1 : l = 1
 · subst h1
   go_enter Tryz.func119, Tryz.ntmps119
   go_wp2
   go_end0
   exact ⟨rfl, blk_0 (blk_2 (blk_1 HB.out)), but_set (but_set (but_set (But.refl _ _) _ _) _ _) _ _⟩
 · have hs : stepD ⟨5, l, n, 0⟩ c = ⟨5, l - 1, n, 0⟩ := by
     unfold stepD
     rw [if_neg (by simp), if_neg (by simp), if_neg (by simp), if_neg (by simp), if_neg (by simp), if_neg (by simp), if_neg h1]
   have HS := Lib.hid hs
   obtain ⟨m, rfl⟩ : ∃ m, l = m + 1 := ⟨l - 1, by omega⟩
   have hm : (m : Int) ≠ 0 := by omega
   clear hs h1
   go_enter Tryz.func119, Tryz.ntmps119
   go_wp2
   go_end0
   refine ⟨rfl, ?_, but_set (But.refl _ _) _ _⟩
   rw [HS.out]
   have hb := blk_1 (x := .int .i64 (m : Int)) HB.out
   first | exact hb | (simpa using hb)

end Go.Proofs.YthfknndjdfofgaaGreatDoor.Rc

/-
 Contract of Take, package record, over this seat's translation: one byte is one step.
-/
namespace Go.Proofs.YthfknndjdfofgaaGreatDoor.Rc
open Go.RowKit Go.Proofs.YthfknndjdfofgaaGreatDoor.Wd

def HeadPost (w : World) (g : Nat) (s : D) (e : Ending) (w' : World) : Prop :=
 e = .returned (.int .i64 (s.e : Int)) ∧ Blk w' g 92 #[.int .i64 (s.a : Int), .int .i64 (s.l : Int), .int .i64 (s.n : Int), .int .i64 0] ∧ But [g] w w'
set_option maxRecDepth 100000 in
set_option maxHeartbeats 1000000 in
theorem head_any {w : World} {g a l n : Nat} (h : Rd w g ⟨a, l, n, 0⟩) (ha : a ≤ 4) (hl : a = 4 → l % 256 = 0 ∧ l ≤ 16384) (c : UInt8) :
   Calls Tryz.prog 120 #[.pointer (some ⟨g, 0, none⟩), .int .u8 (c.toNat : Int)] w (HeadPost w g (stepD ⟨a, l, n, 0⟩ c)) := by
 have HB := Lib.hid h
 have hc0 : w.cell? ⟨g, 0, none⟩ = some (.int .i64 (a : Int)) := by rw [Blk.cell h]; rfl
 have hc1 : w.cell? ⟨g, 1, none⟩ = some (.int .i64 (l : Int)) := by rw [Blk.cell h]; rfl
 have hf0 := Blk.frozen h 0
 have hf1 := Blk.frozen h 1
 have hb := c.toNat_lt
 have Hdef := Lib.hid (show stepD ⟨a, l, n, 0⟩ c = _ from by unfold stepD; rw [if_neg (by simp)])
 simp only at Hdef
 generalize stepD ⟨a, l, n, 0⟩ c = s at *
 generalize c.toNat = b at *
 clear h
 obtain rfl | rfl | rfl | rfl | rfl : a = 0 ∨ a = 1 ∨ a = 2 ∨ a = 3 ∨ a = 4 := by omega
 · by_cases hy : b = 22
   · have HS := Lib.hid (show s = ⟨1, l, n, 0⟩ from by rw [Hdef.out, if_pos rfl, if_pos hy])
     have hbi : (b : Int) = 22 := by omega
     clear Hdef hl hy
     go_enter Tryz.func120, Tryz.ntmps120
     go_wp2
     go_ret
     rw [HS.out]
     exact ⟨rfl, blk_0 HB.out, but_set (But.refl _ _) _ _⟩
   · have HS := Lib.hid (show s = ⟨0, l, n, 4⟩ from by rw [Hdef.out, if_pos rfl, if_neg hy])
     have hbi : (b : Int) ≠ 22 := by omega
     clear Hdef hl hy
     go_enter Tryz.func120, Tryz.ntmps120
     go_wp2
     go_ret
     rw [HS.out]
     exact ⟨rfl, HB.out, But.refl _ _⟩
 · by_cases hy : b = 3
   · have HS := Lib.hid (show s = ⟨2, l, n, 0⟩ from by rw [Hdef.out, if_neg (by simp), if_pos rfl, if_pos hy])
     have hbi : (b : Int) = 3 := by omega
     clear Hdef hl hy
     go_enter Tryz.func120, Tryz.ntmps120
     go_wp2
     go_ret
     rw [HS.out]
     exact ⟨rfl, blk_0 HB.out, but_set (But.refl _ _) _ _⟩
   · have HS := Lib.hid (show s = ⟨1, l, n, 5⟩ from by rw [Hdef.out, if_neg (by simp), if_pos rfl, if_neg hy])
     have hbi : (b : Int) ≠ 3 := by omega
     clear Hdef hl hy
     go_enter Tryz.func120, Tryz.ntmps120
     go_wp2
     go_ret
     rw [HS.out]
     exact ⟨rfl, HB.out, But.refl _ _⟩
 · by_cases hy : b ≤ 4
   · have HS := Lib.hid (show s = ⟨3, l, n, 0⟩ from by rw [Hdef.out, if_neg (by simp), if_neg (by simp), if_pos rfl, if_pos hy])
     have hbi : (b : Int) ≤ 4 := by omega
     clear Hdef hl hy
     go_enter Tryz.func120, Tryz.ntmps120
     go_wp2
     go_ret
     rw [HS.out]
     exact ⟨rfl, blk_0 HB.out, but_set (But.refl _ _) _ _⟩
   · have HS := Lib.hid (show s = ⟨2, l, n, 5⟩ from by rw [Hdef.out, if_neg (by simp), if_neg (by simp), if_pos rfl, if_neg hy])
     have hbi : 4 < (b : Int) := by omega
     clear Hdef hl hy
     go_enter Tryz.func120, Tryz.ntmps120
     go_wp2
     go_ret
     rw [HS.out]
     exact ⟨rfl, HB.out, But.refl _ _⟩
 · by_cases hy : b * 256 ≤ 16384
   · have HS := Lib.hid (show s = ⟨4, b * 256, n, 0⟩ from by rw [Hdef.out, if_neg (by simp), if_neg (by simp), if_neg (by simp), if_pos rfl, if_pos hy])
     have hbi : (b : Int) * 256 ≤ 16384 := by omega
     clear Hdef hl hy
     go_enter Tryz.func120, Tryz.ntmps120
     go_wp2
     go_ret
     rw [HS.out]
     refine ⟨rfl, ?_, but_set (but_set (But.refl _ _) _ _) _ _⟩
     have h := blk_0 (x := .int .i64 4) (blk_1 (x := .int .i64 ((b : Int) * 256)) HB.out)
     simpa using h
   · have HS := Lib.hid (show s = ⟨3, b * 256, n, 6⟩ from by rw [Hdef.out, if_neg (by simp), if_neg (by simp), if_neg (by simp), if_pos rfl, if_neg hy])
     have hbi : 16384 < (b : Int) * 256 := by omega
     clear Hdef hl hy
     go_enter Tryz.func120, Tryz.ntmps120
     go_wp2
     go_ret
     rw [HS.out]
     refine ⟨rfl, ?_, but_set (But.refl _ _) _ _⟩
     have h := blk_1 (x := .int .i64 ((b : Int) * 256)) HB.out
     simpa using h
 · obtain ⟨m, rfl⟩ : ∃ m, l = m * 256 := ⟨l / 256, by have := hl rfl; omega⟩
   have hor := or_byte m b (by have := hl rfl; omega) (by omega)
   have hmb : m * 256 + b ≤ 16639 := by have := hl rfl; omega
   obtain ⟨v, hv⟩ : ∃ v, v = m * 256 + b := ⟨_, rfl⟩
   rw [← hv] at hor hmb
   rw [← hv] at Hdef
   by_cases hy : 1 ≤ v ∧ v ≤ 16384
   · have HS := Lib.hid (show s = ⟨5, v, n, 0⟩ from by rw [Hdef.out, if_neg (by simp), if_neg (by simp), if_neg (by simp), if_neg (by simp), if_pos rfl, if_pos hy])
     have h1 : (1 : Int) ≤ (v : Int) := by omega
     have h2 : (v : Int) ≤ 16384 := by omega
     generalize m * 256 = l at *
     clear Hdef hl hy hv
     go_enter Tryz.func120, Tryz.ntmps120
     go_wp2
     go_ret
     rw [HS.out]
     exact ⟨rfl, blk_0 (blk_1 HB.out), but_set (but_set (But.refl _ _) _ _) _ _⟩
   · have HS := Lib.hid (show s = ⟨4, v, n, 6⟩ from by rw [Hdef.out, if_neg (by simp), if_neg (by simp), if_neg (by simp), if_neg (by simp), if_pos rfl, if_neg hy])
     generalize m * 256 = l at *
     by_cases h0 : v < 1
     · have h1 : (v : Int) < 1 := by omega
       clear Hdef hl hy hv
       go_enter Tryz.func120, Tryz.ntmps120
       go_wp2
       go_ret
       rw [HS.out]
       exact ⟨rfl, blk_1 HB.out, but_set (But.refl _ _) _ _⟩
     · have h1 : (1 : Int) ≤ (v : Int) := by omega
       have h2 : (16384 : Int) < (v : Int) := by omega
       clear Hdef hl hy hv
       go_enter Tryz.func120, Tryz.ntmps120
       go_wp2
       go_ret
       rw [HS.out]
       exact ⟨rfl, blk_1 HB.out, but_set (But.refl _ _) _ _⟩

def TakePost (w : World) (g : Nat) (d : D) (c : UInt8) (e : Ending) (w' : World) : Prop :=
 e = .returned (.tuple #[.bool (payD d), .int .i64 ((stepD d c).e : Int)]) ∧ Rd w' g (stepD d c) ∧ But [g] w w'
set_option maxRecDepth 100000 in
set_option maxHeartbeats 1000000 in
theorem take_any {w : World} {g : Nat} {d : D} (h : Rd w g d) (hd : OkD d) (hn : d.n ≤ 4611686018427387904) (c : UInt8) :
   Calls Tryz.prog 75 #[.pointer (some ⟨g, 0, none⟩), .int .u8 (c.toNat : Int)] w (TakePost w g d c) := by
 obtain ⟨a, l, n, e⟩ := d
 have HB := Lib.hid h
 have hc0 : w.cell? ⟨g, 0, none⟩ = some (.int .i64 (a : Int)) := by rw [Blk.cell h]; rfl
 have hc3 : w.cell? ⟨g, 3, none⟩ = some (.int .i64 (e : Int)) := by rw [Blk.cell h]; rfl
 simp only at hn
 obtain ⟨hd1, hd2, hd3, hd4⟩ := hd
 simp only at hd1 hd2 hd3 hd4
 unfold TakePost
 by_cases he : e = 0
 · subst he
   have hd3 := hd3 rfl
   by_cases ha : a = 5
   · subst ha
     have HP := Lib.hid (show payD ⟨5, l, n, 0⟩ = true from rfl)
     have HE := Lib.hid (show (stepD ⟨5, l, n, 0⟩ c).e = 0 from by unfold stepD; simp only; split <;> first | rfl | (split <;> rfl) | skip <;> simp <;> split <;> rfl)
     have HC := Lib.hid (pay_any h ⟨hd3.1 rfl, hd2⟩ hn c)
     generalize stepD ⟨5, l, n, 0⟩ c = s at *
     clear h hd3
     go_enter Tryz.func75, Tryz.ntmps75
     go_wp2_with fail
     refine HC.out.mono ?_
     rintro e w1 ⟨rfl, hr, hbut⟩
     have HR := Lib.hid hr
     clear hr
     go_wp2_with fail
     go_ret2
     rw [HP.out, HE.out]
     exact ⟨rfl, HR.out, hbut⟩
   · have ha4 : a ≤ 4 := by omega
     have hai : (a : Int) ≠ 5 := by omega
     have HP := Lib.hid (show payD ⟨a, l, n, 0⟩ = false from decide_eq_false (fun h => by have := h.2; simp only at this; omega))
     have HC := Lib.hid (head_any h ha4 (fun h => hd3.2 h) c)
     generalize stepD ⟨a, l, n, 0⟩ c = s at *
     clear h hd3
     go_enter Tryz.func75, Tryz.ntmps75
     go_wp2_with fail
     refine HC.out.mono ?_
     rintro e w1 ⟨rfl, hb1, hbut⟩
     have hf3 := hb1.frozen 3
     have hc4 : w1.cell? ⟨g, 3, none⟩ = some (.int .i64 0) := by rw [hb1.cell]; rfl
     have HR := Lib.hid hb1
     have hlt := hb1.lt
     clear hb1
     go_wp2_with fail
     go_quiet (fail)
     go_wp2
     go_ret2
     rw [HP.out]
     exact ⟨rfl, blk_3 HR.out, (but_set hbut _ _).drewN _⟩
 · have hei : (e : Int) ≠ 0 := by omega
   have HP := Lib.hid (payD_no (d := ⟨a, l, n, e⟩) he)
   have HS := Lib.hid (stepD_stay (d := ⟨a, l, n, e⟩) he c)
   clear h hd3
   go_enter Tryz.func75, Tryz.ntmps75
   go_wp2
   go_quiet (fail)
   go_wp2
   go_ret2
   rw [HP.out, HS.out]
   exact ⟨rfl, HB.out, (But.refl _ _).drewN _⟩
end Go.Proofs.YthfknndjdfofgaaGreatDoor.Rc

/-
 Contract of package record's All over this seat's translation.
-/
namespace Go.Proofs.YthfknndjdfofgaaGreatDoor.Rc
open Go.RowKit Go.Proofs.YthfknndjdfofgaaGreatDoor.Wd

end Go.Proofs.YthfknndjdfofgaaGreatDoor.Rc
