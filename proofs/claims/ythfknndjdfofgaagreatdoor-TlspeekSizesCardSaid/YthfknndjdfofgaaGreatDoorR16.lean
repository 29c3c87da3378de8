/-
 '|' on int of a shifted number and a byte. Plain facts, no condition.
-/
import Derived.Test.YthfknndjdfofgaaGreatDoorR01
import Derived.Laws.BitsAllLaws
import Derived.Laws.BitsLemmas
import Derived.Test.YthfknndjdfofgaaGreatDoorR03
import Derived.Deep.QuietTactic
import Derived.BigQuiet
import Derived.LoopTactic
namespace Go.Proofs.YthfknndjdfofgaaGreatDoor.Rc
open Go.RowKit

theorem ofInt_i64 (a : Nat) (ha : a < 9223372036854775808) : (BitVec.ofInt 64 (a : Int)).toNat = a := by
 rw [BitVec.ofInt_natCast, BitVec.toNat_ofNat]; exact Nat.mod_eq_of_lt (by omega)
theorem i64_or_nat (a b : Nat) (ha : a < 9223372036854775808) (hb : b < 9223372036854775808) : bits .or .i64 (a : Int) (b : Int) = ((a ||| b : Nat) : Int) := by
 have hx : a ||| b < 2 ^ 63 := Nat.or_lt_two_pow (by omega) (by omega)
 show IntKind.i64.wrap ((BitVec.ofInt 64 (a : Int) ||| BitVec.ofInt 64 (b : Int)).toNat : Int) = _
 rw [BitVec.toNat_or, ofInt_i64 a ha, ofInt_i64 b hb, IntKind.wrap_i64]
 omega
theorem or_byte (a b : Nat) (ha : a < 16777216) (hb : b < 256) : bits .or .i64 ((a * 256 : Nat) : Int) (b : Int) = ((a * 256 + b : Nat) : Int) := by
 rw [i64_or_nat (a * 256) b (by omega) (by omega)]
 have := Nat.shiftLeft_add_eq_or_of_lt (i := 8) (b := b) (by omega) a
 rw [Nat.shiftLeft_eq, show (2 : Nat) ^ 8 = 256 from rfl] at this
 omega
end Go.Proofs.YthfknndjdfofgaaGreatDoor.Rc

/-
 Contracts of package record's deframer over this seat's translation: New, pay, head, Take, Open, Count.
-/
namespace Go.Proofs.YthfknndjdfofgaaGreatDoor.Rc
open Go.RowKit Go.Proofs.YthfknndjdfofgaaGreatDoor.Wd

def Rd (w : World) (g : Nat) (d : D) : Prop := Blk w g 92 #[.int .i64 (d.a : Int), .int .i64 (d.l : Int), .int .i64 (d.n : Int), .int .i64 (d.e : Int)]
theorem set4_0 (a b c d x : Value) : (#[a, b, c, d] : Array Value).setIfInBounds 0 x = #[x, b, c, d] := by simp
theorem set4_1 (a b c d x : Value) : (#[a, b, c, d] : Array Value).setIfInBounds 1 x = #[a, x, c, d] := by simp
theorem set4_2 (a b c d x : Value) : (#[a, b, c, d] : Array Value).setIfInBounds 2 x = #[a, b, x, d] := by simp
theorem set4_3 (a b c d x : Value) : (#[a, b, c, d] : Array Value).setIfInBounds 3 x = #[a, b, c, x] := by simp
section
variable {w : World} {g t : Nat} {a b c d x : Value}
theorem blk_0 (h : Blk w g t #[a, b, c, d]) : Blk (w.setCell ⟨g, 0, none⟩ x) g t #[x, b, c, d] := by have := h.set_ 0 x; rwa [set4_0] at this
theorem blk_1 (h : Blk w g t #[a, b, c, d]) : Blk (w.setCell ⟨g, 1, none⟩ x) g t #[a, x, c, d] := by have := h.set_ 1 x; rwa [set4_1] at this
theorem blk_2 (h : Blk w g t #[a, b, c, d]) : Blk (w.setCell ⟨g, 2, none⟩ x) g t #[a, b, x, d] := by have := h.set_ 2 x; rwa [set4_2] at this
theorem blk_3 (h : Blk w g t #[a, b, c, d]) : Blk (w.setCell ⟨g, 3, none⟩ x) g t #[a, b, c, x] := by have := h.set_ 3 x; rwa [set4_3] at this
theorem but_set {w0 : World} (h : But [g] w0 w) (o : Nat) (x : Value) : But [g] w0 (w.setCell ⟨g, o, none⟩ x) := h.set_ (p := ⟨g, o, none⟩) (.inl (by simp)) _
end
theorem new_any (w : World) : Calls Tryz.prog 26 #[] w fun e w' =>
   e = .returned (.pointer (some ⟨w.heap.size, 0, none⟩)) ∧ Rd w' w.heap.size (D.st 0) ∧ Below w.heap.size w w' := by
 go_enter Tryz.func26, Tryz.ntmps26
 go_wp2
 go_ret
 exact ⟨rfl, Blk.new _ _ _, (Below.refl _ _).alloc (Nat.le_refl _) _⟩

section
variable {w : World} {g : Nat} {d : D}
end

theorem pay_any {w : World} {g l n : Nat} (h : Rd w g ⟨5, l, n, 0⟩) (hl : 1 ≤ l ∧ l ≤ 65535) (hn : n ≤ 4611686018427387904) (c : UInt8) :
   Calls Tryz.prog 119 #[.pointer (some ⟨g, 0, none⟩)] w fun e w' => e = .returned (.tuple #[]) ∧ Rd w' g (stepD ⟨5, l, n, 0⟩ c) ∧ But [g] w w' := by
 have HB := Lib.hid h
 have hc0 : w.cell? ⟨g, 0, none⟩ = some (.int .i64 5) := by rw [Blk.cell h]; rfl
 have hc1 : w.cell? ⟨g, 1, none⟩ = some (.int .i64 (l : Int)) := by rw [Blk.cell h]; rfl
 have hc2 : w.cell? ⟨g, 2, none⟩ = some (.int .i64 (n : Int)) := by rw [Blk.cell h]; rfl
 have hf0 := Blk.frozen h 0
 have hf1 := Blk.frozen h 1
 have hf2 := Blk.frozen h 2
 clear h
 by_cases h1 : l = 1
 · subst h1
   go_enter Tryz.func119, Tryz.ntmps119
   go_wp2
   go_end0
   exact ⟨rfl, blk_0 (blk_2 (blk_1 HB.out)), but_set (but_set (but_set (But.refl _ _) _ _) _ _) _ _⟩
 · have hs : stepD ⟨5, l, n, 0⟩ c = ⟨5, l - 1, n, 0⟩ := by
     unfold stepD
     rw [if_neg (by simp), if_neg (by simp), if_neg (by simp), if_neg (by simp), if_neg (by simp), if_neg (by simp), if_neg h1]
   have HS := Lib.hid hs
   obtain ⟨m, rfl⟩ : ∃ m, l = m + 1 := ⟨l - 1, by omega⟩
   have hm : (m : Int) ≠ 0 := by omega
   clear hs h1
   go_enter Tryz.func119, Tryz.ntmps119
   go_wp2
   go_end0
   refine ⟨rfl, ?_, but_set (But.refl _ _) _ _⟩
   rw [HS.out]
   have hb := blk_1 (x := .int .i64 (m : Int)) HB.out
   first | exact hb | (simpa using hb)

end Go.Proofs.YthfknndjdfofgaaGreatDoor.Rc

/-
 Contract of Take, package record, over this seat's translation: one byte is one step.
-/
namespace Go.Proofs.YthfknndjdfofgaaGreatDoor.Rc
open Go.RowKit Go.Proofs.YthfknndjdfofgaaGreatDoor.Wd

def HeadPost (w : World) (g : Nat) (s : D) (e : Ending) (w' : World) : Prop :=
 e = .returned (.int .i64 (s.e : Int)) ∧ Blk w' g 92 #[.int .i64 (s.a : Int), .int .i64 (s.l : Int), .int .i64 (s.n : Int), .int .i64 0] ∧ But [g] w w'
set_option maxRecDepth 100000 in
set_option maxHeartbeats 1000000 in
theorem head_any {w : World} {g a l n : Nat} (h : Rd w g ⟨a, l, n, 0⟩) (ha : a ≤ 4) (hl : a = 4 → l % 256 = 0 ∧ l ≤ 16384) (c : UInt8) :
   Calls Tryz.prog 120 #[.pointer (some ⟨g, 0, none⟩), .int .u8 (c.toNat : Int)] w (HeadPost w g (stepD ⟨a, l, n, 0⟩ c)) := by
 have HB := Lib.hid h
 have hc0 : w.cell? ⟨g, 0, none⟩ = some (.int .i64 (a : Int)) := by rw [Blk.cell h]; rfl
 have hc1 : w.cell? ⟨g, 1, none⟩ = some (.int .i64 (l : Int)) := by rw [Blk.cell h]; rfl
 have hf0 := Blk.frozen h 0
 have hf1 := Blk.frozen h 1
 have hb := c.toNat_lt
 have Hdef := Lib.hid (show stepD ⟨a, l, n, 0⟩ c = _ from by unfold stepD; rw [if_neg (by simp)])
 simp only at Hdef
 generalize stepD ⟨a, l, n, 0⟩ c = s at *
 generalize c.toNat = b at *
 clear h
 obtain rfl | rfl | rfl | rfl | rfl : a = 0 ∨ a = 1 ∨ a = 2 ∨ a = 3 ∨ a = 4 := by omega
 · by_cases hy : b = 22
   · have HS := Lib.hid (show s = ⟨1, l, n, 0⟩ from by rw [Hdef.out, if_pos rfl, if_pos hy])
     have hbi : (b : Int) = 22 := by omega
     clear Hdef hl hy
     go_enter Tryz.func120, Tryz.ntmps120
     go_wp2
     go_ret
     rw [HS.out]
     exact ⟨rfl, blk_0 HB.out, but_set (But.refl _ _) _ _⟩
   · have HS := Lib.hid (show s = ⟨0, l, n, 4⟩ from by rw [Hdef.out, if_pos rfl, if_neg hy])
     have hbi : (b : Int) ≠ 22 := by omega
     clear Hdef hl hy
     go_enter Tryz.func120, Tryz.ntmps120
     go_wp2
     go_ret
     rw [HS.out]
     exact ⟨rfl, HB.out, But.refl _ _⟩
 · by_cases hy : b = 3
   · have HS := Lib.hid (show s = ⟨2, l, n, 0⟩ from by rw [Hdef.out, if_neg (by simp), if_pos rfl, if_pos hy])
     have hbi : (b : Int) = 3 := by omega
     clear Hdef hl hy
     go_enter Tryz.func120, Tryz.ntmps120
     go_wp2
     go_ret
     rw [HS.out]
     exact ⟨rfl, blk_0 HB.out, but_set (But.refl _ _) _ _⟩
   · have HS := Lib.hid (show s = ⟨1, l, n, 5⟩ from by rw [Hdef.out, if_neg (by simp), if_pos rfl, if_neg hy])
     have hbi : (b : Int) ≠ 3 := by omega
     clear Hdef hl hy
     go_enter Tryz.func120, Tryz.ntmps120
     go_wp2
     go_ret
     rw [HS.out]
     exact ⟨rfl, HB.out, But.refl _ _⟩
 · by_cases hy : b ≤ 4
   · have HS := Lib.hid (show s = ⟨3, l, n, 0⟩ from by rw [Hdef.out, if_neg (by simp), if_neg (by simp), if_pos rfl, if_pos hy])
     have hbi : (b : Int) ≤ 4 := by omega
     clear Hdef hl hy
     go_enter Tryz.func120, Tryz.ntmps120
     go_wp2
     go_ret
     rw [HS.out]
     exact ⟨rfl, blk_0 HB.out, but_set (But.refl _ _) _ _⟩
   · have HS := Lib.hid (show s = ⟨2, l, n, 5⟩ from by rw [Hdef.out, if_neg (by simp), if_neg (by simp), if_pos rfl, if_neg hy])
     have hbi : 4 < (b : Int) := by omega
     clear Hdef hl hy
     go_enter Tryz.func120, Tryz.ntmps120
     go_wp2
     go_ret
     rw [HS.out]
     exact ⟨rfl, HB.out, But.refl _ _⟩
 · by_cases hy : b * 256 ≤ 16384
   · have HS := Lib.hid (show s = ⟨4, b * 256, n, 0⟩ from by rw [Hdef.out, if_neg (by simp), if_neg (by simp), if_neg (by simp), if_pos rfl, if_pos hy])
     have hbi : (b : Int) * 256 ≤ 16384 := by omega
     clear Hdef hl hy
     go_enter Tryz.func120, Tryz.ntmps120
     go_wp2
     go_ret
     rw [HS.out]
     refine ⟨rfl, ?_, but_set (but_set (But.refl _ _) _ _) _ _⟩
     have h := blk_0 (x := .int .i64 4) (blk_1 (x := .int .i64 ((b : Int) * 256)) HB.out)
     simpa using h
   · have HS := Lib.hid (show s = ⟨3, b * 256, n, 6⟩ from by rw [Hdef.out, if_neg (by simp), if_neg (by simp), if_neg (by simp), if_pos rfl, if_neg hy])
     have hbi : 16384 < (b : Int) * 256 := by omega
     clear Hdef hl hy
     go_enter Tryz.func120, Tryz.ntmps120
     go_wp2
     go_ret
     rw [HS.out]
     refine ⟨rfl, ?_, but_set (But.refl _ _) _ _⟩
     have h := blk_1 (x := .int .i64 ((b : Int) * 256)) HB.out
     simpa using h
 · obtain ⟨m, rfl⟩ : ∃ m, l = m * 256 := ⟨l / 256, by have := hl rfl; omega⟩
   have hor := or_byte m b (by have := hl rfl; omega) (by omega)
   have hmb : m * 256 + b ≤ 16639 := by have := hl rfl; omega
   obtain ⟨v, hv⟩ : ∃ v, v = m * 256 + b := ⟨_, rfl⟩
   rw [← hv] at hor hmb
   rw [← hv] at Hdef
   by_cases hy : 1 ≤ v ∧ v ≤ 16384
   · have HS := Lib.hid (show s = ⟨5, v, n, 0⟩ from by rw [Hdef.out, if_neg (by simp), if_neg (by simp), if_neg (by simp), if_neg (by simp), if_pos rfl, if_pos hy])
     have h1 : (1 : Int) ≤ (v : Int) := by omega
     have h2 : (v : Int) ≤ 16384 := by omega
     generalize m * 256 = l at *
     clear Hdef hl hy hv
     go_enter Tryz.func120, Tryz.ntmps120
     go_wp2
     go_ret
     rw [HS.out]
     exact ⟨rfl, blk_0 (blk_1 HB.out), but_set (but_set (But.refl _ _) _ _) _ _⟩
   · have HS := Lib.hid (show s = ⟨4, v, n, 6⟩ from by rw [Hdef.out, if_neg (by simp), if_neg (by simp), if_neg (by simp), if_neg (by simp), if_pos rfl, if_neg hy])
     generalize m * 256 = l at *
     by_cases h0 : v < 1
     · have h1 : (v : Int) < 1 := by omega
       clear Hdef hl hy hv
       go_enter Tryz.func120, Tryz.ntmps120
       go_wp2
       go_ret
       rw [HS.out]
       exact ⟨rfl, blk_1 HB.out, but_set (But.refl _ _) _ _⟩
     · have h1 : (1 : Int) ≤ (v : Int) := by omega
       have h2 : (16384 : Int) < (v : Int) := by omega
       clear Hdef hl hy hv
       go_enter Tryz.func120, Tryz.ntmps120
       go_wp2
       go_ret
       rw [HS.out]
       exact ⟨rfl, blk_1 HB.out, but_set (But.refl _ _) _ _⟩

def TakePost (w : World) (g : Nat) (d : D) (c : UInt8) (e : Ending) (w' : World) : Prop :=
 e = .returned (.tuple #[.bool (payD d), .int .i64 ((stepD d c).e : Int)]) ∧ Rd w' g (stepD d c) ∧ But [g] w w'
set_option maxRecDepth 100000 in
set_option maxHeartbeats 1000000 in
theorem take_any {w : World} {g : Nat} {d : D} (h : Rd w g d) (hd : OkD d) (hn : d.n ≤ 4611686018427387904) (c : UInt8) :
   Calls Tryz.prog 75 #[.pointer (some ⟨g, 0, none⟩), .int .u8 (c.toNat : Int)] w (TakePost w g d c) := by
 obtain ⟨a, l, n, e⟩ := d
 have HB := Lib.hid h
 have hc0 : w.cell? ⟨g, 0, none⟩ = some (.int .i64 (a : Int)) := by rw [Blk.cell h]; rfl
 have hc3 : w.cell? ⟨g, 3, none⟩ = some (.int .i64 (e : Int)) := by rw [Blk.cell h]; rfl
 simp only at hn
 obtain ⟨hd1, hd2, hd3, hd4⟩ := hd
 simp only at hd1 hd2 hd3 hd4
 unfold TakePost
 by_cases he : e = 0
 · subst he
   have hd3 := hd3 rfl
   by_cases ha : a = 5
   · subst ha
     have HP := Lib.hid (show payD ⟨5, l, n, 0⟩ = true from rfl)
     have HE := Lib.hid (show (stepD ⟨5, l, n, 0⟩ c).e = 0 from by unfold stepD; simp only; split <;> first | rfl | (split <;> rfl) | skip <;> simp <;> split <;> rfl)
     have HC := Lib.hid (pay_any h ⟨hd3.1 rfl, hd2⟩ hn c)
     generalize stepD ⟨5, l, n, 0⟩ c = s at *
     clear h hd3
     go_enter Tryz.func75, Tryz.ntmps75
     go_wp2_with fail
     refine HC.out.mono ?_
     rintro e w1 ⟨rfl, hr, hbut⟩
     have HR := Lib.hid hr
     clear hr
     go_wp2_with fail
     go_ret2
     rw [HP.out, HE.out]
     exact ⟨rfl, HR.out, hbut⟩
   · have ha4 : a ≤ 4 := by omega
     have hai : (a : Int) ≠ 5 := by omega
     have HP := Lib.hid (show payD ⟨a, l, n, 0⟩ = false from decide_eq_false (fun h => by have := h.2; simp only at this; omega))
     have HC := Lib.hid (head_any h ha4 (fun h => hd3.2 h) c)
     generalize stepD ⟨a, l, n, 0⟩ c = s at *
     clear h hd3
     go_enter Tryz.func75, Tryz.ntmps75
     go_wp2_with fail
     refine HC.out.mono ?_
     rintro e w1 ⟨rfl, hb1, hbut⟩
     have hf3 := hb1.frozen 3
     have hc4 : w1.cell? ⟨g, 3, none⟩ = some (.int .i64 0) := by rw [hb1.cell]; rfl
     have HR := Lib.hid hb1
     have hlt := hb1.lt
     clear hb1
     go_wp2_with fail
     go_quiet (fail)
     go_wp2
     go_ret2
     rw [HP.out]
     exact ⟨rfl, blk_3 HR.out, (but_set hbut _ _).drewN _⟩
 · have hei : (e : Int) ≠ 0 := by omega
   have HP := Lib.hid (payD_no (d := ⟨a, l, n, e⟩) he)
   have HS := Lib.hid (stepD_stay (d := ⟨a, l, n, e⟩) he c)
   clear h hd3
   go_enter Tryz.func75, Tryz.ntmps75
   go_wp2
   go_quiet (fail)
   go_wp2
   go_ret2
   rw [HP.out, HS.out]
   exact ⟨rfl, HB.out, (But.refl _ _).drewN _⟩
end Go.Proofs.YthfknndjdfofgaaGreatDoor.Rc

/-
 Contract of package record's All over this seat's translation.
-/
namespace Go.Proofs.YthfknndjdfofgaaGreatDoor.Rc
open Go.RowKit Go.Proofs.YthfknndjdfofgaaGreatDoor.Wd

end Go.Proofs.YthfknndjdfofgaaGreatDoor.Rc

/-
 Contract of the document's own Take of layer 7 (hagioscoperef07): the same step.
-/
namespace Go.Proofs.YthfknndjdfofgaaGreatDoor.Rc
open Go.RowKit Go.Proofs.YthfknndjdfofgaaGreatDoor.Wd

def Rr (w : World) (g : Nat) (d : D) : Prop :=
 ∃ A S : Nat, Blk w g 54 #[.int .i64 (A : Int), .int .i64 (S : Int), .int .i64 (d.e : Int), .int .i64 (d.n : Int)] ∧ S ≤ 70000 ∧ A ≤ 100000 ∧
   (d.e = 0 → (d.a ≤ 4 → A = d.a) ∧ (d.a = 4 → S = d.l) ∧ (d.a = 5 → 5 ≤ A ∧ S + 5 = A + d.l))
section
variable {w : World} {g l n S : Nat} {c : UInt8}
set_option maxRecDepth 100000
set_option maxHeartbeats 1000000
end
end Go.Proofs.YthfknndjdfofgaaGreatDoor.Rc

/-
 Contracts of package shake's messages over this seat's translation: New, Want, whole, Body, begin, Take.
-/
namespace Go.Proofs.YthfknndjdfofgaaGreatDoor.Sh
open Go.RowKit Go.Proofs.YthfknndjdfofgaaGreatDoor.Wd

def Rd (w : World) (g : Nat) (p : Option Nat) (m : M) : Prop :=
 ∃ c, Blk w g 94 #[.int .i64 (m.h : Int), .int .i64 (m.s : Int), .slice (ad p) m.b.length c, .int .i64 (m.e : Int)] ∧ At w p c m.b
section
variable {w w' : World} {g : Nat} {p : Option Nat} {m : M} {S : List Nat}
theorem Rd.but (h : Rd w g p m) (k : But S w w') (hg : g ∉ S) (hp : ∀ b, p = some b → b ∉ S) : Rd w' g p m := by
 obtain ⟨c, h1, h2⟩ := h
 exact ⟨c, h1.but k hg, h2.but k hp⟩
theorem Rd.same (h : Rd w g p m) (k : But [] w w') : Rd w' g p m := h.but k (by simp) (by simp)
theorem Rd.lt (h : Rd w g p m) : g < w.heap.size := by
 obtain ⟨c, h1, _⟩ := h
 exact h1.lt
theorem Rd.plt (h : Rd w g p m) {b : Nat} (hb : p = some b) : b < w.heap.size := by
 obtain ⟨c, _, h2⟩ := h
 exact h2.lt hb
theorem Rd.ne (h : Rd w g p m) : p ≠ some g := by
 obtain ⟨c, h1, h2⟩ := h
 exact h2.ne h1 (by decide)
end
theorem set4_0 (a b c d x : Value) : (#[a, b, c, d] : Array Value).setIfInBounds 0 x = #[x, b, c, d] := by simp
theorem set4_1 (a b c d x : Value) : (#[a, b, c, d] : Array Value).setIfInBounds 1 x = #[a, x, c, d] := by simp
theorem set4_2 (a b c d x : Value) : (#[a, b, c, d] : Array Value).setIfInBounds 2 x = #[a, b, x, d] := by simp
theorem set4_3 (a b c d x : Value) : (#[a, b, c, d] : Array Value).setIfInBounds 3 x = #[a, b, c, x] := by simp
section
variable {w : World} {g t : Nat} {a b c d x : Value}
theorem blk_0 (h : Blk w g t #[a, b, c, d]) : Blk (w.setCell ⟨g, 0, none⟩ x) g t #[x, b, c, d] := by have := h.set_ 0 x; rwa [set4_0] at this
theorem blk_1 (h : Blk w g t #[a, b, c, d]) : Blk (w.setCell ⟨g, 1, none⟩ x) g t #[a, x, c, d] := by have := h.set_ 1 x; rwa [set4_1] at this
theorem blk_2 (h : Blk w g t #[a, b, c, d]) : Blk (w.setCell ⟨g, 2, none⟩ x) g t #[a, b, x, d] := by have := h.set_ 2 x; rwa [set4_2] at this
theorem blk_3 (h : Blk w g t #[a, b, c, d]) : Blk (w.setCell ⟨g, 3, none⟩ x) g t #[a, b, c, x] := by have := h.set_ 3 x; rwa [set4_3] at this
theorem but_set {w0 : World} (h : But [g] w0 w) (o : Nat) (x : Value) : But [g] w0 (w.setCell ⟨g, o, none⟩ x) := h.set_ (p := ⟨g, o, none⟩) (.inl (by simp)) _
end

theorem new_any (w : World) : Calls Tryz.prog 27 #[] w fun e w' =>
   e = .returned (.pointer (some ⟨w.heap.size, 0, none⟩)) ∧ Rd w' w.heap.size none M.st ∧ Below w.heap.size w w' := by
 go_enter Tryz.func27, Tryz.ntmps27
 go_wp2
 go_ret
 exact ⟨rfl, ⟨0, Blk.new _ _ _, At.nil _⟩, (Below.refl _ _).alloc (Nat.le_refl _) _⟩

section
variable {w : World} {g : Nat} {p : Option Nat} {m : M}
theorem want_any (h : Rd w g p m) (k : OkM m) : Calls Tryz.prog 132 #[.pointer (some ⟨g, 0, none⟩)] w fun e w' => e = .returned (.int .i64 (wantM m : Int)) ∧ ∃ n, w' = w.drewN n := by
 obtain ⟨c, hb, -⟩ := h
 obtain ⟨h, s, b, e⟩ := m
 have h4 := k.h4
 have few := k.few
 have bd := k.bd
 simp only at h4 few bd hb
 have hc0 : w.cell? ⟨g, 0, none⟩ = some (.int .i64 (h : Int)) := by rw [hb.cell]; rfl
 have hc1 : w.cell? ⟨g, 1, none⟩ = some (.int .i64 (s : Int)) := by rw [hb.cell]; rfl
 have hc2 : w.cell? ⟨g, 2, none⟩ = some (.slice (ad p) b.length c) := by rw [hb.cell]; rfl
 have hc3 : w.cell? ⟨g, 3, none⟩ = some (.int .i64 (e : Int)) := by rw [hb.cell]; rfl
 clear hb k
 by_cases he : e = 0
 · subst he
   have few := few rfl
   have bd := bd rfl
   by_cases h3 : h < 4
   · have HW := Lib.hid (show wantM ⟨h, s, b, 0⟩ = 4 - h from by unfold wantM; rw [if_neg (by simp), if_pos h3])
     rw [HW.out]
     have h3i : (h : Int) < 4 := by omega
     have hsub : ((4 - h : Nat) : Int) = 4 - (h : Int) := by omega
     rw [hsub]
     clear hsub few bd HW
     go_enter Tryz.func132, Tryz.ntmps132
     go_wp2
     go_ret
     exact ⟨rfl, 0, rfl⟩
   · have HW := Lib.hid (show wantM ⟨h, s, b, 0⟩ = s - b.length from by unfold wantM; rw [if_neg (by simp), if_neg h3])
     rw [HW.out]
     generalize b.length = n at *
     generalize ad p = A at *
     have h3i : ¬ (h : Int) < 4 := by omega
     have hw : IntKind.i64.wrap ((s : Int) - (n : Int)) = ((s - n : Nat) : Int) := by rw [IntWalk.i64_in _ (by omega)]; omega
     clear HW
     go_enter Tryz.func132, Tryz.ntmps132
     go_wp2
     go_quiet (fail)
     go_wp2
     go_ret
     exact ⟨rfl, _, rfl⟩
 · have HW := Lib.hid (show wantM ⟨h, s, b, e⟩ = 0 from by unfold wantM; rw [if_pos he])
   rw [HW.out]
   have hei : (e : Int) ≠ 0 := by omega
   clear few bd HW
   go_enter Tryz.func132, Tryz.ntmps132
   go_wp2
   go_ret
   exact ⟨rfl, 0, rfl⟩
theorem whole_any (h : Rd w g p m) (k : OkM m) : Calls Tryz.prog 79 #[.pointer (some ⟨g, 0, none⟩)] w fun e w' => e = .returned (.bool (wholeM m)) ∧ ∃ n, w' = w.drewN n := by
 have HC := Lib.hid (want_any h k)
 obtain ⟨c, hb, -⟩ := h
 have hc3 : w.cell? ⟨g, 3, none⟩ = some (.int .i64 (m.e : Int)) := by rw [hb.cell]; rfl
 clear hb
 by_cases he : m.e = 0
 · have HW := Lib.hid (show wholeM m = decide (wantM m = 0) from by unfold wholeM; simp [he])
   rw [HW.out]
   clear HW
   rw [he] at hc3
   generalize wantM m = n at *
   have HD := Lib.hid (show ((n : Int) == 0) = decide (n = 0) from by rw [Bool.eq_iff_iff]; simp)
   clear k he
   go_enter Tryz.func79, Tryz.ntmps79
   go_wp2_with fail
   refine HC.out.mono ?_
   rintro e w1 ⟨rfl, q, rfl⟩
   go_wp2_with fail
   go_ret
   rw [← HD.out]
   exact ⟨rfl, q, rfl⟩
 · have HW := Lib.hid (whole_bad he)
   rw [HW.out]
   have hei : (m.e : Int) ≠ 0 := by omega
   clear HW HC
   generalize m.e = e at *
   go_enter Tryz.func79, Tryz.ntmps79
   go_wp2_with fail
   go_ret
   exact ⟨rfl, 0, rfl⟩
theorem body_any (h : Rd w g p m) (k : OkM m) : Calls Tryz.prog 45 #[.pointer (some ⟨g, 0, none⟩)] w fun e w' => ∃ v, e = .returned v ∧ Own w' w.heap.size v (bodyM m) ∧ Below w.heap.size w w' := by
 have HC := Lib.hid (whole_any h k)
 have HB := Lib.hid (show bodyM m = if wholeM m then m.b else [] from rfl)
 rw [HB.out]
 have hbl := k.bl
 obtain ⟨c, hb, ha⟩ := h
 have hc2 : w.cell? ⟨g, 2, none⟩ = some (.slice (ad p) m.b.length c) := by rw [hb.cell]; rfl
 have HA := Lib.hid ha.src.2
 clear hb k HB ha
 generalize m.b = b at *
 cases hw : wholeM m with
 | false =>
   rw [hw] at HC
   rw [if_neg (by simp)]
   go_enter Tryz.func45, Tryz.ntmps45
   go_wp2_with fail
   refine HC.out.mono ?_
   rintro e w1 ⟨rfl, q, rfl⟩
   go_wp2_with fail
   go_ret
   exact ⟨_, rfl, ⟨rfl, .inl ⟨rfl, rfl⟩⟩, below_drewN (Below.refl _ _) _⟩
 | true =>
   rw [hw] at HC
   rw [if_pos rfl]
   have HCl := Lib.hid (fun n => bclone_any (w.drewN n) (ad p) b.length c b HA.out (by omega))
   generalize b.length = n at *
   generalize ad p = A at *
   go_enter Tryz.func45, Tryz.ntmps45
   go_wp2_with fail
   refine HC.out.mono ?_
   rintro e w1 ⟨rfl, q, rfl⟩
   go_wp2_with fail
   refine (HCl.out q).mono ?_
   rintro e w2 ⟨v, rfl, hO, hb⟩
   have HO := Lib.hid hO
   have HB2 := Lib.hid hb
   clear hO hb
   go_wp2_with fail
   go_ret
   exact ⟨_, rfl, HO.out, (below_drewN (Below.refl _ _) q).trans HB2.out⟩
end
end Go.Proofs.YthfknndjdfofgaaGreatDoor.Sh

/-
 Contracts of package shake's begin and Take over this seat's translation: one byte is one step.
-/
namespace Go.Proofs.YthfknndjdfofgaaGreatDoor.Sh
open Go.RowKit Go.Proofs.YthfknndjdfofgaaGreatDoor.Wd

theorem zero_or (b : Nat) (hb : b < 9223372036854775808) : bits .or .i64 (0 : Int) (b : Int) = (b : Int) := by
 have h := Rc.i64_or_nat 0 b (by omega) hb
 rw [Nat.zero_or] at h
 exact h

theorem shl_16 (b : Nat) (hb : b < 256) : Op.shift .shl .i64 (b : Int) .i64 16 = pure (.int .i64 ((b * 65536 : Nat) : Int)) := by
 have h2 : (2 : Int) ^ min (16 : Int).toNat IntKind.i64.bits = 65536 := by decide
 rw [shift_shl_any _ _ _ _ (by decide), h2, IntWalk.i64_in _ (by omega)]
 congr 2
theorem shl_8 (b : Nat) (hb : b < 256) : Op.shift .shl .i64 (b : Int) .i64 8 = pure (.int .i64 ((b * 256 : Nat) : Int)) := by
 have h2 : (2 : Int) ^ min (8 : Int).toNat IntKind.i64.bits = 256 := by decide
 rw [shift_shl_any _ _ _ _ (by decide), h2, IntWalk.i64_in _ (by omega)]
 congr 2
theorem shl_0 (b : Nat) (hb : b < 256) : Op.shift .shl .i64 (b : Int) .i64 0 = pure (.int .i64 (b : Int)) := by
 have h2 : (2 : Int) ^ min (0 : Int).toNat IntKind.i64.bits = 1 := by decide
 rw [shift_shl_any _ _ _ _ (by decide), h2, IntWalk.i64_in _ (by omega)]
 congr 2
 omega
def BeginPost (w : World) (g : Nat) (A : Option Addr) (c : Nat) (s : M) (e : Ending) (w' : World) : Prop :=
 e = .returned (.int .i64 (s.e : Int)) ∧ Blk w' g 94 #[.int .i64 (s.h : Int), .int .i64 (s.s : Int), .slice A 0 c, .int .i64 0] ∧ But [g] w w'
set_option maxRecDepth 100000 in
set_option maxHeartbeats 1000000 in
theorem begin_any {w : World} {g h s cp : Nat} {A : Option Addr} (hB : Blk w g 94 #[.int .i64 (h : Int), .int .i64 (s : Int), .slice A 0 cp, .int .i64 0]) (k : OkM ⟨h, s, [], 0⟩) (h3 : h < 4) (c : UInt8) :
   Calls Tryz.prog 121 #[.pointer (some ⟨g, 0, none⟩), .int .u8 (c.toNat : Int)] w (BeginPost w g A cp (stepM ⟨h, s, [], 0⟩ c)) := by
 have HB := Lib.hid hB
 have hc0 : w.cell? ⟨g, 0, none⟩ = some (.int .i64 (h : Int)) := by rw [Blk.cell hB]; rfl
 have hc1 : w.cell? ⟨g, 1, none⟩ = some (.int .i64 (s : Int)) := by rw [Blk.cell hB]; rfl
 have hf0 := Blk.frozen hB 0
 have hf1 := Blk.frozen hB 1
 have hb := c.toNat_lt
 have hwb : IntKind.i64.wrap (c.toNat : Int) = (c.toNat : Int) := IntWalk.i64_in _ (by omega)
 have hw2 : IntKind.i64.wrap 2 = 2 := by decide
 have hw16 : IntKind.i64.wrap 16 = 16 := by decide
 have hw8 : IntKind.i64.wrap 8 = 8 := by decide
 have hw1 : IntKind.i64.wrap 1 = 1 := by decide
 have hw0 : IntKind.i64.wrap 0 = 0 := by decide
 have lo := k.lo rfl
 have mid := k.mid rfl
 have few := k.few rfl
 simp only at lo mid few
 have Hdef := Lib.hid (show stepM ⟨h, s, [], 0⟩ c = _ from by unfold stepM; rw [if_neg (by simp)])
 simp only at Hdef
 generalize stepM ⟨h, s, [], 0⟩ c = t at *
 generalize c.toNat = b at *
 clear hB k
 obtain rfl | rfl | rfl | rfl : h = 0 ∨ h = 1 ∨ h = 2 ∨ h = 3 := by omega
 · by_cases hy : b = 1
   · have HS := Lib.hid (show t = ⟨1, s, [], 0⟩ from by rw [Hdef.out, if_pos rfl, if_pos hy])
     have hbi : (b : Int) = 1 := by omega
     clear Hdef hy lo mid
     go_enter Tryz.func121, Tryz.ntmps121
     go_wp2
     go_ret
     rw [HS.out]
     exact ⟨rfl, blk_0 HB.out, but_set (But.refl _ _) _ _⟩
   · have HS := Lib.hid (show t = ⟨0, s, [], 4⟩ from by rw [Hdef.out, if_pos rfl, if_neg hy])
     have hbi : (b : Int) ≠ 1 := by omega
     clear Hdef hy lo mid
     go_enter Tryz.func121, Tryz.ntmps121
     go_wp2
     go_ret
     rw [HS.out]
     exact ⟨rfl, HB.out, But.refl _ _⟩
 · obtain rfl : s = 0 := lo (by omega)
   have hor := zero_or (b * 65536) (by omega)
   have hsh := shl_16 b (by omega)
   obtain ⟨v, hv⟩ : ∃ v, v = b * 65536 := ⟨_, rfl⟩
   rw [← hv] at hor hsh Hdef
   have hvl : v ≤ 16711680 := by omega
   by_cases hy : v ≤ 16384
   · have HS := Lib.hid (show t = ⟨2, v, [], 0⟩ from by rw [Hdef.out, if_neg (by simp), if_pos rfl, if_pos hy])
     have hbi : (v : Int) ≤ 16384 := by omega
     clear Hdef hy lo mid hv
     go_enter Tryz.func121, Tryz.ntmps121
     go_wp2
     go_region_law (fail)
     all_goals (
       have hk := show Blk (w.setCell ⟨g, 1, none⟩ (.int .i64 (v : Int))).drew g _ _ from blk_1 (x := .int .i64 (v : Int)) HB.out
       have hu := (but_set (But.refl [g] w) 1 (.int .i64 (v : Int))).drew
       have HK := Lib.hid hk
       have HU := Lib.hid hu
       clear hc0 hc1 hf0 hf1 HB hu
       generalize (w.setCell ⟨g, 1, none⟩ (.int .i64 (v : Int))).drew = w2 at *
       have hc0 : w2.cell? ⟨g, 0, none⟩ = some (.int .i64 1) := by rw [hk.cell]; rfl
       have hc1 : w2.cell? ⟨g, 1, none⟩ = some (.int .i64 (v : Int)) := by rw [hk.cell]; rfl
       have hf0 := hk.frozen 0
       clear hk
       go_wp2
       go_ret
       rw [HS.out]
       exact ⟨rfl, blk_0 HK.out, but_set HU.out _ _⟩)
   · have HS := Lib.hid (show t = ⟨1, v, [], 6⟩ from by rw [Hdef.out, if_neg (by simp), if_pos rfl, if_neg hy])
     have hbi : 16384 < (v : Int) := by omega
     clear Hdef hy lo mid hv
     go_enter Tryz.func121, Tryz.ntmps121
     go_wp2
     go_region_law (fail)
     all_goals (
       have hk := show Blk (w.setCell ⟨g, 1, none⟩ (.int .i64 (v : Int))).drew g _ _ from blk_1 (x := .int .i64 (v : Int)) HB.out
       have hu := (but_set (But.refl [g] w) 1 (.int .i64 (v : Int))).drew
       have HK := Lib.hid hk
       have HU := Lib.hid hu
       clear hc0 hc1 hf0 hf1 HB hu
       generalize (w.setCell ⟨g, 1, none⟩ (.int .i64 (v : Int))).drew = w2 at *
       have hc0 : w2.cell? ⟨g, 0, none⟩ = some (.int .i64 1) := by rw [hk.cell]; rfl
       have hc1 : w2.cell? ⟨g, 1, none⟩ = some (.int .i64 (v : Int)) := by rw [hk.cell]; rfl
       clear hk
       go_wp2
       go_ret
       rw [HS.out]
       exact ⟨rfl, HK.out, HU.out⟩)
 · obtain rfl : s = 0 := lo (by omega)
   have hor := zero_or (b * 256) (by omega)
   have hsh := shl_8 b (by omega)
   obtain ⟨v, hv⟩ : ∃ v, v = b * 256 := ⟨_, rfl⟩
   rw [← hv] at hor hsh Hdef
   have hvl : v ≤ 16711680 := by omega
   by_cases hy : v ≤ 16384
   · have HS := Lib.hid (show t = ⟨3, v, [], 0⟩ from by rw [Hdef.out, if_neg (by simp), if_neg (by simp), if_pos rfl, if_pos hy])
     have hbi : (v : Int) ≤ 16384 := by omega
     clear Hdef hy lo mid hv
     go_enter Tryz.func121, Tryz.ntmps121
     go_wp2
     go_region_law (fail)
     all_goals (
       have hk := show Blk (w.setCell ⟨g, 1, none⟩ (.int .i64 (v : Int))).drew g _ _ from blk_1 (x := .int .i64 (v : Int)) HB.out
       have hu := (but_set (But.refl [g] w) 1 (.int .i64 (v : Int))).drew
       have HK := Lib.hid hk
       have HU := Lib.hid hu
       clear hc0 hc1 hf0 hf1 HB hu
       generalize (w.setCell ⟨g, 1, none⟩ (.int .i64 (v : Int))).drew = w2 at *
       have hc0 : w2.cell? ⟨g, 0, none⟩ = some (.int .i64 2) := by rw [hk.cell]; rfl
       have hc1 : w2.cell? ⟨g, 1, none⟩ = some (.int .i64 (v : Int)) := by rw [hk.cell]; rfl
       have hf0 := hk.frozen 0
       clear hk
       go_wp2
       go_ret
       rw [HS.out]
       exact ⟨rfl, blk_0 HK.out, but_set HU.out _ _⟩)
   · have HS := Lib.hid (show t = ⟨2, v, [], 6⟩ from by rw [Hdef.out, if_neg (by simp), if_neg (by simp), if_pos rfl, if_neg hy])
     have hbi : 16384 < (v : Int) := by omega
     clear Hdef hy lo mid hv
     go_enter Tryz.func121, Tryz.ntmps121
     go_wp2
     go_region_law (fail)
     all_goals (
       have hk := show Blk (w.setCell ⟨g, 1, none⟩ (.int .i64 (v : Int))).drew g _ _ from blk_1 (x := .int .i64 (v : Int)) HB.out
       have hu := (but_set (But.refl [g] w) 1 (.int .i64 (v : Int))).drew
       have HK := Lib.hid hk
       have HU := Lib.hid hu
       clear hc0 hc1 hf0 hf1 HB hu
       generalize (w.setCell ⟨g, 1, none⟩ (.int .i64 (v : Int))).drew = w2 at *
       have hc0 : w2.cell? ⟨g, 0, none⟩ = some (.int .i64 2) := by rw [hk.cell]; rfl
       have hc1 : w2.cell? ⟨g, 1, none⟩ = some (.int .i64 (v : Int)) := by rw [hk.cell]; rfl
       clear hk
       go_wp2
       go_ret
       rw [HS.out]
       exact ⟨rfl, HK.out, HU.out⟩)
 · obtain ⟨a, rfl⟩ : ∃ a, s = a * 256 := ⟨s / 256, by have := mid rfl; omega⟩
   have hor := Rc.or_byte a b (by omega) (by omega)
   have hsh := shl_0 b (by omega)
   obtain ⟨v, hv⟩ : ∃ v, v = a * 256 + b := ⟨_, rfl⟩
   rw [← hv] at hor Hdef
   have hvl : v ≤ 16711680 := by omega
   by_cases hy : v ≤ 16384
   · have HS := Lib.hid (show t = ⟨4, v, [], 0⟩ from by rw [Hdef.out, if_neg (by simp), if_neg (by simp), if_neg (by simp), if_pos rfl, if_pos hy])
     have hbi : (v : Int) ≤ 16384 := by omega
     generalize a * 256 = s at *
     clear Hdef hy lo mid hv
     go_enter Tryz.func121, Tryz.ntmps121
     go_wp2
     go_region_law (fail)
     all_goals (
       have hk := show Blk (w.setCell ⟨g, 1, none⟩ (.int .i64 (v : Int))).drew g _ _ from blk_1 (x := .int .i64 (v : Int)) HB.out
       have hu := (but_set (But.refl [g] w) 1 (.int .i64 (v : Int))).drew
       have HK := Lib.hid hk
       have HU := Lib.hid hu
       clear hc0 hc1 hf0 hf1 HB hu
       generalize (w.setCell ⟨g, 1, none⟩ (.int .i64 (v : Int))).drew = w2 at *
       have hc0 : w2.cell? ⟨g, 0, none⟩ = some (.int .i64 3) := by rw [hk.cell]; rfl
       have hc1 : w2.cell? ⟨g, 1, none⟩ = some (.int .i64 (v : Int)) := by rw [hk.cell]; rfl
       have hf0 := hk.frozen 0
       clear hk
       go_wp2
       go_ret
       rw [HS.out]
       exact ⟨rfl, blk_0 HK.out, but_set HU.out _ _⟩)
   · have HS := Lib.hid (show t = ⟨3, v, [], 6⟩ from by rw [Hdef.out, if_neg (by simp), if_neg (by simp), if_neg (by simp), if_pos rfl, if_neg hy])
     have hbi : 16384 < (v : Int) := by omega
     generalize a * 256 = s at *
     clear Hdef hy lo mid hv
     go_enter Tryz.func121, Tryz.ntmps121
     go_wp2
     go_region_law (fail)
     all_goals (
       have hk := show Blk (w.setCell ⟨g, 1, none⟩ (.int .i64 (v : Int))).drew g _ _ from blk_1 (x := .int .i64 (v : Int)) HB.out
       have hu := (but_set (But.refl [g] w) 1 (.int .i64 (v : Int))).drew
       have HK := Lib.hid hk
       have HU := Lib.hid hu
       clear hc0 hc1 hf0 hf1 HB hu
       generalize (w.setCell ⟨g, 1, none⟩ (.int .i64 (v : Int))).drew = w2 at *
       have hc0 : w2.cell? ⟨g, 0, none⟩ = some (.int .i64 3) := by rw [hk.cell]; rfl
       have hc1 : w2.cell? ⟨g, 1, none⟩ = some (.int .i64 (v : Int)) := by rw [hk.cell]; rfl
       clear hk
       go_wp2
       go_ret
       rw [HS.out]
       exact ⟨rfl, HK.out, HU.out⟩)
end Go.Proofs.YthfknndjdfofgaaGreatDoor.Sh

/-
 Contract of package shake's Take over this seat's translation: one byte is one step; a message of the call's own.
-/
namespace Go.Proofs.YthfknndjdfofgaaGreatDoor.Sh
open Go.RowKit Go.Proofs.YthfknndjdfofgaaGreatDoor.Wd

section
variable {w : World} {g : Nat} {p : Option Nat} {m : M}
theorem whole_quiet (h : Rd w g p m) (k : OkM m) (j : Nat) : Calls Tryz.prog 79 #[.pointer (some ⟨g, 0, none⟩)] (w.drewN j) fun e w' => e = .returned (.bool (wholeM m)) ∧ ∃ n, w' = w.drewN n :=
 (whole_any (h.same ((But.refl [] w).drewN j)) k).mono fun _ _ ⟨he, n, hn⟩ => ⟨he, j + n, by rw [hn, World.drewN_drewN]⟩
end

theorem wpList_app_b {P : Program} {w : World} {ops : Array Oper} {rest : List Oper} {o : Oper} {a : Act} {Q : Exit → Act → World → Prop} (dst : Option Tmp) (hdst : o.dst = dst) (hgd : o.guard = none) (s x : Operand) (t : TypeId)
   (ho : o.op = .call { callee := .builtin .append, args := #[s, x], argTypes := #[t, t] }) (ht : P.underlying t = some (.slice 5)) (hinfo : (P.info? 5).map (fun i => (i.zero, i.size, i.bytes)) = some (some (.int .u8 0), 1, 1))
   (p : Option Nat) (n c : Nat) (xs : List UInt8) (hs : a.eval s = .slice (ad p) n c) (hn : n = xs.length) (hat : At w p c xs) (A2 : Option Addr) (m c2 : Nat) (ys : List UInt8) (hx : a.eval x = .slice A2 m c2) (hsrc : Src w A2 m ys)
   (hlen : n + m ≤ 140737488355328)
   (h : ∀ p' c' w', Hid (At w' p' c' (xs ++ ys)) → Hid (p' = p ∨ p' = some w.heap.size) → Hid (But p.toList w w') → wpList P ops Q rest (a.put dst (.slice (ad p') (n + m) c')) w') : wpList P ops Q (o :: rest) a w := by
 subst hdst hn
 obtain ⟨i0, hi, hz0, hz1, hz2⟩ := info_parts hinfo
 obtain ⟨p', c', w', hrun, h2, h3, h4⟩ := run_app_at (ty := o.type) ht hi hz0 hz1 hz2 hat (c2 := c2) hsrc hlen
 refine wpList_plain hgd fun K hK => ?_
 unfold Oper.wp execOp
 simp only [ho, resolve, invoke, builtin, Sem.run_bind, Sem.run_pure, Result.andThen_ok, List.map_toArray, List.map_cons, List.map_nil, hs, hx, hrun]
 exact hK _ _ (h p' c' w' h2 h3 h4)

def TakePost (w : World) (g : Nat) (p : Option Nat) (s : M) (e : Ending) (w' : World) : Prop :=
 e = .returned (.tuple #[.bool (wholeM s), .int .i64 (s.e : Int)]) ∧ ∃ p', Rd w' g p' s ∧ (∀ b, p' = some b → p = some b ∨ w.heap.size ≤ b) ∧ But (g :: p.toList) w w'
section
variable {w : World} {g : Nat} {p : Option Nat}
set_option maxHeartbeats 1000000
theorem take_bad {m : M} (hr : Rd w g p m) (k : OkM m) (he : m.e ≠ 0) (c : UInt8) :
   Calls Tryz.prog 76 #[.pointer (some ⟨g, 0, none⟩), .int .u8 (c.toNat : Int)] w (TakePost w g p m) := by
 have HR := Lib.hid hr
 have HW := Lib.hid (whole_quiet hr k)
 obtain ⟨cp, hb, -⟩ := hr
 have hc3 : w.cell? ⟨g, 3, none⟩ = some (.int .i64 (m.e : Int)) := by rw [hb.cell]; rfl
 have hei : (m.e : Int) ≠ 0 := by omega
 have hei2 : ((m.e : Int) == 0) = false := by rw [beq_eq_false_iff_ne]; exact hei
 unfold TakePost
 clear hb k he
 go_enter Tryz.func76, Tryz.ntmps76
 go_wp2_with fail
 go_quiet (first | (go_at_call 79; exact HW.out _))
 go_wp2_with fail
 go_ret2
 exact ⟨rfl, p, HR.out.same ((But.refl [] w).drewN _), fun b hb => .inl hb, (But.refl _ w).drewN _⟩
theorem take_done {m : M} (hr : Rd w g p m) (k : OkM m) (he : m.e = 0) (h4 : m.h = 4) (hs : m.b.length = m.s) (c : UInt8) :
   Calls Tryz.prog 76 #[.pointer (some ⟨g, 0, none⟩), .int .u8 (c.toNat : Int)] w (TakePost w g p m) := by
 have HR := Lib.hid hr
 have K := Lib.hid k
 have few := k.few he
 obtain ⟨cp, hb, -⟩ := hr
 unfold TakePost
 rw [he, h4, ← hs] at hb
 rw [he]
 rw [← hs] at few
 have hc0 : w.cell? ⟨g, 0, none⟩ = some (.int .i64 4) := by rw [hb.cell]; rfl
 have hc1 : w.cell? ⟨g, 1, none⟩ = some (.int .i64 (m.b.length : Int)) := by rw [hb.cell]; rfl
 have hc2 : w.cell? ⟨g, 2, none⟩ = some (.slice (ad p) m.b.length cp) := by rw [hb.cell]; rfl
 have hc3 : w.cell? ⟨g, 3, none⟩ = some (.int .i64 0) := by rw [hb.cell]; rfl
 clear hb k he h4 hs
 generalize m.b.length = n at *
 generalize ad p = A at *
 go_enter Tryz.func76, Tryz.ntmps76
 go_wp2_with fail
 go_quiet (fail)
 have HR1 := Lib.hid (HR.out.same ((But.refl [] w).drewN nq))
 have HL1 := Lib.hid (show But (g :: p.toList) w (w.drewN nq) from (But.refl _ w).drewN nq)
 have hq3 : (w.drewN nq).cell? ⟨g, 3, none⟩ = some (.int .i64 0) := hc3
 clear HR hc0 hc1 hc2 hc3
 generalize w.drewN nq = w1 at *
 have HW := Lib.hid (whole_quiet HR1.out K.out)
 go_wp2_with fail
 go_quiet (first | (go_at_call 79; exact HW.out _))
 go_wp2_with fail
 go_ret2
 exact ⟨rfl, p, HR1.out.same ((But.refl [] w1).drewN _), fun b hb => .inl hb, HL1.out.drewN _⟩
theorem stepM_b {m : M} (h : m.h < 4) (c : UInt8) : (stepM m c).b = m.b := by
 unfold stepM
 repeat' split
 all_goals first | rfl | omega
theorem take_head {m : M} (hr : Rd w g p m) (k : OkM m) (he : m.e = 0) (h4 : m.h < 4) (c : UInt8) :
   Calls Tryz.prog 76 #[.pointer (some ⟨g, 0, none⟩), .int .u8 (c.toNat : Int)] w (TakePost w g p (stepM m c)) := by
 have hno := k.no h4
 have hsb := stepM_b h4 c
 have k2 := stepM_ok k c
 have hpg := hr.ne
 obtain ⟨cp, hb, ha⟩ := hr
 obtain ⟨h, s, b, e⟩ := m
 simp only at he hno hb ha h4 hsb
 subst he hno
 unfold TakePost
 have hc0 : w.cell? ⟨g, 0, none⟩ = some (.int .i64 (h : Int)) := by rw [hb.cell]; rfl
 have hc3 : w.cell? ⟨g, 3, none⟩ = some (.int .i64 0) := by rw [hb.cell]; rfl
 have h4i : (h : Int) < 4 := by omega
 have HBg := Lib.hid (begin_any hb k h4 c)
 have HA := Lib.hid ha
 have K2 := Lib.hid k2
 have Hpg := Lib.hid hpg
 have Hsb := Lib.hid hsb
 clear hb ha k k2 hpg hsb
 generalize stepM ⟨h, s, [], 0⟩ c = t at *
 unfold BeginPost at HBg
 go_enter Tryz.func76, Tryz.ntmps76
 go_wp2_with fail
 refine HBg.out.mono ?_
 rintro e w1 ⟨rfl, hb1, hu1⟩
 have hf3 := hb1.frozen 3
 have hq3 : w1.cell? ⟨g, 3, none⟩ = some (.int .i64 0) := by rw [hb1.cell]; rfl
 have hb2 := blk_3 (x := .int .i64 (t.e : Int)) hb1
 have hu2 := but_set hu1 3 (.int .i64 (t.e : Int))
 have hr2 : Rd (w1.setCell ⟨g, 3, none⟩ (.int .i64 (t.e : Int))) g p t := by
   refine ⟨cp, ?_, ?_⟩
   · rw [Hsb.out]; exact hb2
   · rw [Hsb.out]
     exact HA.out.but hu2 (fun b hb hm => by simp at hm; subst hm; exact Hpg.out hb)
 have HR2 := Lib.hid hr2
 have HU2 := Lib.hid hu2
 have HW := Lib.hid (whole_quiet hr2 K2.out)
 have hr3 : (w1.setCell ⟨g, 3, none⟩ (.int .i64 (t.e : Int))).cell? ⟨g, 3, none⟩ = some (.int .i64 (t.e : Int)) := by rw [hb2.cell]; rfl
 clear hb1 hu1 hb2 hu2 hr2 HBg hc0 hc3
 go_wp2_with fail
 generalize w1.setCell ⟨g, 3, none⟩ (.int .i64 (t.e : Int)) = w2 at *
 go_quiet (first | (go_at_call 79; exact HW.out _))
 go_wp2_with fail
 go_ret2
 exact ⟨rfl, p, HR2.out.same ((But.refl [] w2).drewN _), fun b hb => .inl hb, (HU2.out.more (by simp)).drewN _⟩
theorem take_body {m : M} (hr : Rd w g p m) (k : OkM m) (he : m.e = 0) (h4 : m.h = 4) (hs : m.b.length < m.s) (c : UInt8) :
   Calls Tryz.prog 76 #[.pointer (some ⟨g, 0, none⟩), .int .u8 (c.toNat : Int)] w (TakePost w g p (stepM m c)) := by
 have few := k.few he
 have hst := stepM_body he h4 hs c
 have k2 := stepM_ok k c
 have hpg := hr.ne
 obtain ⟨cp, hb, ha⟩ := hr
 unfold TakePost
 rw [he, h4] at hb
 have hc0 : w.cell? ⟨g, 0, none⟩ = some (.int .i64 4) := by rw [hb.cell]; rfl
 have hc1 : w.cell? ⟨g, 1, none⟩ = some (.int .i64 (m.s : Int)) := by rw [hb.cell]; rfl
 have hc2 : w.cell? ⟨g, 2, none⟩ = some (.slice (ad p) m.b.length cp) := by rw [hb.cell]; rfl
 have hc3 : w.cell? ⟨g, 3, none⟩ = some (.int .i64 0) := by rw [hb.cell]; rfl
 have HB := Lib.hid hb
 have HA := Lib.hid ha
 have K2 := Lib.hid k2
 have Hpg := Lib.hid hpg
 have Hst := Lib.hid hst
 have hsi : (m.b.length : Int) < (m.s : Int) := by omega
 clear hb ha k k2 hpg hst he h4 hs
 generalize stepM m c = t at *
 rw [show t.e = 0 from by rw [Hst.out]]
 obtain ⟨h, s, b, e⟩ := m
 simp only at *
 obtain ⟨n, hn⟩ : ∃ n, n = b.length := ⟨_, rfl⟩
 have HN := Lib.hid hn
 rw [← hn] at hc2 hsi HB
 clear hn
 go_enter Tryz.func76, Tryz.ntmps76
 go_wp2_with fail
 go_quiet (fail)
 have HB1 := Lib.hid (show Blk (w.drewN nq) g _ _ from HB.out)
 have HA1 := Lib.hid (HA.out.but ((But.refl [] w).drewN nq) (by simp))
 have HL1 := Lib.hid (show But (g :: p.toList) w (w.drewN nq) from (But.refl _ w).drewN nq)
 have HZ := Lib.hid (show (w.drewN nq).heap.size = w.heap.size from rfl)
 have hlt1 : g < (w.drewN nq).heap.size := HB.out.lt
 have hq2 : (w.drewN nq).cell? ⟨g, 2, none⟩ = some (.slice (ad p) n cp) := hc2
 clear HB HA hc0 hc1 hc2 hc3
 have Hsrc := Lib.hid (Src.marked (w.drewN nq) #[.int .u8 (c.toNat : Int)] 5 (0, 0) [c] rfl)
 have HA2 := Lib.hid (HA1.out.but ((But.refl [] (w.drewN nq)).alloc (.cells #[.int .u8 (c.toNat : Int)] 5)) (by simp))
 have HB2 := Lib.hid (HB1.out.alloc (.cells #[.int .u8 (c.toNat : Int)] 5))
 have HL2 := Lib.hid (HL1.out.alloc (.cells #[.int .u8 (c.toNat : Int)] 5))
 have hgp : g ∉ p.toList := by
   intro hx
   rw [Option.mem_toList] at hx
   exact Hpg.out hx
 have HZ2 := Lib.hid (show w.heap.size ≤ ((w.drewN nq).alloc (.cells #[.int .u8 (c.toNat : Int)] 5)).heap.size from by simp [World.drewN])
 have hf2 := HB2.out.frozen 2
 clear HA1 HB1 HL1 HZ
 go_wp2_with (at_builtin; refine wpList_app_b (some 42) rfl rfl (.tmp 39) (.tmp 41) 22 rfl und8 inf8 p n cp b rfl HN.out HA2.out _ 1 1 [c] rfl Hsrc.out (by omega) ?_; intro p2 c2 w2 HA3 HP3 HU3; have hx := HB2.out.but HU3.out hgp; have q2 : w2.cell? ⟨g, 2, none⟩ = some (.slice (ad p) n cp) := hx.cell 2; have hfr2 := hx.frozen 2; have HX := Lib.hid hx; clear hx)
 have hb3 := blk_2 (x := .slice (ad p2) (n + 1) c2) HX.out
 have hn2 : p2 ≠ some g := by
   rcases HP3.out with h | h
   · rw [h]; exact Hpg.out
   · rw [h]
     intro e
     injection e with e
     have h1 := HB2.out.lt
     omega
 have hbut : But [g] w2 (w2.setCell ⟨g, 2, none⟩ (.slice (ad p2) (n + 1) c2)) := but_set (But.refl _ _) _ _
 have hr3 : Rd (w2.setCell ⟨g, 2, none⟩ (.slice (ad p2) (n + 1) c2)) g p2 t := by
   refine ⟨c2, ?_, ?_⟩
   · rw [Hst.out]
     have hl : (b ++ [c]).length = n + 1 := by rw [List.length_append, HN.out]; rfl
     rw [hl]
     exact hb3
   · rw [Hst.out]
     exact HA3.out.but hbut (fun x hx hm => by simp at hm; subst hm; exact hn2 hx)
 have HR3 := Lib.hid hr3
 have HL3 := Lib.hid ((HL2.out.trans (HU3.out.more (fun i hi => List.mem_cons_of_mem _ hi))).trans (hbut.more (T := g :: p.toList) (by simp)))
 have HP4 := Lib.hid (show ∀ x, p2 = some x → p = some x ∨ w.heap.size ≤ x from fun x hx => by
   rcases HP3.out with h | h
   · exact .inl (by rw [← h]; exact hx)
   · rw [hx] at h
     injection h with h
     exact .inr (by rw [h]; exact HZ2.out))
 have hq3 : (w2.setCell ⟨g, 2, none⟩ (.slice (ad p2) (n + 1) c2)).cell? ⟨g, 3, none⟩ = some (.int .i64 0) := hb3.cell 3
 have HW := Lib.hid (whole_quiet hr3 K2.out)
 clear hb3 hn2 hbut hr3 q2 hfr2 hf2 HX HA3 HU3 HP3 HA2 HB2 HL2 HZ2 Hsrc hq2
 generalize w2.setCell ⟨g, 2, none⟩ (.slice (ad p2) (n + 1) c2) = w3 at *
 go_wp2_with fail
 go_quiet (first | (go_at_call 79; exact HW.out _))
 go_wp2_with fail
 go_ret2
 exact ⟨rfl, p2, HR3.out.same ((But.refl [] w3).drewN _), HP4.out, HL3.out.drewN _⟩
theorem take_any {m : M} (hr : Rd w g p m) (k : OkM m) (c : UInt8) :
   Calls Tryz.prog 76 #[.pointer (some ⟨g, 0, none⟩), .int .u8 (c.toNat : Int)] w (TakePost w g p (stepM m c)) := by
 by_cases he : m.e = 0
 · by_cases h4 : m.h < 4
   · exact take_head hr k he h4 c
   · have h4 : m.h = 4 := by have := k.h4; omega
     by_cases hs : m.b.length < m.s
     · exact take_body hr k he h4 hs c
     · have hs : m.b.length = m.s := by have := k.bd he; omega
       rw [stepM_done h4 (by omega) c]
       exact take_done hr k he h4 hs c
 · rw [stepM_bad he c]
   exact take_bad hr k he c
end

structure Kept (B : Nat) (w w' : World) (g : Nat) (p : Option Nat) (m : M) : Prop where
 rd : Rd w' g p m
 ok : OkM m
 bel : Below B w w'
 hg : B ≤ g
 hp : ∀ b, p = some b → B ≤ b
 hB : B ≤ w'.heap.size
section
variable {B : Nat} {w a b : World} {g : Nat} {p : Option Nat} {m : M}
end
end Go.Proofs.YthfknndjdfofgaaGreatDoor.Sh
