/-
  What the library's variables hold where a call begins, and what stands of it behind; strings.Cut, Count, HasPrefix and strconv.Itoa so (for seats without package addr).
-/
import Derived.Test.YtgbhnjkigjecmaaGreatDoorQ01
import Derived.Test.YtgbhnjkigjecmaaGreatDoorQ12
import Derived.Test.YtgbhnjkigjecmaaGreatDoorShelf
import Derived.Lib.AppendIntMem
import Derived.Test.YtgbhnjkigjecmaaGreatDoorQ08
import Derived.Deep.QuietTactic
namespace Go.Proofs.YtgbhnjkigjecmaaGreatDoor.Tx
open Go.RowKit Go.Proofs.YtgbhnjkigjecmaaGreatDoor.Wd Go.Proofs.YtgbhnjkigjecmaaGreatDoor.Asc

structure Env (B : Nat) (w : World) : Prop where
  max : ∃ m, w.cell? ⟨0, 0, none⟩ = some (.int .i64 m)
  tab : Lib.TabBelow Tryz.prog B w "internal/strconv.uint64pow10" .u64 Lib.pow10Tab
  low : 0 < B
  le : B ≤ w.heap.size
theorem Env.below {B : Nat} {w w' : World} (h : Env B w) (hb : Below B w w') : Env B w' where
  max := by
    obtain ⟨m, hm⟩ := h.max
    exact ⟨m, (hb.cell (p := ⟨0, 0, none⟩) h.low).trans hm⟩
  tab := h.tab.on hb
  low := h.low
  le := Nat.le_trans h.le hb.size
theorem Env.on {B : Nat} {w w' : World} (h : Env B w) (hb : Below w.heap.size w w') : Env B w' := h.below (hb.mono h.le)
theorem Env.fit {B : Nat} {w w' : World} (h : Env B w) {C : Nat} (hb : Below C w w') (hC : B ≤ C) : Env B w' := h.below (hb.mono hC)

theorem below_grow (B : Nat) (w : World) (q : Nat) (os : Array Obj) (hB : B ≤ w.heap.size) : Below B w (Sort.grow (w.drewN q) os) :=
  ⟨rfl, rfl, rfl, by first | (simp [Sort.grow]; done) | (simp [Sort.grow]; omega), fun i hi => by
    show ((w.drewN q).heap ++ os)[i]? = _
    rw [Array.getElem?_append_left (by show i < w.heap.size; omega)]
    rfl⟩
theorem below_drewN' (w : World) (n : Nat) : Below w.heap.size w (w.drewN n) := ⟨rfl, rfl, rfl, Nat.le_refl _, fun _ _ => rfl⟩
/-- strings.Cut at a sign that is there -/
theorem cut_yes {B : Nat} (a b : List UInt8) (c : UInt8) (S : ByteArray) (w : World) (hE : Env B w) (hS : str (a ++ c :: b) = S) (hl : S.size < 4294967281) (ha : c ∉ a) :
    Calls Tryz.prog 52 #[.string S, .string ⟨#[c]⟩] w fun e w' => e = .returned (.tuple #[.string (str a), .string (str b), .bool true]) ∧ Below w.heap.size w w' := by
  obtain ⟨m, hm⟩ := hE.max
  subst hS
  refine (Tryz.strings_Cut (str (a ++ c :: b)) (str [c]) m w hl hm).mono ?_
  rintro e w' ⟨he, n, rfl⟩
  have h : Lib.cut (str (a ++ c :: b)).data.toList (str [c]).data.toList = (a, b, true) := cut_at ha
  rw [h] at he
  exact ⟨he, below_drewN' w n⟩
/-- strings.Cut at a sign that is not there -/
theorem cut_not {B : Nat} (a : List UInt8) (c : UInt8) (S : ByteArray) (w : World) (hE : Env B w) (hS : str a = S) (hl : S.size < 4294967281) (ha : c ∉ a) :
    Calls Tryz.prog 52 #[.string S, .string ⟨#[c]⟩] w fun e w' => e = .returned (.tuple #[.string (str a), .string (str []), .bool false]) ∧ Below w.heap.size w w' := by
  obtain ⟨m, hm⟩ := hE.max
  subst hS
  refine (Tryz.strings_Cut (str a) (str [c]) m w hl hm).mono ?_
  rintro e w' ⟨he, n, rfl⟩
  have h : Lib.cut (str a).data.toList (str [c]).data.toList = (a, [], false) := cut_free ha
  rw [h] at he
  exact ⟨he, below_drewN' w n⟩
/-- strings.Count of one sign -/
theorem count_any (S : ByteArray) (c : UInt8) (w : World) :
    Calls Tryz.prog 51 #[.string S, .string ⟨#[c]⟩] w fun e w' => e = .returned (.int .i64 ((bs S).count c : Nat)) ∧ w = w' :=
  (Tryz.strings_Count_one S c w).mono fun _ _ ⟨h1, h2⟩ => ⟨h1, h2.symm⟩
theorem prefix_any (S p : ByteArray) (w : World) :
    Calls Tryz.prog 59 #[.string S, .string p] w fun e w' => e = .returned (.bool (Lib.hasPrefix (bs S) (bs p))) ∧ w = w' :=
  (Tryz.strings_HasPrefix S p w).mono fun _ _ ⟨h1, h2⟩ => ⟨h1, h2.symm⟩
theorem itoa_any {B : Nat} (n : Int) (h0 : -9223372036854775808 ≤ n) (h1 : n ≤ 9223372036854775807) (w : World) (hE : Env B w) :
    Calls Tryz.prog 25 #[.int .i64 n] w fun e w' => e = .returned (.string (str (Lib.itoa n))) ∧ Below w.heap.size w w' := by
  refine (Tryz.strconv_Itoa n h0 h1 w hE.tab.here).mono ?_
  rintro e w' ⟨he, k, os, rfl⟩
  exact ⟨he, below_grow _ w k os (Nat.le_refl _)⟩
end Go.Proofs.YtgbhnjkigjecmaaGreatDoor.Tx

/-
  strings.Cut at a sign of one byte, for strings of whatever length, over this seat's translation.
-/
namespace Go.Proofs.YtgbhnjkigjecmaaGreatDoor.Tx
open Go.RowKit Go.Proofs.YtgbhnjkigjecmaaGreatDoor.Wd Go.Proofs.YtgbhnjkigjecmaaGreatDoor.Asc

theorem belowq (w : World) (n : Nat) : Below w.heap.size w (w.drewN n) := ⟨rfl, rfl, rfl, Nat.le_refl _, fun _ _ => rfl⟩
set_option maxRecDepth 100000 in
set_option maxHeartbeats 2000000 in
theorem slcut_yes (a b : List UInt8) (c : UInt8) (S : ByteArray) (w : World) (hS : str (a ++ c :: b) = S) (hl : S.size ≤ 4611686018427387904) (ha : c ∉ a) :
    Calls Tryz.prog 93 #[.string S, .string ⟨#[c]⟩] w fun e w' => e = .returned (.tuple #[.string (str a), .string (str b), .bool true]) ∧ Below w.heap.size w w' := by
  have hi : Lib.indexByte S.data.toList c = (a.length : Int) := by rw [← hS]; exact ib_at ha
  have hz : S.size = a.length + (b.length + 1) := by rw [← hS, str_size]; simp
  have HI := Lib.hid (Tryz.stringslite_Index_one S c w)
  rw [hi] at HI
  have e1 : S.extract 0 a.length = str a := bs_inj (by rw [bs_extract, ← hS, bs_str, bs_str]; simp)
  have e2 : S.extract (a.length + 1) S.size = str b := bs_inj (by rw [bs_extract, hz, ← hS, bs_str, bs_str]; simp; exact List.take_of_length_le (by omega))
  have HE1 := Lib.hid e1
  have HE2 := Lib.hid e2
  obtain ⟨n, hn⟩ : ∃ n, a.length = n := ⟨_, rfl⟩
  rw [hn] at HI HE1 HE2 hz
  have q1 : decide ((0 : Int) ≤ (n : Int)) = true := decide_eq_true (by omega)
  have l1 : n ≤ S.size := by omega
  have l2 : n + 1 ≤ S.size := by omega
  obtain ⟨L, hL⟩ : ∃ L, S.size = L := ⟨_, rfl⟩
  have hone : (⟨#[c]⟩ : ByteArray).size = 1 := rfl
  clear hi e1 e2 hn hS ha hz hL
  go_enter Tryz.func93, Tryz.ntmps93
  go_wp2_with fail
  refine HI.out.mono ?_
  rintro e w1 ⟨rfl, rfl⟩
  go_wp2_with fail
  go_quiet (fail)
  go_wp2_with fail
  go_ret3
  rw [HE1.out, HE2.out]
  exact ⟨rfl, belowq _ _⟩
set_option maxRecDepth 100000 in
set_option maxHeartbeats 2000000 in
theorem slcut_not (a : List UInt8) (c : UInt8) (S : ByteArray) (w : World) (hS : str a = S) (ha : c ∉ a) :
    Calls Tryz.prog 93 #[.string S, .string ⟨#[c]⟩] w fun e w' => e = .returned (.tuple #[.string S, .string ⟨#[]⟩, .bool false]) ∧ Below w.heap.size w w' := by
  have hi : Lib.indexByte S.data.toList c = -1 := by rw [← hS]; exact ib_free ha
  have HI := Lib.hid (Tryz.stringslite_Index_one S c w)
  rw [hi] at HI
  clear hi hS ha
  go_enter Tryz.func93, Tryz.ntmps93
  go_wp2_with fail
  refine HI.out.mono ?_
  rintro e w1 ⟨rfl, rfl⟩
  go_wp2_with fail
  go_ret3
  exact ⟨rfl, Below.refl _ _⟩
/-- strings.Cut at a sign that is there -/
theorem cutL_yes (a b : List UInt8) (c : UInt8) (S : ByteArray) (w : World) (hS : str (a ++ c :: b) = S) (hl : S.size ≤ 4611686018427387904) (ha : c ∉ a) :
    Calls Tryz.prog 52 #[.string S, .string ⟨#[c]⟩] w fun e w' => e = .returned (.tuple #[.string (str a), .string (str b), .bool true]) ∧ Below w.heap.size w w' := by
  have HC := Lib.hid (slcut_yes a b c S w hS hl ha)
  obtain ⟨X, hX⟩ : ∃ X, str a = X := ⟨_, rfl⟩
  obtain ⟨Y, hY⟩ : ∃ Y, str b = Y := ⟨_, rfl⟩
  rw [hX, hY] at HC ⊢
  clear hX hY hS
  go_enter Tryz.func52, Tryz.ntmps52
  go_wp2_with (go_at_call 93; refine HC.out.mono ?_; rintro e w' ⟨rfl, hb⟩)
  go_ret3
  exact ⟨rfl, hb⟩
/-- strings.Cut at a sign that is not there -/
theorem cutL_not (a : List UInt8) (c : UInt8) (S : ByteArray) (w : World) (hS : str a = S) (ha : c ∉ a) :
    Calls Tryz.prog 52 #[.string S, .string ⟨#[c]⟩] w fun e w' => e = .returned (.tuple #[.string (str a), .string (str []), .bool false]) ∧ Below w.heap.size w w' := by
  have HC := Lib.hid (slcut_not a c S w hS ha)
  rw [hS, show str [] = (⟨#[]⟩ : ByteArray) from rfl]
  clear hS
  go_enter Tryz.func52, Tryz.ntmps52
  go_wp2_with (go_at_call 93; refine HC.out.mono ?_; rintro e w' ⟨rfl, hb⟩)
  go_ret3
  exact ⟨rfl, hb⟩
end Go.Proofs.YtgbhnjkigjecmaaGreatDoor.Tx
