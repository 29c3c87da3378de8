/-
  What the library's variables hold where a call begins, and what stands of it behind; strings.Cut, Count, HasPrefix and strconv.Itoa so (for seats without package addr).
-/
import Derived.Test.YtdofipjjodijcaaGreatDoorTx
import Derived.Test.YtdofipjjodijcaaGreatDoorRgMem
import Derived.Test.YtdofipjjodijcaaGreatDoorShelf
import Derived.Lib.AppendIntMem
namespace Go.Proofs.YtdofipjjodijcaaGreatDoor.Tx
open Go.RowKit Go.Proofs.YtdofipjjodijcaaGreatDoor.Wd Go.Proofs.YtdofipjjodijcaaGreatDoor.Asc

structure Env (B : Nat) (w : World) : Prop where
  max : ∃ m, w.cell? ⟨0, 0, none⟩ = some (.int .i64 m)
  tab : Lib.TabBelow Tryz.prog B w "internal/strconv.uint64pow10" .u64 Lib.pow10Tab
  low : 0 < B
  le : B ≤ w.heap.size
theorem Env.below {B : Nat} {w w' : World} (h : Env B w) (hb : Below B w w') : Env B w' where
  max := by
    obtain ⟨m, hm⟩ := h.max
    exact ⟨m, (hb.cell (p := ⟨0, 0, none⟩) h.low).trans hm⟩
  tab := h.tab.on hb
  low := h.low
  le := Nat.le_trans h.le hb.size
theorem Env.on {B : Nat} {w w' : World} (h : Env B w) (hb : Below w.heap.size w w') : Env B w' := h.below (hb.mono h.le)
theorem Env.fit {B : Nat} {w w' : World} (h : Env B w) {C : Nat} (hb : Below C w w') (hC : B ≤ C) : Env B w' := h.below (hb.mono hC)

theorem below_grow (B : Nat) (w : World) (q : Nat) (os : Array Obj) (hB : B ≤ w.heap.size) : Below B w (Sort.grow (w.drewN q) os) :=
  ⟨rfl, rfl, rfl, by first | (simp [Sort.grow]; done) | (simp [Sort.grow]; omega), fun i hi => by
    show ((w.drewN q).heap ++ os)[i]? = _
    rw [Array.getElem?_append_left (by show i < w.heap.size; omega)]
    rfl⟩
theorem below_drewN' (w : World) (n : Nat) : Below w.heap.size w (w.drewN n) := ⟨rfl, rfl, rfl, Nat.le_refl _, fun _ _ => rfl⟩
/-- strings.Cut at a sign that is there -/
theorem cut_yes {B : Nat} (a b : List UInt8) (c : UInt8) (S : ByteArray) (w : World) (hE : Env B w) (hS : str (a ++ c :: b) = S) (hl : S.size < 4294967281) (ha : c ∉ a) :
    Calls Tryz.prog 47 #[.string S, .string ⟨#[c]⟩] w fun e w' => e = .returned (.tuple #[.string (str a), .string (str b), .bool true]) ∧ Below w.heap.size w w' := by
  obtain ⟨m, hm⟩ := hE.max
  subst hS
  refine (Tryz.strings_Cut (str (a ++ c :: b)) (str [c]) m w hl hm).mono ?_
  rintro e w' ⟨he, n, rfl⟩
  have h : Lib.cut (str (a ++ c :: b)).data.toList (str [c]).data.toList = (a, b, true) := cut_at ha
  rw [h] at he
  exact ⟨he, below_drewN' w n⟩
/-- strings.Cut at a sign that is not there -/
theorem cut_not {B : Nat} (a : List UInt8) (c : UInt8) (S : ByteArray) (w : World) (hE : Env B w) (hS : str a = S) (hl : S.size < 4294967281) (ha : c ∉ a) :
    Calls Tryz.prog 47 #[.string S, .string ⟨#[c]⟩] w fun e w' => e = .returned (.tuple #[.string (str a), .string (str []), .bool false]) ∧ Below w.heap.size w w' := by
  obtain ⟨m, hm⟩ := hE.max
  subst hS
  refine (Tryz.strings_Cut (str a) (str [c]) m w hl hm).mono ?_
  rintro e w' ⟨he, n, rfl⟩
  have h : Lib.cut (str a).data.toList (str [c]).data.toList = (a, [], false) := cut_free ha
  rw [h] at he
  exact ⟨he, below_drewN' w n⟩
/-- strings.Count of one sign -/
theorem count_any (S : ByteArray) (c : UInt8) (w : World) :
    Calls Tryz.prog 77 #[.string S, .string ⟨#[c]⟩] w fun e w' => e = .returned (.int .i64 ((bs S).count c : Nat)) ∧ w = w' :=
  (Tryz.strings_Count_one S c w).mono fun _ _ ⟨h1, h2⟩ => ⟨h1, h2.symm⟩
theorem prefix_any (S p : ByteArray) (w : World) :
    Calls Tryz.prog 53 #[.string S, .string p] w fun e w' => e = .returned (.bool (Lib.hasPrefix (bs S) (bs p))) ∧ w = w' :=
  (Tryz.strings_HasPrefix S p w).mono fun _ _ ⟨h1, h2⟩ => ⟨h1, h2.symm⟩
end Go.Proofs.YtdofipjjodijcaaGreatDoor.Tx
