/-
  What the library's variables hold where a call begins, and what stands of it behind; strings.Cut, strings.Contains, strconv.Itoa so.
-/
import Derived.Test.YtdofipjjodijcaaGreatDoorAdFour
import Derived.Test.YtdofipjjodijcaaGreatDoorAscNum
import Derived.Test.YtdofipjjodijcaaGreatDoorShelf
import Derived.Lib.AppendIntMem
namespace Go.Proofs.YtdofipjjodijcaaGreatDoor.Ad
open Go.RowKit Go.Proofs.YtdofipjjodijcaaGreatDoor.Wd Go.Proofs.YtdofipjjodijcaaGreatDoor.Asc

structure Env (B : Nat) (w : World) : Prop where
  max : ∃ m, w.cell? ⟨0, 0, none⟩ = some (.int .i64 m)
  tab : Lib.TabBelow Tryz.prog B w "internal/strconv.uint64pow10" .u64 Lib.pow10Tab
  low : 0 < B
  le : B ≤ w.heap.size
  tz : w.cell? ⟨5, 15, none⟩ = some (.int .u8 4)
  lowz : 5 < B
theorem Env.below {B : Nat} {w w' : World} (h : Env B w) (hb : Below B w w') : Env B w' where
  max := by
    obtain ⟨m, hm⟩ := h.max
    exact ⟨m, (hb.cell (p := ⟨0, 0, none⟩) h.low).trans hm⟩
  tab := h.tab.on hb
  low := h.low
  le := Nat.le_trans h.le hb.size
  tz := (hb.cell (p := ⟨5, 15, none⟩) h.lowz).trans h.tz
  lowz := h.lowz
theorem Env.on {B : Nat} {w w' : World} (h : Env B w) (hb : Below w.heap.size w w') : Env B w' := h.below (hb.mono h.le)

/-- a list of bytes as a string -/
abbrev str (l : List UInt8) : ByteArray := ⟨l.toArray⟩
theorem str_size (l : List UInt8) : (str l).size = l.length := by show l.toArray.size = _; simp
theorem str_bs (s : ByteArray) : str (bs s) = s := by apply bs_inj; rfl

theorem below_grow (B : Nat) (w : World) (q : Nat) (os : Array Obj) (hB : B ≤ w.heap.size) : Below B w (Sort.grow (w.drewN q) os) :=
  ⟨rfl, rfl, rfl, by first | (simp [Sort.grow]; done) | (simp [Sort.grow]; omega), fun i hi => by
    show ((w.drewN q).heap ++ os)[i]? = _
    rw [Array.getElem?_append_left (by show i < w.heap.size; omega)]
    rfl⟩
theorem below_drewN' (w : World) (n : Nat) : Below w.heap.size w (w.drewN n) := ⟨rfl, rfl, rfl, Nat.le_refl _, fun _ _ => rfl⟩
theorem cut_any {B : Nat} (l sep : List UInt8) (w : World) (hE : Env B w) (hl : l.length < 4294967281) :
    Calls Tryz.prog 47 #[.string (str l), .string (str sep)] w fun e w' =>
      e = .returned (.tuple #[.string (str (Lib.cut l sep).1), .string (str (Lib.cut l sep).2.1), .bool (Lib.cut l sep).2.2]) ∧ Below w.heap.size w w' := by
  obtain ⟨m, hm⟩ := hE.max
  refine (Tryz.strings_Cut (str l) (str sep) m w (by rw [str_size]; exact hl) hm).mono ?_
  rintro e w' ⟨he, n, rfl⟩
  exact ⟨he, below_drewN' w n⟩
theorem contains_any (l : List UInt8) (c : UInt8) (w : World) :
    Calls Tryz.prog 23 #[.string (str l), .string (str [c])] w fun e w' => e = .returned (.bool (decide (0 ≤ Lib.indexByte l c))) ∧ w' = w :=
  Tryz.strings_Contains_one (str l) c w
end Go.Proofs.YtdofipjjodijcaaGreatDoor.Ad
