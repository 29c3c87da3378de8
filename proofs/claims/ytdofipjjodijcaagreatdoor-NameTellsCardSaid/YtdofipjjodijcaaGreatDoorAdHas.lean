/-
  Contracts of package cidr's Right and Has over this seat's translation.
-/
import Derived.Test.YtdofipjjodijcaaGreatDoorAdFour2
namespace Go.Proofs.YtdofipjjodijcaaGreatDoor.Ad
open Go.RowKit Go.Proofs.YtdofipjjodijcaaGreatDoor.Wd

abbrev cL (c : C) : List Value := cellsOf c.a ++ [Value.int .i64 c.n]
theorem cL_len (c : C) (h : c.a.length = 16) : (cL c).length = 17 := by simp [cellsOf_length, h]
theorem rangeC {w : World} {g t : Nat} {c : C} (h : Blk w g t c.cells) : w.rangeAt g 0 (cL c) := fun j v hv => by
  rw [Nat.zero_add, h.cell]
  simpa [C.cells] using hv
theorem range_a {w : World} {g : Nat} {c : C} (h : w.rangeAt g 0 (cL c)) : w.rangeAt g 0 (cellsOf c.a) := fun j v hv =>
  h j v (by rw [List.getElem?_append_left (List.getElem?_eq_some_iff.1 hv).1]; exact hv)
theorem range_n {w : World} {g : Nat} {c : C} (h : w.rangeAt g 0 (cL c)) (hc : c.a.length = 16) : w.cell? ⟨g, 16, none⟩ = some (.int .i64 c.n) := by
  have := h 16 (.int .i64 c.n) (by rw [List.getElem?_append_right (by rw [cellsOf_length, hc]; omega), cellsOf_length, hc]; rfl)
  simpa using this


end Go.Proofs.YtdofipjjodijcaaGreatDoor.Ad
