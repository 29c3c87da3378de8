/-
  Laws whose rows list five tables, one of them a great one: what the lists give (Env), a world in which they lie. Plain lemmas.
-/
import Derived.Test.YtdofipjjodijcaaDoorLiftLaid
import Derived.Lay
namespace Go.Proofs.YtdofipjjodijcaaDoor.Lift
set_option maxRecDepth 100000
open Go.ChangeShapes Go.WideShapes Go.ChangeAt Go.RowKit Go.Proofs.YtdofipjjodijcaaDoor.Wd Go.Proofs.YtdofipjjodijcaaDoor.Ad

def laid5 : List (String × DataW Unit) := [("math/bits.deBruijn32tab", Rows.laid_math_bits_deBruijn32tab), ("math/bits.deBruijn64tab", Rows.laid_math_bits_deBruijn64tab), ("internal/strconv.uint64pow10", Rows.laid_internal_strconv_uint64pow10),
  ("unicode/utf8.acceptRanges", Rows.laid_unicode_utf8_acceptRanges), ("unicode/utf8.first", Rows.laid_unicode_utf8_first)]

/-- a world in which the five lie meets the condition -/
theorem door_met5 (os : Os) (args : Array Value) : laidMetH Tryd.prog laid5 ((World.laidAll Tryd.prog os laid5).forCall (fun _ _ => 0) ⟨#[], args, []⟩).memory := by
  rw [MakeChecks.laidMetH_plain _ _ _ (by kernel_rfl)]
  exact laidMet_laidAll _ (by kernel_rfl) (by kernel_rfl)

theorem env_of5 {W : World} (hL : laidMetH Tryd.prog laid5 W) (hs : W.ShapedOpen Tryd.prog) : Env W.heap.size W := by
  rw [MakeChecks.laidMetH_plain _ _ _ (by kernel_rfl)] at hL
  have h3 : laidMet Tryd.prog (("internal/strconv.uint64pow10", Lib.tabData .u64 Lib.pow10Tab) :: [("unicode/utf8.acceptRanges", Rows.laid_unicode_utf8_acceptRanges), ("unicode/utf8.first", Rows.laid_unicode_utf8_first)]) W := hL.tail.tail
  have hm := cell_of_shapedOpen_int (P := Tryd.prog) (g := 0) (t := 3) (k := .i64) (zero := #[.int .i64 0]) hs (of_decide_eq_true (by kernel_rfl)) (by kernel_rfl) rfl (by kernel_rfl) (by kernel_rfl) Tryd.underlying3
  have h2 : laidMet Tryd.prog (("math/bits.deBruijn64tab", Lib.tabData .u8 tab64) :: ("internal/strconv.uint64pow10", Lib.tabData .u64 Lib.pow10Tab) :: [("unicode/utf8.acceptRanges", Rows.laid_unicode_utf8_acceptRanges), ("unicode/utf8.first", Rows.laid_unicode_utf8_first)]) W := hL.tail
  have hz := (Lib.tabIs_of_head (g := 5) (n := 64) (e := 5) (by kernel_rfl) rfl (by kernel_rfl) (by kernel_rfl) (by kernel_rfl) (by kernel_rfl) h2).cell (g := 5) (by kernel_rfl) 15 (by decide)
  have hz4 : W.cell? ⟨5, 15, none⟩ = some (.int .u8 4) := hz
  refine ⟨hm, Lib.tabBelow_of_tabIs (Lib.tabIs_of_head (g := 3) (n := 20) (e := 87) (by kernel_rfl) rfl (by kernel_rfl) (by kernel_rfl) (by kernel_rfl) (by kernel_rfl) h3), ?_, Nat.le_refl _, hz4, World.block_lt_of_cell? W _ hz4⟩
  obtain ⟨m, hm⟩ := hm
  rcases Nat.lt_or_ge 0 W.heap.size with h | h
  · exact h
  · have : W.heap[(0 : Nat)]? = none := Array.getElem?_eq_none h
    simp [World.cell?, this] at hm
end Go.Proofs.YtdofipjjodijcaaDoor.Lift
