/-
  Contracts of package ascii's functions of one rune: isLetter, isDigit, isSign, isToken, isVisible, isBlank, digit.
-/
import Derived.Test.YtdofipjjodijcaaDoorAscDig
namespace Go.Proofs.YtdofipjjodijcaaDoor.Asc
open Go.RowKit Go.Proofs.YtdofipjjodijcaaDoor.Wd






end Go.Proofs.YtdofipjjodijcaaDoor.Asc
