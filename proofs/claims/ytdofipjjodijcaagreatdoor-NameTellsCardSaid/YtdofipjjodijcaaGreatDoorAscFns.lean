/-
  Contracts of package ascii's functions of one rune: isLetter, isDigit, isSign, isToken, isVisible, isBlank, digit.
-/
import Derived.Test.YtdofipjjodijcaaGreatDoorAscDig
namespace Go.Proofs.YtdofipjjodijcaaGreatDoor.Asc
open Go.RowKit Go.Proofs.YtdofipjjodijcaaGreatDoor.Wd






end Go.Proofs.YtdofipjjodijcaaGreatDoor.Asc
