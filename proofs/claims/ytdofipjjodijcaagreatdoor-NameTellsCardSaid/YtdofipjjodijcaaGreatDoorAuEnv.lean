/-
  Where addr's contracts may be used, those over texts may, too: what the library's variables hold. Plain lemma.
-/
import Derived.Test.YtdofipjjodijcaaGreatDoorAdEnv
import Derived.Test.YtdofipjjodijcaaGreatDoorTxEnv
namespace Go.Proofs.YtdofipjjodijcaaGreatDoor.Au
open Go.RowKit

theorem tx_of {B : Nat} {w : World} (h : Ad.Env B w) : Tx.Env B w := ⟨h.max, h.tab, h.low, h.le⟩
end Go.Proofs.YtdofipjjodijcaaGreatDoor.Au
