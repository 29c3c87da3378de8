/-
  Contract of hagioscoperef03.Print.
-/
import Derived.Test.YtgpgkfbbpiialaaGreatDoorRfPrLo
import Derived.Test.YtgpgkfbbpiialaaGreatDoorMRfC
import Derived.Test.YtgpgkfbbpiialaaGreatDoorRfPrint4
namespace Go.Proofs.YtgpgkfbbpiialaaGreatDoor.Ad
open Go.RowKit Go.Proofs.YtgpgkfbbpiialaaGreatDoor.Wd Go.Proofs.YtgpgkfbbpiialaaGreatDoor.Asc

theorem rprint_any (a : List UInt8) (ha : a.length = 16) (w : World) :
    Calls Tryz.prog 47 #[.agg (cA a)] w fun e w' => e = .returned (.string (str (ctext a))) ∧ Below w.heap.size w w' := by
  unfold ctext
  cases hf : fourS a with
  | true => rw [if_pos rfl]; exact rprint_four a ha hf w
  | false =>
    rw [if_neg (by simp)]
    by_cases h2 : (bR (pairs a) 8).2 < 2
    · exact rprint_lo a ha hf h2 w
    · exact rprint_hi a ha hf h2 w
end Go.Proofs.YtgpgkfbbpiialaaGreatDoor.Ad
