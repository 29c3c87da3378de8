/-
  Contract of hagioscoperef03.Print.
-/
import Derived.Test.YtgpgkfbbpiialaaDoorRfPrLo
import Derived.Test.YtgpgkfbbpiialaaDoorMRfC
import Derived.Test.YtgpgkfbbpiialaaDoorRfPrint4
namespace Go.Proofs.YtgpgkfbbpiialaaDoor.Ad
open Go.RowKit Go.Proofs.YtgpgkfbbpiialaaDoor.Wd Go.Proofs.YtgpgkfbbpiialaaDoor.Asc

theorem rprint_any (a : List UInt8) (ha : a.length = 16) (w : World) :
    Calls Tryd.prog 37 #[.agg (cA a)] w fun e w' => e = .returned (.string (str (ctext a))) ∧ Below w.heap.size w w' := by
  unfold ctext
  cases hf : fourS a with
  | true => rw [if_pos rfl]; exact rprint_four a ha hf w
  | false =>
    rw [if_neg (by simp)]
    by_cases h2 : (bR (pairs a) 8).2 < 2
    · exact rprint_lo a ha hf h2 w
    · exact rprint_hi a ha hf h2 w
end Go.Proofs.YtgpgkfbbpiialaaDoor.Ad
