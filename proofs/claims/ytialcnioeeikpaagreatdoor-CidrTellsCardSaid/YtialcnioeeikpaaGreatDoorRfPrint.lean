/-
  Contract of hagioscoperef03.Print.
-/
import Derived.Test.YtialcnioeeikpaaGreatDoorRfPrLo
import Derived.Test.YtialcnioeeikpaaGreatDoorMPr
import Derived.Test.YtialcnioeeikpaaGreatDoorRfPrint4
namespace Go.Proofs.YtialcnioeeikpaaGreatDoor.Ad
open Go.RowKit Go.Proofs.YtialcnioeeikpaaGreatDoor.Wd Go.Proofs.YtialcnioeeikpaaGreatDoor.Asc

theorem rprint_any (a : List UInt8) (ha : a.length = 16) (w : World) :
    Calls Tryz.prog 35 #[.agg (cA a)] w fun e w' => e = .returned (.string (str (ctext a))) ∧ Below w.heap.size w w' := by
  unfold ctext
  cases hf : fourS a with
  | true => rw [if_pos rfl]; exact rprint_four a ha hf w
  | false =>
    rw [if_neg (by simp)]
    by_cases h2 : (bR (pairs a) 8).2 < 2
    · exact rprint_lo a ha hf h2 w
    · exact rprint_hi a ha hf h2 w
end Go.Proofs.YtialcnioeeikpaaGreatDoor.Ad
