/-
  Slices of numbers and of strings that came in: what they lead to.
-/
import Derived.Test.YtnmfgimcclpfbaaLift
import Derived.SliceStrings
namespace Go.Proofs.Ytnmfgimcclpfbaa.Lift
open Go.ChangeShapes Go.WideShapes Go.ChangeAt Go.RowKit Go.Proofs.Ytnmfgimcclpfbaa.Wd

/-- what a slice of one-cell elements leads to -/
def SrcV (w : World) (A : Option Addr) (n : Nat) (vs : List Value) : Prop :=
  vs.length = n ∧ (0 < n → ∃ ad, A = some ad ∧ ad.block < w.heap.size ∧ ∀ j v, vs[j]? = some v → w.cell? (ad.add j) = some v)
theorem SrcV.below {w w' : World} {A : Option Addr} {n : Nat} {vs : List Value} (h : SrcV w A n vs) (hb : Below w.heap.size w w') : SrcV w' A n vs :=
  ⟨h.1, fun hn => by
    obtain ⟨ad, e, hlt, hc⟩ := h.2 hn
    exact ⟨ad, e, Nat.lt_of_lt_of_le hlt hb.size, fun j c hj => (hb.cell (by rw [block_of_add]; exact hlt)).trans (hc j c hj)⟩⟩
theorem SrcV.at_ {w : World} {A : Option Addr} {n k : Nat} {vs : List Value} (h : SrcV w A n vs) (hk : k < n) : ∃ ad, A = some ad ∧ ad.block < w.heap.size ∧ w.cell? (ad.add k) = vs[k]? := by
  obtain ⟨ad, e, hb, hc⟩ := h.2 (by omega)
  have hl : k < vs.length := by have := h.1; omega
  exact ⟨ad, e, hb, by rw [hc k _ (List.getElem?_eq_getElem hl), List.getElem?_eq_getElem hl]⟩



end Go.Proofs.Ytnmfgimcclpfbaa.Lift
