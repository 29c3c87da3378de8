/-
  Slices of numbers and of strings that came in: what they lead to.
-/
import Derived.Test.YteikjoafabldpaaLift
import Derived.SliceStrings
namespace Go.Proofs.Yteikjoafabldpaa.Lift
open Go.ChangeShapes Go.WideShapes Go.ChangeAt Go.RowKit Go.Proofs.Yteikjoafabldpaa.Wd

/-- what a slice of one-cell elements leads to -/
def SrcV (w : World) (A : Option Addr) (n : Nat) (vs : List Value) : Prop :=
  vs.length = n ∧ (0 < n → ∃ ad, A = some ad ∧ ad.block < w.heap.size ∧ ∀ j v, vs[j]? = some v → w.cell? (ad.add j) = some v)
theorem SrcV.below {w w' : World} {A : Option Addr} {n : Nat} {vs : List Value} (h : SrcV w A n vs) (hb : Below w.heap.size w w') : SrcV w' A n vs :=
  ⟨h.1, fun hn => by
    obtain ⟨ad, e, hlt, hc⟩ := h.2 hn
    exact ⟨ad, e, Nat.lt_of_lt_of_le hlt hb.size, fun j c hj => (hb.cell (by rw [block_of_add]; exact hlt)).trans (hc j c hj)⟩⟩
theorem SrcV.at_ {w : World} {A : Option Addr} {n k : Nat} {vs : List Value} (h : SrcV w A n vs) (hk : k < n) : ∃ ad, A = some ad ∧ ad.block < w.heap.size ∧ w.cell? (ad.add k) = vs[k]? := by
  obtain ⟨ad, e, hb, hc⟩ := h.2 (by omega)
  have hl : k < vs.length := by have := h.1; omega
  exact ⟨ad, e, hb, by rw [hc k _ (List.getElem?_eq_getElem hl), List.getElem?_eq_getElem hl]⟩

theorem u32_of {a : Int} (h : (Lit.int .u32 a).wf = true) : 0 ≤ a ∧ a ≤ 4294967295 := by
  simpa [Lit.wf, IntKind.min, IntKind.max, IntKind.signed, IntKind.bits] using h

theorem open_u32s {H : Type} {enc : TypeId × Value → H} {W : World} {sp : Nat → Bool} {hd : Bool} {base b0 : Nat} {v : Value} {d : DataW H} {p : List MemPlace}
    (hv : Value.okWide Try.prog W .any b0 40 v) (h : DataW.Trod enc Try.prog W base sp hd 40 v d p) :
    ∃ A n c, ∃ zs : List Int, v = .slice A n c ∧ n ≤ c ∧ c ≤ maxLen ∧ (SrcV W A n (zs.map (Value.int .u32)) ∧ ∀ z ∈ zs, 0 ≤ z ∧ z ≤ 4294967295) := by
  obtain ⟨A, n, c, rfl⟩ := okWide_slice Try.underlying40 hv
  obtain ⟨fuel, hf⟩ := h
  rcases open_ints Try.underlying40 Try.underlying42 (by kernel_rfl) hf with ⟨hcs, _⟩ | ⟨x, l, c', zs, hcs, _, hl, hm, hz, hx, hcell, hwz⟩
  · simp [Value.cells] at hcs
    obtain ⟨rfl, rfl, rfl⟩ := hcs
    exact ⟨none, 0, 0, [], rfl, Nat.le_refl _, Nat.zero_le _, ⟨rfl, fun h => absurd h (by omega)⟩, fun z hz => by cases hz⟩
  · simp [Value.cells] at hcs
    obtain ⟨rfl, rfl, rfl⟩ := hcs
    have hnl : n ≤ zs.length := by rw [hz]; split <;> omega
    refine ⟨_, n, c, zs.take n, rfl, hl, hm, ⟨by rw [List.length_map, List.length_take]; omega, fun hn => ⟨x, rfl, ?_, fun j y hj => ?_⟩⟩, fun z hz => u32_of (hwz z (List.mem_of_mem_take hz))⟩
    · have hb := block_lt_of_cell (hcell 0 (by omega)); rwa [block_of_add] at hb
    · rw [List.getElem?_map, List.getElem?_take] at hj
      split at hj
      · cases hzj : zs[j]? with
        | none => rw [hzj] at hj; cases hj
        | some z =>
          rw [hzj] at hj
          injection hj with hj
          subst hj
          rw [hcell j (List.getElem?_eq_some_iff.1 hzj).1, List.getD_eq_getElem?_getD, hzj]
          rfl
      · cases hj

theorem open_strs {H : Type} {enc : TypeId × Value → H} {W : World} {sp : Nat → Bool} {hd : Bool} {base b0 : Nat} {v : Value} {d : DataW H} {p : List MemPlace}
    (hv : Value.okWide Try.prog W .any b0 41 v) (h : DataW.Trod enc Try.prog W base sp hd 41 v d p) :
    ∃ A n c, ∃ ss : List ByteArray, v = .slice A n c ∧ n ≤ c ∧ c ≤ maxLen ∧ SrcV W A n (ss.map Value.string) := by
  obtain ⟨A, n, c, rfl⟩ := okWide_slice Try.underlying41 hv
  obtain ⟨fuel, hf⟩ := h
  rcases open_strings Try.underlying41 Try.underlying9 (by kernel_rfl) hf with ⟨hcs, _⟩ | ⟨x, l, c', ss, hcs, _, hl, hm, hz, hx, hcell, hws⟩
  · simp [Value.cells] at hcs
    obtain ⟨rfl, rfl, rfl⟩ := hcs
    exact ⟨none, 0, 0, [], rfl, Nat.le_refl _, Nat.zero_le _, ⟨rfl, fun h => absurd h (by omega)⟩⟩
  · simp [Value.cells] at hcs
    obtain ⟨rfl, rfl, rfl⟩ := hcs
    have hnl : n ≤ ss.length := by rw [hz]; split <;> omega
    refine ⟨_, n, c, ss.take n, rfl, hl, hm, ⟨by rw [List.length_map, List.length_take]; omega, fun hn => ⟨x, rfl, ?_, fun j y hj => ?_⟩⟩⟩
    · have hb := block_lt_of_cell (hcell 0 (by omega)); rwa [block_of_add] at hb
    · rw [List.getElem?_map, List.getElem?_take] at hj
      split at hj
      · cases hzj : ss[j]? with
        | none => rw [hzj] at hj; cases hj
        | some z =>
          rw [hzj] at hj
          injection hj with hj
          subst hj
          rw [hcell j (List.getElem?_eq_some_iff.1 hzj).1, List.getD_eq_getElem?_getD, hzj]
          rfl
      · cases hj
end Go.Proofs.Yteikjoafabldpaa.Lift
