/-
  Rows of strings, and of numbers, that came in: what they lead to.
-/
import Derived.Test.YtajmdchidmamcaaLift
import Derived.Test.YtajmdchidmamcaaRow
import Derived.SliceStrings
namespace Go.Proofs.Ytajmdchidmamcaa.Lift
open Go.ChangeShapes Go.WideShapes Go.ChangeAt Go.RowKit Go.Proofs.Ytajmdchidmamcaa.Wd Go.Proofs.Ytajmdchidmamcaa.He Go.Proofs.Ytajmdchidmamcaa.Ro

theorem srcE_one {α : Type} {w : World} {e : El α} {a : Addr} {l : List α} (hn : e.n = 1) (val : α → Value) (hc : ∀ x, e.c x = [val x]) (h : ∀ (i : Nat) (x : α), l[i]? = some x → w.cell? (a.add i) = some (val x)) : SrcE w e (some a) l := by
  intro i x hx
  have h1 := h i x hx
  obtain ⟨g, o, spot⟩ := a
  have hspot : spot = none := by
    obtain ⟨x0, hx0⟩ : ∃ x, l[0]? = some x := ⟨_, List.getElem?_eq_getElem (by have := (List.getElem?_eq_some_iff.1 hx).1; omega)⟩
    simpa [Addr.add] using World.cell?_spot (h 0 x0 hx0)
  subst hspot
  have hlt : g < w.heap.size := by
    have hb := block_lt_of_cell h1
    rwa [block_of_add] at hb
  refine ⟨g, o, rfl, hlt, fun j v hv => ?_⟩
  rw [hc] at hv
  cases j with
  | zero =>
    injection hv with hv
    subst hv
    rw [add_flat] at h1
    rw [hn, Nat.mul_one, Nat.add_zero]
    exact h1
  | succ j => simp at hv

set_option maxRecDepth 100000 in
/-- a []string that came in -/
theorem open_strE {H : Type} {enc : TypeId × Value → H} {W : World} {sp : Nat → Bool} {hd : Bool} {base b0 : Nat} {v : Value} {d : DataW H} {p : List MemPlace}
    (hv : Value.okWide Try.prog W .any b0 27 v) (h : DataW.Trod enc Try.prog W base sp hd 27 v d p) :
    ∃ A n c, ∃ xs : List (List UInt8), v = .slice A n c ∧ n ≤ c ∧ c ≤ maxLen ∧ (SrcE W elS A xs ∧ xs.length = n ∧ ∀ x ∈ xs, x.length ≤ 9223372036854775807) := by
  obtain ⟨A, n, c, rfl⟩ := okWide_slice Try.underlying27 hv
  obtain ⟨fuel, hf⟩ := h
  rcases open_strings Try.underlying27 Try.underlying9 (by kernel_rfl) hf with ⟨hcs, _⟩ | ⟨x, l, c', ss, hcs, _, hl, hm, hz, hx, hcell, hws⟩
  · simp [Value.cells] at hcs
    obtain ⟨rfl, rfl, rfl⟩ := hcs
    exact ⟨none, 0, 0, [], rfl, Nat.le_refl _, Nat.zero_le _, SrcE.nil W _, rfl, fun _ h => absurd h List.not_mem_nil⟩
  · simp [Value.cells] at hcs
    obtain ⟨rfl, rfl, rfl⟩ := hcs
    have hnl : n ≤ ss.length := by rw [hz]; split <;> omega
    refine ⟨_, n, c, (ss.take n).map lst, rfl, hl, hm, srcE_one rfl (fun x => .string (str8 x)) (fun _ => rfl) (fun i y hy => ?_), by rw [List.length_map, List.length_take]; omega, fun y hy => ?_⟩
    · rw [List.getElem?_map, Option.map_eq_some_iff] at hy
      obtain ⟨z, hz', rfl⟩ := hy
      rw [List.getElem?_take] at hz'
      split at hz'
      · have e : str8 (lst z) = z := lst_inj (lst_str8 _)
        rw [hcell i (List.getElem?_eq_some_iff.1 hz').1, List.getD_eq_getElem?_getD, hz', e]
        rfl
      · cases hz'
    · obtain ⟨z, hz', rfl⟩ := List.mem_map.1 hy
      have := hws z (List.mem_of_mem_take hz')
      unfold maxLen at this
      exact this
set_option maxRecDepth 100000 in
/-- a []int that came in -/
theorem open_intE {H : Type} {enc : TypeId × Value → H} {W : World} {sp : Nat → Bool} {hd : Bool} {base b0 : Nat} {v : Value} {d : DataW H} {p : List MemPlace}
    (hv : Value.okWide Try.prog W .any b0 30 v) (h : DataW.Trod enc Try.prog W base sp hd 30 v d p) :
    ∃ A n c, ∃ xs : List Int, v = .slice A n c ∧ n ≤ c ∧ c ≤ maxLen ∧ (SrcE W elI A xs ∧ xs.length = n) := by
  obtain ⟨A, n, c, rfl⟩ := okWide_slice Try.underlying30 hv
  obtain ⟨fuel, hf⟩ := h
  rcases open_ints Try.underlying30 Try.underlying3 (by kernel_rfl) hf with ⟨hcs, _⟩ | ⟨x, l, c', zs, hcs, _, hl, hm, hz, hx, hcell, hwz⟩
  · simp [Value.cells] at hcs
    obtain ⟨rfl, rfl, rfl⟩ := hcs
    exact ⟨none, 0, 0, [], rfl, Nat.le_refl _, Nat.zero_le _, SrcE.nil W _, rfl⟩
  · simp [Value.cells] at hcs
    obtain ⟨rfl, rfl, rfl⟩ := hcs
    have hnl : n ≤ zs.length := by rw [hz]; split <;> omega
    refine ⟨_, n, c, zs.take n, rfl, hl, hm, srcE_one rfl (fun x => .int .i64 x) (fun _ => rfl) (fun i y hy => ?_), by rw [List.length_take]; omega⟩
    rw [List.getElem?_take] at hy
    split at hy
    · rw [hcell i (List.getElem?_eq_some_iff.1 hy).1, List.getD_eq_getElem?_getD, hy]
      rfl
    · cases hy
end Go.Proofs.Ytajmdchidmamcaa.Lift
