/-
  What all the laws' last steps share: an argument that is only read reads behind the call as it did; bytes out of integers.
-/
import Derived.Test.YtdofipjjodijcaaDoorWords
import Derived.ProofKit
import Derived.OpenShut
import Derived.ShutString
import Derived.ChangeOld
namespace Go.Proofs.YtdofipjjodijcaaDoor.Lift
set_option maxRecDepth 100000
open Go.ChangeShapes Go.WideShapes Go.ChangeAt Go.RowKit Go.Proofs.YtdofipjjodijcaaDoor.Wd

theorem own : ownKnob Tryd.prog.godebug = none := by kernel_rfl
theorem laidOut : laidOutB Tryd.prog = true := by kernel_rfl

theorem byte_of {a : Int} (h : (Lit.int .u8 a).wf = true) : ∃ c : UInt8, a = (c.toNat : Int) := by
  have hx : 0 ≤ a ∧ a ≤ 255 := by simpa [Lit.wf, IntKind.min, IntKind.max, IntKind.signed, IntKind.bits] using h
  refine ⟨UInt8.ofNat a.toNat, ?_⟩
  simp only [UInt8.toNat_ofNat']
  omega
theorem int_of {a : Int} (h : (Lit.int .i64 a).wf = true) : -9223372036854775808 ≤ a ∧ a ≤ 9223372036854775807 := by
  simpa [Lit.wf, IntKind.min, IntKind.max, IntKind.signed, IntKind.bits] using h

/-- integers that fit a byte, as bytes -/
theorem bytes_of {zs : List Int} (h : ∀ n ∈ zs, (Lit.int .u8 n).wf = true) : ∃ xs : List UInt8, zs = xs.map fun c => (c.toNat : Int) := by
  induction zs with
  | nil => exact ⟨[], rfl⟩
  | cons z zs ih =>
    obtain ⟨c, rfl⟩ := byte_of (h z (by simp))
    obtain ⟨xs, rfl⟩ := ih (fun n hn => h n (by simp [hn]))
    exact ⟨c :: xs, rfl⟩

/-- a []byte that came in: what it leads to -/
theorem open_bytes {H : Type} {enc : TypeId × Value → H} {W : World} {sp : Nat → Bool} {hd : Bool} {base b0 : Nat} {v : Value} {d : DataW H} {p : List MemPlace}
    (hv : Value.okWide Tryd.prog W .any b0 36 v) (h : DataW.Trod enc Tryd.prog W base sp hd 36 v d p) : ∃ A n c xs, v = .slice A n c ∧ n ≤ c ∧ c ≤ maxLen ∧ Src W A n xs := by
  obtain ⟨A, n, c, rfl⟩ := okWide_slice Tryd.underlying36 hv
  obtain ⟨fuel, hf⟩ := h
  rcases open_ints Tryd.underlying36 Tryd.underlying5 (by kernel_rfl) hf with ⟨hcs, _⟩ | ⟨x, l, c', zs, hcs, _, hl, hm, hz, hx, hcell, hwz⟩
  · simp [Value.cells] at hcs
    obtain ⟨rfl, rfl, rfl⟩ := hcs
    exact ⟨none, 0, 0, [], rfl, Nat.le_refl _, Nat.zero_le _, Src.nil W⟩
  · simp [Value.cells] at hcs
    obtain ⟨rfl, rfl, rfl⟩ := hcs
    obtain ⟨xs, rfl⟩ := bytes_of hwz
    rw [List.length_map] at hz hcell
    have hnl : n ≤ xs.length := by rw [hz]; split <;> omega
    refine ⟨_, n, c, xs.take n, rfl, hl, hm, by rw [List.length_take]; omega, fun hn => ⟨x, rfl, ?_, fun j y hj => ?_⟩⟩
    · have h0 := hcell 0 (by omega)
      rcases Nat.lt_or_ge x.block W.heap.size with h | h
      · exact h
      · have : W.heap[x.block]? = none := Array.getElem?_eq_none h
        simp [World.cell?, block_of_add, this] at h0
    · rw [List.getElem?_take] at hj
      split at hj
      · have hjl := (List.getElem?_eq_some_iff.1 hj).1
        rw [hcell j hjl, List.getD_eq_getElem?_getD, List.getElem?_map, hj]
        rfl
      · cases hj
end Go.Proofs.YtdofipjjodijcaaDoor.Lift
