/-
  A slice of slices of bytes, and a slice of ints, that came in: what they lead to.
-/
import Derived.Test.YtnmfgimcclpfbaaLift
import Derived.Test.YtnmfgimcclpfbaaLift2
import Derived.Test.YtnmfgimcclpfbaaRgMem
import Derived.Deep.Slices
set_option maxRecDepth 100000
namespace Go.Proofs.Ytnmfgimcclpfbaa.Lift
open Go.ChangeShapes Go.WideShapes Go.ChangeAt Go.RowKit Go.Deep Go.Proofs.Ytnmfgimcclpfbaa.Wd

/-- one slice of bytes -/
structure Sb where
  A : Option Addr
  n : Nat
  c : Nat
  b : List UInt8
instance : Inhabited Sb := ⟨⟨none, 0, 0, []⟩⟩
structure Sb.Ok (w : World) (x : Sb) : Prop where
  nc : x.n ≤ x.c
  src : Src w x.A x.n x.b
/-- a row of slices of bytes that a slice leads to, nil let in -/
def SrcRows (w : World) (A : Option Addr) (l : List Sb) : Prop :=
  ∀ i x, l[i]? = some x → x.Ok w ∧ ∃ g o, A = some ⟨g, o, none⟩ ∧ g < w.heap.size ∧ w.cell? ⟨g, o + i, none⟩ = some (.slice x.A x.n x.c)
theorem SrcRows.below {w w' : World} {A : Option Addr} {l : List Sb} (h : SrcRows w A l) (hb : Below w.heap.size w w') : SrcRows w' A l := fun i x hx => by
  obtain ⟨hok, g, o, hA, hg, h0⟩ := h i x hx
  exact ⟨⟨hok.nc, hok.src.below hb⟩, g, o, hA, Nat.lt_of_lt_of_le hg hb.size, (hb.cell (p := ⟨g, _, none⟩) hg).trans h0⟩
/-- number k, as it lies in a later world -/
theorem SrcRows.get {w wr : World} {A : Option Addr} {l : List Sb} {k : Nat} (h : SrcRows w A l) (hk : k < l.length) (hb : Below w.heap.size w wr) :
    ∃ x g o, l[k]? = some x ∧ x.Ok w ∧ A = some ⟨g, o, none⟩ ∧ g < w.heap.size ∧ wr.cell? ⟨g, o + k, none⟩ = some (.slice x.A x.n x.c) := by
  have hx : l[k]? = some l[k] := List.getElem?_eq_getElem hk
  obtain ⟨hok, g, o, hA, hg, h0⟩ := h k _ hx
  exact ⟨l[k], g, o, hx, hok, hA, hg, (hb.cell (p := ⟨g, _, none⟩) hg).trans h0⟩
theorem sb_cells {H : Type} {enc : TypeId × Value → H} {W : World} {sp : Nat → Bool} {hd : Bool} {base fuel : Nat} {cs : List Value} {x : DataW H × List MemPlace}
    (hf : DataW.trod enc Try.prog W base sp hd fuel 29 cs = some x) : ∃ y : Sb, cs = [.slice y.A y.n y.c] ∧ y.Ok W := by
  have hU : Try.prog.underlying 29 = some (.slice 5) := Try.underlying29
  rcases open_ints hU Try.underlying5 (by kernel_rfl) hf with ⟨hcs, hx⟩ | ⟨a, l, c', zs, hcs, _, hl, hm, hz, hx, hcell, hwz⟩
  · exact ⟨⟨none, 0, 0, []⟩, hcs, Nat.le_refl _, Src.nil W⟩
  · obtain ⟨xs, rfl⟩ := bytes_of hwz
    rw [List.length_map] at hz hcell
    have hnl : l ≤ xs.length := by rw [hz]; split <;> omega
    refine ⟨⟨some a, l, c', xs.take l⟩, hcs, hl, ⟨by show (xs.take l).length = l; rw [List.length_take]; omega, fun hn => ⟨a, rfl, ?_, fun j y hj => ?_⟩⟩⟩
    · have h0 := hcell 0 (by have : 0 < l := hn; omega)
      have hb := block_lt_of_cell h0
      rwa [block_of_add] at hb
    · have hj' : (xs.take l)[j]? = some y := hj
      rw [List.getElem?_take] at hj'
      split at hj'
      · have hjl := (List.getElem?_eq_some_iff.1 hj').1
        rw [hcell j hjl, List.getD_eq_getElem?_getD, List.getElem?_map, hj']
        rfl
      · cases hj'
/-- a [][]byte that came in -/
theorem open_rows {H : Type} {enc : TypeId × Value → H} {W : World} {sp : Nat → Bool} {hd : Bool} {base b0 : Nat} {v : Value} {d : DataW H} {p : List MemPlace}
    (hv : Value.okWide Try.prog W .any b0 39 v) (h : DataW.Trod enc Try.prog W base sp hd 39 v d p) :
    ∃ A n cap l, v = .slice A n cap ∧ n ≤ cap ∧ cap ≤ maxLen ∧ (l.length = n ∧ SrcRows W A l) := by
  have hU : Try.prog.underlying 39 = some (.slice 29) := Try.underlying39
  obtain ⟨A, n, c, rfl⟩ := okWide_slice hU hv
  obtain ⟨fuel, hf⟩ := h
  rcases open_slice hU hf with ⟨hcs, _⟩ | ⟨a, len, cap, m, k, D, Pl, hcs, _, hl, hm, hmm, hdd, hx⟩
  · simp [Value.cells] at hcs
    obtain ⟨rfl, rfl, rfl⟩ := hcs
    exact ⟨none, 0, 0, [], rfl, Nat.le_refl _, Nat.zero_le _, rfl, fun i x hi => by cases i <;> cases hi⟩
  · simp [Value.cells] at hcs
    obtain ⟨rfl, rfl, rfl⟩ := hcs
    have hlm : n ≤ m := by rw [hmm]; split <;> omega
    have c1 : Try.prog.cellsOf 29 = 1 := by kernel_rfl
    obtain ⟨V, hV⟩ := choose_lt (α := Sb) (n := n) (p := fun i x => x.Ok W ∧ W.cells? base (a.add (i * 1)) 1 = some [.slice x.A x.n x.c]) (fun i hi => by
      obtain ⟨cs', h1, h2⟩ := hx i (by omega)
      rw [c1] at h1
      obtain ⟨x, rfl, hok⟩ := sb_cells h2
      exact ⟨x, hok, h1⟩)
    refine ⟨_, n, c, (List.range n).map V, rfl, hl, hm, by simp, fun i x hi => ?_⟩
    obtain ⟨hin, rfl⟩ : i < n ∧ V i = x := by
      rw [List.getElem?_map, Option.map_eq_some_iff] at hi
      obtain ⟨y, hy, rfl⟩ := hi
      obtain ⟨h1, h2⟩ := List.getElem?_eq_some_iff.1 hy
      simp at h1 h2
      subst h2
      exact ⟨h1, rfl⟩
    refine ⟨(hV i hin).1, ?_⟩
    have hc := (World.cells?_some (hV i hin).2).2.2
    have hc0 := (World.cells?_some (hV 0 (by omega)).2).2.2 0 (by omega)
    obtain ⟨g, o, spot⟩ := a
    rw [show [Value.slice (V 0).A (V 0).n (V 0).c][0]? = some (.slice (V 0).A (V 0).n (V 0).c) from rfl] at hc0
    have hspot : spot = none := by simpa [Addr.add] using World.cell?_spot hc0
    subst hspot
    have hlt : g < W.heap.size := by
      have hb := block_lt_of_cell hc0
      rwa [block_of_add, block_of_add] at hb
    have g0 := hc 0 (by omega)
    rw [add_none, add_none, Nat.mul_one] at g0
    exact ⟨g, o, rfl, hlt, g0⟩
/-- a []int that came in -/
theorem open_i64s {H : Type} {enc : TypeId × Value → H} {W : World} {sp : Nat → Bool} {hd : Bool} {base b0 : Nat} {v : Value} {d : DataW H} {p : List MemPlace}
    (hv : Value.okWide Try.prog W .any b0 40 v) (h : DataW.Trod enc Try.prog W base sp hd 40 v d p) :
    ∃ A n c, ∃ zs : List Int, v = .slice A n c ∧ n ≤ c ∧ c ≤ maxLen ∧ (SrcV W A n (zs.map (Value.int .i64)) ∧ ∀ z ∈ zs, -9223372036854775808 ≤ z ∧ z ≤ 9223372036854775807) := by
  obtain ⟨A, n, c, rfl⟩ := okWide_slice Try.underlying40 hv
  obtain ⟨fuel, hf⟩ := h
  rcases open_ints Try.underlying40 Try.underlying3 (by kernel_rfl) hf with ⟨hcs, _⟩ | ⟨x, l, c', zs, hcs, _, hl, hm, hz, hx, hcell, hwz⟩
  · simp [Value.cells] at hcs
    obtain ⟨rfl, rfl, rfl⟩ := hcs
    exact ⟨none, 0, 0, [], rfl, Nat.le_refl _, Nat.zero_le _, ⟨rfl, fun h => absurd h (by omega)⟩, fun z hz => by cases hz⟩
  · simp [Value.cells] at hcs
    obtain ⟨rfl, rfl, rfl⟩ := hcs
    have hnl : n ≤ zs.length := by rw [hz]; split <;> omega
    refine ⟨_, n, c, zs.take n, rfl, hl, hm, ⟨by rw [List.length_map, List.length_take]; omega, fun hn => ⟨x, rfl, ?_, fun j y hj => ?_⟩⟩, fun z hz => int_of (hwz z (List.mem_of_mem_take hz))⟩
    · have hb := block_lt_of_cell (hcell 0 (by omega)); rwa [block_of_add] at hb
    · rw [List.getElem?_map, List.getElem?_take] at hj
      split at hj
      · cases hzj : zs[j]? with
        | none => rw [hzj] at hj; cases hj
        | some z =>
          rw [hzj] at hj
          injection hj with hj
          subst hj
          rw [hcell j (List.getElem?_eq_some_iff.1 hzj).1, List.getD_eq_getElem?_getD, hzj]
          rfl
      · cases hj
end Go.Proofs.Ytnmfgimcclpfbaa.Lift
