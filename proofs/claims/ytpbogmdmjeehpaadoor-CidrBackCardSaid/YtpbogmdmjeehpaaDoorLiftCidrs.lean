/-
  A slice of Cidrs that came in: what it leads to. Plain lemmas.
-/
import Derived.Test.YtpbogmdmjeehpaaDoorLiftLaid
import Derived.Test.YtpbogmdmjeehpaaDoorAdKey
import Derived.Deep.Slices
import Derived.Lib.LaidU8
set_option maxRecDepth 100000
namespace Go.Proofs.YtpbogmdmjeehpaaDoor.Lift
open Go.ChangeShapes Go.WideShapes Go.ChangeAt Go.RowKit Go.Deep Go.Proofs.YtpbogmdmjeehpaaDoor.Wd Go.Proofs.YtpbogmdmjeehpaaDoor.Ad

instance : Inhabited C := ⟨⟨List.replicate 16 0, 0⟩⟩
/-- a row of Cidrs that a slice leads to: n of them, nil let in -/
def SrcC (w : World) (A : Option Addr) (l : List C) : Prop :=
  l ≠ [] → ∃ g o, A = some ⟨g, o, none⟩ ∧ g < w.heap.size ∧ ∀ i c, l[i]? = some c → w.rangeAt g (o + i * 17) (cL c)
theorem SrcC.below {w w' : World} {A : Option Addr} {l : List C} {B : Nat} (h : SrcC w A l) (hb : Below B w w') (hB : w.heap.size ≤ B) : SrcC w' A l := fun hl => by
  obtain ⟨g, o, hA, hg, hr⟩ := h hl
  exact ⟨g, o, hA, Nat.lt_of_lt_of_le hg hb.size, fun i c hc j v hj => (hb.cell (p := ⟨g, o + i * 17 + j, none⟩) (Nat.lt_of_lt_of_le hg hB)).trans (hr i c hc j v hj)⟩
theorem add_flat (g o k : Nat) : (⟨g, o, none⟩ : Addr).add k = ⟨g, o + k, none⟩ := by
  unfold Addr.add
  split <;> simp_all
theorem addr_cells {H : Type} {enc : TypeId × Value → H} {W : World} {sp : Nat → Bool} {hd : Bool} {base fuel : Nat} {cs : List Value} {x : DataW H × List MemPlace}
    (hf : DataW.trod enc Tryd.prog W base sp hd fuel 23 cs = some x) : ∃ a : List UInt8, a.length = 16 ∧ cs = cellsOf a := by
  obtain ⟨xs, m, _, _, hlen, hxn, hel⟩ := DataW.trod_array und16 hf
  have hn16 : cs.length = 16 := by rw [hlen]; kernel_rfl
  have hc8 : Tryd.prog.cellsOf 5 = 1 := by kernel_rfl
  obtain ⟨a, ha⟩ := cells_of cs (fun x hx => by
    obtain ⟨i, hi, rfl⟩ := List.mem_iff_getElem.1 hx
    have h1 := hel i (by omega)
    rw [hc8, Nat.mul_one] at h1
    have hd1 : (cs.drop i).take 1 = [cs[i]] := by
      rw [List.drop_eq_getElem_cons hi]; rfl
    rw [hd1, List.getElem?_eq_getElem (show i < xs.length by omega)] at h1
    obtain ⟨n, hcs, _, hwf⟩ := DataW.trod_int Tryd.underlying5 h1
    obtain ⟨c, rfl⟩ := byte_of hwf
    exact ⟨c, by simpa [b8] using hcs⟩)
  exact ⟨a, by rw [← cellsOf_length, ← ha]; exact hn16, ha⟩
theorem cidr_cells {H : Type} {enc : TypeId × Value → H} {W : World} {sp : Nat → Bool} {hd : Bool} {base fuel : Nat} {cs : List Value} {x : DataW H × List MemPlace}
    (hf : DataW.trod enc Tryd.prog W base sp hd fuel 25 cs = some x) : ∃ c : C, OkC c ∧ cs = cL c := by
  obtain ⟨f, g, hfg, f1, f2, _, g1, g2, _⟩ := fields17
  obtain ⟨xs, m, _, _, hlen, hxn, hel⟩ := DataW.trod_struct und17 hf
  have hl17 : cs.length = 17 := by rw [hlen]; exact cells17'
  have hx2 : xs.length = 2 := by rw [hxn, ← Array.length_toList, hfg]; rfl
  have h0 := hel 0 f (by rw [← Array.getElem?_toList, hfg]; rfl)
  have h1 := hel 1 g (by rw [← Array.getElem?_toList, hfg]; rfl)
  rw [f1, f2, cells16', List.drop_zero, List.getElem?_eq_getElem (show 0 < xs.length by omega)] at h0
  rw [g1, g2, cells64, List.getElem?_eq_getElem (show 1 < xs.length by omega)] at h1
  obtain ⟨a, ha, hca⟩ := addr_cells h0
  obtain ⟨n, hcn, _, hwf⟩ := DataW.trod_int Tryd.underlying3 h1
  have hn := int_of hwf
  refine ⟨⟨a, n⟩, ⟨ha, hn.1, hn.2⟩, ?_⟩
  have hd1 : cs.drop 16 = [.int .i64 n] := by
    rw [← hcn, List.take_of_length_le]
    rw [List.length_drop]; omega
  show cs = cellsOf a ++ [.int .i64 n]
  rw [← hca, ← hd1, List.take_append_drop]
/-- a Cidr that came in -/
theorem open_cidr {H : Type} {enc : TypeId × Value → H} {W : World} {sp : Nat → Bool} {hd : Bool} {base b0 : Nat} {v : Value} {d : DataW H} {p : List MemPlace}
    (hv : Value.okWide Tryd.prog W .any b0 25 v) (h : DataW.Trod enc Tryd.prog W base sp hd 25 v d p) : ∃ c : C, OkC c ∧ v = .agg c.cells := by
  unfold Value.okWide at hv
  rw [und17] at hv
  obtain ⟨cs, rfl, hn, _⟩ := hv
  obtain ⟨fuel, hf⟩ := h
  have h2 : (Value.agg cs).cells.toList = cs.toList := rfl
  rw [h2] at hf
  obtain ⟨c, hok, hcs⟩ := cidr_cells hf
  refine ⟨c, hok, ?_⟩
  show Value.agg cs = .agg (cL c).toArray
  rw [← hcs]
/-- a []api.Cidr that came in -/
theorem open_cidrs {H : Type} {enc : TypeId × Value → H} {W : World} {sp : Nat → Bool} {hd : Bool} {base b0 : Nat} {v : Value} {d : DataW H} {p : List MemPlace}
    (hv : Value.okWide Tryd.prog W .any b0 37 v) (h : DataW.Trod enc Tryd.prog W base sp hd 37 v d p) :
    ∃ A n cap l, v = .slice A n cap ∧ n ≤ cap ∧ cap ≤ maxLen ∧ l.length = n ∧ (∀ c ∈ l, OkC c) ∧ SrcC W A l := by
  have hU : Tryd.prog.underlying 37 = some (.slice 25) := by kernel_rfl
  obtain ⟨A, n, c, rfl⟩ := okWide_slice hU hv
  obtain ⟨fuel, hf⟩ := h
  rcases open_slice hU hf with ⟨hcs, _⟩ | ⟨a, len, cap, m, k, D, Pl, hcs, _, hl, hm, hmm, _, hx⟩
  · simp [Value.cells] at hcs
    obtain ⟨rfl, rfl, rfl⟩ := hcs
    exact ⟨none, 0, 0, [], rfl, Nat.le_refl _, Nat.zero_le _, rfl, (fun c hc => by cases hc), fun h => absurd rfl h⟩
  · simp [Value.cells] at hcs
    obtain ⟨rfl, rfl, rfl⟩ := hcs
    have hlm : n ≤ m := by rw [hmm]; split <;> omega
    obtain ⟨V, hV⟩ := choose_lt (α := C) (p := fun i x => OkC x ∧ W.cells? base (a.add (i * 17)) 17 = some (cL x)) (fun i hi => by
      obtain ⟨cs', h1, h2⟩ := hx i hi
      rw [cells17'] at h1
      obtain ⟨x, hok, rfl⟩ := cidr_cells h2
      exact ⟨x, hok, h1⟩)
    refine ⟨_, n, c, (List.range n).map V, rfl, hl, hm, by simp, fun x hx => ?_, fun hne => ?_⟩
    · obtain ⟨i, hi, rfl⟩ := List.mem_map.1 hx
      exact (hV i (by have := List.mem_range.1 hi; omega)).1
    · have hn0 : 0 < n := by
        rcases Nat.eq_zero_or_pos n with h | h
        · subst h; exact absurd rfl hne
        · exact h
      have hc0 := (World.cells?_some (hV 0 (by omega)).2).2.2 0 (by omega)
      obtain ⟨g, o, spot⟩ := a
      have e0 : (cL (V 0))[0]? = some ((cL (V 0))[0]'(by rw [cL_len _ (hV 0 (by omega)).1.len]; omega)) := List.getElem?_eq_getElem _
      rw [e0] at hc0
      obtain rfl := Go.Proofs.cell_spot hc0
      refine ⟨g, o, rfl, ?_, fun i x hi j u hj => ?_⟩
      · rcases Nat.lt_or_ge g W.heap.size with h | h
        · exact h
        · have : W.heap[g]? = none := Array.getElem?_eq_none h
          simp [World.cell?, this, Addr.add] at hc0
      · obtain ⟨hin, rfl⟩ : i < n ∧ V i = x := by
          rw [List.getElem?_map, Option.map_eq_some_iff] at hi
          obtain ⟨y, hy, rfl⟩ := hi
          have := List.getElem?_eq_some_iff.1 hy
          obtain ⟨h1, h2⟩ := this
          simp at h1 h2
          subst h2
          exact ⟨h1, rfl⟩
        have hj17 : j < 17 := by have := (List.getElem?_eq_some_iff.1 hj).1; rwa [cL_len _ (hV i (by omega)).1.len] at this
        have h3 := (World.cells?_some (hV i (by omega)).2).2.2 j hj17
        rw [hj] at h3
        rw [add_flat, add_flat] at h3
        exact h3
end Go.Proofs.YtpbogmdmjeehpaaDoor.Lift
