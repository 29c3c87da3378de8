/-
  A request that came in: what it holds. Plain lemmas.
-/
import Derived.Test.YtgpgkfbbpiialaaGreatDoorMLi
import Derived.Test.YtgpgkfbbpiialaaGreatDoorMRl
set_option maxRecDepth 100000
namespace Go.Proofs.YtgpgkfbbpiialaaGreatDoor.Lift
open Go.ChangeShapes Go.WideShapes Go.ChangeAt Go.RowKit Go.Proofs.YtgpgkfbbpiialaaGreatDoor.Wd Go.Proofs.YtgpgkfbbpiialaaGreatDoor.Asc Go.Proofs.YtgpgkfbbpiialaaGreatDoor.Tx Go.Proofs.YtgpgkfbbpiialaaGreatDoor.Rl

theorem cellsS : Tryz.prog.cellsOf 9 = 1 := by kernel_rfl
theorem cellsI : Tryz.prog.cellsOf 3 = 1 := by kernel_rfl
theorem cellsR : Tryz.prog.cellsOf 23 = 3 := by kernel_rfl
theorem list3 {α : Type} : ∀ {L : List α}, L.length = 3 → ∃ a b c, L = [a, b, c]
  | [a, b, c], _ => ⟨a, b, c, rfl⟩
theorem req_cells {H : Type} {enc : TypeId × Value → H} {W : World} {sp : Nat → Bool} {hd : Bool} {base fuel : Nat} {cs : List Value} {x : DataW H × List MemPlace}
    (hf : DataW.trod enc Tryz.prog W base sp hd fuel 23 cs = some x) :
    ∃ r : Rq, cs = (rqC r).toList ∧ r.meth.length ≤ maxLen ∧ r.targ.length ≤ maxLen ∧ -9223372036854775808 ≤ r.minor ∧ r.minor ≤ 9223372036854775807 := by
  obtain ⟨f, g, h, hfg, ⟨f1, f2, _⟩, ⟨g1, g2, _⟩, ⟨h1, h2, _⟩⟩ := fieldsR
  obtain ⟨xs, m, _, _, hlen, hxn, hel⟩ := DataW.trod_struct undR hf
  have hl3 : cs.length = 3 := by rw [hlen]; exact cellsR
  have hx3 : xs.length = 3 := by rw [hxn, ← Array.length_toList, hfg]; rfl
  have e0 := hel 0 f (by rw [← Array.getElem?_toList, hfg]; rfl)
  have e1 := hel 1 g (by rw [← Array.getElem?_toList, hfg]; rfl)
  have e2 := hel 2 h (by rw [← Array.getElem?_toList, hfg]; rfl)
  obtain ⟨a, b, c, rfl⟩ := list3 hl3
  rw [f1, f2, cellsS, List.getElem?_eq_getElem (show 0 < xs.length by omega)] at e0
  rw [g1, g2, cellsS, List.getElem?_eq_getElem (show 1 < xs.length by omega)] at e1
  rw [h1, h2, cellsI, List.getElem?_eq_getElem (show 2 < xs.length by omega)] at e2
  obtain ⟨s0, hs0, _, hz0⟩ := DataW.trod_string Tryz.underlying9 e0
  obtain ⟨s1, hs1, _, hz1⟩ := DataW.trod_string Tryz.underlying9 e1
  obtain ⟨n, hcn, _, hwf⟩ := DataW.trod_int Tryz.underlying3 e2
  have hn := int_of hwf
  simp only [List.drop_zero, List.take_succ_cons, List.take_zero, List.cons.injEq, and_true, List.drop_succ_cons] at hs0 hs1 hcn
  subst hs0 hs1 hcn
  refine ⟨⟨bs s0, bs s1, n⟩, ?_, by rw [bs_length]; exact hz0, by rw [bs_length]; exact hz1, hn.1, hn.2⟩
  show _ = [Value.string (str (bs s0)), .string (str (bs s1)), .int .i64 n]
  rw [str_bs, str_bs]
/-- a request that came in -/
theorem open_request {H : Type} {enc : TypeId × Value → H} {W : World} {sp : Nat → Bool} {hd : Bool} {base b0 : Nat} {v : Value} {d : DataW H} {p : List MemPlace}
    (hv : Value.okWide Tryz.prog W .any b0 23 v) (h : DataW.Trod enc Tryz.prog W base sp hd 23 v d p) :
    ∃ r : Rq, v = .agg (rqC r) ∧ r.meth.length ≤ maxLen ∧ r.targ.length ≤ maxLen ∧ (-9223372036854775808 ≤ r.minor ∧ r.minor ≤ 9223372036854775807) := by
  unfold Value.okWide at hv
  rw [undR] at hv
  obtain ⟨cs, rfl, hn, _⟩ := hv
  obtain ⟨fuel, hf⟩ := h
  have h2 : (Value.agg cs).cells.toList = cs.toList := rfl
  rw [h2] at hf
  obtain ⟨r, hcs, h3, h4, h5, h6⟩ := req_cells hf
  exact ⟨r, congrArg Value.agg (Array.ext' hcs), h3, h4, h5, h6⟩
end Go.Proofs.YtgpgkfbbpiialaaGreatDoor.Lift
