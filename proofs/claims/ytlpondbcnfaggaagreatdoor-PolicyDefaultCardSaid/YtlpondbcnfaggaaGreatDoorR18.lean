/-
  What all the laws' last steps share: an argument that is only read reads behind the call as it did; bytes out of integers.
-/
import Derived.Test.YtlpondbcnfaggaaGreatDoorR01
import Derived.ProofKit
import Derived.OpenShut
import Derived.ShutString
import Derived.ChangeOld
import Derived.Test.YtlpondbcnfaggaaGreatDoorR13
import Derived.Deep.Slices
import Derived.Test.YtlpondbcnfaggaaGreatDoorR14
namespace Go.Proofs.YtlpondbcnfaggaaGreatDoor.Lift
set_option maxRecDepth 100000
open Go.ChangeShapes Go.WideShapes Go.ChangeAt Go.RowKit Go.Proofs.YtlpondbcnfaggaaGreatDoor.Wd

theorem own : ownKnob Tryz.prog.godebug = none := by kernel_rfl
theorem laidOut : laidOutB Tryz.prog = true := by kernel_rfl

theorem byte_of {a : Int} (h : (Lit.int .u8 a).wf = true) : ∃ c : UInt8, a = (c.toNat : Int) := by
  have hx : 0 ≤ a ∧ a ≤ 255 := by simpa [Lit.wf, IntKind.min, IntKind.max, IntKind.signed, IntKind.bits] using h
  refine ⟨UInt8.ofNat a.toNat, ?_⟩
  simp only [UInt8.toNat_ofNat']
  omega
theorem int_of {a : Int} (h : (Lit.int .i64 a).wf = true) : -9223372036854775808 ≤ a ∧ a ≤ 9223372036854775807 := by
  simpa [Lit.wf, IntKind.min, IntKind.max, IntKind.signed, IntKind.bits] using h

/-- integers that fit a byte, as bytes -/
theorem bytes_of {zs : List Int} (h : ∀ n ∈ zs, (Lit.int .u8 n).wf = true) : ∃ xs : List UInt8, zs = xs.map fun c => (c.toNat : Int) := by
  induction zs with
  | nil => exact ⟨[], rfl⟩
  | cons z zs ih =>
    obtain ⟨c, rfl⟩ := byte_of (h z (by simp))
    obtain ⟨xs, rfl⟩ := ih (fun n hn => h n (by simp [hn]))
    exact ⟨c :: xs, rfl⟩

/-- a []byte that came in: what it leads to -/
theorem open_bytes {H : Type} {enc : TypeId × Value → H} {W : World} {sp : Nat → Bool} {hd : Bool} {base b0 : Nat} {v : Value} {d : DataW H} {p : List MemPlace}
    (hv : Value.okWide Tryz.prog W .any b0 110 v) (h : DataW.Trod enc Tryz.prog W base sp hd 110 v d p) : ∃ A n c xs, v = .slice A n c ∧ n ≤ c ∧ c ≤ maxLen ∧ Src W A n xs := by
  obtain ⟨A, n, c, rfl⟩ := okWide_slice Tryz.underlying110 hv
  obtain ⟨fuel, hf⟩ := h
  rcases open_ints Tryz.underlying110 Tryz.underlying5 (by kernel_rfl) hf with ⟨hcs, _⟩ | ⟨x, l, c', zs, hcs, _, hl, hm, hz, hx, hcell, hwz⟩
  · simp [Value.cells] at hcs
    obtain ⟨rfl, rfl, rfl⟩ := hcs
    exact ⟨none, 0, 0, [], rfl, Nat.le_refl _, Nat.zero_le _, Src.nil W⟩
  · simp [Value.cells] at hcs
    obtain ⟨rfl, rfl, rfl⟩ := hcs
    obtain ⟨xs, rfl⟩ := bytes_of hwz
    rw [List.length_map] at hz hcell
    have hnl : n ≤ xs.length := by rw [hz]; split <;> omega
    refine ⟨_, n, c, xs.take n, rfl, hl, hm, by rw [List.length_take]; omega, fun hn => ⟨x, rfl, ?_, fun j y hj => ?_⟩⟩
    · have h0 := hcell 0 (by omega)
      rcases Nat.lt_or_ge x.block W.heap.size with h | h
      · exact h
      · have : W.heap[x.block]? = none := Array.getElem?_eq_none h
        simp [World.cell?, block_of_add, this] at h0
    · rw [List.getElem?_take] at hj
      split at hj
      · have hjl := (List.getElem?_eq_some_iff.1 hj).1
        rw [hcell j hjl, List.getD_eq_getElem?_getD, List.getElem?_map, hj]
        rfl
      · cases hj
end Go.Proofs.YtlpondbcnfaggaaGreatDoor.Lift

/-
  A rule, rules in a row, that came in: what they hold. Plain lemmas.
-/
set_option maxRecDepth 100000
namespace Go.Proofs.YtlpondbcnfaggaaGreatDoor.Lift
open Go.ChangeShapes Go.WideShapes Go.ChangeAt Go.RowKit Go.Deep Go.Proofs.YtlpondbcnfaggaaGreatDoor.Wd Go.Proofs.YtlpondbcnfaggaaGreatDoor.Asc Go.Proofs.YtlpondbcnfaggaaGreatDoor.Tx Go.Proofs.YtlpondbcnfaggaaGreatDoor.Tr

theorem cellsUs : Tryz.prog.cellsOf 9 = 1 := by kernel_rfl
theorem cellsUi : Tryz.prog.cellsOf 3 = 1 := by kernel_rfl
theorem cellsUb : Tryz.prog.cellsOf 4 = 1 := by kernel_rfl
theorem cellsU : Tryz.prog.cellsOf 23 = 5 := by kernel_rfl
/-- what a rule that came in is: its texts are no longer than any, its numbers are of 64 bits -/
structure WfU (r : Ru) : Prop where
  pa : r.pa.length ≤ maxLen
  ap : r.ap.length ≤ maxLen
  pr : -9223372036854775808 ≤ r.pr ∧ r.pr ≤ 9223372036854775807
  po : -9223372036854775808 ≤ r.po ∧ r.po ≤ 9223372036854775807
theorem ru_cells {H : Type} {enc : TypeId × Value → H} {W : World} {sp : Nat → Bool} {hd : Bool} {base fuel : Nat} {cs : List Value} {x : DataW H × List MemPlace}
    (hf : DataW.trod enc Tryz.prog W base sp hd fuel 23 cs = some x) : ∃ r : Ru, cs = (ruC r).toList ∧ WfU r := by
  obtain ⟨f0, f1, f2, f3, f4, hfg, ⟨a0, b0, _⟩, ⟨a1, b1, _⟩, ⟨a2, b2, _⟩, ⟨a3, b3, _⟩, ⟨a4, b4, _⟩⟩ := fieldsU
  obtain ⟨xs, m, _, _, hlen, hxn, hel⟩ := DataW.trod_struct undU hf
  have hl5 : cs.length = 5 := by rw [hlen]; exact cellsU
  have hx5 : xs.length = 5 := by rw [hxn, ← Array.length_toList, hfg]; rfl
  have e0 := hel 0 f0 (by rw [← Array.getElem?_toList, hfg]; rfl)
  have e1 := hel 1 f1 (by rw [← Array.getElem?_toList, hfg]; rfl)
  have e2 := hel 2 f2 (by rw [← Array.getElem?_toList, hfg]; rfl)
  have e3 := hel 3 f3 (by rw [← Array.getElem?_toList, hfg]; rfl)
  have e4 := hel 4 f4 (by rw [← Array.getElem?_toList, hfg]; rfl)
  obtain ⟨v0, v1, v2, v3, v4, rfl⟩ : ∃ v0 v1 v2 v3 v4, cs = [v0, v1, v2, v3, v4] := by
    match cs, hl5 with
    | [v0, v1, v2, v3, v4], _ => exact ⟨v0, v1, v2, v3, v4, rfl⟩
  rw [a0, b0, cellsUb, List.getElem?_eq_getElem (show 0 < xs.length by omega)] at e0
  rw [a1, b1, cellsUi, List.getElem?_eq_getElem (show 1 < xs.length by omega)] at e1
  rw [a2, b2, cellsUs, List.getElem?_eq_getElem (show 2 < xs.length by omega)] at e2
  rw [a3, b3, cellsUi, List.getElem?_eq_getElem (show 3 < xs.length by omega)] at e3
  rw [a4, b4, cellsUs, List.getElem?_eq_getElem (show 4 < xs.length by omega)] at e4
  obtain ⟨x0, c0, _⟩ := DataW.trod_bool Tryz.underlying4 e0
  obtain ⟨x1, c1, _, w1⟩ := DataW.trod_int Tryz.underlying3 e1
  obtain ⟨s2, c2, _, z2⟩ := DataW.trod_string Tryz.underlying9 e2
  obtain ⟨x3, c3, _, w3⟩ := DataW.trod_int Tryz.underlying3 e3
  obtain ⟨s4, c4, _, z4⟩ := DataW.trod_string Tryz.underlying9 e4
  simp only [List.drop_zero, List.take_succ_cons, List.take_zero, List.cons.injEq, and_true, List.drop_succ_cons] at c0 c1 c2 c3 c4
  subst c0 c1 c2 c3 c4
  refine ⟨⟨x0, x1, bs s2, x3, bs s4⟩, ?_, ⟨by rw [bs_length]; exact z2, by rw [bs_length]; exact z4, int_of w1, int_of w3⟩⟩
  show _ = [Value.bool x0, .int .i64 x1, .string (str (bs s2)), .int .i64 x3, .string (str (bs s4))]
  rw [str_bs, str_bs]
/-- a rule that came in -/
theorem open_rule {H : Type} {enc : TypeId × Value → H} {W : World} {sp : Nat → Bool} {hd : Bool} {base b0 : Nat} {v : Value} {d : DataW H} {p : List MemPlace}
    (hv : Value.okWide Tryz.prog W .any b0 23 v) (h : DataW.Trod enc Tryz.prog W base sp hd 23 v d p) : ∃ r : Ru, v = .agg (ruC r) ∧ WfU r := by
  unfold Value.okWide at hv
  rw [undU] at hv
  obtain ⟨cs, rfl, hn, _⟩ := hv
  obtain ⟨fuel, hf⟩ := h
  have h2 : (Value.agg cs).cells.toList = cs.toList := rfl
  rw [h2] at hf
  obtain ⟨r, hcs, h3⟩ := ru_cells hf
  exact ⟨r, congrArg Value.agg (Array.ext' hcs), h3⟩
instance : Inhabited Ru := ⟨Ru.zero⟩
/-- rules that came in -/
theorem open_rules {H : Type} {enc : TypeId × Value → H} {W : World} {sp : Nat → Bool} {hd : Bool} {base b0 : Nat} {v : Value} {d : DataW H} {p : List MemPlace}
    (hv : Value.okWide Tryz.prog W .any b0 29 v) (h : DataW.Trod enc Tryz.prog W base sp hd 29 v d p) :
    ∃ A n cap l, v = .slice A n cap ∧ n ≤ cap ∧ cap ≤ maxLen ∧ l.length = n ∧ (∀ r ∈ l, WfU r) ∧ SrcU W A l := by
  have hU : Tryz.prog.underlying 29 = some (.slice 23) := Tryz.underlying29
  obtain ⟨A, n, c, rfl⟩ := okWide_slice hU hv
  obtain ⟨fuel, hf⟩ := h
  rcases open_slice hU hf with ⟨hcs, _⟩ | ⟨a, len, cap, m, k, D, Pl, hcs, _, hl, hm, hmm, hdd, hx⟩
  · simp [Value.cells] at hcs
    obtain ⟨rfl, rfl, rfl⟩ := hcs
    exact ⟨none, 0, 0, [], rfl, Nat.le_refl _, Nat.zero_le _, rfl, (fun r hr => by cases hr), SrcU.nil W _⟩
  · simp [Value.cells] at hcs
    obtain ⟨rfl, rfl, rfl⟩ := hcs
    have hlm : n ≤ m := by rw [hmm]; split <;> omega
    obtain ⟨V, hV⟩ := choose_lt (α := Ru) (n := n) (p := fun i r => WfU r ∧ W.cells? base (a.add (i * 5)) 5 = some (ruC r).toList) (fun i hi => by
      obtain ⟨cs', h1, h2⟩ := hx i (by omega)
      rw [cellsU] at h1
      obtain ⟨r, rfl, hr⟩ := ru_cells h2
      exact ⟨r, hr, h1⟩)
    refine ⟨_, n, c, (List.range n).map V, rfl, hl, hm, by simp, fun r hr => ?_, fun i r hi => ?_⟩
    · obtain ⟨i, hi, rfl⟩ := List.mem_map.1 hr
      exact (hV i (List.mem_range.1 hi)).1
    · obtain ⟨hin, rfl⟩ : i < n ∧ V i = r := by
        rw [List.getElem?_map, Option.map_eq_some_iff] at hi
        obtain ⟨y, hy, rfl⟩ := hi
        obtain ⟨h1, h2⟩ := List.getElem?_eq_some_iff.1 hy
        simp at h1 h2
        subst h2
        exact ⟨h1, rfl⟩
      have hc := (World.cells?_some (hV i hin).2).2.2
      have hc0 := (World.cells?_some (hV 0 (by omega)).2).2.2 0 (by omega)
      obtain ⟨g, o, spot⟩ := a
      rw [show (ruC (V 0)).toList[0]? = some (.bool (V 0).al) from rfl] at hc0
      have hspot : spot = none := by simpa [Addr.add] using World.cell?_spot hc0
      subst hspot
      have hlt : g < W.heap.size := by
        have hb := block_lt_of_cell hc0
        rwa [block_of_add, block_of_add] at hb
      have g0 := hc 0 (by omega)
      have g1 := hc 1 (by omega)
      have g2 := hc 2 (by omega)
      have g3 := hc 3 (by omega)
      have g4 := hc 4 (by omega)
      rw [add_none, add_none] at g0 g1 g2 g3 g4
      exact ⟨g, o, rfl, hlt, g0, g1, g2, g3, g4⟩
end Go.Proofs.YtlpondbcnfaggaaGreatDoor.Lift

/-
  A policy that came in: what it holds. Plain lemmas.
-/
set_option maxRecDepth 100000
namespace Go.Proofs.YtlpondbcnfaggaaGreatDoor.Lift
open Go.ChangeShapes Go.WideShapes Go.ChangeAt Go.RowKit Go.Deep Go.Proofs.YtlpondbcnfaggaaGreatDoor.Wd Go.Proofs.YtlpondbcnfaggaaGreatDoor.Asc Go.Proofs.YtlpondbcnfaggaaGreatDoor.Tx Go.Proofs.YtlpondbcnfaggaaGreatDoor.Tr Go.Proofs.YtlpondbcnfaggaaGreatDoor.Po Go.Proofs.YtlpondbcnfaggaaGreatDoor.Te

theorem undPoL : Tryz.prog.underlying 53 = some (.struct (Tryz.prog.fieldsOf 53)) := by kernel_rfl
theorem fieldsPoL : ∃ f0 f1 f2 : Field, (Tryz.prog.fieldsOf 53).toList = [f0, f1, f2] ∧ (f0.type = 4 ∧ f0.offset = 0) ∧ (f1.type = 29 ∧ f1.offset = 1) ∧ (f2.type = 51 ∧ f2.offset = 2) := by
  simp only [Program.fieldsOf, Tryz.underlying53]
  exact ⟨_, _, _, rfl, ⟨rfl, rfl⟩, ⟨rfl, rfl⟩, ⟨rfl, rfl⟩⟩
theorem fieldsCi : ∃ f g : Field, (Tryz.prog.fieldsOf 95).toList = [f, g] ∧ (f.type = 48 ∧ f.offset = 0) ∧ (g.type = 3 ∧ g.offset = 16) := by
  simp only [Program.fieldsOf, Tryz.underlying95]
  exact ⟨_, _, rfl, ⟨rfl, rfl⟩, ⟨rfl, rfl⟩⟩
theorem cellsPo : Tryz.prog.cellsOf 53 = 3 := by kernel_rfl
theorem cellsPn : Tryz.prog.cellsOf 97 = 19 := by kernel_rfl
theorem cellsCi : Tryz.prog.cellsOf 95 = 17 := by kernel_rfl
theorem cellsAd : Tryz.prog.cellsOf 48 = 16 := by kernel_rfl
theorem cellsRs : Tryz.prog.cellsOf 29 = 1 := by kernel_rfl
theorem cellsPs : Tryz.prog.cellsOf 51 = 1 := by kernel_rfl
theorem cells_ofP : ∀ (cs : List Value), (∀ x ∈ cs, ∃ c : UInt8, x = b8 c) → ∃ a : List UInt8, cs = cellsOf a
  | [], _ => ⟨[], rfl⟩
  | x :: cs, h => by
    obtain ⟨c, rfl⟩ := h x (by simp)
    obtain ⟨a, rfl⟩ := cells_ofP cs (fun y hy => h y (by simp [hy]))
    exact ⟨c :: a, rfl⟩
theorem addr_cellsP {H : Type} {enc : TypeId × Value → H} {W : World} {sp : Nat → Bool} {hd : Bool} {base fuel : Nat} {cs : List Value} {x : DataW H × List MemPlace}
    (hf : DataW.trod enc Tryz.prog W base sp hd fuel 48 cs = some x) : ∃ a : List UInt8, a.length = 16 ∧ cs = cellsOf a := by
  obtain ⟨xs, m, _, _, hlen, hxn, hel⟩ := DataW.trod_array Ad.und16 hf
  have hn16 : cs.length = 16 := by rw [hlen]; kernel_rfl
  have hc8 : Tryz.prog.cellsOf 5 = 1 := by kernel_rfl
  obtain ⟨a, ha⟩ := cells_ofP cs (fun x hx => by
    obtain ⟨i, hi, rfl⟩ := List.mem_iff_getElem.1 hx
    have h1 := hel i (by omega)
    rw [hc8, Nat.mul_one] at h1
    have hd1 : (cs.drop i).take 1 = [cs[i]] := by
      rw [List.drop_eq_getElem_cons hi]; rfl
    rw [hd1, List.getElem?_eq_getElem (show i < xs.length by omega)] at h1
    obtain ⟨n, hcs, _, hwf⟩ := DataW.trod_int Tryz.underlying5 h1
    obtain ⟨c, rfl⟩ := byte_of hwf
    exact ⟨c, by simpa [b8] using hcs⟩)
  exact ⟨a, by rw [← cellsOf_length, ← ha]; exact hn16, ha⟩
/-- what a pin that came in is -/
structure WfP (x : Pl) : Prop where
  nm : x.1.nm.length ≤ maxLen
  ci : -9223372036854775808 ≤ x.1.ci.n ∧ x.1.ci.n ≤ 9223372036854775807
  un : -9223372036854775808 ≤ x.1.un ∧ x.1.un ≤ 9223372036854775807
theorem cidr_cellsP {H : Type} {enc : TypeId × Value → H} {W : World} {sp : Nat → Bool} {hd : Bool} {base fuel : Nat} {cs : List Value} {x : DataW H × List MemPlace}
    (hf : DataW.trod enc Tryz.prog W base sp hd fuel 95 cs = some x) : ∃ c : Ad.C, c.a.length = 16 ∧ (-9223372036854775808 ≤ c.n ∧ c.n ≤ 9223372036854775807) ∧ cs = cellsOf c.a ++ [.int .i64 c.n] := by
  obtain ⟨f, g, hfg, ⟨f1, f2⟩, g1, g2⟩ := fieldsCi
  obtain ⟨xs, m, _, _, hlen, hxn, hel⟩ := DataW.trod_struct Ad.und17 hf
  have hl17 : cs.length = 17 := by rw [hlen]; exact cellsCi
  have hx2 : xs.length = 2 := by rw [hxn, ← Array.length_toList, hfg]; rfl
  have h0 := hel 0 f (by rw [← Array.getElem?_toList, hfg]; rfl)
  have h1 := hel 1 g (by rw [← Array.getElem?_toList, hfg]; rfl)
  rw [f1, f2, cellsAd, List.drop_zero, List.getElem?_eq_getElem (show 0 < xs.length by omega)] at h0
  rw [g1, g2, cellsUi, List.getElem?_eq_getElem (show 1 < xs.length by omega)] at h1
  obtain ⟨a, ha, hca⟩ := addr_cellsP h0
  obtain ⟨n, hcn, _, hwf⟩ := DataW.trod_int Tryz.underlying3 h1
  have hn := int_of hwf
  refine ⟨⟨a, n⟩, ha, hn, ?_⟩
  have hd1 : cs.drop 16 = [.int .i64 n] := by
    rw [← hcn, List.take_of_length_le]
    rw [List.length_drop]; omega
  show cs = cellsOf a ++ [.int .i64 n]
  rw [← hca, ← hd1, List.take_append_drop]
theorem pin_cells {H : Type} {enc : TypeId × Value → H} {W : World} {sp : Nat → Bool} {hd : Bool} {base fuel : Nat} {cs : List Value} {x : DataW H × List MemPlace}
    (hf : DataW.trod enc Tryz.prog W base sp hd fuel 97 cs = some x) : ∃ p : Pl, cs = pnL p.1 ∧ WfP p := by
  obtain ⟨f, g, h, hfg, ⟨f1, f2, _⟩, ⟨g1, g2, _⟩, h1, h2, _⟩ := fieldsPn
  obtain ⟨xs, m, _, _, hlen, hxn, hel⟩ := DataW.trod_struct undPn hf
  have hl19 : cs.length = 19 := by rw [hlen]; exact cellsPn
  have hx3 : xs.length = 3 := by rw [hxn, ← Array.length_toList, hfg]; rfl
  have e0 := hel 0 f (by rw [← Array.getElem?_toList, hfg]; rfl)
  have e1 := hel 1 g (by rw [← Array.getElem?_toList, hfg]; rfl)
  have e2 := hel 2 h (by rw [← Array.getElem?_toList, hfg]; rfl)
  rw [f1, f2, cellsUs, List.drop_zero, List.getElem?_eq_getElem (show 0 < xs.length by omega)] at e0
  rw [g1, g2, cellsCi, List.getElem?_eq_getElem (show 1 < xs.length by omega)] at e1
  rw [h1, h2, cellsUi, List.getElem?_eq_getElem (show 2 < xs.length by omega)] at e2
  obtain ⟨s, c0, _, z0⟩ := DataW.trod_string Tryz.underlying9 e0
  obtain ⟨c, hc, hn, c1⟩ := cidr_cellsP e1
  obtain ⟨u, c2, _, w2⟩ := DataW.trod_int Tryz.underlying3 e2
  refine ⟨⟨⟨bs s, c, u⟩, hc⟩, ?_, ⟨by show (bs s).length ≤ _; rw [bs_length]; exact z0, hn, int_of w2⟩⟩
  have a0 : cs = cs.take 1 ++ ((cs.drop 1).take 17 ++ cs.drop 18) := by
    rw [show cs.drop 18 = (cs.drop 1).drop 17 by rw [List.drop_drop], List.take_append_drop, List.take_append_drop]
  have a2 : cs.drop 18 = (cs.drop 18).take 1 := by rw [List.take_of_length_le (by rw [List.length_drop]; omega)]
  rw [a0, a2, c0, c1, c2]
  show _ = Value.string (Tx.str (bs s)) :: (c.cells.toList ++ [.int .i64 u])
  rw [str_bs]
  rfl
instance : Inhabited Pl := ⟨⟨⟨[], ⟨List.replicate 16 0, 0⟩, 0⟩, by simp⟩⟩
/-- rules that came in, as cells -/
theorem rules_cells {H : Type} {enc : TypeId × Value → H} {W : World} {sp : Nat → Bool} {hd : Bool} {base fuel : Nat} {cs : List Value} {x : DataW H × List MemPlace}
    (hf : DataW.trod enc Tryz.prog W base sp hd fuel 29 cs = some x) :
    ∃ A n cap l, cs = [.slice A n cap] ∧ n ≤ cap ∧ cap ≤ maxLen ∧ l.length = n ∧ (∀ r ∈ l, WfU r) ∧ SrcU W A l := by
  have hU : Tryz.prog.underlying 29 = some (.slice 23) := Tryz.underlying29
  rcases open_slice hU hf with ⟨hcs, _⟩ | ⟨a, n, c, m, k, D, Pl, hcs, _, hl, hm, hmm, hdd, hx⟩
  · exact ⟨none, 0, 0, [], hcs, Nat.le_refl _, Nat.zero_le _, rfl, (fun r hr => by cases hr), SrcU.nil W _⟩
  · have hlm : n ≤ m := by rw [hmm]; split <;> omega
    obtain ⟨V, hV⟩ := choose_lt (α := Ru) (n := n) (p := fun i r => WfU r ∧ W.cells? base (a.add (i * 5)) 5 = some (ruC r).toList) (fun i hi => by
      obtain ⟨cs', h1, h2⟩ := hx i (by omega)
      rw [cellsU] at h1
      obtain ⟨r, rfl, hr⟩ := ru_cells h2
      exact ⟨r, hr, h1⟩)
    refine ⟨_, n, c, (List.range n).map V, hcs, hl, hm, by simp, fun r hr => ?_, fun i r hi => ?_⟩
    · obtain ⟨i, hi, rfl⟩ := List.mem_map.1 hr
      exact (hV i (List.mem_range.1 hi)).1
    · obtain ⟨hin, rfl⟩ : i < n ∧ V i = r := by
        rw [List.getElem?_map, Option.map_eq_some_iff] at hi
        obtain ⟨y, hy, rfl⟩ := hi
        obtain ⟨h1, h2⟩ := List.getElem?_eq_some_iff.1 hy
        simp at h1 h2
        subst h2
        exact ⟨h1, rfl⟩
      have hc := (World.cells?_some (hV i hin).2).2.2
      have hc0 := (World.cells?_some (hV 0 (by omega)).2).2.2 0 (by omega)
      obtain ⟨g, o, spot⟩ := a
      rw [show (ruC (V 0)).toList[0]? = some (.bool (V 0).al) from rfl] at hc0
      have hspot : spot = none := by simpa [Addr.add] using World.cell?_spot hc0
      subst hspot
      have hlt : g < W.heap.size := by
        have hb := block_lt_of_cell hc0
        rwa [block_of_add, block_of_add] at hb
      have g0 := hc 0 (by omega)
      have g1 := hc 1 (by omega)
      have g2 := hc 2 (by omega)
      have g3 := hc 3 (by omega)
      have g4 := hc 4 (by omega)
      rw [add_none, add_none] at g0 g1 g2 g3 g4
      exact ⟨g, o, rfl, hlt, g0, g1, g2, g3, g4⟩
/-- pins that came in, as cells -/
theorem pins_cells {H : Type} {enc : TypeId × Value → H} {W : World} {sp : Nat → Bool} {hd : Bool} {base fuel : Nat} {cs : List Value} {x : DataW H × List MemPlace}
    (hf : DataW.trod enc Tryz.prog W base sp hd fuel 51 cs = some x) :
    ∃ A n cap l, cs = [.slice A n cap] ∧ n ≤ cap ∧ cap ≤ maxLen ∧ l.length = n ∧ (∀ r ∈ l, WfP r) ∧ SrcE W elPn A l := by
  have hU : Tryz.prog.underlying 51 = some (.slice 97) := Tryz.underlying51
  rcases open_slice hU hf with ⟨hcs, _⟩ | ⟨a, n, c, m, k, D, Pq, hcs, _, hl, hm, hmm, hdd, hx⟩
  · exact ⟨none, 0, 0, [], hcs, Nat.le_refl _, Nat.zero_le _, rfl, (fun r hr => by cases hr), SrcE.nil W _⟩
  · have hlm : n ≤ m := by rw [hmm]; split <;> omega
    obtain ⟨V, hV⟩ := choose_lt (α := Pl) (n := n) (p := fun i r => WfP r ∧ W.cells? base (a.add (i * 19)) 19 = some (pnL r.1)) (fun i hi => by
      obtain ⟨cs', h1, h2⟩ := hx i (by omega)
      rw [cellsPn] at h1
      obtain ⟨r, rfl, hr⟩ := pin_cells h2
      exact ⟨r, hr, h1⟩)
    refine ⟨_, n, c, (List.range n).map V, hcs, hl, hm, by simp, fun r hr => ?_, fun i r hi => ?_⟩
    · obtain ⟨i, hi, rfl⟩ := List.mem_map.1 hr
      exact (hV i (List.mem_range.1 hi)).1
    · obtain ⟨hin, rfl⟩ : i < n ∧ V i = r := by
        rw [List.getElem?_map, Option.map_eq_some_iff] at hi
        obtain ⟨y, hy, rfl⟩ := hi
        obtain ⟨h1, h2⟩ := List.getElem?_eq_some_iff.1 hy
        simp at h1 h2
        subst h2
        exact ⟨h1, rfl⟩
      have hc := (World.cells?_some (hV i hin).2).2.2
      have hc0 := (World.cells?_some (hV 0 (by omega)).2).2.2 0 (by omega)
      obtain ⟨g, o, spot⟩ := a
      rw [show (pnL (V 0).1)[0]? = some (.string (Tx.str (V 0).1.nm)) from rfl] at hc0
      have hspot : spot = none := by simpa [Addr.add] using World.cell?_spot hc0
      subst hspot
      have hlt : g < W.heap.size := by
        have hb := block_lt_of_cell hc0
        rwa [block_of_add, block_of_add] at hb
      refine ⟨g, o, rfl, hlt, fun j v hj => ?_⟩
      have hj19 : j < 19 := by have : j < (pnL (V i).1).length := (List.getElem?_eq_some_iff.1 hj).1; rwa [pnL_len (V i)] at this
      have h3 := hc j hj19
      rw [add_none, add_none] at h3
      rw [show o + (i * elPn.n + j) = o + i * 19 + j from by show o + (i * 19 + j) = _; omega, h3]
      exact hj
/-- a policy that came in -/
theorem open_policy {H : Type} {enc : TypeId × Value → H} {W : World} {sp : Nat → Bool} {hd : Bool} {base b0 : Nat} {v : Value} {d : DataW H} {p : List MemPlace}
    (hv : Value.okWide Tryz.prog W .any b0 53 v) (h : DataW.Trod enc Tryz.prog W base sp hd 53 v d p) :
    ∃ al A1 n1 c1 A2 n2 c2 ru ps, v = .agg #[.bool al, .slice A1 n1 c1, .slice A2 n2 c2] ∧ (n1 ≤ c1 ∧ c1 ≤ maxLen ∧ ru.length = n1 ∧ (∀ r ∈ ru, WfU r) ∧ SrcU W A1 ru) ∧ (n2 ≤ c2 ∧ c2 ≤ maxLen ∧ ps.length = n2 ∧ (∀ r ∈ ps, WfP r) ∧ SrcE W elPn A2 ps) := by
  unfold Value.okWide at hv
  rw [undPoL] at hv
  obtain ⟨cs, rfl, hn, _⟩ := hv
  obtain ⟨fuel, hf⟩ := h
  have h2 : (Value.agg cs).cells.toList = cs.toList := rfl
  rw [h2] at hf
  obtain ⟨f0, f1, f2, hfg, ⟨a0, b0'⟩, ⟨a1, b1⟩, a2, b2⟩ := fieldsPoL
  obtain ⟨xs, m, _, _, hlen, hxn, hel⟩ := DataW.trod_struct undPoL hf
  have hl3 : cs.toList.length = 3 := by rw [hlen]; exact cellsPo
  have hx3 : xs.length = 3 := by rw [hxn, ← Array.length_toList, hfg]; rfl
  have e0 := hel 0 f0 (by rw [← Array.getElem?_toList, hfg]; rfl)
  have e1 := hel 1 f1 (by rw [← Array.getElem?_toList, hfg]; rfl)
  have e2 := hel 2 f2 (by rw [← Array.getElem?_toList, hfg]; rfl)
  obtain ⟨v0, v1, v2, hcs⟩ : ∃ v0 v1 v2, cs.toList = [v0, v1, v2] := by
    match cs.toList, hl3 with
    | [v0, v1, v2], _ => exact ⟨v0, v1, v2, rfl⟩
  rw [hcs] at e0 e1 e2
  rw [a0, b0', cellsUb, List.getElem?_eq_getElem (show 0 < xs.length by omega)] at e0
  rw [a1, b1, cellsRs, List.getElem?_eq_getElem (show 1 < xs.length by omega)] at e1
  rw [a2, b2, cellsPs, List.getElem?_eq_getElem (show 2 < xs.length by omega)] at e2
  obtain ⟨x0, c0, _⟩ := DataW.trod_bool Tryz.underlying4 e0
  obtain ⟨A1, n1, k1, l1, c1, q1⟩ := rules_cells e1
  obtain ⟨A2, n2, k2, l2, c2, q2⟩ := pins_cells e2
  simp only [List.drop_zero, List.take_succ_cons, List.take_zero, List.cons.injEq, and_true, List.drop_succ_cons] at c0 c1 c2
  subst c0 c1 c2
  exact ⟨x0, A1, n1, k1, A2, n2, k2, l1, l2, congrArg Value.agg (Array.ext' hcs), q1, q2⟩
end Go.Proofs.YtlpondbcnfaggaaGreatDoor.Lift
