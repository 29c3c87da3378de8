/-
  What all the laws' last steps share: an argument that is only read reads behind the call as it did; bytes out of integers.
-/
import Derived.Test.YtlpondbcnfaggaaGreatDoorQ01
import Derived.ProofKit
import Derived.OpenShut
import Derived.ShutString
import Derived.ChangeOld
import Derived.Test.YtlpondbcnfaggaaGreatDoorQ10
import Derived.Deep.Slices
import Derived.Test.YtlpondbcnfaggaaGreatDoorQ04
import Derived.Test.YtlpondbcnfaggaaGreatDoorQ05
import Derived.LaidMore
import Derived.MakeChecks
import Derived.Stop.LaidErr
import Derived.Lib.LaidTab
import Derived.Shelf.Vars
import Derived.HandedShaped
import Derived.Lay
namespace Go.Proofs.YtlpondbcnfaggaaGreatDoor.Lift
set_option maxRecDepth 100000
open Go.ChangeShapes Go.WideShapes Go.ChangeAt Go.RowKit Go.Proofs.YtlpondbcnfaggaaGreatDoor.Wd

theorem own : ownKnob Tryz.prog.godebug = none := by kernel_rfl
theorem laidOut : laidOutB Tryz.prog = true := by kernel_rfl

theorem byte_of {a : Int} (h : (Lit.int .u8 a).wf = true) : ∃ c : UInt8, a = (c.toNat : Int) := by
  have hx : 0 ≤ a ∧ a ≤ 255 := by simpa [Lit.wf, IntKind.min, IntKind.max, IntKind.signed, IntKind.bits] using h
  refine ⟨UInt8.ofNat a.toNat, ?_⟩
  simp only [UInt8.toNat_ofNat']
  omega
theorem int_of {a : Int} (h : (Lit.int .i64 a).wf = true) : -9223372036854775808 ≤ a ∧ a ≤ 9223372036854775807 := by
  simpa [Lit.wf, IntKind.min, IntKind.max, IntKind.signed, IntKind.bits] using h

/-- integers that fit a byte, as bytes -/
theorem bytes_of {zs : List Int} (h : ∀ n ∈ zs, (Lit.int .u8 n).wf = true) : ∃ xs : List UInt8, zs = xs.map fun c => (c.toNat : Int) := by
  induction zs with
  | nil => exact ⟨[], rfl⟩
  | cons z zs ih =>
    obtain ⟨c, rfl⟩ := byte_of (h z (by simp))
    obtain ⟨xs, rfl⟩ := ih (fun n hn => h n (by simp [hn]))
    exact ⟨c :: xs, rfl⟩

/-- a []byte that came in: what it leads to -/
theorem open_bytes {H : Type} {enc : TypeId × Value → H} {W : World} {sp : Nat → Bool} {hd : Bool} {base b0 : Nat} {v : Value} {d : DataW H} {p : List MemPlace}
    (hv : Value.okWide Tryz.prog W .any b0 110 v) (h : DataW.Trod enc Tryz.prog W base sp hd 110 v d p) : ∃ A n c xs, v = .slice A n c ∧ n ≤ c ∧ c ≤ maxLen ∧ Src W A n xs := by
  obtain ⟨A, n, c, rfl⟩ := okWide_slice Tryz.underlying110 hv
  obtain ⟨fuel, hf⟩ := h
  rcases open_ints Tryz.underlying110 Tryz.underlying5 (by kernel_rfl) hf with ⟨hcs, _⟩ | ⟨x, l, c', zs, hcs, _, hl, hm, hz, hx, hcell, hwz⟩
  · simp [Value.cells] at hcs
    obtain ⟨rfl, rfl, rfl⟩ := hcs
    exact ⟨none, 0, 0, [], rfl, Nat.le_refl _, Nat.zero_le _, Src.nil W⟩
  · simp [Value.cells] at hcs
    obtain ⟨rfl, rfl, rfl⟩ := hcs
    obtain ⟨xs, rfl⟩ := bytes_of hwz
    rw [List.length_map] at hz hcell
    have hnl : n ≤ xs.length := by rw [hz]; split <;> omega
    refine ⟨_, n, c, xs.take n, rfl, hl, hm, by rw [List.length_take]; omega, fun hn => ⟨x, rfl, ?_, fun j y hj => ?_⟩⟩
    · have h0 := hcell 0 (by omega)
      rcases Nat.lt_or_ge x.block W.heap.size with h | h
      · exact h
      · have : W.heap[x.block]? = none := Array.getElem?_eq_none h
        simp [World.cell?, block_of_add, this] at h0
    · rw [List.getElem?_take] at hj
      split at hj
      · have hjl := (List.getElem?_eq_some_iff.1 hj).1
        rw [hcell j hjl, List.getD_eq_getElem?_getD, List.getElem?_map, hj]
        rfl
      · cases hj
end Go.Proofs.YtlpondbcnfaggaaGreatDoor.Lift

/-
  A rule, rules in a row, that came in: what they hold. Plain lemmas.
-/
set_option maxRecDepth 100000
namespace Go.Proofs.YtlpondbcnfaggaaGreatDoor.Lift
open Go.ChangeShapes Go.WideShapes Go.ChangeAt Go.RowKit Go.Deep Go.Proofs.YtlpondbcnfaggaaGreatDoor.Wd Go.Proofs.YtlpondbcnfaggaaGreatDoor.Asc Go.Proofs.YtlpondbcnfaggaaGreatDoor.Tx Go.Proofs.YtlpondbcnfaggaaGreatDoor.Tr

theorem cellsUs : Tryz.prog.cellsOf 9 = 1 := by kernel_rfl
theorem cellsUi : Tryz.prog.cellsOf 3 = 1 := by kernel_rfl
theorem cellsUb : Tryz.prog.cellsOf 4 = 1 := by kernel_rfl
theorem cellsU : Tryz.prog.cellsOf 23 = 5 := by kernel_rfl
/-- what a rule that came in is: its texts are no longer than any, its numbers are of 64 bits -/
structure WfU (r : Ru) : Prop where
  pa : r.pa.length ≤ maxLen
  ap : r.ap.length ≤ maxLen
  pr : -9223372036854775808 ≤ r.pr ∧ r.pr ≤ 9223372036854775807
  po : -9223372036854775808 ≤ r.po ∧ r.po ≤ 9223372036854775807
theorem ru_cells {H : Type} {enc : TypeId × Value → H} {W : World} {sp : Nat → Bool} {hd : Bool} {base fuel : Nat} {cs : List Value} {x : DataW H × List MemPlace}
    (hf : DataW.trod enc Tryz.prog W base sp hd fuel 23 cs = some x) : ∃ r : Ru, cs = (ruC r).toList ∧ WfU r := by
  obtain ⟨f0, f1, f2, f3, f4, hfg, ⟨a0, b0, _⟩, ⟨a1, b1, _⟩, ⟨a2, b2, _⟩, ⟨a3, b3, _⟩, ⟨a4, b4, _⟩⟩ := fieldsU
  obtain ⟨xs, m, _, _, hlen, hxn, hel⟩ := DataW.trod_struct undU hf
  have hl5 : cs.length = 5 := by rw [hlen]; exact cellsU
  have hx5 : xs.length = 5 := by rw [hxn, ← Array.length_toList, hfg]; rfl
  have e0 := hel 0 f0 (by rw [← Array.getElem?_toList, hfg]; rfl)
  have e1 := hel 1 f1 (by rw [← Array.getElem?_toList, hfg]; rfl)
  have e2 := hel 2 f2 (by rw [← Array.getElem?_toList, hfg]; rfl)
  have e3 := hel 3 f3 (by rw [← Array.getElem?_toList, hfg]; rfl)
  have e4 := hel 4 f4 (by rw [← Array.getElem?_toList, hfg]; rfl)
  obtain ⟨v0, v1, v2, v3, v4, rfl⟩ : ∃ v0 v1 v2 v3 v4, cs = [v0, v1, v2, v3, v4] := by
    match cs, hl5 with
    | [v0, v1, v2, v3, v4], _ => exact ⟨v0, v1, v2, v3, v4, rfl⟩
  rw [a0, b0, cellsUb, List.getElem?_eq_getElem (show 0 < xs.length by omega)] at e0
  rw [a1, b1, cellsUi, List.getElem?_eq_getElem (show 1 < xs.length by omega)] at e1
  rw [a2, b2, cellsUs, List.getElem?_eq_getElem (show 2 < xs.length by omega)] at e2
  rw [a3, b3, cellsUi, List.getElem?_eq_getElem (show 3 < xs.length by omega)] at e3
  rw [a4, b4, cellsUs, List.getElem?_eq_getElem (show 4 < xs.length by omega)] at e4
  obtain ⟨x0, c0, _⟩ := DataW.trod_bool Tryz.underlying4 e0
  obtain ⟨x1, c1, _, w1⟩ := DataW.trod_int Tryz.underlying3 e1
  obtain ⟨s2, c2, _, z2⟩ := DataW.trod_string Tryz.underlying9 e2
  obtain ⟨x3, c3, _, w3⟩ := DataW.trod_int Tryz.underlying3 e3
  obtain ⟨s4, c4, _, z4⟩ := DataW.trod_string Tryz.underlying9 e4
  simp only [List.drop_zero, List.take_succ_cons, List.take_zero, List.cons.injEq, and_true, List.drop_succ_cons] at c0 c1 c2 c3 c4
  subst c0 c1 c2 c3 c4
  refine ⟨⟨x0, x1, bs s2, x3, bs s4⟩, ?_, ⟨by rw [bs_length]; exact z2, by rw [bs_length]; exact z4, int_of w1, int_of w3⟩⟩
  show _ = [Value.bool x0, .int .i64 x1, .string (str (bs s2)), .int .i64 x3, .string (str (bs s4))]
  rw [str_bs, str_bs]
/-- a rule that came in -/
theorem open_rule {H : Type} {enc : TypeId × Value → H} {W : World} {sp : Nat → Bool} {hd : Bool} {base b0 : Nat} {v : Value} {d : DataW H} {p : List MemPlace}
    (hv : Value.okWide Tryz.prog W .any b0 23 v) (h : DataW.Trod enc Tryz.prog W base sp hd 23 v d p) : ∃ r : Ru, v = .agg (ruC r) ∧ WfU r := by
  unfold Value.okWide at hv
  rw [undU] at hv
  obtain ⟨cs, rfl, hn, _⟩ := hv
  obtain ⟨fuel, hf⟩ := h
  have h2 : (Value.agg cs).cells.toList = cs.toList := rfl
  rw [h2] at hf
  obtain ⟨r, hcs, h3⟩ := ru_cells hf
  exact ⟨r, congrArg Value.agg (Array.ext' hcs), h3⟩
instance : Inhabited Ru := ⟨Ru.zero⟩
/-- rules that came in -/
theorem open_rules {H : Type} {enc : TypeId × Value → H} {W : World} {sp : Nat → Bool} {hd : Bool} {base b0 : Nat} {v : Value} {d : DataW H} {p : List MemPlace}
    (hv : Value.okWide Tryz.prog W .any b0 29 v) (h : DataW.Trod enc Tryz.prog W base sp hd 29 v d p) :
    ∃ A n cap l, v = .slice A n cap ∧ n ≤ cap ∧ cap ≤ maxLen ∧ l.length = n ∧ (∀ r ∈ l, WfU r) ∧ SrcU W A l := by
  have hU : Tryz.prog.underlying 29 = some (.slice 23) := Tryz.underlying29
  obtain ⟨A, n, c, rfl⟩ := okWide_slice hU hv
  obtain ⟨fuel, hf⟩ := h
  rcases open_slice hU hf with ⟨hcs, _⟩ | ⟨a, len, cap, m, k, D, Pl, hcs, _, hl, hm, hmm, hdd, hx⟩
  · simp [Value.cells] at hcs
    obtain ⟨rfl, rfl, rfl⟩ := hcs
    exact ⟨none, 0, 0, [], rfl, Nat.le_refl _, Nat.zero_le _, rfl, (fun r hr => by cases hr), SrcU.nil W _⟩
  · simp [Value.cells] at hcs
    obtain ⟨rfl, rfl, rfl⟩ := hcs
    have hlm : n ≤ m := by rw [hmm]; split <;> omega
    obtain ⟨V, hV⟩ := choose_lt (α := Ru) (n := n) (p := fun i r => WfU r ∧ W.cells? base (a.add (i * 5)) 5 = some (ruC r).toList) (fun i hi => by
      obtain ⟨cs', h1, h2⟩ := hx i (by omega)
      rw [cellsU] at h1
      obtain ⟨r, rfl, hr⟩ := ru_cells h2
      exact ⟨r, hr, h1⟩)
    refine ⟨_, n, c, (List.range n).map V, rfl, hl, hm, by simp, fun r hr => ?_, fun i r hi => ?_⟩
    · obtain ⟨i, hi, rfl⟩ := List.mem_map.1 hr
      exact (hV i (List.mem_range.1 hi)).1
    · obtain ⟨hin, rfl⟩ : i < n ∧ V i = r := by
        rw [List.getElem?_map, Option.map_eq_some_iff] at hi
        obtain ⟨y, hy, rfl⟩ := hi
        obtain ⟨h1, h2⟩ := List.getElem?_eq_some_iff.1 hy
        simp at h1 h2
        subst h2
        exact ⟨h1, rfl⟩
      have hc := (World.cells?_some (hV i hin).2).2.2
      have hc0 := (World.cells?_some (hV 0 (by omega)).2).2.2 0 (by omega)
      obtain ⟨g, o, spot⟩ := a
      rw [show (ruC (V 0)).toList[0]? = some (.bool (V 0).al) from rfl] at hc0
      have hspot : spot = none := by simpa [Addr.add] using World.cell?_spot hc0
      subst hspot
      have hlt : g < W.heap.size := by
        have hb := block_lt_of_cell hc0
        rwa [block_of_add, block_of_add] at hb
      have g0 := hc 0 (by omega)
      have g1 := hc 1 (by omega)
      have g2 := hc 2 (by omega)
      have g3 := hc 3 (by omega)
      have g4 := hc 4 (by omega)
      rw [add_none, add_none] at g0 g1 g2 g3 g4
      exact ⟨g, o, rfl, hlt, g0, g1, g2, g3, g4⟩
end Go.Proofs.YtlpondbcnfaggaaGreatDoor.Lift

/-
  Laws whose rows list tables: what the lists give (Env), how a law is lifted, an address opened. Plain lemmas.
-/
namespace Go.Proofs.YtlpondbcnfaggaaGreatDoor.Lift
set_option maxRecDepth 100000
open Go.ChangeShapes Go.WideShapes Go.ChangeAt Go.RowKit Go.Proofs.YtlpondbcnfaggaaGreatDoor.Wd Go.Proofs.YtlpondbcnfaggaaGreatDoor.Ad

def laid3 : List (String × DataW Unit) := [("math/bits.deBruijn32tab", Rows.laid_math_bits_deBruijn32tab), ("math/bits.deBruijn64tab", Rows.laid_math_bits_deBruijn64tab), ("internal/strconv.uint64pow10", Rows.laid_internal_strconv_uint64pow10)]

/-- the door's own heap meets the condition -/
theorem door_met (os : Os) (args : Array Value) : laidMetH Tryz.prog laid3 ((World.doorLaid Tryz.prog 24 os).forCall (fun _ _ => 0) ⟨#[], args, []⟩).memory :=
  laidMetH_of_parts3 (fuel := 8) (laidMet_of_run' 8 (by kernel_rfl) (by kernel_rfl)) (by kernel_rfl) (by kernel_rfl)

def tab64 : List Int := [0, 1, 56, 2, 57, 49, 28, 3, 61, 58, 42, 50, 38, 29, 17, 4, 62, 47, 59, 36, 45, 43, 51, 22, 53, 39, 33, 30, 24, 18, 12, 5, 63, 55, 48, 27, 60, 41, 37, 16, 46, 35, 44, 21, 52, 32, 23, 11, 54, 26, 40, 15, 34, 20, 31, 10, 25, 14, 19, 9, 13, 8, 7, 6]
/-- what the condition and the world's shape give -/
theorem env_of {W : World} (hL : laidMetH Tryz.prog laid3 W) (hs : W.ShapedOpen Tryz.prog) : Env W.heap.size W := by
  rw [MakeChecks.laidMetH_plain _ _ _ (by kernel_rfl)] at hL
  have h3 : laidMet Tryz.prog [("internal/strconv.uint64pow10", Lib.tabData .u64 Lib.pow10Tab)] W := hL.tail.tail
  have hm := cell_of_shapedOpen_int (P := Tryz.prog) (g := 0) (t := 3) (k := .i64) (zero := #[.int .i64 0]) hs (of_decide_eq_true (by kernel_rfl)) (by kernel_rfl) rfl (by kernel_rfl) (by kernel_rfl) Tryz.underlying3
  have h2 : laidMet Tryz.prog (("math/bits.deBruijn64tab", Lib.tabData .u8 tab64) :: [("internal/strconv.uint64pow10", Lib.tabData .u64 Lib.pow10Tab)]) W := hL.tail
  have hz := (Lib.tabIs_of_head (g := 5) (n := 64) (e := 5) (by kernel_rfl) rfl (by kernel_rfl) (by kernel_rfl) (by kernel_rfl) (by kernel_rfl) h2).cell (g := 5) (by kernel_rfl) 15 (by decide)
  have hz4 : W.cell? ⟨5, 15, none⟩ = some (.int .u8 4) := hz
  refine ⟨hm, Lib.tabBelow_of_tabIs (Lib.tabIs_of_head (g := 3) (n := 20) (e := 208) (by kernel_rfl) rfl (by kernel_rfl) (by kernel_rfl) (by kernel_rfl) (by kernel_rfl) h3), ?_, Nat.le_refl _, hz4, World.block_lt_of_cell? W _ hz4⟩
  obtain ⟨m, hm⟩ := hm
  rcases Nat.lt_or_ge 0 W.heap.size with h | h
  · exact h
  · have : W.heap[(0 : Nat)]? = none := Array.getElem?_eq_none h
    simp [World.cell?, this] at hm

/-- a law over a row that lists tables: its contract is handed the condition and the world's shape -/
theorem returns_laid {H : Type} {enc : TypeId × Value → H} {a : Assume} {C : Checked} {os : Os} {f : FuncId} {fn : Func} {s : ChangeSpec} {conds : List PathCond} {apart fresh handsOn again : Bool} {X : World → Array Value → Prop}
    (hX : ∀ (w w' : World) (args : Array Value), w.heap = w'.heap → X w args → X w' args)
    (own : ownKnob C.prog.godebug = none) (started : os.Started) (noInit : C.prog.inits.idxOf? f = none) (hfn : C.prog.funcs[f]? = some fn)
    (witness : ∃ (w : World) (tape : Tape) (i : Input), w.os = os ∧ (w.forCall tape i).Shaped C.prog ∧ i.vars = [] ∧ Input.okWide C.prog (w.forCall tape i) .any w.heap.size f i ∧
      ((s.pre enc C.prog fn conds apart (w.forCall tape i).memory i.args ∧ X (w.forCall tape i).memory i.args) ∧ sizedMet enc C.prog fn (OpenSpec.ofChange s) apart (w.forCall tape i).memory i.args) ∧ a.holds C.prog (lone (Frame.enter C.prog f i.args .normal) [] (w.forCall tape i)))
    (contract : ∀ (W : World) (base : Nat) (args : Array Value) (ds gs : List (DataW H)) (before : List MemPlace),
      (∀ (j : Nat) t v, fn.params[j]? = some t → args[j]? = some v → Value.okWide C.prog W .any base t v) →
      DataW.Whole enc C.prog fn.params.toList s.vars apart W args.toList ds gs before → X W args → W.ShapedOpen C.prog →
      Calls C.prog f args W fun e W' => ∃ v, e = .returned v ∧ s.post enc C.prog fn apart fresh handsOn again W args v W') :
    ReturnsInHanded a C os f .any (fun w args => (s.pre enc C.prog fn conds apart w args ∧ X w args) ∧ sizedMet enc C.prog fn (OpenSpec.ofChange s) apart w args) (s.post enc C.prog fn apart fresh handsOn again) := by
  refine returnsInHanded_of_calls own started noInit witness ?_
  intro w tape i _ hsh _ hok hpre _
  obtain ⟨_, _, _, fn', hfn', _, _, _, _, hval⟩ := hok
  have e : fn' = fn := Option.some.inj (hfn'.symm.trans hfn)
  subst e
  obtain ⟨⟨⟨ds, gs, before, hw, _⟩, hx⟩, _⟩ := hpre
  have hw' := DataW.Whole.of_heap (w' := w.forCall tape i) (by rfl) hw
  refine (contract (w.forCall tape i) w.heap.size i.args ds gs before hval hw' (hX _ _ _ (by rfl) hx) hsh).mono fun e W' ⟨v, he, hp⟩ => ?_
  subst he
  exact ChangeSpec.post_blind hp

theorem cells_of : ∀ l : List Value, (∀ x ∈ l, ∃ c : UInt8, x = b8 c) → ∃ a : List UInt8, l = cellsOf a
  | [], _ => ⟨[], rfl⟩
  | x :: l, h => by
    obtain ⟨c, rfl⟩ := h x (by simp)
    obtain ⟨a, rfl⟩ := cells_of l (fun y hy => h y (by simp [hy]))
    exact ⟨c :: a, rfl⟩
/-- an address that came in -/
theorem open_addr {H : Type} {enc : TypeId × Value → H} {W : World} {sp : Nat → Bool} {hd : Bool} {base b0 : Nat} {v : Value} {d : DataW H} {p : List MemPlace}
    (hv : Value.okWide Tryz.prog W .any b0 48 v) (h : DataW.Trod enc Tryz.prog W base sp hd 48 v d p) : ∃ a : List UInt8, a.length = 16 ∧ v = .agg (cA a) := by
  unfold Value.okWide at hv
  rw [und16] at hv
  obtain ⟨cs, rfl, hn, _⟩ := hv
  obtain ⟨fuel, hf⟩ := h
  obtain ⟨xs, m, _, _, hlen, hxn, hel⟩ := DataW.trod_array und16 hf
  have hn16 : cs.toList.length = 16 := by rw [Array.length_toList, hn]; kernel_rfl
  have hc8 : Tryz.prog.cellsOf 5 = 1 := by kernel_rfl
  obtain ⟨a, ha⟩ := cells_of cs.toList (fun x hx => by
    obtain ⟨i, hi, rfl⟩ := List.mem_iff_getElem.1 hx
    have h1 := hel i (by omega)
    rw [hc8, Nat.mul_one] at h1
    have hd1 : (cs.toList.drop i).take 1 = [cs.toList[i]] := by
      rw [List.drop_eq_getElem_cons hi]; rfl
    have h2 : (Value.agg cs).cells.toList = cs.toList := rfl
    rw [h2, hd1, List.getElem?_eq_getElem (show i < xs.length by omega)] at h1
    obtain ⟨n, hcs, _, hwf⟩ := DataW.trod_int Tryz.underlying5 h1
    obtain ⟨c, rfl⟩ := byte_of hwf
    exact ⟨c, by simpa [b8] using hcs⟩)
  refine ⟨a, by rw [← cellsOf_length, ← ha]; exact hn16, ?_⟩
  show Value.agg cs = Value.agg (cellsOf a).toArray
  rw [← ha]
end Go.Proofs.YtlpondbcnfaggaaGreatDoor.Lift

/-
  Laws whose rows list five tables, one of them a great one: what the lists give (Env), a world in which they lie. Plain lemmas.
-/
namespace Go.Proofs.YtlpondbcnfaggaaGreatDoor.Lift
set_option maxRecDepth 100000
open Go.ChangeShapes Go.WideShapes Go.ChangeAt Go.RowKit Go.Proofs.YtlpondbcnfaggaaGreatDoor.Wd Go.Proofs.YtlpondbcnfaggaaGreatDoor.Ad

def laid5 : List (String × DataW Unit) := [("math/bits.deBruijn32tab", Rows.laid_math_bits_deBruijn32tab), ("math/bits.deBruijn64tab", Rows.laid_math_bits_deBruijn64tab), ("internal/strconv.uint64pow10", Rows.laid_internal_strconv_uint64pow10),
  ("unicode/utf8.acceptRanges", Rows.laid_unicode_utf8_acceptRanges), ("unicode/utf8.first", Rows.laid_unicode_utf8_first)]

/-- a world in which the five lie meets the condition -/
theorem door_met5 (os : Os) (args : Array Value) : laidMetH Tryz.prog laid5 ((World.laidAll Tryz.prog os laid5).forCall (fun _ _ => 0) ⟨#[], args, []⟩).memory := by
  rw [MakeChecks.laidMetH_plain _ _ _ (by kernel_rfl)]
  exact laidMet_laidAll _ (by kernel_rfl) (by kernel_rfl)

theorem env_of5 {W : World} (hL : laidMetH Tryz.prog laid5 W) (hs : W.ShapedOpen Tryz.prog) : Env W.heap.size W := by
  rw [MakeChecks.laidMetH_plain _ _ _ (by kernel_rfl)] at hL
  have h3 : laidMet Tryz.prog (("internal/strconv.uint64pow10", Lib.tabData .u64 Lib.pow10Tab) :: [("unicode/utf8.acceptRanges", Rows.laid_unicode_utf8_acceptRanges), ("unicode/utf8.first", Rows.laid_unicode_utf8_first)]) W := hL.tail.tail
  have hm := cell_of_shapedOpen_int (P := Tryz.prog) (g := 0) (t := 3) (k := .i64) (zero := #[.int .i64 0]) hs (of_decide_eq_true (by kernel_rfl)) (by kernel_rfl) rfl (by kernel_rfl) (by kernel_rfl) Tryz.underlying3
  have h2 : laidMet Tryz.prog (("math/bits.deBruijn64tab", Lib.tabData .u8 tab64) :: ("internal/strconv.uint64pow10", Lib.tabData .u64 Lib.pow10Tab) :: [("unicode/utf8.acceptRanges", Rows.laid_unicode_utf8_acceptRanges), ("unicode/utf8.first", Rows.laid_unicode_utf8_first)]) W := hL.tail
  have hz := (Lib.tabIs_of_head (g := 5) (n := 64) (e := 5) (by kernel_rfl) rfl (by kernel_rfl) (by kernel_rfl) (by kernel_rfl) (by kernel_rfl) h2).cell (g := 5) (by kernel_rfl) 15 (by decide)
  have hz4 : W.cell? ⟨5, 15, none⟩ = some (.int .u8 4) := hz
  refine ⟨hm, Lib.tabBelow_of_tabIs (Lib.tabIs_of_head (g := 3) (n := 20) (e := 208) (by kernel_rfl) rfl (by kernel_rfl) (by kernel_rfl) (by kernel_rfl) (by kernel_rfl) h3), ?_, Nat.le_refl _, hz4, World.block_lt_of_cell? W _ hz4⟩
  obtain ⟨m, hm⟩ := hm
  rcases Nat.lt_or_ge 0 W.heap.size with h | h
  · exact h
  · have : W.heap[(0 : Nat)]? = none := Array.getElem?_eq_none h
    simp [World.cell?, this] at hm
end Go.Proofs.YtlpondbcnfaggaaGreatDoor.Lift
