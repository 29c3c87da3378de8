/-
  The landed package policy keeps its contracts, all of them.
-/
import Derived.Test.YtlpondbcnfaggaaGreatDoorR44
import Derived.Test.YtlpondbcnfaggaaGreatDoorR18
import Derived.Test.YtlpondbcnfaggaaGreatDoorR03
import Derived.Test.YtlpondbcnfaggaaGreatDoorR05
import Derived.LaidMore
import Derived.MakeChecks
import Derived.Stop.LaidErr
import Derived.Lib.LaidTab
import Derived.Shelf.Vars
import Derived.HandedShaped
import Derived.Lay
namespace Go.Proofs.YtlpondbcnfaggaaGreatDoor.Po
open Go.RowKit Go.Proofs.YtlpondbcnfaggaaGreatDoor.Wd Go.Proofs.YtlpondbcnfaggaaGreatDoor.Asc Go.Proofs.YtlpondbcnfaggaaGreatDoor.Tx Go.Proofs.YtlpondbcnfaggaaGreatDoor.St Go.Proofs.YtlpondbcnfaggaaGreatDoor.Tr Go.Proofs.YtlpondbcnfaggaaGreatDoor.Te
theorem poC : PoC where
  parse_ := fun hE s hs p n er h => parse_any hE s hs p n er h
  right_ := fun hE p A1 A2 n1 c1 n2 c2 pn h1 h2 _ h4 h5 h6 _ h8 h9 hs hk => right_any hE p A1 A2 n1 c1 n2 c2 pn h1 h2 h4 h5 h6 h8 h9 hs hk
  print_ := fun hE p A1 A2 n1 c1 n2 c2 pn h1 h2 _ h4 h5 h6 _ _ _ _ hr => print_any hE p A1 A2 n1 c1 n2 c2 pn h1 h2 h4 h5 h6 hr
end Go.Proofs.YtlpondbcnfaggaaGreatDoor.Po

/-
  Laws whose rows list tables: what the lists give (Env), how a law is lifted, an address opened. Plain lemmas.
-/
namespace Go.Proofs.YtlpondbcnfaggaaGreatDoor.Lift
set_option maxRecDepth 100000
open Go.ChangeShapes Go.WideShapes Go.ChangeAt Go.RowKit Go.Proofs.YtlpondbcnfaggaaGreatDoor.Wd Go.Proofs.YtlpondbcnfaggaaGreatDoor.Ad

def laid3 : List (String × DataW Unit) := [("math/bits.deBruijn32tab", Rows.laid_math_bits_deBruijn32tab), ("math/bits.deBruijn64tab", Rows.laid_math_bits_deBruijn64tab), ("internal/strconv.uint64pow10", Rows.laid_internal_strconv_uint64pow10)]

/-- the door's own heap meets the condition -/
theorem door_met (os : Os) (args : Array Value) : laidMetH Tryz.prog laid3 ((World.doorLaid Tryz.prog 24 os).forCall (fun _ _ => 0) ⟨#[], args, []⟩).memory :=
  laidMetH_of_parts3 (fuel := 8) (laidMet_of_run' 8 (by kernel_rfl) (by kernel_rfl)) (by kernel_rfl) (by kernel_rfl)

def tab64 : List Int := [0, 1, 56, 2, 57, 49, 28, 3, 61, 58, 42, 50, 38, 29, 17, 4, 62, 47, 59, 36, 45, 43, 51, 22, 53, 39, 33, 30, 24, 18, 12, 5, 63, 55, 48, 27, 60, 41, 37, 16, 46, 35, 44, 21, 52, 32, 23, 11, 54, 26, 40, 15, 34, 20, 31, 10, 25, 14, 19, 9, 13, 8, 7, 6]
/-- what the condition and the world's shape give -/
theorem env_of {W : World} (hL : laidMetH Tryz.prog laid3 W) (hs : W.ShapedOpen Tryz.prog) : Env W.heap.size W := by
  rw [MakeChecks.laidMetH_plain _ _ _ (by kernel_rfl)] at hL
  have h3 : laidMet Tryz.prog [("internal/strconv.uint64pow10", Lib.tabData .u64 Lib.pow10Tab)] W := hL.tail.tail
  have hm := cell_of_shapedOpen_int (P := Tryz.prog) (g := 0) (t := 3) (k := .i64) (zero := #[.int .i64 0]) hs (of_decide_eq_true (by kernel_rfl)) (by kernel_rfl) rfl (by kernel_rfl) (by kernel_rfl) Tryz.underlying3
  have h2 : laidMet Tryz.prog (("math/bits.deBruijn64tab", Lib.tabData .u8 tab64) :: [("internal/strconv.uint64pow10", Lib.tabData .u64 Lib.pow10Tab)]) W := hL.tail
  have hz := (Lib.tabIs_of_head (g := 5) (n := 64) (e := 5) (by kernel_rfl) rfl (by kernel_rfl) (by kernel_rfl) (by kernel_rfl) (by kernel_rfl) h2).cell (g := 5) (by kernel_rfl) 15 (by decide)
  have hz4 : W.cell? ⟨5, 15, none⟩ = some (.int .u8 4) := hz
  refine ⟨hm, Lib.tabBelow_of_tabIs (Lib.tabIs_of_head (g := 3) (n := 20) (e := 208) (by kernel_rfl) rfl (by kernel_rfl) (by kernel_rfl) (by kernel_rfl) (by kernel_rfl) h3), ?_, Nat.le_refl _, hz4, World.block_lt_of_cell? W _ hz4⟩
  obtain ⟨m, hm⟩ := hm
  rcases Nat.lt_or_ge 0 W.heap.size with h | h
  · exact h
  · have : W.heap[(0 : Nat)]? = none := Array.getElem?_eq_none h
    simp [World.cell?, this] at hm

/-- a law over a row that lists tables: its contract is handed the condition and the world's shape -/
theorem returns_laid {H : Type} {enc : TypeId × Value → H} {a : Assume} {C : Checked} {os : Os} {f : FuncId} {fn : Func} {s : ChangeSpec} {conds : List PathCond} {apart fresh handsOn again : Bool} {X : World → Array Value → Prop}
    (hX : ∀ (w w' : World) (args : Array Value), w.heap = w'.heap → X w args → X w' args)
    (own : ownKnob C.prog.godebug = none) (started : os.Started) (noInit : C.prog.inits.idxOf? f = none) (hfn : C.prog.funcs[f]? = some fn)
    (witness : ∃ (w : World) (tape : Tape) (i : Input), w.os = os ∧ (w.forCall tape i).Shaped C.prog ∧ i.vars = [] ∧ Input.okWide C.prog (w.forCall tape i) .any w.heap.size f i ∧
      ((s.pre enc C.prog fn conds apart (w.forCall tape i).memory i.args ∧ X (w.forCall tape i).memory i.args) ∧ sizedMet enc C.prog fn (OpenSpec.ofChange s) apart (w.forCall tape i).memory i.args) ∧ a.holds C.prog (lone (Frame.enter C.prog f i.args .normal) [] (w.forCall tape i)))
    (contract : ∀ (W : World) (base : Nat) (args : Array Value) (ds gs : List (DataW H)) (before : List MemPlace),
      (∀ (j : Nat) t v, fn.params[j]? = some t → args[j]? = some v → Value.okWide C.prog W .any base t v) →
      DataW.Whole enc C.prog fn.params.toList s.vars apart W args.toList ds gs before → X W args → W.ShapedOpen C.prog →
      Calls C.prog f args W fun e W' => ∃ v, e = .returned v ∧ s.post enc C.prog fn apart fresh handsOn again W args v W') :
    ReturnsInHanded a C os f .any (fun w args => (s.pre enc C.prog fn conds apart w args ∧ X w args) ∧ sizedMet enc C.prog fn (OpenSpec.ofChange s) apart w args) (s.post enc C.prog fn apart fresh handsOn again) := by
  refine returnsInHanded_of_calls own started noInit witness ?_
  intro w tape i _ hsh _ hok hpre _
  obtain ⟨_, _, _, fn', hfn', _, _, _, _, hval⟩ := hok
  have e : fn' = fn := Option.some.inj (hfn'.symm.trans hfn)
  subst e
  obtain ⟨⟨⟨ds, gs, before, hw, _⟩, hx⟩, _⟩ := hpre
  have hw' := DataW.Whole.of_heap (w' := w.forCall tape i) (by rfl) hw
  refine (contract (w.forCall tape i) w.heap.size i.args ds gs before hval hw' (hX _ _ _ (by rfl) hx) hsh).mono fun e W' ⟨v, he, hp⟩ => ?_
  subst he
  exact ChangeSpec.post_blind hp

theorem cells_of : ∀ l : List Value, (∀ x ∈ l, ∃ c : UInt8, x = b8 c) → ∃ a : List UInt8, l = cellsOf a
  | [], _ => ⟨[], rfl⟩
  | x :: l, h => by
    obtain ⟨c, rfl⟩ := h x (by simp)
    obtain ⟨a, rfl⟩ := cells_of l (fun y hy => h y (by simp [hy]))
    exact ⟨c :: a, rfl⟩
/-- an address that came in -/
theorem open_addr {H : Type} {enc : TypeId × Value → H} {W : World} {sp : Nat → Bool} {hd : Bool} {base b0 : Nat} {v : Value} {d : DataW H} {p : List MemPlace}
    (hv : Value.okWide Tryz.prog W .any b0 48 v) (h : DataW.Trod enc Tryz.prog W base sp hd 48 v d p) : ∃ a : List UInt8, a.length = 16 ∧ v = .agg (cA a) := by
  unfold Value.okWide at hv
  rw [und16] at hv
  obtain ⟨cs, rfl, hn, _⟩ := hv
  obtain ⟨fuel, hf⟩ := h
  obtain ⟨xs, m, _, _, hlen, hxn, hel⟩ := DataW.trod_array und16 hf
  have hn16 : cs.toList.length = 16 := by rw [Array.length_toList, hn]; kernel_rfl
  have hc8 : Tryz.prog.cellsOf 5 = 1 := by kernel_rfl
  obtain ⟨a, ha⟩ := cells_of cs.toList (fun x hx => by
    obtain ⟨i, hi, rfl⟩ := List.mem_iff_getElem.1 hx
    have h1 := hel i (by omega)
    rw [hc8, Nat.mul_one] at h1
    have hd1 : (cs.toList.drop i).take 1 = [cs.toList[i]] := by
      rw [List.drop_eq_getElem_cons hi]; rfl
    have h2 : (Value.agg cs).cells.toList = cs.toList := rfl
    rw [h2, hd1, List.getElem?_eq_getElem (show i < xs.length by omega)] at h1
    obtain ⟨n, hcs, _, hwf⟩ := DataW.trod_int Tryz.underlying5 h1
    obtain ⟨c, rfl⟩ := byte_of hwf
    exact ⟨c, by simpa [b8] using hcs⟩)
  refine ⟨a, by rw [← cellsOf_length, ← ha]; exact hn16, ?_⟩
  show Value.agg cs = Value.agg (cellsOf a).toArray
  rw [← ha]
end Go.Proofs.YtlpondbcnfaggaaGreatDoor.Lift

/-
  Laws whose rows list five tables, one of them a great one: what the lists give (Env), a world in which they lie. Plain lemmas.
-/
namespace Go.Proofs.YtlpondbcnfaggaaGreatDoor.Lift
set_option maxRecDepth 100000
open Go.ChangeShapes Go.WideShapes Go.ChangeAt Go.RowKit Go.Proofs.YtlpondbcnfaggaaGreatDoor.Wd Go.Proofs.YtlpondbcnfaggaaGreatDoor.Ad

def laid5 : List (String × DataW Unit) := [("math/bits.deBruijn32tab", Rows.laid_math_bits_deBruijn32tab), ("math/bits.deBruijn64tab", Rows.laid_math_bits_deBruijn64tab), ("internal/strconv.uint64pow10", Rows.laid_internal_strconv_uint64pow10),
  ("unicode/utf8.acceptRanges", Rows.laid_unicode_utf8_acceptRanges), ("unicode/utf8.first", Rows.laid_unicode_utf8_first)]

/-- a world in which the five lie meets the condition -/
theorem door_met5 (os : Os) (args : Array Value) : laidMetH Tryz.prog laid5 ((World.laidAll Tryz.prog os laid5).forCall (fun _ _ => 0) ⟨#[], args, []⟩).memory := by
  rw [MakeChecks.laidMetH_plain _ _ _ (by kernel_rfl)]
  exact laidMet_laidAll _ (by kernel_rfl) (by kernel_rfl)

theorem env_of5 {W : World} (hL : laidMetH Tryz.prog laid5 W) (hs : W.ShapedOpen Tryz.prog) : Env W.heap.size W := by
  rw [MakeChecks.laidMetH_plain _ _ _ (by kernel_rfl)] at hL
  have h3 : laidMet Tryz.prog (("internal/strconv.uint64pow10", Lib.tabData .u64 Lib.pow10Tab) :: [("unicode/utf8.acceptRanges", Rows.laid_unicode_utf8_acceptRanges), ("unicode/utf8.first", Rows.laid_unicode_utf8_first)]) W := hL.tail.tail
  have hm := cell_of_shapedOpen_int (P := Tryz.prog) (g := 0) (t := 3) (k := .i64) (zero := #[.int .i64 0]) hs (of_decide_eq_true (by kernel_rfl)) (by kernel_rfl) rfl (by kernel_rfl) (by kernel_rfl) Tryz.underlying3
  have h2 : laidMet Tryz.prog (("math/bits.deBruijn64tab", Lib.tabData .u8 tab64) :: ("internal/strconv.uint64pow10", Lib.tabData .u64 Lib.pow10Tab) :: [("unicode/utf8.acceptRanges", Rows.laid_unicode_utf8_acceptRanges), ("unicode/utf8.first", Rows.laid_unicode_utf8_first)]) W := hL.tail
  have hz := (Lib.tabIs_of_head (g := 5) (n := 64) (e := 5) (by kernel_rfl) rfl (by kernel_rfl) (by kernel_rfl) (by kernel_rfl) (by kernel_rfl) h2).cell (g := 5) (by kernel_rfl) 15 (by decide)
  have hz4 : W.cell? ⟨5, 15, none⟩ = some (.int .u8 4) := hz
  refine ⟨hm, Lib.tabBelow_of_tabIs (Lib.tabIs_of_head (g := 3) (n := 20) (e := 208) (by kernel_rfl) rfl (by kernel_rfl) (by kernel_rfl) (by kernel_rfl) (by kernel_rfl) h3), ?_, Nat.le_refl _, hz4, World.block_lt_of_cell? W _ hz4⟩
  obtain ⟨m, hm⟩ := hm
  rcases Nat.lt_or_ge 0 W.heap.size with h | h
  · exact h
  · have : W.heap[(0 : Nat)]? = none := Array.getElem?_eq_none h
    simp [World.cell?, this] at hm
end Go.Proofs.YtlpondbcnfaggaaGreatDoor.Lift
