/-
  A slice of calls that came in (a number, bytes, a number): what it leads to, and that each call's bytes are within the form's own reach.
-/
import Derived.Test.YtnmfgimcclpfbaaLift
import Derived.Test.YtnmfgimcclpfbaaRgMem
import Derived.Deep.Slices
import Derived.SizedLaws
set_option maxRecDepth 100000
namespace Go.Proofs.Ytnmfgimcclpfbaa.Lift
open Go.ChangeShapes Go.WideShapes Go.ChangeAt Go.RowKit Go.Deep Go.Proofs.Ytnmfgimcclpfbaa.Wd

/-- one call: Which, B, N -/
structure Cl where
  which : Int
  A : Option Addr
  n : Nat
  c : Nat
  b : List UInt8
  q : Int
instance : Inhabited Cl := ⟨⟨0, none, 0, 0, [], 0⟩⟩
def Cl.cells (x : Cl) : List Value := [.int .i64 x.which, .slice x.A x.n x.c, .int .i64 x.q]
structure Cl.Ok (w : World) (x : Cl) : Prop where
  w1 : -9223372036854775808 ≤ x.which ∧ x.which ≤ 9223372036854775807
  q1 : -9223372036854775808 ≤ x.q ∧ x.q ≤ 9223372036854775807
  nc : x.n ≤ x.c
  src : Src w x.A x.n x.b
  small : x.n ≤ 140737488351232
/-- a row of calls that a slice leads to, nil let in -/
def SrcL (w : World) (A : Option Addr) (l : List Cl) : Prop :=
  ∀ i x, l[i]? = some x → x.Ok w ∧ ∃ g o, A = some ⟨g, o, none⟩ ∧ g < w.heap.size ∧ w.cell? ⟨g, o + i * 3, none⟩ = some (.int .i64 x.which) ∧ w.cell? ⟨g, o + i * 3 + 1, none⟩ = some (.slice x.A x.n x.c) ∧ w.cell? ⟨g, o + i * 3 + 2, none⟩ = some (.int .i64 x.q)

theorem mem_weightsAll {H : Type} {P : Program} {e : TypeId} {d : DataW H} {z : Nat} (hz : z ∈ d.weights P e) : ∀ {l : List (DataW H)}, d ∈ l → z ∈ DataW.weightsAll P e l
  | [], h => by cases h
  | x :: r, h => by
    unfold DataW.weightsAll
    rcases List.mem_cons.1 h with rfl | h
    · exact List.mem_append_left _ hz
    · exact List.mem_append_right _ (mem_weightsAll hz h)
/-- what the form's own reach says of one argument -/
theorem reach_at {H : Type} {P : Program} {ts : List TypeId} {ds : List (DataW H)} (h : (DataW.weightsEach P ts ds).all (· ≤ reachBytes) = true) {j : Nat} {t : TypeId} {d : DataW H} (ht : ts[j]? = some t) (hd : ds[j]? = some d) : ∀ z ∈ d.weights P t, z ≤ reachBytes := fun z hz => by
  have := List.all_eq_true.1 h z (DataW.weights_mem_each ht hd z hz)
  simpa using this

theorem bytes_cells {H : Type} {enc : TypeId × Value → H} {W : World} {sp : Nat → Bool} {hd : Bool} {base fuel : Nat} {cs : List Value} {x : DataW H × List MemPlace}
    (hf : DataW.trod enc Try.prog W base sp hd fuel 29 cs = some x) : ∃ A n c xs, cs = [.slice A n c] ∧ n ≤ c ∧ Src W A n xs ∧ ((∀ z ∈ x.1.weights Try.prog 29, z ≤ reachBytes) → n ≤ reachBytes) := by
  have hU : Try.prog.underlying 29 = some (.slice 5) := Try.underlying29
  rcases open_ints hU Try.underlying5 (by kernel_rfl) hf with ⟨hcs, hx⟩ | ⟨a, l, c', zs, hcs, _, hl, hm, hz, hx, hcell, hwz⟩
  · exact ⟨none, 0, 0, [], hcs, Nat.le_refl _, Src.nil W, fun _ => Nat.zero_le _⟩
  · obtain ⟨xs, rfl⟩ := bytes_of hwz
    rw [List.length_map] at hz hcell
    have hnl : l ≤ xs.length := by rw [hz]; split <;> omega
    refine ⟨some a, l, c', xs.take l, hcs, hl, ⟨by rw [List.length_take]; omega, fun hn => ⟨a, rfl, ?_, fun j y hj => ?_⟩⟩, fun hz2 => ?_⟩
    · have h0 := hcell 0 (by omega)
      have hb := block_lt_of_cell h0
      rwa [block_of_add] at hb
    · rw [List.getElem?_take] at hj
      split at hj
      · have hjl := (List.getElem?_eq_some_iff.1 hj).1
        rw [hcell j hjl, List.getD_eq_getElem?_getD, List.getElem?_map, hj]
        rfl
      · cases hj
    · have hb1 : Try.prog.bytesOf 5 = 1 := by kernel_rfl
      have := hz2 ((xs.length - 0) * Try.prog.bytesOf 5) (by
        rw [hx]
        unfold DataW.weights
        rw [hU]
        apply List.mem_cons.2
        left
        simp only [lits, List.length_map, List.length_take, List.length_drop]
        congr 1
        omega)
      rw [hb1] at this
      omega
theorem call_cells {H : Type} {enc : TypeId × Value → H} {W : World} {sp : Nat → Bool} {hd : Bool} {base fuel : Nat} {cs : List Value} {x : DataW H × List MemPlace}
    (hf : DataW.trod enc Try.prog W base sp hd fuel 31 cs = some x) : ∃ y : Cl, cs = y.cells ∧ ((∀ z ∈ x.1.weights Try.prog 31, z ≤ reachBytes) → y.Ok W) := by
  have hU : ∃ f0 f1 f2 : Field, Try.prog.underlying 31 = some (.struct #[f0, f1, f2]) ∧ f0.type = 3 ∧ f0.offset = 0 ∧ f1.type = 29 ∧ f1.offset = 1 ∧ f2.type = 3 ∧ f2.offset = 2 :=
    ⟨_, _, _, Try.underlying31, rfl, rfl, rfl, rfl, rfl, rfl⟩
  obtain ⟨f0, f1, f2, hU, t0, o0, t1, o1, t2, o2⟩ := hU
  obtain ⟨xs, m, _, hxx, hlen, hxn, hel⟩ := DataW.trod_struct hU hf
  have hl3 : cs.length = 3 := by rw [hlen]; kernel_rfl
  have c1 : Try.prog.cellsOf 3 = 1 := by kernel_rfl
  have c2 : Try.prog.cellsOf 29 = 1 := by kernel_rfl
  have hx3 : xs.length = 3 := by rw [hxn]; rfl
  have h0 := hel 0 f0 rfl
  have h1 := hel 1 f1 rfl
  have h2 := hel 2 f2 rfl
  obtain ⟨y0, y1, y2, rfl⟩ : ∃ y0 y1 y2, xs = [y0, y1, y2] := by
    match xs, hx3 with
    | [y0, y1, y2], _ => exact ⟨y0, y1, y2, rfl⟩
  obtain ⟨v0, v1, v2, rfl⟩ : ∃ v0 v1 v2, cs = [v0, v1, v2] := by
    match cs, hl3 with
    | [v0, v1, v2], _ => exact ⟨v0, v1, v2, rfl⟩
  rw [t0, o0, c1] at h0
  rw [t1, o1, c2] at h1
  rw [t2, o2, c1] at h2
  obtain ⟨n0, e0, _, wf0⟩ := DataW.trod_int Try.underlying3 h0
  obtain ⟨n2, e2, _, wf2⟩ := DataW.trod_int Try.underlying3 h2
  obtain ⟨A, n, c, b, e1, hnc, hs, hb⟩ := bytes_cells h1
  simp at e0 e1 e2
  subst e0; subst e1; subst e2
  refine ⟨⟨n0, A, n, c, b, n2⟩, rfl, fun hz => ⟨int_of wf0, int_of wf2, hnc, hs, hb fun z hz' => hz z ?_⟩⟩
  rw [hxx]
  unfold DataW.weights
  rw [hU]
  refine DataW.weights_mem_each (j := 1) (t := 29) (d := y1.1) ?_ rfl z hz'
  show some f1.type = some 29
  rw [t1]

/-- a []Call that came in -/
theorem open_calls {H : Type} {enc : TypeId × Value → H} {W : World} {sp : Nat → Bool} {hd : Bool} {base b0 : Nat} {v : Value} {d : DataW H} {p : List MemPlace}
    (hv : Value.okWide Try.prog W .any b0 22 v) (h : DataW.Trod enc Try.prog W base sp hd 22 v d p) (hr : ∀ z ∈ d.weights Try.prog 22, z ≤ reachBytes) :
    ∃ A n cap l, v = .slice A n cap ∧ n ≤ cap ∧ cap ≤ maxLen ∧ l.length = n ∧ SrcL W A l := by
  have hU : Try.prog.underlying 22 = some (.slice 31) := Try.underlying22
  obtain ⟨A, n, c, rfl⟩ := okWide_slice hU hv
  obtain ⟨fuel, hf⟩ := h
  rcases open_slice hU hf with ⟨hcs, _⟩ | ⟨a, len, cap, m, k, D, Pl, hcs, _, hl, hm, hmm, hdd, hx⟩
  · simp [Value.cells] at hcs
    obtain ⟨rfl, rfl, rfl⟩ := hcs
    exact ⟨none, 0, 0, [], rfl, Nat.le_refl _, Nat.zero_le _, rfl, fun i x hi => by cases i <;> cases hi⟩
  · simp [Value.cells] at hcs
    obtain ⟨rfl, rfl, rfl⟩ := hcs
    have hlm : n ≤ m := by rw [hmm]; split <;> omega
    have c3 : Try.prog.cellsOf 31 = 3 := by kernel_rfl
    have hd1 : d = .slice ((List.range n).map D) ((List.range (m - n)).map fun j => D (n + j)) := congrArg Prod.fst hdd
    obtain ⟨V, hV⟩ := choose_lt (α := Cl) (n := n) (p := fun i x => x.Ok W ∧ W.cells? base (a.add (i * 3)) 3 = some x.cells) (fun i hi => by
      obtain ⟨cs', h1, h2⟩ := hx i (by omega)
      rw [c3] at h1
      obtain ⟨x, rfl, hok⟩ := call_cells h2
      refine ⟨x, hok fun z hz => hr z ?_, h1⟩
      rw [hd1]
      unfold DataW.weights
      rw [hU]
      refine List.mem_cons.2 (.inr (List.mem_append_left _ (mem_weightsAll hz ?_)))
      exact List.mem_map.2 ⟨i, List.mem_range.2 hi, rfl⟩)
    refine ⟨_, n, c, (List.range n).map V, rfl, hl, hm, by simp, fun i x hi => ?_⟩
    obtain ⟨hin, rfl⟩ : i < n ∧ V i = x := by
      rw [List.getElem?_map, Option.map_eq_some_iff] at hi
      obtain ⟨y, hy, rfl⟩ := hi
      obtain ⟨h1, h2⟩ := List.getElem?_eq_some_iff.1 hy
      simp at h1 h2
      subst h2
      exact ⟨h1, rfl⟩
    refine ⟨(hV i hin).1, ?_⟩
    have hc := (World.cells?_some (hV i hin).2).2.2
    have hc0 := (World.cells?_some (hV 0 (by omega)).2).2.2 0 (by omega)
    obtain ⟨g, o, spot⟩ := a
    rw [show (V 0).cells[0]? = some (.int .i64 (V 0).which) from rfl] at hc0
    have hspot : spot = none := by simpa [Addr.add] using World.cell?_spot hc0
    subst hspot
    have hlt : g < W.heap.size := by
      have hb := block_lt_of_cell hc0
      rwa [block_of_add, block_of_add] at hb
    have g0 := hc 0 (by omega)
    have g1 := hc 1 (by omega)
    have g2 := hc 2 (by omega)
    rw [add_none, add_none] at g0 g1 g2
    exact ⟨g, o, rfl, hlt, g0, g1, g2⟩
theorem SrcL.below {w w' : World} {A : Option Addr} {l : List Cl} (h : SrcL w A l) (hb : Below w.heap.size w w') : SrcL w' A l := fun i x hx => by
  obtain ⟨hok, g, o, hA, hg, h0, h1, h2⟩ := h i x hx
  exact ⟨⟨hok.w1, hok.q1, hok.nc, hok.src.below hb, hok.small⟩, g, o, hA, Nat.lt_of_lt_of_le hg hb.size, (hb.cell (p := ⟨g, _, none⟩) hg).trans h0, (hb.cell (p := ⟨g, _, none⟩) hg).trans h1, (hb.cell (p := ⟨g, _, none⟩) hg).trans h2⟩
/-- call number k, as it lies in a later world -/
theorem SrcL.get {w wr : World} {A : Option Addr} {l : List Cl} {k : Nat} (h : SrcL w A l) (hk : k < l.length) (hb : Below w.heap.size w wr) :
    ∃ x g o, l[k]? = some x ∧ x.Ok w ∧ A = some ⟨g, o, none⟩ ∧ g < w.heap.size ∧ wr.cell? ⟨g, o + k * 3, none⟩ = some (.int .i64 x.which) ∧ wr.cell? ⟨g, o + k * 3 + 1, none⟩ = some (.slice x.A x.n x.c) ∧ wr.cell? ⟨g, o + k * 3 + 2, none⟩ = some (.int .i64 x.q) := by
  have hx : l[k]? = some l[k] := List.getElem?_eq_getElem hk
  obtain ⟨hok, g, o, hA, hg, h0, h1, h2⟩ := h k _ hx
  exact ⟨l[k], g, o, hx, hok, hA, hg, (hb.cell (p := ⟨g, _, none⟩) hg).trans h0, (hb.cell (p := ⟨g, _, none⟩) hg).trans h1, (hb.cell (p := ⟨g, _, none⟩) hg).trans h2⟩
theorem Cl.Ok.far {w : World} {x : Cl} (h : x.Ok w) : 0 < x.n → ∀ y, x.A = some y → y.block < w.heap.size := fun h0 y hy => by
  obtain ⟨ad, e, hlt, _⟩ := h.src.2 h0
  rw [hy] at e
  injection e with e
  subst e
  exact hlt
end Go.Proofs.Ytnmfgimcclpfbaa.Lift
