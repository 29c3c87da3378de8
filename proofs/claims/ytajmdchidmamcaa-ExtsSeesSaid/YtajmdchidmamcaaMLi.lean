/-
  What all the laws' last steps share: an argument that is only read reads behind the call as it did; bytes out of integers.
-/
import Derived.Test.YtajmdchidmamcaaWords
import Derived.ProofKit
import Derived.OpenShut
import Derived.ShutString
import Derived.ChangeOld
import Derived.Test.YtajmdchidmamcaaHeMem
import Derived.Deep.Slices
import Derived.SizedLaws
namespace Go.Proofs.Ytajmdchidmamcaa.Lift
set_option maxRecDepth 100000
open Go.ChangeShapes Go.WideShapes Go.ChangeAt Go.RowKit Go.Proofs.Ytajmdchidmamcaa.Wd

theorem own : ownKnob Try.prog.godebug = none := by kernel_rfl
theorem laidOut : laidOutB Try.prog = true := by kernel_rfl

theorem byte_of {a : Int} (h : (Lit.int .u8 a).wf = true) : ∃ c : UInt8, a = (c.toNat : Int) := by
  have hx : 0 ≤ a ∧ a ≤ 255 := by simpa [Lit.wf, IntKind.min, IntKind.max, IntKind.signed, IntKind.bits] using h
  refine ⟨UInt8.ofNat a.toNat, ?_⟩
  simp only [UInt8.toNat_ofNat']
  omega
theorem int_of {a : Int} (h : (Lit.int .i64 a).wf = true) : -9223372036854775808 ≤ a ∧ a ≤ 9223372036854775807 := by
  simpa [Lit.wf, IntKind.min, IntKind.max, IntKind.signed, IntKind.bits] using h

/-- integers that fit a byte, as bytes -/
theorem bytes_of {zs : List Int} (h : ∀ n ∈ zs, (Lit.int .u8 n).wf = true) : ∃ xs : List UInt8, zs = xs.map fun c => (c.toNat : Int) := by
  induction zs with
  | nil => exact ⟨[], rfl⟩
  | cons z zs ih =>
    obtain ⟨c, rfl⟩ := byte_of (h z (by simp))
    obtain ⟨xs, rfl⟩ := ih (fun n hn => h n (by simp [hn]))
    exact ⟨c :: xs, rfl⟩

/-- a []byte that came in: what it leads to -/
theorem open_bytes {H : Type} {enc : TypeId × Value → H} {W : World} {sp : Nat → Bool} {hd : Bool} {base b0 : Nat} {v : Value} {d : DataW H} {p : List MemPlace}
    (hv : Value.okWide Try.prog W .any b0 22 v) (h : DataW.Trod enc Try.prog W base sp hd 22 v d p) : ∃ A n c xs, v = .slice A n c ∧ n ≤ c ∧ c ≤ maxLen ∧ Src W A n xs := by
  obtain ⟨A, n, c, rfl⟩ := okWide_slice Try.underlying22 hv
  obtain ⟨fuel, hf⟩ := h
  rcases open_ints Try.underlying22 Try.underlying5 (by kernel_rfl) hf with ⟨hcs, _⟩ | ⟨x, l, c', zs, hcs, _, hl, hm, hz, hx, hcell, hwz⟩
  · simp [Value.cells] at hcs
    obtain ⟨rfl, rfl, rfl⟩ := hcs
    exact ⟨none, 0, 0, [], rfl, Nat.le_refl _, Nat.zero_le _, Src.nil W⟩
  · simp [Value.cells] at hcs
    obtain ⟨rfl, rfl, rfl⟩ := hcs
    obtain ⟨xs, rfl⟩ := bytes_of hwz
    rw [List.length_map] at hz hcell
    have hnl : n ≤ xs.length := by rw [hz]; split <;> omega
    refine ⟨_, n, c, xs.take n, rfl, hl, hm, by rw [List.length_take]; omega, fun hn => ⟨x, rfl, ?_, fun j y hj => ?_⟩⟩
    · have h0 := hcell 0 (by omega)
      rcases Nat.lt_or_ge x.block W.heap.size with h | h
      · exact h
      · have : W.heap[x.block]? = none := Array.getElem?_eq_none h
        simp [World.cell?, block_of_add, this] at h0
    · rw [List.getElem?_take] at hj
      split at hj
      · have hjl := (List.getElem?_eq_some_iff.1 hj).1
        rw [hcell j hjl, List.getD_eq_getElem?_getD, List.getElem?_map, hj]
        rfl
      · cases hj
end Go.Proofs.Ytajmdchidmamcaa.Lift

/-
  A hello that came in, and bytes: what they lead to, and that each row is within the form's own reach.
-/
set_option maxRecDepth 100000
namespace Go.Proofs.Ytajmdchidmamcaa.Lift
open Go.ChangeShapes Go.WideShapes Go.ChangeAt Go.RowKit Go.Deep Go.Proofs.Ytajmdchidmamcaa.Wd Go.Proofs.Ytajmdchidmamcaa.He

theorem cells_of : ∀ l : List Value, (∀ x ∈ l, ∃ c : UInt8, x = b8 c) → ∃ a : List UInt8, l = cellsOf a
  | [], _ => ⟨[], rfl⟩
  | x :: l, h => by
    obtain ⟨c, rfl⟩ := h x (by simp)
    obtain ⟨a, rfl⟩ := cells_of l (fun y hy => h y (by simp [hy]))
    exact ⟨c :: a, rfl⟩
theorem mem_weightsAll {H : Type} {P : Program} {e : TypeId} {d : DataW H} {z : Nat} (hz : z ∈ d.weights P e) : ∀ {l : List (DataW H)}, d ∈ l → z ∈ DataW.weightsAll P e l
  | [], h => by cases h
  | x :: r, h => by
    unfold DataW.weightsAll
    rcases List.mem_cons.1 h with rfl | h
    · exact List.mem_append_left _ hz
    · exact List.mem_append_right _ (mem_weightsAll hz h)
/-- what the form's own reach says of one argument -/
theorem reach_at {H : Type} {P : Program} {ts : List TypeId} {ds : List (DataW H)} (h : (DataW.weightsEach P ts ds).all (· ≤ reachBytes) = true) {j : Nat} {t : TypeId} {d : DataW H} (ht : ts[j]? = some t) (hd : ds[j]? = some d) : ∀ z ∈ d.weights P t, z ≤ reachBytes := fun z hz => by
  have := List.all_eq_true.1 h z (DataW.weights_mem_each ht hd z hz)
  simpa using this

theorem bytes_cells {H : Type} {enc : TypeId × Value → H} {W : World} {sp : Nat → Bool} {hd : Bool} {base fuel : Nat} {cs : List Value} {x : DataW H × List MemPlace}
    (hf : DataW.trod enc Try.prog W base sp hd fuel 22 cs = some x) : ∃ A c, ∃ xs : List UInt8, cs = [.slice A xs.length c] ∧ xs.length ≤ c ∧ c ≤ maxLen ∧ Src W A xs.length xs ∧ ((∀ z ∈ x.1.weights Try.prog 22, z ≤ reachBytes) → xs.length ≤ reachBytes) := by
  have hU : Try.prog.underlying 22 = some (.slice 5) := Try.underlying22
  rcases open_ints hU Try.underlying5 (by kernel_rfl) hf with ⟨hcs, hx⟩ | ⟨a, l, c', zs, hcs, _, hl, hm, hz, hx, hcell, hwz⟩
  · exact ⟨none, 0, [], hcs, Nat.le_refl _, Nat.zero_le _, Src.nil W, fun _ => Nat.zero_le _⟩
  · obtain ⟨xs, rfl⟩ := bytes_of hwz
    rw [List.length_map] at hz hcell
    have hnl : l ≤ xs.length := by rw [hz]; split <;> omega
    have htl : (xs.take l).length = l := by rw [List.length_take]; omega
    refine ⟨some a, c', xs.take l, by rw [htl]; exact hcs, by omega, hm, ⟨rfl, fun hn => ⟨a, rfl, ?_, fun j y hj => ?_⟩⟩, fun hz2 => ?_⟩
    · have h0 := hcell 0 (by omega)
      have hb := block_lt_of_cell h0
      rwa [block_of_add] at hb
    · rw [List.getElem?_take] at hj
      split at hj
      · have hjl := (List.getElem?_eq_some_iff.1 hj).1
        rw [hcell j hjl, List.getD_eq_getElem?_getD, List.getElem?_map, hj]
        rfl
      · cases hj
    · have hb1 : Try.prog.bytesOf 5 = 1 := by kernel_rfl
      have := hz2 ((xs.length - 0) * Try.prog.bytesOf 5) (by
        rw [hx]
        unfold DataW.weights
        rw [hU]
        apply List.mem_cons.2
        left
        simp only [lits, List.length_map, List.length_take, List.length_drop]
        congr 1
        omega)
      rw [hb1] at this
      omega
theorem ints_cells {H : Type} {enc : TypeId × Value → H} {W : World} {sp : Nat → Bool} {hd : Bool} {base fuel : Nat} {cs : List Value} {x : DataW H × List MemPlace}
    (hf : DataW.trod enc Try.prog W base sp hd fuel 30 cs = some x) : ∃ A c, ∃ xs : List Int, cs = [.slice A xs.length c] ∧ xs.length ≤ c ∧ SrcI W A xs ∧ (∀ z ∈ xs, -9223372036854775808 ≤ z ∧ z ≤ 9223372036854775807) ∧ ((∀ z ∈ x.1.weights Try.prog 30, z ≤ reachBytes) → xs.length ≤ reachBytes) := by
  have hU : Try.prog.underlying 30 = some (.slice 3) := Try.underlying30
  rcases open_ints hU Try.underlying3 (by kernel_rfl) hf with ⟨hcs, hx⟩ | ⟨a, l, c', zs, hcs, _, hl, hm, hz, hx, hcell, hwz⟩
  · exact ⟨none, 0, [], hcs, Nat.le_refl _, SrcI.nil W _, fun z hz => absurd hz List.not_mem_nil, fun _ => Nat.zero_le _⟩
  · have hnl : l ≤ zs.length := by rw [hz]; split <;> omega
    have htl : (zs.take l).length = l := by rw [List.length_take]; omega
    refine ⟨some a, c', zs.take l, by rw [htl]; exact hcs, by omega, fun j y hj => ?_, fun z hz => int_of (hwz z (List.mem_of_mem_take hz)), fun hz2 => ?_⟩
    · rw [List.getElem?_take] at hj
      split at hj
      · have hjl := (List.getElem?_eq_some_iff.1 hj).1
        have h0 := hcell j hjl
        rw [List.getD_eq_getElem?_getD, hj] at h0
        obtain ⟨g, o, spot⟩ := a
        have hspot : spot = none := by simpa [Addr.add] using World.cell?_spot (hcell 0 (by omega))
        subst hspot
        have hb := block_lt_of_cell h0
        rw [block_of_add] at hb
        rw [add_flat] at h0
        exact ⟨g, o, rfl, hb, h0⟩
      · cases hj
    · have hb1 : Try.prog.bytesOf 3 = 8 := by kernel_rfl
      have := hz2 ((zs.length - 0) * Try.prog.bytesOf 3) (by
        rw [hx]
        unfold DataW.weights
        rw [hU]
        apply List.mem_cons.2
        left
        simp only [lits, List.length_map, List.length_take, List.length_drop]
        congr 1
        omega)
      rw [hb1] at this
      omega
theorem xt_cells {H : Type} {enc : TypeId × Value → H} {W : World} {sp : Nat → Bool} {hd : Bool} {base fuel : Nat} {cs : List Value} {x : DataW H × List MemPlace}
    (hf : DataW.trod enc Try.prog W base sp hd fuel 53 cs = some x) : ∃ y : Xt, cs = [.int .i64 y.kind, .slice y.A y.n y.c] ∧ y.c ≤ maxLen ∧ ((∀ z ∈ x.1.weights Try.prog 53, z ≤ reachBytes) → y.Ok W) := by
  have hU : ∃ f0 f1 : Field, Try.prog.underlying 53 = some (.struct #[f0, f1]) ∧ f0.type = 3 ∧ f0.offset = 0 ∧ f1.type = 22 ∧ f1.offset = 1 :=
    ⟨_, _, Try.underlying53, rfl, rfl, rfl, rfl⟩
  obtain ⟨f0, f1, hU, t0, o0, t1, o1⟩ := hU
  obtain ⟨xs, m, _, hxx, hlen, hxn, hel⟩ := DataW.trod_struct hU hf
  have hl2 : cs.length = 2 := by rw [hlen]; kernel_rfl
  have c1 : Try.prog.cellsOf 3 = 1 := by kernel_rfl
  have c2 : Try.prog.cellsOf 22 = 1 := by kernel_rfl
  have hx2 : xs.length = 2 := by rw [hxn]; rfl
  have h0 := hel 0 f0 rfl
  have h1 := hel 1 f1 rfl
  obtain ⟨y0, y1, rfl⟩ : ∃ y0 y1, xs = [y0, y1] := by
    match xs, hx2 with
    | [y0, y1], _ => exact ⟨y0, y1, rfl⟩
  obtain ⟨v0, v1, rfl⟩ : ∃ v0 v1, cs = [v0, v1] := by
    match cs, hl2 with
    | [v0, v1], _ => exact ⟨v0, v1, rfl⟩
  rw [t0, o0, c1] at h0
  rw [t1, o1, c2] at h1
  obtain ⟨n0, e0, _, wf0⟩ := DataW.trod_int Try.underlying3 h0
  obtain ⟨A, c, b, e1, hnc, hcm, hs, hb⟩ := bytes_cells h1
  simp at e0 e1
  subst e0; subst e1
  refine ⟨⟨n0, A, b.length, c, b⟩, rfl, hcm, fun hz => ⟨int_of wf0, hnc, hs, hb fun z hz' => hz z ?_⟩⟩
  rw [hxx]
  unfold DataW.weights
  rw [hU]
  refine DataW.weights_mem_each (j := 1) (t := 22) (d := y1.1) ?_ rfl z hz'
  show some f1.type = some 22
  rw [t1]
theorem exts_cells {H : Type} {enc : TypeId × Value → H} {W : World} {sp : Nat → Bool} {hd : Bool} {base fuel : Nat} {cs : List Value} {x : DataW H × List MemPlace}
    (hf : DataW.trod enc Try.prog W base sp hd fuel 42 cs = some x) : ∃ A c, ∃ l : List Xt, cs = [.slice A l.length c] ∧ l.length ≤ c ∧ (∀ x ∈ l, x.c ≤ maxLen) ∧ ((∀ z ∈ x.1.weights Try.prog 42, z ≤ reachBytes) → SrcX W A l ∧ l.length ≤ reachBytes) := by
  have hU : Try.prog.underlying 42 = some (.slice 53) := Try.underlying42
  rcases open_slice hU hf with ⟨hcs, _⟩ | ⟨a, n, cap, m, k, D, Pl, hcs, _, hl, hm, hmm, hdd, hx⟩
  · exact ⟨none, 0, [], hcs, Nat.le_refl _, fun _ h => absurd h List.not_mem_nil, fun _ => ⟨SrcX.nil W _, Nat.zero_le _⟩⟩
  · have hlm : n ≤ m := by rw [hmm]; split <;> omega
    have c2 : Try.prog.cellsOf 53 = 2 := by kernel_rfl
    have hd1 : x.1 = .slice ((List.range n).map D) ((List.range (m - n)).map fun j => D (n + j)) := congrArg Prod.fst hdd
    obtain ⟨V, hV⟩ := choose_lt (α := Xt) (n := n) (p := fun i y => ((∀ z ∈ (D i).weights Try.prog 53, z ≤ reachBytes) → y.Ok W) ∧ y.c ≤ maxLen ∧ W.cells? base (a.add (i * 2)) 2 = some [.int .i64 y.kind, .slice y.A y.n y.c]) (fun i hi => by
      obtain ⟨cs', h1, h2⟩ := hx i (by omega)
      rw [c2] at h1
      obtain ⟨y, rfl, hcm, hok⟩ := xt_cells h2
      exact ⟨y, hok, hcm, h1⟩)
    refine ⟨some a, cap, (List.range n).map V, by simpa using hcs, by simpa using hl, fun y hy => ?_, fun hr => ⟨fun i y hi => ?_, ?_⟩⟩
    · obtain ⟨i, hi, rfl⟩ := List.mem_map.1 hy
      exact (hV i (List.mem_range.1 hi)).2.1
    · obtain ⟨hin, rfl⟩ : i < n ∧ V i = y := by
        rw [List.getElem?_map, Option.map_eq_some_iff] at hi
        obtain ⟨y, hy, rfl⟩ := hi
        obtain ⟨h1, h2⟩ := List.getElem?_eq_some_iff.1 hy
        simp at h1 h2
        subst h2
        exact ⟨h1, rfl⟩
      refine ⟨(hV i hin).1 fun z hz => hr z ?_, ?_⟩
      · rw [hd1]
        unfold DataW.weights
        rw [hU]
        refine List.mem_cons.2 (.inr (List.mem_append_left _ (mem_weightsAll hz ?_)))
        exact List.mem_map.2 ⟨i, List.mem_range.2 hin, rfl⟩
      · have hc := (World.cells?_some (hV i hin).2.2).2.2
        have g0 := hc 0 (by omega)
        have g1 := hc 1 (by omega)
        obtain ⟨g, o, spot⟩ := a
        have g0' := (World.cells?_some (hV 0 (by omega)).2.2).2.2 0 (by omega)
        rw [show [Value.int .i64 (V 0).kind, .slice (V 0).A (V 0).n (V 0).c][0]? = some (.int .i64 (V 0).kind) from rfl] at g0'
        have hspot : spot = none := by simpa [Addr.add] using World.cell?_spot g0'
        subst hspot
        have hlt : g < W.heap.size := by
          have hb := block_lt_of_cell g0'
          rwa [block_of_add, block_of_add] at hb
        rw [add_flat, add_flat] at g0 g1
        exact ⟨g, o, rfl, hlt, g0, g1⟩
    · have hb1 : Try.prog.bytesOf 53 = 32 := by kernel_rfl
      have := hr (m * Try.prog.bytesOf 53) (by
        rw [hd1]
        unfold DataW.weights
        rw [hU]
        apply List.mem_cons.2
        left
        simp only [List.length_map, List.length_range]
        congr 1
        omega)
      rw [hb1] at this
      simp only [List.length_map, List.length_range]
      omega
theorem rnd_cells {H : Type} {enc : TypeId × Value → H} {W : World} {sp : Nat → Bool} {hd : Bool} {base fuel : Nat} {cs : List Value} {x : DataW H × List MemPlace}
    (hf : DataW.trod enc Try.prog W base sp hd fuel 41 cs = some x) : ∃ a : List UInt8, a.length = 32 ∧ cs = cellsOf a := by
  obtain ⟨xs, m, _, _, hlen, hxn, hel⟩ := DataW.trod_array Try.underlying41 hf
  have hn16 : cs.length = 32 := by rw [hlen]; kernel_rfl
  have hc8 : Try.prog.cellsOf 5 = 1 := by kernel_rfl
  obtain ⟨a, ha⟩ := cells_of cs (fun x hx => by
    obtain ⟨i, hi, rfl⟩ := List.mem_iff_getElem.1 hx
    have h1 := hel i (by omega)
    rw [hc8, Nat.mul_one] at h1
    have hd1 : (cs.drop i).take 1 = [cs[i]] := by
      rw [List.drop_eq_getElem_cons hi]; rfl
    rw [hd1, List.getElem?_eq_getElem (show i < xs.length by omega)] at h1
    obtain ⟨n, hcs, _, hwf⟩ := DataW.trod_int Try.underlying5 h1
    obtain ⟨c, rfl⟩ := byte_of hwf
    exact ⟨c, by simpa [b8] using hcs⟩)
  exact ⟨a, by rw [← cellsOf_length, ← ha]; exact hn16, ha⟩
theorem cut_at {α : Type} (cs : List α) (n m k : Nat) (h : n + m = k) : cs.drop n = (cs.drop n).take m ++ cs.drop k := by
  subst h
  rw [← List.drop_drop, List.take_append_drop]
theorem hello_cells {H : Type} {enc : TypeId × Value → H} {W : World} {sp : Nat → Bool} {hd : Bool} {base fuel : Nat} {cs : List Value} {x : DataW H × List MemPlace}
    (hf : DataW.trod enc Try.prog W base sp hd fuel 44 cs = some x) : ∃ X : Hv, cs = X.L ∧ (∀ x ∈ X.xs, x.c ≤ maxLen) ∧ ((∀ z ∈ x.1.weights Try.prog 44, z ≤ reachBytes) → X.Ok W) := by
  have hU : ∃ f0 f1 f2 f3 f4 f5 f6 : Field, Try.prog.underlying 44 = some (.struct #[f0, f1, f2, f3, f4, f5, f6]) ∧ (f0.type = 3 ∧ f0.offset = 0) ∧ (f1.type = 41 ∧ f1.offset = 1) ∧ (f2.type = 22 ∧ f2.offset = 33) ∧ (f3.type = 30 ∧ f3.offset = 34) ∧ (f4.type = 22 ∧ f4.offset = 35) ∧ (f5.type = 4 ∧ f5.offset = 36) ∧ (f6.type = 42 ∧ f6.offset = 37) :=
    ⟨_, _, _, _, _, _, _, Try.underlying44, ⟨rfl, rfl⟩, ⟨rfl, rfl⟩, ⟨rfl, rfl⟩, ⟨rfl, rfl⟩, ⟨rfl, rfl⟩, ⟨rfl, rfl⟩, ⟨rfl, rfl⟩⟩
  obtain ⟨f0, f1, f2, f3, f4, f5, f6, hU, ⟨t0, o0⟩, ⟨t1, o1⟩, ⟨t2, o2⟩, ⟨t3, o3⟩, ⟨t4, o4⟩, ⟨t5, o5⟩, t6, o6⟩ := hU
  obtain ⟨xs, m, _, hxx, hlen, hxn, hel⟩ := DataW.trod_struct hU hf
  have hl : cs.length = 38 := by rw [hlen]; kernel_rfl
  have c0 : Try.prog.cellsOf 3 = 1 := by kernel_rfl
  have c1 : Try.prog.cellsOf 41 = 32 := by kernel_rfl
  have c2 : Try.prog.cellsOf 22 = 1 := by kernel_rfl
  have c3 : Try.prog.cellsOf 30 = 1 := by kernel_rfl
  have c5 : Try.prog.cellsOf 4 = 1 := by kernel_rfl
  have c6 : Try.prog.cellsOf 42 = 1 := by kernel_rfl
  have hx7 : xs.length = 7 := by rw [hxn]; rfl
  have h0 := hel 0 f0 rfl
  have h1 := hel 1 f1 rfl
  have h2 := hel 2 f2 rfl
  have h3 := hel 3 f3 rfl
  have h4 := hel 4 f4 rfl
  have h5 := hel 5 f5 rfl
  have h6 := hel 6 f6 rfl
  obtain ⟨y0, y1, y2, y3, y4, y5, y6, rfl⟩ : ∃ y0 y1 y2 y3 y4 y5 y6, xs = [y0, y1, y2, y3, y4, y5, y6] := by
    match xs, hx7 with
    | [y0, y1, y2, y3, y4, y5, y6], _ => exact ⟨y0, y1, y2, y3, y4, y5, y6, rfl⟩
  rw [t0, o0, c0] at h0
  rw [t1, o1, c1] at h1
  rw [t2, o2, c2] at h2
  rw [t3, o3, c3] at h3
  rw [t4, o4, c2] at h4
  rw [t5, o5, c5] at h5
  rw [t6, o6, c6] at h6
  obtain ⟨n0, e0, _, wf0⟩ := DataW.trod_int Try.underlying3 h0
  obtain ⟨r, lr, e1⟩ := rnd_cells h1
  obtain ⟨A2, k2, b2, e2, q2, _, s2, w2⟩ := bytes_cells h2
  obtain ⟨A3, k3, b3, e3, q3, s3, r3, w3⟩ := ints_cells h3
  obtain ⟨A4, k4, b4, e4, q4, _, s4, w4⟩ := bytes_cells h4
  obtain ⟨b5, e5, _⟩ := DataW.trod_bool Try.underlying4 h5
  obtain ⟨A6, k6, b6, e6, q6, cm6, w6⟩ := exts_cells h6
  have hcs : cs = (⟨n0, r, A2, k2, b2, A3, k3, b3, A4, k4, b4, b5, A6, k6, b6⟩ : Hv).L := by
    have a0 : cs = (cs.drop 0).take 1 ++ cs.drop 1 := cut_at cs 0 1 1 rfl
    have a7 : cs.drop 38 = [] := List.drop_eq_nil_of_le (by omega)
    rw [a0, cut_at cs 1 32 33 rfl, cut_at cs 33 1 34 rfl, cut_at cs 34 1 35 rfl, cut_at cs 35 1 36 rfl, cut_at cs 36 1 37 rfl, cut_at cs 37 1 38 rfl, a7, e0, e1, e2, e3, e4, e5, e6]
    simp [Hv.L]
  refine ⟨_, hcs, cm6, fun hz => ?_⟩
  have each : ∀ {j : Nat} {t : TypeId} {d : DataW H}, [3, 41, 22, 30, 22, 4, 42][j]? = some t → ([y0, y1, y2, y3, y4, y5, y6].map (·.1))[j]? = some d → ∀ z ∈ d.weights Try.prog t, z ≤ reachBytes := by
    intro j t d ht hd z hz'
    refine hz z ?_
    rw [hxx]
    unfold DataW.weights
    rw [hU]
    refine DataW.weights_mem_each (j := j) (t := t) (d := d) ?_ hd z hz'
    show [f0.type, f1.type, f2.type, f3.type, f4.type, f5.type, f6.type][j]? = some t
    rw [t0, t1, t2, t3, t4, t5, t6]
    exact ht
  have v2 := w2 (each (j := 2) rfl rfl)
  have v3 := w3 (each (j := 3) rfl rfl)
  have v4 := w4 (each (j := 4) rfl rfl)
  have v6 := w6 (each (j := 6) rfl rfl)
  exact ⟨int_of wf0, lr, ⟨q2, v2⟩, s2, ⟨q3, v3⟩, r3, s3, ⟨q4, v4⟩, s4, ⟨q6, v6.2⟩, v6.1⟩
/-- a hello that came in; how much room the data of its extensions has -/
theorem open_hello_c {H : Type} {enc : TypeId × Value → H} {W : World} {sp : Nat → Bool} {hd : Bool} {base b0 : Nat} {v : Value} {d : DataW H} {p : List MemPlace}
    (hv : Value.okWide Try.prog W .any b0 44 v) (h : DataW.Trod enc Try.prog W base sp hd 44 v d p) (hr : ∀ z ∈ d.weights Try.prog 44, z ≤ reachBytes) : ∃ X : Hv, (X.Ok W ∧ ∀ x ∈ X.xs, x.c ≤ maxLen) ∧ v = .agg X.C := by
  unfold Value.okWide at hv
  rw [Try.underlying44] at hv
  obtain ⟨cs, rfl, hn, _⟩ := hv
  obtain ⟨fuel, hf⟩ := h
  have h2 : (Value.agg cs).cells.toList = cs.toList := rfl
  rw [h2] at hf
  obtain ⟨X, hX, hcm, hok⟩ := hello_cells hf
  refine ⟨X, ⟨hok hr, hcm⟩, ?_⟩
  show Value.agg cs = .agg X.L.toArray
  rw [← hX]
/-- a hello that came in -/
theorem open_hello {H : Type} {enc : TypeId × Value → H} {W : World} {sp : Nat → Bool} {hd : Bool} {base b0 : Nat} {v : Value} {d : DataW H} {p : List MemPlace}
    (hv : Value.okWide Try.prog W .any b0 44 v) (h : DataW.Trod enc Try.prog W base sp hd 44 v d p) (hr : ∀ z ∈ d.weights Try.prog 44, z ≤ reachBytes) : ∃ X : Hv, X.Ok W ∧ v = .agg X.C := by
  obtain ⟨X, ⟨h1, _⟩, h2⟩ := open_hello_c hv h hr
  exact ⟨X, h1, h2⟩
/-- bytes that came in, within the reach -/
theorem open_bytes_sized {H : Type} {enc : TypeId × Value → H} {W : World} {sp : Nat → Bool} {hd : Bool} {base b0 : Nat} {v : Value} {d : DataW H} {p : List MemPlace}
    (hv : Value.okWide Try.prog W .any b0 22 v) (h : DataW.Trod enc Try.prog W base sp hd 22 v d p) (hr : ∀ z ∈ d.weights Try.prog 22, z ≤ reachBytes) : ∃ A n c xs, v = .slice A n c ∧ n ≤ c ∧ n ≤ 140737488351232 ∧ Src W A n xs := by
  obtain ⟨A, n, c, rfl⟩ := okWide_slice Try.underlying22 hv
  obtain ⟨fuel, hf⟩ := h
  obtain ⟨A', c', xs, e, h1, _, h3, h4⟩ := bytes_cells hf
  simp [Value.cells] at e
  obtain ⟨rfl, rfl, rfl⟩ := e
  exact ⟨_, _, _, xs, rfl, h1, h4 hr, h3⟩
end Go.Proofs.Ytajmdchidmamcaa.Lift
