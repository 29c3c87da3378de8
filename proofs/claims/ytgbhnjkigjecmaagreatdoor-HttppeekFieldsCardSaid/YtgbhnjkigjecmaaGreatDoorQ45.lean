/-
  A request that came in: what it holds. Plain lemmas.
-/
import Derived.Test.YtgbhnjkigjecmaaGreatDoorQ32
import Derived.Test.YtgbhnjkigjecmaaGreatDoorQ12
import Derived.Test.YtgbhnjkigjecmaaGreatDoorQ13
import Derived.Deep.Slices
import Derived.SizedLaws
set_option maxRecDepth 100000
namespace Go.Proofs.YtgbhnjkigjecmaaGreatDoor.Lift
open Go.ChangeShapes Go.WideShapes Go.ChangeAt Go.RowKit Go.Proofs.YtgbhnjkigjecmaaGreatDoor.Wd Go.Proofs.YtgbhnjkigjecmaaGreatDoor.Asc Go.Proofs.YtgbhnjkigjecmaaGreatDoor.Tx Go.Proofs.YtgbhnjkigjecmaaGreatDoor.Rl

theorem cellsS : Tryz.prog.cellsOf 9 = 1 := by kernel_rfl
theorem cellsI : Tryz.prog.cellsOf 3 = 1 := by kernel_rfl
theorem cellsR : Tryz.prog.cellsOf 39 = 3 := by kernel_rfl
theorem list3 {α : Type} : ∀ {L : List α}, L.length = 3 → ∃ a b c, L = [a, b, c]
  | [a, b, c], _ => ⟨a, b, c, rfl⟩
theorem req_cells {H : Type} {enc : TypeId × Value → H} {W : World} {sp : Nat → Bool} {hd : Bool} {base fuel : Nat} {cs : List Value} {x : DataW H × List MemPlace}
    (hf : DataW.trod enc Tryz.prog W base sp hd fuel 39 cs = some x) :
    ∃ r : Rq, cs = (rqC r).toList ∧ r.meth.length ≤ maxLen ∧ r.targ.length ≤ maxLen ∧ -9223372036854775808 ≤ r.minor ∧ r.minor ≤ 9223372036854775807 := by
  obtain ⟨f, g, h, hfg, ⟨f1, f2, _⟩, ⟨g1, g2, _⟩, ⟨h1, h2, _⟩⟩ := fieldsR
  obtain ⟨xs, m, _, _, hlen, hxn, hel⟩ := DataW.trod_struct undR hf
  have hl3 : cs.length = 3 := by rw [hlen]; exact cellsR
  have hx3 : xs.length = 3 := by rw [hxn, ← Array.length_toList, hfg]; rfl
  have e0 := hel 0 f (by rw [← Array.getElem?_toList, hfg]; rfl)
  have e1 := hel 1 g (by rw [← Array.getElem?_toList, hfg]; rfl)
  have e2 := hel 2 h (by rw [← Array.getElem?_toList, hfg]; rfl)
  obtain ⟨a, b, c, rfl⟩ := list3 hl3
  rw [f1, f2, cellsS, List.getElem?_eq_getElem (show 0 < xs.length by omega)] at e0
  rw [g1, g2, cellsS, List.getElem?_eq_getElem (show 1 < xs.length by omega)] at e1
  rw [h1, h2, cellsI, List.getElem?_eq_getElem (show 2 < xs.length by omega)] at e2
  obtain ⟨s0, hs0, _, hz0⟩ := DataW.trod_string Tryz.underlying9 e0
  obtain ⟨s1, hs1, _, hz1⟩ := DataW.trod_string Tryz.underlying9 e1
  obtain ⟨n, hcn, _, hwf⟩ := DataW.trod_int Tryz.underlying3 e2
  have hn := int_of hwf
  simp only [List.drop_zero, List.take_succ_cons, List.take_zero, List.cons.injEq, and_true, List.drop_succ_cons] at hs0 hs1 hcn
  subst hs0 hs1 hcn
  refine ⟨⟨bs s0, bs s1, n⟩, ?_, by rw [bs_length]; exact hz0, by rw [bs_length]; exact hz1, hn.1, hn.2⟩
  show _ = [Value.string (str (bs s0)), .string (str (bs s1)), .int .i64 n]
  rw [str_bs, str_bs]
/-- a request that came in -/
theorem open_request {H : Type} {enc : TypeId × Value → H} {W : World} {sp : Nat → Bool} {hd : Bool} {base b0 : Nat} {v : Value} {d : DataW H} {p : List MemPlace}
    (hv : Value.okWide Tryz.prog W .any b0 39 v) (h : DataW.Trod enc Tryz.prog W base sp hd 39 v d p) :
    ∃ r : Rq, v = .agg (rqC r) ∧ r.meth.length ≤ maxLen ∧ r.targ.length ≤ maxLen ∧ (-9223372036854775808 ≤ r.minor ∧ r.minor ≤ 9223372036854775807) := by
  unfold Value.okWide at hv
  rw [undR] at hv
  obtain ⟨cs, rfl, hn, _⟩ := hv
  obtain ⟨fuel, hf⟩ := h
  have h2 : (Value.agg cs).cells.toList = cs.toList := rfl
  rw [h2] at hf
  obtain ⟨r, hcs, h3, h4, h5, h6⟩ := req_cells hf
  exact ⟨r, congrArg Value.agg (Array.ext' hcs), h3, h4, h5, h6⟩
theorem req_reach {H : Type} {enc : TypeId × Value → H} {W : World} {sp : Nat → Bool} {hd : Bool} {base fuel : Nat} {cs : List Value} {x : DataW H × List MemPlace}
    (hf : DataW.trod enc Tryz.prog W base sp hd fuel 39 cs = some x) (hz : ∀ z ∈ x.1.weights Tryz.prog 39, z ≤ reachBytes) :
    ∃ r : Rq, cs = (rqC r).toList ∧ r.meth.length ≤ reachBytes ∧ r.targ.length ≤ reachBytes ∧ -9223372036854775808 ≤ r.minor ∧ r.minor ≤ 9223372036854775807 := by
  have hU : ∃ f0 f1 f2 : Field, Tryz.prog.underlying 39 = some (.struct #[f0, f1, f2]) ∧ (f0.type = 9 ∧ f0.offset = 0) ∧ (f1.type = 9 ∧ f1.offset = 1) ∧ (f2.type = 3 ∧ f2.offset = 2) :=
    ⟨_, _, _, Tryz.underlying39, ⟨rfl, rfl⟩, ⟨rfl, rfl⟩, ⟨rfl, rfl⟩⟩
  obtain ⟨f, g, h, hU, ⟨f1, f2⟩, ⟨g1, g2⟩, ⟨h1, h2⟩⟩ := hU
  obtain ⟨xs, m, _, hxx, hlen, hxn, hel⟩ := DataW.trod_struct hU hf
  have hl3 : cs.length = 3 := by rw [hlen]; exact cellsR
  have hx3 : xs.length = 3 := by rw [hxn]; rfl
  have e0 := hel 0 f rfl
  have e1 := hel 1 g rfl
  have e2 := hel 2 h rfl
  obtain ⟨a, b, c, rfl⟩ := list3 hl3
  obtain ⟨y0, y1, y2, rfl⟩ := list3 hx3
  rw [f1, f2, cellsS] at e0
  rw [g1, g2, cellsS] at e1
  rw [h1, h2, cellsI] at e2
  obtain ⟨s0, hs0, d0, hz0⟩ := DataW.trod_string Tryz.underlying9 e0
  obtain ⟨s1, hs1, d1, hz1⟩ := DataW.trod_string Tryz.underlying9 e1
  obtain ⟨n, hcn, _, hwf⟩ := DataW.trod_int Tryz.underlying3 e2
  have hn := int_of hwf
  simp at hs0 hs1 hcn d0 d1
  subst hs0 hs1 hcn d0 d1
  rw [hxx] at hz
  unfold DataW.weights at hz
  rw [hU] at hz
  have ht0 : (#[f, g, h].toList.map (·.type))[0]? = some 9 := by rw [← f1]; rfl
  have ht1 : (#[f, g, h].toList.map (·.type))[1]? = some 9 := by rw [← g1]; rfl
  refine ⟨⟨bs s0, bs s1, n⟩, ?_, hz _ (DataW.weights_mem_each ht0 rfl _ ?_), hz _ (DataW.weights_mem_each ht1 rfl _ ?_), hn.1, hn.2⟩
  · show _ = [Value.string (str (bs s0)), .string (str (bs s1)), .int .i64 n]
    rw [str_bs, str_bs]
  · show _ ∈ DataW.weights Tryz.prog _ (.lit (.string s0.data.toList))
    simp [DataW.weights, bs]
  · show _ ∈ DataW.weights Tryz.prog _ (.lit (.string s1.data.toList))
    simp [DataW.weights, bs]
/-- a request that came in, each text within the form's own reach -/
theorem open_request_sized {H : Type} {enc : TypeId × Value → H} {W : World} {sp : Nat → Bool} {hd : Bool} {base b0 : Nat} {v : Value} {d : DataW H} {p : List MemPlace}
    (hv : Value.okWide Tryz.prog W .any b0 39 v) (h : DataW.Trod enc Tryz.prog W base sp hd 39 v d p) (hr : ∀ z ∈ d.weights Tryz.prog 39, z ≤ reachBytes) :
    ∃ r : Rq, v = .agg (rqC r) ∧ r.meth.length ≤ reachBytes ∧ r.targ.length ≤ reachBytes ∧ (-9223372036854775808 ≤ r.minor ∧ r.minor ≤ 9223372036854775807) := by
  unfold Value.okWide at hv
  rw [undR] at hv
  obtain ⟨cs, rfl, hn, _⟩ := hv
  obtain ⟨fuel, hf⟩ := h
  have h2 : (Value.agg cs).cells.toList = cs.toList := rfl
  rw [h2] at hf
  obtain ⟨r, hcs, h3, h4, h5, h6⟩ := req_reach hf hr
  exact ⟨r, congrArg Value.agg (Array.ext' hcs), h3, h4, h5, h6⟩
end Go.Proofs.YtgbhnjkigjecmaaGreatDoor.Lift

/-
  A field, fields in a row, that came in: what they hold, each text within the form's own reach.
-/
set_option maxRecDepth 100000
namespace Go.Proofs.YtgbhnjkigjecmaaGreatDoor.Lift
open Go.ChangeShapes Go.WideShapes Go.ChangeAt Go.RowKit Go.Deep Go.Proofs.YtgbhnjkigjecmaaGreatDoor.Wd Go.Proofs.YtgbhnjkigjecmaaGreatDoor.Asc Go.Proofs.YtgbhnjkigjecmaaGreatDoor.Tx Go.Proofs.YtgbhnjkigjecmaaGreatDoor.Fd

theorem mem_weightsAll {H : Type} {P : Program} {e : TypeId} {d : DataW H} {z : Nat} (hz : z ∈ d.weights P e) : ∀ {l : List (DataW H)}, d ∈ l → z ∈ DataW.weightsAll P e l
  | [], h => by cases h
  | x :: r, h => by
    unfold DataW.weightsAll
    rcases List.mem_cons.1 h with rfl | h
    · exact List.mem_append_left _ hz
    · exact List.mem_append_right _ (mem_weightsAll hz h)
/-- what the form's own reach says of one argument -/
theorem reach_at {H : Type} {P : Program} {ts : List TypeId} {ds : List (DataW H)} (h : (DataW.weightsEach P ts ds).all (· ≤ reachBytes) = true) {j : Nat} {t : TypeId} {d : DataW H} (ht : ts[j]? = some t) (hd : ds[j]? = some d) : ∀ z ∈ d.weights P t, z ≤ reachBytes := fun z hz => by
  have := List.all_eq_true.1 h z (DataW.weights_mem_each ht hd z hz)
  simpa using this

/-- neither of a field's texts is longer -/
def ShortF (M : Nat) (f : Fld) : Prop := f.name.length ≤ M ∧ f.text.length ≤ M
theorem cellsFs : Tryz.prog.cellsOf 9 = 1 := by kernel_rfl
theorem cellsF : Tryz.prog.cellsOf 45 = 2 := by kernel_rfl
theorem fd_cells {H : Type} {enc : TypeId × Value → H} {W : World} {sp : Nat → Bool} {hd : Bool} {base fuel : Nat} {cs : List Value} {x : DataW H × List MemPlace}
    (hf : DataW.trod enc Tryz.prog W base sp hd fuel 45 cs = some x) :
    ∃ f : Fld, cs = (fdC f).toList ∧ ShortF maxLen f ∧ ((∀ z ∈ x.1.weights Tryz.prog 45, z ≤ reachBytes) → ShortF reachBytes f) := by
  have hU : ∃ f0 f1 : Field, Tryz.prog.underlying 45 = some (.struct #[f0, f1]) ∧ f0.type = 9 ∧ f0.offset = 0 ∧ f1.type = 9 ∧ f1.offset = 1 :=
    ⟨_, _, Tryz.underlying45, rfl, rfl, rfl, rfl⟩
  obtain ⟨f0, f1, hU, t0, o0, t1, o1⟩ := hU
  obtain ⟨xs, m, _, hxx, hlen, hxn, hel⟩ := DataW.trod_struct hU hf
  have hl2 : cs.length = 2 := by rw [hlen]; exact cellsF
  have hx2 : xs.length = 2 := by rw [hxn]; rfl
  have h0 := hel 0 f0 rfl
  have h1 := hel 1 f1 rfl
  obtain ⟨y0, y1, rfl⟩ : ∃ y0 y1, xs = [y0, y1] := by
    match xs, hx2 with
    | [y0, y1], _ => exact ⟨y0, y1, rfl⟩
  obtain ⟨v0, v1, rfl⟩ : ∃ v0 v1, cs = [v0, v1] := by
    match cs, hl2 with
    | [v0, v1], _ => exact ⟨v0, v1, rfl⟩
  rw [t0, o0, cellsFs] at h0
  rw [t1, o1, cellsFs] at h1
  obtain ⟨s0, e0, d0, z0⟩ := DataW.trod_string Tryz.underlying9 h0
  obtain ⟨s1, e1, d1, z1⟩ := DataW.trod_string Tryz.underlying9 h1
  simp at e0 e1 d0 d1
  subst e0 e1 d0 d1
  refine ⟨⟨bs s0, bs s1⟩, ?_, ⟨z0, z1⟩, fun hz => ?_⟩
  · show _ = [Value.string (str (bs s0)), .string (str (bs s1))]
    rw [str_bs, str_bs]
  · rw [hxx] at hz
    unfold DataW.weights at hz
    rw [hU] at hz
    have ht0 : (#[f0, f1].toList.map (·.type))[0]? = some 9 := by rw [← t0]; rfl
    have ht1 : (#[f0, f1].toList.map (·.type))[1]? = some 9 := by rw [← t1]; rfl
    refine ⟨hz _ (DataW.weights_mem_each ht0 rfl _ ?_), hz _ (DataW.weights_mem_each ht1 rfl _ ?_)⟩
    · show _ ∈ DataW.weights Tryz.prog _ (.lit (.string s0.data.toList))
      simp [DataW.weights, bs]
    · show _ ∈ DataW.weights Tryz.prog _ (.lit (.string s1.data.toList))
      simp [DataW.weights, bs]
/-- a field that came in -/
theorem open_field {H : Type} {enc : TypeId × Value → H} {W : World} {sp : Nat → Bool} {hd : Bool} {base b0 : Nat} {v : Value} {d : DataW H} {p : List MemPlace}
    (hv : Value.okWide Tryz.prog W .any b0 45 v) (h : DataW.Trod enc Tryz.prog W base sp hd 45 v d p) (hr : ∀ z ∈ d.weights Tryz.prog 45, z ≤ reachBytes) :
    ∃ f : Fld, v = .agg (fdC f) ∧ ShortF reachBytes f := by
  unfold Value.okWide at hv
  rw [undF] at hv
  obtain ⟨cs, rfl, hn, _⟩ := hv
  obtain ⟨fuel, hf⟩ := h
  have h2 : (Value.agg cs).cells.toList = cs.toList := rfl
  rw [h2] at hf
  obtain ⟨f, hcs, _, h3⟩ := fd_cells hf
  exact ⟨f, congrArg Value.agg (Array.ext' hcs), h3 hr⟩
instance : Inhabited Fld := ⟨Fld.zero⟩
/-- fields that came in, with the form's own reach or without -/
theorem open_fields_both {H : Type} {enc : TypeId × Value → H} {W : World} {sp : Nat → Bool} {hd : Bool} {base b0 : Nat} {v : Value} {d : DataW H} {p : List MemPlace}
    (hv : Value.okWide Tryz.prog W .any b0 40 v) (h : DataW.Trod enc Tryz.prog W base sp hd 40 v d p) :
    ∃ A n cap l, v = .slice A n cap ∧ n ≤ cap ∧ cap ≤ maxLen ∧ l.length = n ∧ ((∀ f ∈ l, ShortF maxLen f) ∧ ((∀ z ∈ d.weights Tryz.prog 40, z ≤ reachBytes) → ∀ f ∈ l, ShortF reachBytes f)) ∧ SrcF W A l := by
  have hU : Tryz.prog.underlying 40 = some (.slice 45) := Tryz.underlying40
  obtain ⟨A, n, c, rfl⟩ := okWide_slice hU hv
  obtain ⟨fuel, hf⟩ := h
  rcases open_slice hU hf with ⟨hcs, _⟩ | ⟨a, len, cap, m, k, D, Pl, hcs, _, hl, hm, hmm, hdd, hx⟩
  · simp [Value.cells] at hcs
    obtain ⟨rfl, rfl, rfl⟩ := hcs
    exact ⟨none, 0, 0, [], rfl, Nat.le_refl _, Nat.zero_le _, rfl, ⟨(fun f hf => by cases hf), fun _ f hf => by cases hf⟩, SrcF.nil W _⟩
  · simp [Value.cells] at hcs
    obtain ⟨rfl, rfl, rfl⟩ := hcs
    have hlm : n ≤ m := by rw [hmm]; split <;> omega
    have hd1 : d = .slice ((List.range n).map D) ((List.range (m - n)).map fun j => D (n + j)) := congrArg Prod.fst hdd
    obtain ⟨V, hV⟩ := choose_lt (α := Fld) (n := n) (p := fun i f => (ShortF maxLen f ∧ ((∀ z ∈ d.weights Tryz.prog 40, z ≤ reachBytes) → ShortF reachBytes f)) ∧ W.cells? base (a.add (i * 2)) 2 = some (fdC f).toList) (fun i hi => by
      obtain ⟨cs', h1, h2⟩ := hx i (by omega)
      rw [cellsF] at h1
      obtain ⟨f, rfl, hmx, hok⟩ := fd_cells h2
      refine ⟨f, ⟨hmx, fun hr => hok fun z hz => hr z ?_⟩, h1⟩
      rw [hd1]
      unfold DataW.weights
      rw [hU]
      refine List.mem_cons.2 (.inr (List.mem_append_left _ (mem_weightsAll hz ?_)))
      exact List.mem_map.2 ⟨i, List.mem_range.2 hi, rfl⟩)
    refine ⟨_, n, c, (List.range n).map V, rfl, hl, hm, by simp, ⟨fun f hf => ?_, fun hr f hf => ?_⟩, fun i f hi => ?_⟩
    · obtain ⟨i, hi, rfl⟩ := List.mem_map.1 hf
      exact (hV i (List.mem_range.1 hi)).1.1
    · obtain ⟨i, hi, rfl⟩ := List.mem_map.1 hf
      exact (hV i (List.mem_range.1 hi)).1.2 hr
    · obtain ⟨hin, rfl⟩ : i < n ∧ V i = f := by
        rw [List.getElem?_map, Option.map_eq_some_iff] at hi
        obtain ⟨y, hy, rfl⟩ := hi
        obtain ⟨h1, h2⟩ := List.getElem?_eq_some_iff.1 hy
        simp at h1 h2
        subst h2
        exact ⟨h1, rfl⟩
      have hc := (World.cells?_some (hV i hin).2).2.2
      have hc0 := (World.cells?_some (hV 0 (by omega)).2).2.2 0 (by omega)
      obtain ⟨g, o, spot⟩ := a
      rw [show (fdC (V 0)).toList[0]? = some (.string (str (V 0).name)) from rfl] at hc0
      have hspot : spot = none := by simpa [Addr.add] using World.cell?_spot hc0
      subst hspot
      have hlt : g < W.heap.size := by
        have hb := block_lt_of_cell hc0
        rwa [block_of_add, block_of_add] at hb
      have g0 := hc 0 (by omega)
      have g1 := hc 1 (by omega)
      rw [add_none, add_none] at g0 g1
      exact ⟨g, o, rfl, hlt, g0, g1⟩
/-- fields that came in, each text within the form's own reach -/
theorem open_fields {H : Type} {enc : TypeId × Value → H} {W : World} {sp : Nat → Bool} {hd : Bool} {base b0 : Nat} {v : Value} {d : DataW H} {p : List MemPlace}
    (hv : Value.okWide Tryz.prog W .any b0 40 v) (h : DataW.Trod enc Tryz.prog W base sp hd 40 v d p) (hr : ∀ z ∈ d.weights Tryz.prog 40, z ≤ reachBytes) :
    ∃ A n cap l, v = .slice A n cap ∧ n ≤ cap ∧ cap ≤ maxLen ∧ l.length = n ∧ (∀ f ∈ l, ShortF reachBytes f) ∧ SrcF W A l := by
  obtain ⟨A, n, cap, l, h1, h2, h3, h4, h5, h6⟩ := open_fields_both hv h
  exact ⟨A, n, cap, l, h1, h2, h3, h4, h5.2 hr, h6⟩
/-- fields that came in -/
theorem open_fields_any {H : Type} {enc : TypeId × Value → H} {W : World} {sp : Nat → Bool} {hd : Bool} {base b0 : Nat} {v : Value} {d : DataW H} {p : List MemPlace}
    (hv : Value.okWide Tryz.prog W .any b0 40 v) (h : DataW.Trod enc Tryz.prog W base sp hd 40 v d p) :
    ∃ A n cap l, v = .slice A n cap ∧ n ≤ cap ∧ cap ≤ maxLen ∧ l.length = n ∧ (∀ f ∈ l, ShortF maxLen f) ∧ SrcF W A l := by
  obtain ⟨A, n, cap, l, h1, h2, h3, h4, h5, h6⟩ := open_fields_both hv h
  exact ⟨A, n, cap, l, h1, h2, h3, h4, h5.1, h6⟩
end Go.Proofs.YtgbhnjkigjecmaaGreatDoor.Lift
