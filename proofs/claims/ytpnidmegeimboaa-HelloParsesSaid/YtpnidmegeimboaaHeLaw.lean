/-
  Plain facts on hellos that the layer's laws want: finding by kinds, cutting, a bare hello. No condition.
-/
import Derived.Test.YtpnidmegeimboaaHeFind
namespace Go.Proofs.Ytpnidmegeimboaa.He
open Go.RowKit Go.Proofs.Ytpnidmegeimboaa.Wd Go.Proofs.Ytpnidmegeimboaa.Be

theorem findL_at : ∀ {l : List (Int × List UInt8)}, (l.map (·.1)).Nodup → ∀ {k : Nat} {x : Int × List UInt8}, l[k]? = some x → findL l x.1 = (x.2, true)
  | [], _, k, x, h => by simp at h
  | y :: l, hn, 0, x, h => by
    obtain rfl : y = x := by simpa using h
    rw [findL, if_pos rfl]
  | y :: l, hn, k + 1, x, h => by
    have h' : l[k]? = some x := by simpa using h
    rw [List.map_cons, List.nodup_cons] at hn
    have hm : x.1 ∈ l.map (·.1) := List.mem_map.2 ⟨x, List.mem_of_getElem? h', rfl⟩
    rw [findL, if_neg (fun e => hn.1 (by rw [e]; exact hm))]
    exact findL_at hn.2 h'
theorem findL_has : ∀ (l : List (Int × List UInt8)) (kind : Int), (findL l kind).2 = decide (kind ∈ l.map (·.1))
  | [], kind => by simp [findL]
  | y :: l, kind => by
    rw [findL]
    by_cases h : y.1 = kind
    · rw [if_pos h]; simp [h]
    · rw [if_neg h, findL_has l kind]
      rw [decide_eq_decide]
      simp [Ne.symm h]
def cntX (l : List Xt) (kind : Int) : Nat := (l.map (·.kind)).count kind
theorem cntX_go {l : List Xt} {k : Nat} {x : Xt} (h : l[k]? = some x) (kind : Int) : cntX (l.take (k + 1)) kind = cntX (l.take k) kind + if x.kind = kind then 1 else 0 := by
  unfold cntX
  rw [List.take_add_one, h]
  by_cases he : x.kind = kind
  · simp [List.count_append, he]
  · simp [List.count_append, he]
theorem cntX_le (l : List Xt) (k : Nat) (kind : Int) : cntX (l.take k) kind ≤ l.length := by
  unfold cntX
  refine Nat.le_trans List.count_le_length ?_
  rw [List.length_map, List.length_take]
  omega
theorem kinds_map (l : List Xt) : (l.map ext).map (·.1) = l.map (·.kind) := by
  rw [List.map_map]; rfl
theorem cntX_tell {l : List Xt} (hn : ((l.map ext).map (·.1)).Nodup) (kind : Int) : cntX l kind ≤ 1 ∧ (findL (l.map ext) kind).2 = decide (cntX l kind = 1) := by
  rw [findL_has]
  rw [kinds_map] at hn ⊢
  unfold cntX
  by_cases hm : kind ∈ l.map (·.kind)
  · have h1 := hn.count (a := kind)
    rw [if_pos hm] at h1
    rw [h1]
    exact ⟨Nat.le_refl _, by rw [decide_eq_true hm]; rfl⟩
  · have h1 := List.count_eq_zero_of_not_mem hm
    rw [h1]
    exact ⟨Nat.zero_le _, by rw [decide_eq_false hm]; rfl⟩

/-- bytes of which some are missing -/
theorem cut_parse {xs : List UInt8} {k : Nat} (h : (parseS xs).2 = 0) (hk : k < xs.length) :
    ((parseS (xs.take k)).2 = 0 ∧ (parseS xs).1.has = true ∧ (parseS (xs.take k)).1.has = false) ∨ (parseS (xs.take k)).2 = 3 := by
  obtain ⟨h1, h2⟩ := parse_ok.1 h
  have hr : xs.drop k ≠ [] := fun e => by
    have := congrArg List.length e
    rw [List.length_drop, List.length_nil] at this
    omega
  have e : xs.take k ++ xs.drop k = xs := List.take_append_drop k xs
  cases hb : okS (xs.take k) with
  | false => right; rw [parse_form hb]
  | true =>
    left
    obtain ⟨c1, c2⟩ := cut_tell hr (by rw [e]; exact h1) hb
    rw [e] at c1 c2
    have hw : wrongS (helS (xs.take k)) = 0 := by rw [c2]; exact wrong_bare _ h2
    rw [parse_is hb hw, parse_is h1 h2]
    exact ⟨rfl, c1, by rw [c2]⟩
/-- nothing stands behind a hello with extensions -/
theorem more_parse {xs ys : List UInt8} (h : (parseS xs).2 = 0) (hh : (parseS xs).1.has = true) (hy : ys ≠ []) : (parseS (xs ++ ys)).2 = 3 := by
  obtain ⟨h1, h2⟩ := parse_ok.1 h
  rw [parse_is h1 h2] at hh
  rw [parse_form (more_tell hy h1 hh)]

/-- a hello without extensions, and with an empty row of them -/
theorem bare_right {h : Hel} (hr : h.rnd.length = 32) (hx : h.exts = []) : Right { h with has := false } ↔ Right { h with has := true } := by
  rw [right_iff (h := { h with has := false }) hr, right_iff (h := { h with has := true }) hr]
  simp only [hx, extsB, List.flatMap_nil]
  have e : wrongS { h with has := false, exts := [] } = wrongS { h with has := true, exts := [] } := rfl
  rw [e]
  constructor
  · rintro ⟨a, b, c, d, f, g, i, j⟩; exact ⟨a, b, fun _ => trivial, d, f, g, i, j⟩
  · rintro ⟨a, b, c, d, f, g, i, j⟩; exact ⟨a, b, fun _ => trivial, d, f, g, i, j⟩
theorem bare_lay {h : Hel} (hx : h.exts = []) : layS { h with has := true } = layS { h with has := false } ++ [0, 0] := by
  unfold layS tailB
  rw [if_pos rfl, if_neg (by simp), List.append_nil]
  simp only [hx]
  rfl
end Go.Proofs.Ytpnidmegeimboaa.He
