/-
  'In which order Cidrs were added does not matter, and all of them are there, each once, in order': plain facts.
-/
import Derived.Test.YtgeebdogjpgeiaaDoorAdAllP
import Derived.Test.YtgeebdogjpgeiaaDoorAdFindsP
set_option linter.unusedSimpArgs false
namespace Go.Proofs.YtgeebdogjpgeiaaDoor.Ad
open Go Go.RowKit Go.Lib Go.Shelf Go.Sort Go.Maps Go.Proofs.YtgeebdogjpgeiaaDoor.Wd

theorem numB_pre (x y : UInt8) (h : x < y) : ∀ (p r s : List UInt8), r.length = s.length → numB (p ++ x :: r) < numB (p ++ y :: s)
  | [], r, s, hl => by
    have h1 : x.toNat + 1 ≤ y.toNat := h
    have h2 := numB_lt r
    have h3 := Nat.mul_le_mul_right (256 ^ r.length) h1
    rw [Nat.add_mul, Nat.one_mul, hl] at h3
    rw [hl] at h2
    show x.toNat * 256 ^ r.length + numB r < y.toNat * 256 ^ s.length + numB s
    rw [hl]
    generalize 256 ^ s.length = P at *
    omega
  | c :: p, r, s, hl => by
    have ih := numB_pre x y h p r s hl
    have e : (p ++ x :: r).length = (p ++ y :: s).length := by simp [hl]
    show c.toNat * 256 ^ (p ++ x :: r).length + numB (p ++ x :: r) < c.toNat * 256 ^ (p ++ y :: s).length + numB (p ++ y :: s)
    rw [e]
    omega
theorem split_at (l : List UInt8) (k : Nat) (x : UInt8) (h : l[k]? = some x) : l = l.take k ++ x :: l.drop (k + 1) := by
  obtain ⟨hk, e⟩ := List.getElem?_eq_some_iff.1 h
  rw [← e, ← List.drop_eq_getElem_cons hk, List.take_append_drop]
theorem ahead_at (c d : C) (hl : c.a.length = d.a.length) (k : Nat) (x y : UInt8) (hx : c.a[k]? = some x) (hy : d.a[k]? = some y) (hp : c.a.take k = d.a.take k) (hne : x ≠ y) : Ahead c d ↔ x < y := by
  have ec := split_at c.a k x hx
  have ed := split_at d.a k y hy
  have hd : (c.a.drop (k + 1)).length = (d.a.drop (k + 1)).length := by simp [hl]
  unfold Ahead
  rcases Nat.lt_trichotomy x.toNat y.toNat with h | h | h
  · have h' : x < y := h
    have := numB_pre x y h' (c.a.take k) _ _ hd
    rw [← ec, hp, ← ed] at this
    exact ⟨fun _ => h', fun _ => Or.inl this⟩
  · exact absurd (UInt8.toNat.inj h) hne
  · have h' : y < x := h
    have := numB_pre y x h' (c.a.take k) _ _ hd.symm
    rw [← ec, hp, ← ed] at this
    refine ⟨fun ha => ?_, fun hxy => ?_⟩
    · rcases ha with ha | ⟨ha, _⟩ <;> omega
    · have : x.toNat < y.toNat := hxy
      omega
theorem ahead_end (c d : C) (h : c.a = d.a) : Ahead c d ↔ c.n < d.n := by
  unfold Ahead
  rw [h]
  constructor
  · rintro (h | ⟨_, h⟩)
    · omega
    · exact h
  · intro h; exact Or.inr ⟨rfl, h⟩
/-- two sorted rows of the same Cidrs are one -/
theorem vals_inj : ∀ (M N : List C16), vals M = vals N → M = N
  | [], [], _ => rfl
  | [], _ :: _, h => by simp [vals] at h
  | _ :: _, [], h => by simp [vals] at h
  | x :: M, y :: N, h => by
    have h' : x.1 :: vals M = y.1 :: vals N := h
    injection h' with h1 h2
    rw [Subtype.ext h1, vals_inj M N h2]
theorem inOrder_one (M N : List C16) (hM : InOrder M) (hN : InOrder N) (h : (vals M).Perm (vals N)) : M = N := by
  have hv : ∀ M : List C16, InOrder M → (vals M).Pairwise fun x y => ¬ Ahead y x := fun M hM => by
    unfold vals
    rw [List.pairwise_map]
    exact hM.imp fun h => (lt16_no _ _).1 h
  have hl : ∀ M : List C16, ∀ x ∈ vals M, x.a.length = 16 := fun M x hx => by
    obtain ⟨y, _, rfl⟩ := List.mem_map.1 hx
    exact y.2
  refine vals_inj M N (List.Perm.eq_of_pairwise (le := fun x y => ¬ Ahead y x) (fun x y hx hy h1 h2 => ?_) (hv M hM) (hv N hN) h)
  have := tot16 ⟨x, hl M x hx⟩ ⟨y, hl N y hy⟩ ((lt16_no _ _).2 h2) ((lt16_no _ _).2 h1)
  exact congrArg Subtype.val this
theorem addL_len (L : List C) (c : C) : (addL L c).length = L.length + (if addB L c = true then 1 else 0) := by
  unfold addL addB
  by_cases h1 : rightS c = true
  · by_cases h2 : c ∈ L
    · simp [h1, h2]
    · simp [h1, h2]
  · simp [h1]
end Go.Proofs.YtgeebdogjpgeiaaDoor.Ad
