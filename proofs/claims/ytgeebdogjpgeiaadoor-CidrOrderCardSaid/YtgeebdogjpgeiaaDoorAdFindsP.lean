/-
  'What is found has the address, and no other one in the set that has it has more bits': plain facts.
-/
import Derived.Test.YtgeebdogjpgeiaaDoorAdFind
import Derived.Test.YtgeebdogjpgeiaaDoorAdNestsP
namespace Go.Proofs.YtgeebdogjpgeiaaDoor.Ad
open Go Go.Proofs.YtgeebdogjpgeiaaDoor.Wd

theorem addL_mem (L : List C) (x c : C) : c ∈ addL L x ↔ c ∈ L ∨ (c = x ∧ rightS x = true) := by
  unfold addL
  split
  · rename_i h
    simp [h.1]
  · rename_i h
    constructor
    · exact Or.inl
    · rintro (h1 | ⟨rfl, h2⟩)
      · exact h1
      · exact Decidable.byContradiction fun hn => h ⟨h2, hn⟩
/-- the set of those that were added, in order -/
def setS (l : List C) : List C := l.foldl addL []
theorem foldl_mem : ∀ (l L : List C) (c : C), c ∈ l.foldl addL L ↔ c ∈ L ∨ (c ∈ l ∧ rightS c = true)
  | [], L, c => by simp
  | x :: l, L, c => by
    rw [List.foldl_cons, foldl_mem l, addL_mem]
    constructor
    · rintro ((h | ⟨rfl, h⟩) | ⟨h1, h2⟩)
      · exact Or.inl h
      · exact Or.inr ⟨by simp, h⟩
      · exact Or.inr ⟨by simp [h1], h2⟩
    · rintro (h | ⟨h1, h2⟩)
      · exact Or.inl (Or.inl h)
      · rcases List.mem_cons.1 h1 with rfl | h1
        · exact Or.inl (Or.inr ⟨rfl, h2⟩)
        · exact Or.inr ⟨h1, h2⟩
theorem setS_mem (l : List C) (c : C) : c ∈ setS l ↔ c ∈ l ∧ rightS c = true := by
  unfold setS
  rw [foldl_mem]; simp
theorem take_next (l : List C) (i : Nat) (c : C) (h : l[i]? = some c) : l.take (i + 1) = l.take i ++ [c] := by
  rw [List.take_add_one, h]; rfl
theorem setS_next (l : List C) (i : Nat) (c : C) (h : l[i]? = some c) : setS (l.take (i + 1)) = addL (setS (l.take i)) c := by
  rw [take_next l i c h]
  unfold setS
  rw [List.foldl_append]
  rfl
theorem findS_most {L : List C} {a : List UInt8} {j : Nat} (hm : ofS a (j : Int) ∈ L) : ∀ k, j < k → ∃ i : Nat, j ≤ i ∧ i < k ∧ findS L a k = some (ofS a (i : Int))
  | 0, h => by omega
  | k + 1, h => by
    unfold findS
    by_cases hk : ofS a (k : Int) ∈ L
    · rw [if_pos hk]; exact ⟨k, by omega, by omega, rfl⟩
    · rw [if_neg hk]
      have hne : j ≠ k := fun e => hk (e ▸ hm)
      obtain ⟨i, h1, h2, h3⟩ := findS_most hm k (by omega)
      exact ⟨i, h1, by omega, h3⟩
theorem has_is {c : C} {a : List UInt8} (h : hasS c a = true) : rightS c = true ∧ c = ofS a c.n ∧ c.n = (bitN c.n : Nat) := by
  unfold hasS at h
  rw [Bool.and_eq_true, beq_iff_eq] at h
  obtain ⟨h1, h2⟩ := h
  have h3 := h1
  unfold rightS at h3
  rw [beq_iff_eq] at h3
  have hn : c.n = (bitN c.n : Nat) := congrArg C.n h3
  refine ⟨h1, ?_, hn⟩
  obtain ⟨ca, cn⟩ := c
  show (⟨ca, cn⟩ : C) = ⟨maskS a (bitN cn), (bitN cn : Nat)⟩
  simp only at h2 hn
  rw [← h2, ← hn]
theorem seen_next (l : List C) (k : Nat) (c f : C) (h : l[k]? = some c) : decide (f ∈ l.take (k + 1)) = (decide (f ∈ l.take k) || (c == f)) := by
  rw [take_next l k c h, Bool.eq_iff_iff]
  simp only [List.mem_append, List.mem_singleton, decide_eq_true_eq, Bool.or_eq_true, beq_iff_eq]
  constructor
  · rintro (h | h)
    · exact Or.inl h
    · exact Or.inr h.symm
  · rintro (h | h)
    · exact Or.inl h
    · exact Or.inr h.symm
structure Finds (l : List C) (a : List UInt8) (is : Bool) (f : C) : Prop where
  len : f.a.length = 16
  most : ∀ c ∈ l, hasS c a = true → is = true ∧ c.n ≤ f.n
  mem : is = true → f ∈ l
  has : is = true → hasS f a = true
  none : is = false → f = C0
theorem finds_ok (l : List C) (a : List UInt8) (ha : a.length = 16) : Finds l a (findS (setS l) a 129).isSome ((findS (setS l) a 129).getD C0) := by
  have hmost : ∀ c ∈ l, hasS c a = true → ∃ i : Nat, c.n ≤ (i : Int) ∧ i < 129 ∧ findS (setS l) a 129 = some (ofS a (i : Int)) := fun c hc hh => by
    obtain ⟨h1, h2, h3⟩ := has_is hh
    have hm : ofS a ((bitN c.n : Nat) : Int) ∈ setS l := by
      rw [← h3, ← h2]; exact (setS_mem l c).2 ⟨hc, h1⟩
    obtain ⟨i, hi, hlt, hf⟩ := findS_most hm 129 (by have := bitN_le c.n; omega)
    exact ⟨i, by omega, hlt, hf⟩
  cases hF : findS (setS l) a 129 with
  | none =>
    refine ⟨rfl, fun c hc hh => ?_, (fun h => by cases h), (fun h => by cases h), fun _ => rfl⟩
    obtain ⟨i, _, _, hf⟩ := hmost c hc hh
    rw [hF] at hf; cases hf
  | some f =>
    obtain ⟨j, hj, rfl, hm⟩ := findS_ok hF
    refine ⟨by rw [Option.getD_some, ofS_len, ha], fun c hc hh => ⟨rfl, ?_⟩, fun _ => ((setS_mem l _).1 hm).1, fun _ => has_self a _, (fun h => by cases h)⟩
    obtain ⟨i, hi, hlt, hf⟩ := hmost c hc hh
    rw [hF] at hf
    injection hf with hf
    rw [Option.getD_some, hf]
    show c.n ≤ ((bitN (i : Int) : Nat) : Int)
    rw [bitN_nat (by omega)]
    exact hi
end Go.Proofs.YtgeebdogjpgeiaaDoor.Ad
