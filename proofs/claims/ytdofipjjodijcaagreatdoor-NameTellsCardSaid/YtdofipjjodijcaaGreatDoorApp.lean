/-
  append onto bytes of the call's own, from a source that may be nil, empty or not.
-/
import Derived.Test.YtdofipjjodijcaaGreatDoorWords
import Derived.Maps.AppendAt
import Derived.OwnWalk
namespace Go.Proofs.YtdofipjjodijcaaGreatDoor.Wd
open Go.RowKit

/-- the slice v owns the bytes xs, in blocks from B on -/
def Own (w : World) (B : Nat) (v : Value) (xs : List UInt8) : Prop := w.ownsRow B 5 1 v xs.length (cellsOf xs)

theorem Own.empty (w : World) (B : Nat) (hB : B ≤ w.heap.size) : Own (w.alloc (.cells #[] 5)) B (.slice (some ⟨w.heap.size, 0, none⟩) 0 0) [] :=
  ⟨rfl, .inr ⟨w.heap.size, 0, #[], rfl, hB, heap_alloc_new w _, Nat.le_refl _, Nat.zero_le _, rfl, rfl⟩⟩
theorem Own.alloc {w : World} {B : Nat} {v : Value} {xs : List UInt8} (h : Own w B v xs) (o : Obj) : Own (w.alloc o) B v xs := World.ownsRow.alloc h o
theorem Own.src {w : World} {B : Nat} {v : Value} {xs : List UInt8} (h : Own w B v xs) : ∃ A c, v = .slice A xs.length c ∧ xs.length ≤ c ∧ Src w A xs.length xs := by
  obtain ⟨hl, h0 | ⟨g, cap, cur, hv, hB, hh, hc, _, _, ht⟩⟩ := h
  · obtain ⟨rfl, hn⟩ := h0
    have : xs = [] := List.eq_nil_of_length_eq_zero hn
    subst this
    exact ⟨none, 0, rfl, Nat.le_refl _, Src.nil w⟩
  · refine ⟨_, cap, hv, hc, rfl, fun _ => ⟨_, rfl, ?_, fun j c hj => ?_⟩⟩
    · exact Blk.lt (t := 5) (cs := cur) hh
    · rw [add_none, Nat.zero_add, Blk.cell (t := 5) (cs := cur) hh]
      have h2 := cellsOf_get hj
      rw [← ht, Nat.mul_one, List.getElem?_take] at h2
      split at h2
      · rw [← Array.getElem?_toList]; exact h2
      · cases h2
theorem Own.below {w w' : World} {B B' : Nat} {v : Value} {xs : List UInt8} (h : Own w B v xs) (hb : Below B' w w') (hB : w.heap.size ≤ B') : Own w' B v xs := by
  obtain ⟨hl, h0 | ⟨g, cap, cur, hv, hg, hh, r⟩⟩ := h
  · exact ⟨hl, .inl h0⟩
  · exact ⟨hl, .inr ⟨g, cap, cur, hv, hg, (hb.block g (by have := Blk.lt (t := 5) (cs := cur) hh; omega)).trans hh, r⟩⟩

section
variable {P : Program} {w : World}

theorem run_app_nil {base : Nat} {t ty e : TypeId} {i : TypeInfo} {size : Nat} (ht : P.underlying t = some (.slice e)) (hi : P.info? e = some i)
    {v : Value} {n : Nat} {xs : List Value} (hown : w.ownsRow base e size v n xs) (c : Nat) : (Builtin.append_ #[t, t] ty #[v, .slice none 0 c]).run P w = .ok v w := by
  obtain ⟨_, ⟨rfl, rfl⟩ | ⟨g, cap, cur, rfl, _, _, hnc, _⟩⟩ := hown
  · simp [Builtin.append_, run_underlying ht, sizeOf, typeInfo, hi, Builtin.lenOf, Builtin.firstCells]
  · simp [Builtin.append_, run_underlying ht, sizeOf, typeInfo, hi, Builtin.lenOf, Builtin.firstCells, hnc, storeCells]

theorem run_app {B : Nat} {t ty : TypeId} {i : TypeInfo} (ht : P.underlying t = some (.slice 5)) (hi : P.info? 5 = some i) (hz : i.zero = some (.int .u8 0)) (hs1 : i.size = 1) (hb1 : i.bytes = 1)
    {v : Value} {xs ys : List UInt8} (hown : Own w B v xs) {A : Option Addr} {m c : Nat} (hsrc : Src w A m ys) (hlen : xs.length + m ≤ 140737488355328) (hB : B ≤ w.heap.size) :
    ∃ v' w', (Builtin.append_ #[t, t] ty #[v, .slice A m c]).run P w = .ok v' w' ∧ Own w' B v' (xs ++ ys) ∧ Below B w w' := by
  have hm := hsrc.1
  cases A with
  | none =>
    have h0 : m = 0 := by
      rcases Nat.eq_zero_or_pos m with h | h
      · exact h
      · obtain ⟨ad, e, _⟩ := hsrc.2 h; cases e
    subst h0
    have : ys = [] := List.eq_nil_of_length_eq_zero hm
    subst this
    exact ⟨v, w, run_app_nil ht hi hown c, by rw [List.append_nil]; exact hown, Below.refl _ _⟩
  | some ad =>
    have hcells : ∀ j u, (cellsOf ys)[j]? = some u → w.cell? (ad.add j) = some u := by
      intro j u hu
      simp only [cellsOf, List.getElem?_map, Option.map_eq_some_iff] at hu
      obtain ⟨x, hx, rfl⟩ := hu
      have hp : 0 < m := by have := (List.getElem?_eq_some_iff.1 hx).1; omega
      obtain ⟨ad', e, _, hc⟩ := hsrc.2 hp
      injection e with e
      subst e
      exact hc j x hx
    obtain ⟨v', w', hrun, h2, h3, _, _⟩ := run_append_own_at (P := P) w B t ty 5 i (.int .u8 0) 1 1 ht hi hz hs1 hb1 rfl (by omega) v xs.length (cellsOf xs) hown ad m c (cellsOf ys) (by rw [cellsOf_length, hm, Nat.mul_one]) hcells (cellsOf_one ys)
      (by unfold maxLen; omega) (by omega) hB
    refine ⟨v', w', hrun, ?_, (Below.refl _ _).grown h3 hB (fun k hk => ?_)⟩
    · unfold Own
      rw [List.length_append, cellsOf_append, hm]
      exact h2
    · obtain ⟨_, ⟨rfl, _⟩ | ⟨g, cap, cur, rfl, hg, _⟩⟩ := hown
      · simp [Value.ownBlock] at hk
      · simp [Value.ownBlock] at hk; omega

theorem wpList_app {ops : Array Oper} {rest : List Oper} {o : Oper} {a : Act} {Q : Exit → Act → World → Prop} (hgd : o.guard = none) (s x : Operand) (t : TypeId)
    (ho : o.op = .call { callee := .builtin .append, args := #[s, x], argTypes := #[t, t] }) (ht : P.underlying t = some (.slice 5)) (hinfo : (P.info? 5).map (fun i => (i.zero, i.size, i.bytes)) = some (some (.int .u8 0), 1, 1))
    (B : Nat) (v : Value) (xs : List UInt8) (hs : a.eval s = v) (hown : Own w B v xs) (A : Option Addr) (m c : Nat) (ys : List UInt8) (hx : a.eval x = .slice A m c) (hsrc : Src w A m ys)
    (hlen : xs.length + m ≤ 140737488355328) (hB : B ≤ w.heap.size)
    (h : ∀ v' w', Hid (Own w' B v' (xs ++ ys)) → Below B w w' → wpList P ops Q rest (a.put o.dst v') w') : wpList P ops Q (o :: rest) a w := by
  obtain ⟨i0, hi, hz0, hz1, hz2⟩ := info_parts hinfo
  obtain ⟨v', w', hrun, h2, h3⟩ := run_app (ty := o.type) ht hi hz0 hz1 hz2 hown (c := c) hsrc hlen hB
  refine wpList_plain hgd fun K hK => ?_
  unfold Oper.wp execOp
  simp only [ho, resolve, invoke, builtin, Sem.run_bind, Sem.run_pure, Result.andThen_ok, List.map_toArray, List.map_cons, List.map_nil, hs, hx, hrun]
  exact hK _ _ (h v' w' h2 h3)
end
end Go.Proofs.YtdofipjjodijcaaGreatDoor.Wd
