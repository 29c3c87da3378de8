/-
  Bytes in new memory: their block, and that it stands while it is written over. Plain lemmas, no condition.
-/
import Derived.Test.YtjbcdagkjonlfaaOwn
namespace Go.Proofs.Ytjbcdagkjonlfaa.Wd
open Go.RowKit

/-- bytes in new memory: one block of them, or none -/
theorem own_gi {w : World} {B : Nat} {v : Value} {xs : List UInt8} (h : Own w B v xs) : ∃ gi A c, v = .slice A xs.length c ∧ B ≤ gi ∧ xs.length ≤ c ∧ (gi = B ∨ gi < w.heap.size) ∧ (0 < xs.length → A = some ⟨gi, 0, none⟩) ∧ (0 < xs.length → ∃ cur, Blk w gi 5 cur ∧ xs.length ≤ cur.size) ∧ Src w A xs.length xs := by
  have hs := h.cut_
  obtain ⟨_, ⟨rfl, h0⟩ | ⟨g, cap, cur, rfl, hg, hh, hc, _, hz, _⟩⟩ := h
  · have hx : xs = [] := List.eq_nil_of_length_eq_zero h0
    subst hx
    exact ⟨B, none, 0, rfl, Nat.le_refl _, Nat.le_refl _, .inl rfl, fun hp => absurd hp (by simp), fun hp => absurd hp (by simp), Src.nil w⟩
  · obtain ⟨A', c', e, _, hsrc, _⟩ := hs
    injection e with e1 e2 e3
    rw [← e1] at hsrc
    exact ⟨g, _, cap, rfl, hg, hc, .inr (Blk.lt (t := 5) (cs := cur) hh), fun _ => rfl, fun _ => ⟨cur, hh, by omega⟩, hsrc⟩
/-- the block that is written over, as it stands -/
def Buf (w : World) (gi m : Nat) : Prop := 0 < m → ∃ cur, Blk w gi 5 cur ∧ m ≤ cur.size
theorem Buf.but {S : List Nat} {w w' : World} {gi m : Nat} (h : Buf w gi m) (k : But S w w') (hg : gi ∉ S) : Buf w' gi m := fun h0 => by
  obtain ⟨cur, hb, hm⟩ := h h0
  exact ⟨cur, hb.but k hg, hm⟩
theorem Buf.set_ {w : World} {gi m : Nat} (h : Buf w gi m) (j : Nat) (v : Value) : Buf (w.setCell ⟨gi, j, none⟩ v) gi m := fun h0 => by
  obtain ⟨cur, hb, hm⟩ := h h0
  exact ⟨_, hb.set_ j v, by rw [Array.size_setIfInBounds]; exact hm⟩
end Go.Proofs.Ytjbcdagkjonlfaa.Wd
