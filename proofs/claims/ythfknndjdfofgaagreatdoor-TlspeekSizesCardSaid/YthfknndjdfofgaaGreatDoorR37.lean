/-
 hagioscoperef02's Number, Hex and Text for seats that have package ascii's Lower, too (XRfAsc's, behind RfTok, where the rest of it stands).
-/
import Derived.Test.YthfknndjdfofgaaGreatDoorR10
import Derived.Test.YthfknndjdfofgaaGreatDoorR32
import Derived.Test.YthfknndjdfofgaaGreatDoorR13
import Derived.Test.YthfknndjdfofgaaGreatDoorR12
import Derived.Test.YthfknndjdfofgaaGreatDoorR03
namespace Go.Proofs.YthfknndjdfofgaaGreatDoor.Asc
open Go.RowKit Go.Proofs.YthfknndjdfofgaaGreatDoor.Wd

end Go.Proofs.YthfknndjdfofgaaGreatDoor.Asc

/-
 Rows of strings of the call's own, and the contract of hagioscoperef03.Cut.
-/
namespace Go.Proofs.YthfknndjdfofgaaGreatDoor.Ad
open Go.RowKit Go.Proofs.YthfknndjdfofgaaGreatDoor.Wd Go.Proofs.YthfknndjdfofgaaGreatDoor.Asc

abbrev strsOf (L : List (List UInt8)) : List Value := L.map fun l => Value.string (str l)
def OwnR (w : World) (B : Nat) (v : Value) (L : List (List UInt8)) : Prop := w.ownsRow B 9 1 v L.length (strsOf L)
theorem OwnR.last {w : World} {B : Nat} {v : Value} {I : List (List UInt8)} {x : List UInt8} (h : OwnR w B v (I ++ [x])) :
   ∃ g cap cur, v = .slice (some ⟨g, 0, none⟩) (I.length + 1) cap ∧ B ≤ g ∧ Blk w g 9 cur ∧ I.length + 1 ≤ cap ∧ cur[I.length]? = some (.string (str x)) ∧
     ∀ (y : List UInt8) (w2 : World), Blk w2 g 9 (cur.setIfInBounds I.length (.string (str y))) → OwnR w2 B v (I ++ [y]) := by
 obtain ⟨hl, h0 | ⟨g, cap, cur, hv, hg, hh, hc, hm, hz, ht⟩⟩ := h
 · exact absurd h0.2 (by simp)
 · rw [List.length_append, List.length_cons, List.length_nil] at hv hc ht
   have hat : cur[I.length]? = some (.string (str x)) := by
     rw [← Array.getElem?_toList]
     have h2 : (strsOf (I ++ [x]))[I.length]? = some (.string (str x)) := by simp
     rw [← ht, Nat.mul_one, List.getElem?_take] at h2
     split at h2
     · exact h2
     · cases h2
   refine ⟨g, cap, cur, hv, hg, hh, hc, hat, fun y w2 h2 => ⟨by simp, .inr ⟨g, cap, _, by rw [hv]; simp, hg, h2, by simpa using hc, hm, by simpa using hz, ?_⟩⟩⟩
   have e : (I ++ [y]).length * 1 = I.length + 1 := by simp
   rw [e, Array.toList_setIfInBounds, List.take_set]
   rw [Nat.mul_one] at ht
   rw [ht]
   simp [strsOf]

section
variable {w : World}
end

end Go.Proofs.YthfknndjdfofgaaGreatDoor.Ad

/-
 Contract of hagioscoperef03's dotted.
-/
namespace Go.Proofs.YthfknndjdfofgaaGreatDoor.Ad
open Go.RowKit Go.Proofs.YthfknndjdfofgaaGreatDoor.Wd Go.Proofs.YthfknndjdfofgaaGreatDoor.Asc

structure RowS (w : World) (g n : Nat) (L : List (List UInt8)) : Prop where
 len : L.length = n
 blk : ∃ cur, Blk w g 9 cur ∧ ∀ (k : Nat) (l : List UInt8), L[k]? = some l → cur[k]? = some (Value.string (str l))
end Go.Proofs.YthfknndjdfofgaaGreatDoor.Ad

/-
 Contract of hagioscoperef03's groups.
-/
namespace Go.Proofs.YthfknndjdfofgaaGreatDoor.Ad
open Go.RowKit Go.Proofs.YthfknndjdfofgaaGreatDoor.Wd Go.Proofs.YthfknndjdfofgaaGreatDoor.Asc

end Go.Proofs.YthfknndjdfofgaaGreatDoor.Ad
