/-
  Contracts of package ascii's all, Token and Visible.
-/
import Derived.Test.YtdofipjjodijcaaGreatDoorAscFns
import Derived.Lib.Strings
namespace Go.Proofs.YtdofipjjodijcaaGreatDoor.Asc
open Go.RowKit Go.Proofs.YtdofipjjodijcaaGreatDoor.Wd

theorem allS_nil (p : Int → Bool) (s : ByteArray) (pos : Nat) (h : ¬ pos < s.size) (hle : pos ≤ s.size) (ht : ((bs s).take pos).all (fun c => p (c.toNat : Int)) = true) :
    (!s.toList.isEmpty) = allS p (bs s) := by
  have e : (bs s).take pos = bs s := List.take_of_length_le (by rw [bs_length]; omega)
  rw [e] at ht
  rw [allS, ht, Bool.and_true]
  rw [Lib.toList_data]
  rfl

theorem allS_no (p : Int → Bool) (s : ByteArray) (pos : Nat) (h : pos < s.size) (hc : p ((s[pos]'h).toNat : Int) = false) : allS p (bs s) = false := by
  rw [allS, Bool.and_eq_false_iff]
  right
  rw [List.all_eq_false]
  exact ⟨s[pos]'h, List.getElem_mem (by rw [bs_length]; exact h), by rw [hc]; simp⟩

theorem take_all (p : Int → Bool) (s : ByteArray) (pos : Nat) (h : pos < s.size) (ht : ((bs s).take pos).all (fun c => p (c.toNat : Int)) = true) (hc : p ((s[pos]'h).toNat : Int) = true) :
    ((bs s).take (pos + 1)).all (fun c => p (c.toNat : Int)) = true := by
  rw [bs_take s pos h, List.all_append, ht]
  simpa using hc

def AllIn (p : Int → Bool) (s : ByteArray) (w w' : World) : Prop := ∃ pos, w' = w.iter s pos ∧ pos ≤ s.size ∧ ((bs s).take pos).all (fun c => p (c.toNat : Int)) = true



end Go.Proofs.YtdofipjjodijcaaGreatDoor.Asc
