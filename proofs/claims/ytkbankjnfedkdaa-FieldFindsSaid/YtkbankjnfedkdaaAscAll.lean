/-
  Contracts of package ascii's all, Token and Visible.
-/
import Derived.Test.YtkbankjnfedkdaaAscFns
import Derived.Lib.Strings
namespace Go.Proofs.Ytkbankjnfedkdaa.Asc
open Go.RowKit Go.Proofs.Ytkbankjnfedkdaa.Wd

theorem allS_nil (p : Int → Bool) (s : ByteArray) (pos : Nat) (h : ¬ pos < s.size) (hle : pos ≤ s.size) (ht : ((bs s).take pos).all (fun c => p (c.toNat : Int)) = true) :
    (!s.toList.isEmpty) = allS p (bs s) := by
  have e : (bs s).take pos = bs s := List.take_of_length_le (by rw [bs_length]; omega)
  rw [e] at ht
  rw [allS, ht, Bool.and_true]
  rw [Lib.toList_data]
  rfl

theorem allS_no (p : Int → Bool) (s : ByteArray) (pos : Nat) (h : pos < s.size) (hc : p ((s[pos]'h).toNat : Int) = false) : allS p (bs s) = false := by
  rw [allS, Bool.and_eq_false_iff]
  right
  rw [List.all_eq_false]
  exact ⟨s[pos]'h, List.getElem_mem (by rw [bs_length]; exact h), by rw [hc]; simp⟩

theorem take_all (p : Int → Bool) (s : ByteArray) (pos : Nat) (h : pos < s.size) (ht : ((bs s).take pos).all (fun c => p (c.toNat : Int)) = true) (hc : p ((s[pos]'h).toNat : Int) = true) :
    ((bs s).take (pos + 1)).all (fun c => p (c.toNat : Int)) = true := by
  rw [bs_take s pos h, List.all_append, ht]
  simpa using hc

def AllIn (p : Int → Bool) (s : ByteArray) (w w' : World) : Prop := ∃ pos, w' = w.iter s pos ∧ pos ≤ s.size ∧ ((bs s).take pos).all (fun c => p (c.toNat : Int)) = true

set_option maxHeartbeats 1000000 in
theorem all_tok (s : ByteArray) (w : World) :
    Calls Try.prog 27 #[.string s, .func (.func 28) #[] #[]] w fun e w' => e = .returned (.bool (allS tokI (bs s))) ∧ Below w.heap.size w w' := by
  go_enter Try.func27, Try.ntmps27
  go_wp2
  go_loopw [6] (fun _ w' => AllIn tokI s w w') (fun _ w' => s.size - w'.iterPos w.heap.size)
  case atStart => exact ⟨0, rfl, Nat.zero_le _, rfl⟩
  case round =>
    obtain ⟨pos, rfl, hle, ht⟩ := hrel
    have HT := Lib.hid ht
    clear ht
    by_cases hp : pos < s.size
    · obtain ⟨hr, h1⟩ := at_rune tok_low s pos hp
      have hnx : ∀ ty, (Instr.next (.pointer (some ⟨w.heap.size, 0, none⟩)) true ty).run Try.prog (w.iter s pos) = _ := fun ty => run_next_any w s pos ty hp
      cases hc : tokI ((s[pos]'hp).toNat : Int)
      · have HC := Lib.hid hc
        rw [hc] at hr
        have HR := Lib.hid hr
        clear hr hc h1
        go_wp2_with (go_at_call 28; refine (isToken_any _ _).mono ?_; rintro e w' ⟨rfl, rfl⟩; rw [HR.out])
        go_ret
        exact ⟨ret_b (allS_no tokI s pos hp HC.out).symm, below_iter _ _ _⟩
      · have h1' := h1 hc
        rw [h1'] at hnx
        have HC := Lib.hid hc
        rw [hc] at hr
        have HR := Lib.hid hr
        clear hr hc h1 h1'
        go_wp2_with (go_at_call 28; refine (isToken_any _ _).mono ?_; rintro e w' ⟨rfl, rfl⟩; rw [HR.out])
        go_roundw
        case rel => exact ⟨pos + 1, rfl, hp, take_all tokI s pos hp HT.out HC.out⟩
        case measure => simp; omega
    · have hnx := fun ty => run_next_end (P := Try.prog) w s pos ty hp
      go_wp2
      go_ret
      exact ⟨ret_b (allS_nil tokI s pos hp hle HT.out), below_iter _ _ _⟩


theorem token_any (s : ByteArray) (w : World) :
    Calls Try.prog 17 #[.string s] w fun e w' => e = .returned (.bool (allS tokI (bs s))) ∧ Below w.heap.size w w' := by
  go_enter Try.func17, Try.ntmps17
  go_wp2_with (go_at_call 27; refine (all_tok _ _).mono ?_; rintro e w' ⟨rfl, hb⟩)
  go_ret
  exact ⟨rfl, hb⟩
end Go.Proofs.Ytkbankjnfedkdaa.Asc
