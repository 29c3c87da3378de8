/-
  Contract over this seat's translation: cmp.Or at errors.
-/
import Derived.Test.YtajmdchidmamcaaExFdP
namespace Go.Proofs.Ytajmdchidmamcaa.Ex
open Go.RowKit Go.Proofs.Ytajmdchidmamcaa.Wd Go.Proofs.Ytajmdchidmamcaa.Be Go.Proofs.Ytajmdchidmamcaa.He Go.Proofs.Ytajmdchidmamcaa.Ro

/-- the first error -/
def orL : List Int → Int
  | [] => 0
  | x :: l => if x = 0 then orL l else x
theorem orL_go {l : List Int} {k : Nat} {x : Int} (hx : l[k]? = some x) (h : x = 0) : orL (l.drop k) = orL (l.drop (k + 1)) := by
  obtain ⟨hk, rfl⟩ := List.getElem?_eq_some_iff.1 hx
  rw [List.drop_eq_getElem_cons hk, orL, if_pos h]
theorem orL_stop {l : List Int} {k : Nat} {x : Int} (hx : l[k]? = some x) (h : ¬ x = 0) : orL (l.drop k) = x := by
  obtain ⟨hk, rfl⟩ := List.getElem?_eq_some_iff.1 hx
  rw [List.drop_eq_getElem_cons hk, orL, if_neg h]
set_option maxRecDepth 100000 in
set_option maxHeartbeats 1000000 in
theorem or_any (l : List Int) (g n c : Nat) (w : World) (hl : l.length = n) (hn : n ≤ 65535) (hc : ∀ (k : Nat) (x : Int), l[k]? = some x → w.cell? ⟨g, k, none⟩ = some (.int .i64 x)) :
    Calls Try.prog 52 #[.slice (some ⟨g, 0, none⟩) n c] w fun e w' => e = .returned (.int .i64 (orL l)) ∧ Hid (Below w.heap.size w w') := by
  have HN := Lib.hid hl
  clear hl
  go_enter Try.func52, Try.ntmps52
  have HC0 := Lib.hid hc
  clear hc
  go_wp2_with fail
  go_loopw [8] (fun i wr => ∃ k, k ≤ n ∧ i = .int .i64 (k : Int) ∧ Hid (orL l = orL (l.drop k)) ∧ Hid (wr = w)) (fun i _ => n - (intOf i).toNat)
  case atStart => exact ⟨0, Nat.zero_le _, rfl, Lib.hid (by rw [List.drop_zero]), Lib.hid rfl⟩
  case round =>
    obtain ⟨k, hk, rfl, HE, HW⟩ := hrel
    obtain rfl := HW.out
    by_cases hlt : k < n
    · have hki : (k : Int) < (n : Int) := by omega
      obtain ⟨x, hx⟩ : ∃ x, l[k]? = some x := ⟨_, List.getElem?_eq_getElem (by have := HN.out; omega)⟩
      have hc0 := HC0.out k x hx
      have HX := Lib.hid hx
      clear hx
      by_cases h0 : x = 0
      · have HG := Lib.hid (show orL l = orL (l.drop (k + 1)) by rw [HE.out]; exact orL_go HX.out h0)
        have hb : (x != 0) = false := by simp [h0]
        have hb2 : decide (x = 0) = true := by simp [h0]
        clear h0
        go_wp2_with fail
        go_roundw
        case rel => exact ⟨k + 1, by omega, by go_num, HG, Lib.hid (by simp)⟩
        case measure => simp [intOf]; omega
      · have HG := Lib.hid (show orL l = x by rw [HE.out]; exact orL_stop HX.out h0)
        have hb : (x != 0) = true := by simp [h0]
        have hb2 : decide (x = 0) = false := by simp [h0]
        clear h0
        go_wp2_with fail
        go_ret
        rw [HG.out]
        exact ⟨rfl, Lib.hid (Below.refl _ _)⟩
    · obtain rfl : k = n := by omega
      have HF := Lib.hid (show orL l = 0 by rw [HE.out, List.drop_eq_nil_of_le (by have := HN.out; omega)]; rfl)
      go_wp2_with fail
      go_ret
      rw [HF.out]
      exact ⟨rfl, Lib.hid (Below.refl _ _)⟩
end Go.Proofs.Ytajmdchidmamcaa.Ex
