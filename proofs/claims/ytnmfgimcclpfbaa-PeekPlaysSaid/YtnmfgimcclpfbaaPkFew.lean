/-
  law06's few over this seat's translation: are calls few, and their bytes?
-/
import Derived.Test.YtnmfgimcclpfbaaLiftCalls6
import Derived.LoopTactic
namespace Go.Proofs.Ytnmfgimcclpfbaa.Pk
open Go.RowKit Go.Proofs.Ytnmfgimcclpfbaa.Wd Go.Proofs.Ytnmfgimcclpfbaa.Lift

def total (l : List Cl) : Nat := (l.map (·.n)).sum
theorem total_snoc {l : List Cl} {k : Nat} {x : Cl} (h : l[k]? = some x) : total (l.take (k + 1)) = total (l.take k) + x.n := by
  unfold total
  rw [List.take_add_one, h]
  simp
theorem total_le (l : List Cl) (hx : ∀ x ∈ l, x.n ≤ 140737488351232) : total l ≤ l.length * 140737488351232 := by
  unfold total
  induction l with
  | nil => simp
  | cons x l ih =>
    have := ih (fun y hy => hx y (by simp [hy]))
    have := hx x (by simp)
    simp only [List.map_cons, List.sum_cons, List.length_cons, Nat.add_mul, Nat.one_mul]
    omega
theorem total_take (l : List Cl) (k : Nat) : total (l.take k) ≤ total l := by
  have h : total l = total (l.take k) + total (l.drop k) := by
    unfold total
    rw [← List.sum_append, ← List.map_append, List.take_append_drop]
  omega
def fewB (l : List Cl) : Bool := decide (l.length ≤ 100) && decide (total l ≤ 20000)

theorem few_long (w : World) (A : Option Addr) (n cap : Nat) (l : List Cl) (hn : l.length = n) (hc : n ≤ 9223372036854775807) (hl : SrcL w A l) (h : 100 < n) :
    Calls Try.prog 9 #[.slice A n cap] w fun e w' => e = .returned (.bool (fewB l)) ∧ w = w' := by
  have HF := Lib.hid (show fewB l = false from by unfold fewB; rw [decide_eq_false (by omega)]; rfl)
  have HL := Lib.hid hl
  have HN := Lib.hid hn
  clear hl hn
  go_enter Try.func9, Try.ntmps9
  go_wp2
  go_loop [3, 4] (fun t i => ∃ (k : Nat) (z : Int), k ≤ n ∧ i = .int .i64 (k : Int) ∧ t = .int .i64 z) (fun _ i => n - (intOf i).toNat)
  case atStart => exact ⟨0, 0, Nat.zero_le _, rfl, rfl⟩
  case round =>
    obtain ⟨k, z, hk, rfl, rfl⟩ := hrel
    by_cases hlt : k < n
    · have hki : (k : Int) < (n : Int) := by omega
      have hx : l[k]? = some (l[k]'(by have := HN.out; omega)) := List.getElem?_eq_getElem _
      obtain ⟨_, g, o, rfl, _, _, hb, _⟩ := HL.out k _ hx
      clear hx
      generalize l[k]'(by have := HN.out; omega) = x at *
      go_wp2
      go_round
      case rel => exact ⟨k + 1, _, by omega, by go_num, rfl⟩
      case measure => simp [intOf]; omega
    · obtain rfl : k = n := by omega
      go_wp2
      go_ret
      rw [HF.out]
      exact ⟨rfl, rfl⟩
theorem few_short (w : World) (A : Option Addr) (n cap : Nat) (l : List Cl) (hn : l.length = n) (hl : SrcL w A l) (h : n ≤ 100) :
    Calls Try.prog 9 #[.slice A n cap] w fun e w' => e = .returned (.bool (fewB l)) ∧ w = w' := by
  have HL := Lib.hid hl
  have HN := Lib.hid hn
  have HS := Lib.hid (show ∀ k, total (l.take k) ≤ 14073748835123200 from fun k => by
    have h1 := total_le (l.take k) (fun x hx => by
      obtain ⟨i, hi⟩ := List.mem_iff_getElem?.1 (List.mem_of_mem_take hx)
      exact (hl i x hi).1.small)
    have h2 : (l.take k).length ≤ 100 := by rw [List.length_take]; omega
    have h3 := Nat.mul_le_mul_right 140737488351232 h2
    omega)
  have HF := Lib.hid (show fewB l = decide ((total (l.take n) : Int) ≤ 20000) from by
    unfold fewB
    rw [decide_eq_true (by omega), List.take_of_length_le (by omega), Bool.true_and]
    rw [decide_eq_decide]
    omega)
  clear hl hn
  have h100 : (n : Int) ≤ 100 := by omega
  go_enter Try.func9, Try.ntmps9
  go_wp2
  go_loop [3, 4] (fun t i => ∃ k : Nat, k ≤ n ∧ i = .int .i64 (k : Int) ∧ t = .int .i64 (total (l.take k) : Int)) (fun _ i => n - (intOf i).toNat)
  case atStart => exact ⟨0, Nat.zero_le _, rfl, rfl⟩
  case round =>
    obtain ⟨k, hk, rfl, rfl⟩ := hrel
    have hs := HS.out k
    by_cases hlt : k < n
    · have hki : (k : Int) < (n : Int) := by omega
      have hx : l[k]? = some (l[k]'(by have := HN.out; omega)) := List.getElem?_eq_getElem _
      obtain ⟨hok, g, o, rfl, _, _, hb, _⟩ := HL.out k _ hx
      have HT := Lib.hid (total_snoc hx)
      have hsm := hok.small
      clear hx hok
      generalize l[k]'(by have := HN.out; omega) = x at *
      generalize total (l.take k) = T at *
      go_wp2
      go_round
      case rel => exact ⟨k + 1, by omega, by go_num, by rw [HT.out]; go_num⟩
      case measure => simp [intOf]; omega
    · obtain rfl : k = n := by omega
      generalize total (l.take k) = T at *
      by_cases h4 : (T : Int) ≤ 20000
      · have hd : decide ((T : Int) ≤ 20000) = true := decide_eq_true h4
        have HF2 := Lib.hid (HF.out.trans hd)
        clear HF hd
        go_wp2
        go_ret
        rw [HF2.out]
        exact ⟨rfl, rfl⟩
      · have hd : decide ((T : Int) ≤ 20000) = false := decide_eq_false h4
        have HF2 := Lib.hid (HF.out.trans hd)
        clear HF
        go_wp2
        go_ret
        rw [HF2.out]
        exact ⟨rfl, rfl⟩
theorem few_any (w : World) (A : Option Addr) (n cap : Nat) (l : List Cl) (hn : l.length = n) (hc : n ≤ 9223372036854775807) (hl : SrcL w A l) :
    Calls Try.prog 9 #[.slice A n cap] w fun e w' => e = .returned (.bool (fewB l)) ∧ w = w' := by
  by_cases h : 100 < n
  · exact few_long w A n cap l hn hc hl h
  · exact few_short w A n cap l hn hl (by omega)
theorem few_len {l : List Cl} (h : fewB l = true) : l.length ≤ 100 ∧ total l ≤ 20000 := by
  unfold fewB at h
  simpa using h
end Go.Proofs.Ytnmfgimcclpfbaa.Pk
