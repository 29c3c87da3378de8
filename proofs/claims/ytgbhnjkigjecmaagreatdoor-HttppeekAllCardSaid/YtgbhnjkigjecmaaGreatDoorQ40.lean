/-
  Contracts of hagioscoperef14's label, digits, Normal and Labels, and of hagioscoperef10.Rows, over this seat's translation: they answer what labS, digS, normalS and labelsS say.
-/
import Derived.Test.YtgbhnjkigjecmaaGreatDoorQ27
import Derived.Test.YtgbhnjkigjecmaaGreatDoorQ33
import Derived.Test.YtgbhnjkigjecmaaGreatDoorQ35
import Derived.Test.YtgbhnjkigjecmaaGreatDoorQ37
namespace Go.Proofs.YtgbhnjkigjecmaaGreatDoor.Nm
open Go.RowKit Go.Proofs.YtgbhnjkigjecmaaGreatDoor.Wd Go.Proofs.YtgbhnjkigjecmaaGreatDoor.Asc Go.Proofs.YtgbhnjkigjecmaaGreatDoor.Ad

def LbAt (s : ByteArray) (f : UInt8 → Bool) (x : Value) : Prop := ∃ k : Nat, x = .int .i64 k ∧ k ≤ s.size ∧ ((bs s).take k).all f = true
set_option linter.unusedSimpArgs false in
set_option maxRecDepth 100000 in
set_option maxHeartbeats 8000000 in
theorem rlabel_any (s : ByteArray) (w : World) (hs : s.size < 4294967281) :
    Calls Tryz.prog 85 #[.string s] w fun e w' => e = .returned (.bool (labS (bs s))) ∧ w = w' := by
  have HM : Hid (labS (bs s) = (decide (1 ≤ s.size) && decide (s.size ≤ 63) && (bs s).all labB && !decide ((bs s).head? = some 45) && !decide ((bs s).getLast? = some 45))) := Lib.hid (by
    unfold labS
    rw [bs_length]
    simp only [ne_eq, decide_not])
  go_enter Tryz.func85, Tryz.ntmps85
  go_wp2
  go_loop [3] (fun x => LbAt s labB x) (fun x => s.size - (intOf x).toNat)
  case atStart => exact ⟨0, rfl, Nat.zero_le _, rfl⟩
  case round =>
    obtain ⟨k, rfl, hk, ht⟩ := hrel
    have HT := Lib.hid ht
    clear ht
    by_cases hp : k < s.size
    · have HN := fun (h : labB (s[k]'hp) = true) => Lib.hid (all_step s labB k hp HT.out h)
      have HY := fun (h : labB (s[k]'hp) = false) => Lib.hid (all_hit s labB k hp h)
      have hcl : (s[k]'hp).toNat < 45 ∨ (s[k]'hp).toNat = 45 ∨ (46 ≤ (s[k]'hp).toNat ∧ (s[k]'hp).toNat ≤ 47) ∨ (48 ≤ (s[k]'hp).toNat ∧ (s[k]'hp).toNat ≤ 57) ∨ (58 ≤ (s[k]'hp).toNat ∧ (s[k]'hp).toNat ≤ 64) ∨
        (65 ≤ (s[k]'hp).toNat ∧ (s[k]'hp).toNat ≤ 90) ∨ (91 ≤ (s[k]'hp).toNat ∧ (s[k]'hp).toNat ≤ 94) ∨ (s[k]'hp).toNat = 95 ∨ (s[k]'hp).toNat = 96 ∨ (97 ≤ (s[k]'hp).toNat ∧ (s[k]'hp).toNat ≤ 122) ∨ 123 ≤ (s[k]'hp).toNat := by omega
      have hlab : labB (s[k]'hp) = decide ((97 ≤ (s[k]'hp).toNat ∧ (s[k]'hp).toNat ≤ 122) ∨ (65 ≤ (s[k]'hp).toNat ∧ (s[k]'hp).toNat ≤ 90) ∨ (48 ≤ (s[k]'hp).toNat ∧ (s[k]'hp).toNat ≤ 57) ∨ (s[k]'hp).toNat = 45 ∨ (s[k]'hp).toNat = 95) := rfl
      rcases hcl with hc | hc | hc | hc | hc | hc | hc | hc | hc | hc | hc
      · have H := HY (by rw [hlab, decide_eq_false_iff_not]; omega)
        have q0 : decide ((97 : Int) ≤ ((s[k]'hp).toNat : Int)) = false := by rw [decide_eq_false_iff_not]; omega
        have q1 : decide ((65 : Int) ≤ ((s[k]'hp).toNat : Int)) = false := by rw [decide_eq_false_iff_not]; omega
        have q2 : decide ((48 : Int) ≤ ((s[k]'hp).toNat : Int)) = false := by rw [decide_eq_false_iff_not]; omega
        have q3 : (((s[k]'hp).toNat : Int) == 45) = false := by rw [beq_eq_false_iff_ne]; omega
        have q4 : (((s[k]'hp).toNat : Int) == 95) = false := by rw [beq_eq_false_iff_ne]; omega
        clear HN HY hlab hc
        go_wp2
        go_ret
        exact ⟨ret_b (by rw [HM.out, H.out]; simp), rfl⟩
      · have H := HN (by rw [hlab, decide_eq_true_iff]; omega)
        have q0 : decide ((97 : Int) ≤ ((s[k]'hp).toNat : Int)) = false := by rw [decide_eq_false_iff_not]; omega
        have q1 : decide ((65 : Int) ≤ ((s[k]'hp).toNat : Int)) = false := by rw [decide_eq_false_iff_not]; omega
        have q2 : decide ((48 : Int) ≤ ((s[k]'hp).toNat : Int)) = false := by rw [decide_eq_false_iff_not]; omega
        have q3 : (((s[k]'hp).toNat : Int) == 45) = true := by rw [beq_iff_eq]; omega
        clear HN HY hlab hc
        go_wp2
        go_round
        case rel => exact ⟨k + 1, by go_num, hp, H.out⟩
        case measure => simp [intOf]; omega
      · have H := HY (by rw [hlab, decide_eq_false_iff_not]; omega)
        have q0 : decide ((97 : Int) ≤ ((s[k]'hp).toNat : Int)) = false := by rw [decide_eq_false_iff_not]; omega
        have q1 : decide ((65 : Int) ≤ ((s[k]'hp).toNat : Int)) = false := by rw [decide_eq_false_iff_not]; omega
        have q2 : decide ((48 : Int) ≤ ((s[k]'hp).toNat : Int)) = false := by rw [decide_eq_false_iff_not]; omega
        have q3 : (((s[k]'hp).toNat : Int) == 45) = false := by rw [beq_eq_false_iff_ne]; omega
        have q4 : (((s[k]'hp).toNat : Int) == 95) = false := by rw [beq_eq_false_iff_ne]; omega
        clear HN HY hlab hc
        go_wp2
        go_ret
        exact ⟨ret_b (by rw [HM.out, H.out]; simp), rfl⟩
      · have H := HN (by rw [hlab, decide_eq_true_iff]; omega)
        have q0 : decide ((97 : Int) ≤ ((s[k]'hp).toNat : Int)) = false := by rw [decide_eq_false_iff_not]; omega
        have q1 : decide ((65 : Int) ≤ ((s[k]'hp).toNat : Int)) = false := by rw [decide_eq_false_iff_not]; omega
        have q2 : decide ((48 : Int) ≤ ((s[k]'hp).toNat : Int)) = true := by rw [decide_eq_true_iff]; omega
        have q3 : decide (((s[k]'hp).toNat : Int) ≤ 57) = true := by rw [decide_eq_true_iff]; omega
        clear HN HY hlab hc
        go_wp2
        go_round
        case rel => exact ⟨k + 1, by go_num, hp, H.out⟩
        case measure => simp [intOf]; omega
      · have H := HY (by rw [hlab, decide_eq_false_iff_not]; omega)
        have q0 : decide ((97 : Int) ≤ ((s[k]'hp).toNat : Int)) = false := by rw [decide_eq_false_iff_not]; omega
        have q1 : decide ((65 : Int) ≤ ((s[k]'hp).toNat : Int)) = false := by rw [decide_eq_false_iff_not]; omega
        have q2 : decide ((48 : Int) ≤ ((s[k]'hp).toNat : Int)) = true := by rw [decide_eq_true_iff]; omega
        have q3 : decide (((s[k]'hp).toNat : Int) ≤ 57) = false := by rw [decide_eq_false_iff_not]; omega
        have q4 : (((s[k]'hp).toNat : Int) == 45) = false := by rw [beq_eq_false_iff_ne]; omega
        have q5 : (((s[k]'hp).toNat : Int) == 95) = false := by rw [beq_eq_false_iff_ne]; omega
        clear HN HY hlab hc
        go_wp2
        go_ret
        exact ⟨ret_b (by rw [HM.out, H.out]; simp), rfl⟩
      · have H := HN (by rw [hlab, decide_eq_true_iff]; omega)
        have q0 : decide ((97 : Int) ≤ ((s[k]'hp).toNat : Int)) = false := by rw [decide_eq_false_iff_not]; omega
        have q1 : decide ((65 : Int) ≤ ((s[k]'hp).toNat : Int)) = true := by rw [decide_eq_true_iff]; omega
        have q2 : decide (((s[k]'hp).toNat : Int) ≤ 90) = true := by rw [decide_eq_true_iff]; omega
        clear HN HY hlab hc
        go_wp2
        go_round
        case rel => exact ⟨k + 1, by go_num, hp, H.out⟩
        case measure => simp [intOf]; omega
      · have H := HY (by rw [hlab, decide_eq_false_iff_not]; omega)
        have q0 : decide ((97 : Int) ≤ ((s[k]'hp).toNat : Int)) = false := by rw [decide_eq_false_iff_not]; omega
        have q1 : decide ((65 : Int) ≤ ((s[k]'hp).toNat : Int)) = true := by rw [decide_eq_true_iff]; omega
        have q2 : decide (((s[k]'hp).toNat : Int) ≤ 90) = false := by rw [decide_eq_false_iff_not]; omega
        have q3 : decide ((48 : Int) ≤ ((s[k]'hp).toNat : Int)) = true := by rw [decide_eq_true_iff]; omega
        have q4 : decide (((s[k]'hp).toNat : Int) ≤ 57) = false := by rw [decide_eq_false_iff_not]; omega
        have q5 : (((s[k]'hp).toNat : Int) == 45) = false := by rw [beq_eq_false_iff_ne]; omega
        have q6 : (((s[k]'hp).toNat : Int) == 95) = false := by rw [beq_eq_false_iff_ne]; omega
        clear HN HY hlab hc
        go_wp2
        go_ret
        exact ⟨ret_b (by rw [HM.out, H.out]; simp), rfl⟩
      · have H := HN (by rw [hlab, decide_eq_true_iff]; omega)
        have q0 : decide ((97 : Int) ≤ ((s[k]'hp).toNat : Int)) = false := by rw [decide_eq_false_iff_not]; omega
        have q1 : decide ((65 : Int) ≤ ((s[k]'hp).toNat : Int)) = true := by rw [decide_eq_true_iff]; omega
        have q2 : decide (((s[k]'hp).toNat : Int) ≤ 90) = false := by rw [decide_eq_false_iff_not]; omega
        have q3 : decide ((48 : Int) ≤ ((s[k]'hp).toNat : Int)) = true := by rw [decide_eq_true_iff]; omega
        have q4 : decide (((s[k]'hp).toNat : Int) ≤ 57) = false := by rw [decide_eq_false_iff_not]; omega
        have q5 : (((s[k]'hp).toNat : Int) == 45) = false := by rw [beq_eq_false_iff_ne]; omega
        have q6 : (((s[k]'hp).toNat : Int) == 95) = true := by rw [beq_iff_eq]; omega
        clear HN HY hlab hc
        go_wp2
        go_round
        case rel => exact ⟨k + 1, by go_num, hp, H.out⟩
        case measure => simp [intOf]; omega
      · have H := HY (by rw [hlab, decide_eq_false_iff_not]; omega)
        have q0 : decide ((97 : Int) ≤ ((s[k]'hp).toNat : Int)) = false := by rw [decide_eq_false_iff_not]; omega
        have q1 : decide ((65 : Int) ≤ ((s[k]'hp).toNat : Int)) = true := by rw [decide_eq_true_iff]; omega
        have q2 : decide (((s[k]'hp).toNat : Int) ≤ 90) = false := by rw [decide_eq_false_iff_not]; omega
        have q3 : decide ((48 : Int) ≤ ((s[k]'hp).toNat : Int)) = true := by rw [decide_eq_true_iff]; omega
        have q4 : decide (((s[k]'hp).toNat : Int) ≤ 57) = false := by rw [decide_eq_false_iff_not]; omega
        have q5 : (((s[k]'hp).toNat : Int) == 45) = false := by rw [beq_eq_false_iff_ne]; omega
        have q6 : (((s[k]'hp).toNat : Int) == 95) = false := by rw [beq_eq_false_iff_ne]; omega
        clear HN HY hlab hc
        go_wp2
        go_ret
        exact ⟨ret_b (by rw [HM.out, H.out]; simp), rfl⟩
      · have H := HN (by rw [hlab, decide_eq_true_iff]; omega)
        have q0 : decide ((97 : Int) ≤ ((s[k]'hp).toNat : Int)) = true := by rw [decide_eq_true_iff]; omega
        have q1 : decide (((s[k]'hp).toNat : Int) ≤ 122) = true := by rw [decide_eq_true_iff]; omega
        clear HN HY hlab hc
        go_wp2
        go_round
        case rel => exact ⟨k + 1, by go_num, hp, H.out⟩
        case measure => simp [intOf]; omega
      · have H := HY (by rw [hlab, decide_eq_false_iff_not]; omega)
        have q0 : decide ((97 : Int) ≤ ((s[k]'hp).toNat : Int)) = true := by rw [decide_eq_true_iff]; omega
        have q1 : decide (((s[k]'hp).toNat : Int) ≤ 122) = false := by rw [decide_eq_false_iff_not]; omega
        have q2 : decide ((65 : Int) ≤ ((s[k]'hp).toNat : Int)) = true := by rw [decide_eq_true_iff]; omega
        have q3 : decide (((s[k]'hp).toNat : Int) ≤ 90) = false := by rw [decide_eq_false_iff_not]; omega
        have q4 : decide ((48 : Int) ≤ ((s[k]'hp).toNat : Int)) = true := by rw [decide_eq_true_iff]; omega
        have q5 : decide (((s[k]'hp).toNat : Int) ≤ 57) = false := by rw [decide_eq_false_iff_not]; omega
        have q6 : (((s[k]'hp).toNat : Int) == 45) = false := by rw [beq_eq_false_iff_ne]; omega
        have q7 : (((s[k]'hp).toNat : Int) == 95) = false := by rw [beq_eq_false_iff_ne]; omega
        clear HN HY hlab hc
        go_wp2
        go_ret
        exact ⟨ret_b (by rw [HM.out, H.out]; simp), rfl⟩
    · have hal : (bs s).all labB = true := all_no s labB k hp HT.out
      rw [hal] at HM
      clear hal HT
      by_cases h0 : s.size = 0
      · rw [decide_eq_false (show ¬ 1 ≤ s.size by omega)] at HM
        have i0 : ¬ 0 < s.size := by omega
        have i1 : ¬ (0 : Int) < (s.size : Int) := by omega
        clear h0
        go_wp2
        go_ret
        exact ⟨ret_b (by rw [HM.out]; rfl), rfl⟩
      have i0 : decide ((0 : Int) < (s.size : Int)) = true := decide_eq_true (by omega)
      rw [decide_eq_true (show 1 ≤ s.size by omega)] at HM
      by_cases h1 : 63 < s.size
      · rw [decide_eq_false (show ¬ s.size ≤ 63 by omega)] at HM
        have i1 : decide ((s.size : Int) < 64) = false := decide_eq_false (by omega)
        clear h1
        go_wp2
        go_ret
        exact ⟨ret_b (by rw [HM.out]; rfl), rfl⟩
      have i1 : decide ((s.size : Int) < 64) = true := decide_eq_true (by omega)
      rw [decide_eq_true (show s.size ≤ 63 by omega)] at HM
      have hz : 0 < s.size := by omega
      have hh : (bs s).head? = some (s[0]'hz) := by
        rw [List.head?_eq_getElem?, List.getElem?_eq_getElem (by rw [bs_length]; exact hz)]
        exact congrArg some (bs_get s 0 hz)
      obtain ⟨m, hm⟩ : ∃ m, s.size = m + 1 := ⟨s.size - 1, by omega⟩
      have hml : m < s.size := by omega
      have hmi : (s.size : Int) - 1 = (m : Int) := by omega
      have hl : (bs s).getLast? = some (s[m]'hml) := by
        rw [List.getLast?_eq_getElem?, bs_length, show s.size - 1 = m by omega, List.getElem?_eq_getElem (by rw [bs_length]; exact hml)]
        exact congrArg some (bs_get s m hml)
      have e45 : ∀ c : UInt8, decide (some c = some (45 : UInt8)) = ((c.toNat : Int) == 45) := fun c => by
        rw [Bool.eq_iff_iff, decide_eq_true_eq, beq_iff_eq, Option.some.injEq]
        exact ⟨fun h => by subst h; rfl, fun h => UInt8.toNat.inj (by show c.toNat = 45; omega)⟩
      rw [hh, hl, e45, e45] at HM
      clear hh hl e45 hm h1 h0
      cases g1 : (((s[0]'hz).toNat : Int) == 45)
      · have n1 : (((s[0]'hz).toNat : Int) != 45) = true := by rw [bne, g1]; rfl
        cases g2 : (((s[m]'hml).toNat : Int) == 45)
        · have n2 : (((s[m]'hml).toNat : Int) != 45) = true := by rw [bne, g2]; rfl
          rw [g1, g2] at HM
          go_wp2
          go_ret
          exact ⟨ret_b (by rw [HM.out]; rfl), rfl⟩
        · have n2 : (((s[m]'hml).toNat : Int) != 45) = false := by rw [bne, g2]; rfl
          rw [g1, g2] at HM
          go_wp2
          go_ret
          exact ⟨ret_b (by rw [HM.out]; rfl), rfl⟩
      · have n1 : (((s[0]'hz).toNat : Int) != 45) = false := by rw [bne, g1]; rfl
        rw [g1] at HM
        go_wp2
        go_ret
        exact ⟨ret_b (by rw [HM.out]; rfl), rfl⟩

set_option linter.unusedSimpArgs false in
set_option maxRecDepth 100000 in
set_option maxHeartbeats 4000000 in
theorem rdigits_any (s : ByteArray) (w : World) (hs : s.size < 4294967281) :
    Calls Tryz.prog 86 #[.string s] w fun e w' => e = .returned (.bool (digS (bs s))) ∧ w = w' := by
  go_enter Tryz.func86, Tryz.ntmps86
  go_wp2
  go_loop [3] (fun x => LbAt s digB x) (fun x => s.size - (intOf x).toNat)
  case atStart => exact ⟨0, rfl, Nat.zero_le _, rfl⟩
  case round =>
    obtain ⟨k, rfl, hk, ht⟩ := hrel
    have HT := Lib.hid ht
    clear ht
    by_cases hp : k < s.size
    · have HN := fun (h : digB (s[k]'hp) = true) => Lib.hid (all_step s digB k hp HT.out h)
      have HY := fun (h : digB (s[k]'hp) = false) => Lib.hid (all_hit s digB k hp h)
      have hdig : digB (s[k]'hp) = decide (48 ≤ ((s[k]'hp).toNat : Int) ∧ ((s[k]'hp).toNat : Int) ≤ 57) := rfl
      by_cases a1 : (s[k]'hp).toNat < 48
      · have H := HY (by rw [hdig, decide_eq_false_iff_not]; omega)
        have q0 : decide (((s[k]'hp).toNat : Int) < 48) = true := by rw [decide_eq_true_iff]; omega
        clear HN HY hdig a1
        go_wp2
        go_ret
        exact ⟨ret_b H.out.symm, rfl⟩
      have q0 : decide (((s[k]'hp).toNat : Int) < 48) = false := by rw [decide_eq_false_iff_not]; omega
      by_cases a2 : 57 < (s[k]'hp).toNat
      · have H := HY (by rw [hdig, decide_eq_false_iff_not]; omega)
        have q1 : decide ((57 : Int) < ((s[k]'hp).toNat : Int)) = true := by rw [decide_eq_true_iff]; omega
        clear HN HY hdig a1 a2
        go_wp2
        go_ret
        exact ⟨ret_b H.out.symm, rfl⟩
      · have H := HN (by rw [hdig, decide_eq_true_iff]; omega)
        have q1 : decide ((57 : Int) < ((s[k]'hp).toNat : Int)) = false := by rw [decide_eq_false_iff_not]; omega
        clear HN HY hdig a1 a2
        go_wp2
        go_round
        case rel => exact ⟨k + 1, by go_num, hp, H.out⟩
        case measure => simp [intOf]; omega
    · go_wp2
      go_ret
      exact ⟨ret_b (all_no s digB k hp HT.out).symm, rfl⟩

set_option maxRecDepth 100000 in
set_option maxHeartbeats 1000000 in
/-- hagioscoperef10.Rows: two equal rows are the same -/
theorem rrows_any (u v : Value) (l : List (List UInt8)) (w : World) (h1 : RowL w u l) (h2 : RowL w v l) (hn : l.length ≤ 140737488351232) :
    Calls Tryz.prog 37 #[u, v] w fun e w' => e = .returned (.bool true) ∧ Below w.heap.size w w' := by
  obtain ⟨n, hl⟩ : ∃ n, l.length = n := ⟨_, rfl⟩
  obtain ⟨g1, c1, rfl, _, _, H1⟩ := h1
  obtain ⟨g2, c2, rfl, _, _, H2⟩ := h2
  have H1 := Lib.hid H1
  have H2 := Lib.hid H2
  have HL := Lib.hid hl
  rw [hl] at hn ⊢
  clear hl
  go_enter Tryz.func37, Tryz.ntmps37
  go_wp2_with fail
  go_loopw [5] (fun i wr => ∃ k, k ≤ n ∧ i = .int .i64 (k : Int) ∧ Hid (∃ j, wr = w.drewN j)) (fun i _ => n - (intOf i).toNat)
  case atStart => exact ⟨0, Nat.zero_le _, rfl, Lib.hid ⟨0, rfl⟩⟩
  case round =>
    obtain ⟨k, hk, rfl, HW⟩ := hrel
    by_cases hlt : k < n
    · have hki : (k : Int) < (n : Int) := by omega
      obtain ⟨x, hx⟩ : ∃ x, l[k]? = some x := ⟨_, List.getElem?_eq_getElem (by have := HL.out; omega)⟩
      have hd1 : wr.cell? ⟨g1, k, none⟩ = some (.string (str x)) := by obtain ⟨n0, rfl⟩ := HW.out; exact H1.out k x hx
      have hd2 : wr.cell? ⟨g2, k, none⟩ = some (.string (str x)) := by obtain ⟨n0, rfl⟩ := HW.out; exact H2.out k x hx
      clear hx
      generalize str x = X at *
      go_wp2_with fail
      go_quiet (fail)
      go_wp2_with fail
      go_roundw
      case rel => exact ⟨k + 1, by omega, by go_num, Lib.hid (by obtain ⟨j, rfl⟩ := HW.out; exact ⟨_, World.drewN_drewN _ _ _⟩)⟩
      case measure => simp [intOf]; omega
    · obtain rfl : k = n := by omega
      go_wp2_with fail
      go_ret
      exact ⟨rfl, by obtain ⟨j, rfl⟩ := HW.out; exact below_drewN' _ _⟩
end Go.Proofs.YtgbhnjkigjecmaaGreatDoor.Nm

/-
  Contracts of hagioscoperef14's Normal and Labels over this seat's translation: they answer what normalS and labelsS say.
-/
namespace Go.Proofs.YtgbhnjkigjecmaaGreatDoor.Nm
open Go.RowKit Go.Proofs.YtgbhnjkigjecmaaGreatDoor.Wd Go.Proofs.YtgbhnjkigjecmaaGreatDoor.Asc Go.Proofs.YtgbhnjkigjecmaaGreatDoor.Ad

theorem rparse_at (s : ByteArray) (hs : s.size ≤ 2147483640) (o : Option (List UInt8)) (hx : Ad.parseS (bs s) = o) : ∃ V : List UInt8, V.length = 16 ∧ (∀ a, o = some a → V = a) ∧
    ∀ w, Calls Tryz.prog 83 #[.string s] w fun e w' => e = .returned (.tuple #[.agg (Ad.cA V), .bool o.isSome]) ∧ Below w.heap.size w w' := by
  have h := fun w => Ad.rparse_any s w hs
  unfold Ad.RParPost at h
  rw [hx] at h
  cases o with
  | none => exact ⟨List.replicate 16 0, rfl, fun a e => (by cases e), h⟩
  | some a => exact ⟨a, Ad.parseS_len hx, fun b e => Option.some.inj e, h⟩
theorem last_is {L : List (List UInt8)} (h : L ≠ []) : L[L.length - 1]? = some (L.getLastD []) := by
  rw [← List.getLast?_eq_getElem?, List.getLast?_eq_some_getLast h, List.getLastD_eq_getLast?, List.getLast?_eq_some_getLast h]
  rfl
theorem OwnR.rowL {w : World} {B : Nat} {v : Value} {L : List (List UInt8)} (h : Ad.OwnR w B v L) (hn : L ≠ []) : RowL w v L := by
  obtain ⟨g, c, hv, _, hg, hc, hr⟩ := h.form hn
  exact ⟨g, c, hv, hc, hg, hr⟩

set_option linter.unusedSimpArgs false in
set_option maxRecDepth 100000 in
set_option maxHeartbeats 16000000 in
theorem rnorm_any (s : ByteArray) (w : World) (hs : s.size ≤ 2147483640) :
    Calls Tryz.prog 43 #[.string s] w fun e w' => e = resN (normalS (bs s)) ∧ Below w.heap.size w w' := by
  cases hx : Ad.parseS (bs s) with
  | some a =>
    obtain ⟨V, hV, hVa, hP⟩ := rparse_at s hs _ hx
    obtain rfl := hVa a rfl
    have HPa2 : Hid (∀ w, Calls Tryz.prog 83 #[.string s] w fun e w' => e = .returned (.tuple #[.agg (Ad.cA V), .bool true]) ∧ Below w.heap.size w w') := Lib.hid hP
    have HPr := Lib.hid (fun w => Ad.rprint_any V hV w)
    rw [normal_addr hx]
    generalize Ad.ctext V = T at *
    clear hP hx hVa
    go_enter Tryz.func43, Tryz.ntmps43
    go_wp2_with fail
    refine (HPa2.out _).mono ?_
    rintro e w2 ⟨rfl, hb⟩
    have HB1 := Lib.hid hb
    clear hb HPa2
    go_upto_region 2 with (refine St.go_st 72 (Blk.new _ _ _) Ad.info16 rfl (by rw [Ad.cA_size, hV]) (Ad.cA_one _) rfl rfl rfl rfl ?_)
    obtain ⟨hk, hbl⟩ := adr_new w2 V
    have HB2 := Lib.hid (HB1.out.trans (hbl.mono HB1.out.size))
    have HK := Lib.hid hk
    clear hk hbl HB1
    generalize (w2.alloc (.cells #[Value.int .u8 0, Value.int .u8 0, Value.int .u8 0, Value.int .u8 0, Value.int .u8 0, Value.int .u8 0, Value.int .u8 0, Value.int .u8 0, Value.int .u8 0, Value.int .u8 0, Value.int .u8 0, Value.int .u8 0, Value.int .u8 0, Value.int .u8 0, Value.int .u8 0, Value.int .u8 0] 72)).setRow w2.heap.size (Ad.cA V) = w3 at *
    generalize w2.heap.size = g at *
    have k3 := HK.out
    go_wp2_with (refine St.go_ld 72 k3 Ad.und16 rfl Ad.info16 (by rw [Ad.cA_size, hV]) rfl rfl rfl ?_)
    refine (HPr.out _).mono ?_
    rintro e w4 ⟨rfl, hb4⟩
    have HB4 := Lib.hid (HB2.out.trans (hb4.mono HB2.out.size))
    clear hb4 k3 HK HB2
    go_wp2_with fail
    go_ret2
    exact ⟨rfl, HB4.out⟩
  | none =>
    obtain ⟨V, hV, hVa, hP⟩ := rparse_at s hs _ hx
    clear hVa
    have HPa2 : Hid (∀ w, Calls Tryz.prog 83 #[.string s] w fun e w' => e = .returned (.tuple #[.agg (Ad.cA V), .bool false]) ∧ Below w.heap.size w w') := Lib.hid hP
    have HL := Lib.hid (fun w => rlowers_any s w (by omega))
    obtain ⟨l, hl⟩ : ∃ l, lowS s = l := ⟨_, rfl⟩
    have hlb : bs l = (bs s).map lowB := by rw [← hl]; rfl
    have hlz : l.size = s.size := by rw [← hl, low_size]
    rw [hl] at HL
    rw [normal_name hx, ← hlb]
    have hl9 : l.size ≤ 2147483640 := by omega
    clear hP hx hl hlb hlz
    go_enter Tryz.func43, Tryz.ntmps43
    go_wp2_with fail
    refine (HPa2.out _).mono ?_
    rintro e w2 ⟨rfl, hb⟩
    have HB1 := Lib.hid hb
    clear hb HPa2
    go_upto_region 2 with (refine St.go_st 72 (Blk.new _ _ _) Ad.info16 rfl (by rw [Ad.cA_size, hV]) (Ad.cA_one _) rfl rfl rfl rfl ?_)
    obtain ⟨_, hbl⟩ := adr_new w2 V
    have HB2 := Lib.hid (HB1.out.trans (hbl.mono HB1.out.size))
    clear hbl HB1
    generalize (w2.alloc (.cells #[Value.int .u8 0, Value.int .u8 0, Value.int .u8 0, Value.int .u8 0, Value.int .u8 0, Value.int .u8 0, Value.int .u8 0, Value.int .u8 0, Value.int .u8 0, Value.int .u8 0, Value.int .u8 0, Value.int .u8 0, Value.int .u8 0, Value.int .u8 0, Value.int .u8 0, Value.int .u8 0] 72)).setRow w2.heap.size (Ad.cA V) = w3 at *
    go_wp2_with fail
    refine (HL.out _).mono ?_
    rintro e w4 ⟨rfl, hb⟩
    have HB4 := Lib.hid (HB2.out.trans (hb.mono HB2.out.size))
    clear hb HL HB2 hs
    have hcut : ∃ X : ByteArray, Hid (bs X = trimS (bs l)) ∧ X.size ≤ l.size ∧ ((l.size = 0 ∧ X = l) ∨ ∃ m, ∃ hm : m < l.size, (l.size : Int) - 1 = (m : Int) ∧ ((((l[m]'hm).toNat : Int) == 46) = false ∧ X = l ∨ (((l[m]'hm).toNat : Int) == 46) = true ∧ l.extract 0 m = X)) := by
      by_cases h0 : l.size = 0
      · exact ⟨l, Lib.hid (by rw [bs_nil l h0]; rfl), Nat.le_refl _, .inl ⟨h0, rfl⟩⟩
      obtain ⟨m, hm⟩ : ∃ m, l.size = m + 1 := ⟨l.size - 1, by omega⟩
      have hml : m < l.size := by omega
      have hla : (bs l).getLast? = some (l[m]'hml) := by
        rw [List.getLast?_eq_getElem?, bs_length, show l.size - 1 = m by omega, List.getElem?_eq_getElem (by rw [bs_length]; exact hml)]
        exact congrArg some (bs_get l m hml)
      have e46 : (l[m]'hml = 46) ↔ ((l[m]'hml).toNat : Int) = 46 := ⟨fun h => by rw [h]; rfl, fun h => UInt8.toNat.inj (by show (l[m]'hml).toNat = 46; omega)⟩
      cases hd : (((l[m]'hml).toNat : Int) == 46)
      · refine ⟨l, Lib.hid ?_, Nat.le_refl _, .inr ⟨m, hml, by omega, .inl ⟨hd, rfl⟩⟩⟩
        unfold trimS
        rw [if_neg (by rw [hla, Option.some.injEq, e46]; exact beq_eq_false_iff_ne.1 hd)]
      · refine ⟨l.extract 0 m, Lib.hid ?_, ?_, .inr ⟨m, hml, by omega, .inr ⟨hd, rfl⟩⟩⟩
        · unfold trimS
          rw [if_pos (by rw [hla, Option.some.injEq, e46]; exact beq_iff_eq.1 hd), bs_extract, List.drop_zero, List.dropLast_eq_take, bs_length, hm]
          rfl
        · rw [← bs_length, bs_extract, List.length_take, List.length_drop, bs_length]; omega
    obtain ⟨X, HX, hXz, hXc⟩ := hcut
    have HXc := Lib.hid hXc
    clear hXc
    rcases HXc.out with ⟨hz, hXl⟩ | ⟨m, hml, hmi, ⟨hd, hXl⟩ | ⟨hd, hX⟩⟩
    · subst hXl
      have i0 : ¬ (0 : Int) < (X.size : Int) := by omega
      have i00 : ¬ 0 < X.size := by omega
      clear hz HXc
      go_upto_region 7 with fail
      clear i0 i00
      by_cases h0 : bs X = []
      · obtain ⟨e1, e2⟩ := is_empty h0
        have HQ : Hid (nameS (bs X) = ([], 8)) := Lib.hid (by rw [h0]; rfl)
        clear h0
        go_wp2_with fail
        go_ret2
        exact ⟨by rw [← HX.out, HQ.out]; rfl, HB4.out⟩
      obtain ⟨e1, e2⟩ := no_empty h0
      have H0 := Lib.hid h0
      clear h0
      by_cases h1 : 253 < X.size
      · have i1 : (253 : Int) < (X.size : Int) := by omega
        have HQ := Lib.hid (name_long H0.out (by rw [bs_length]; exact h1))
        clear h1
        go_wp2_with fail
        go_ret2
        exact ⟨by rw [← HX.out, HQ.out]; rfl, HB4.out⟩
      have i1 : ¬ (253 : Int) < (X.size : Int) := by omega
      have h1l : (bs X).length ≤ 253 := by rw [bs_length]; omega
      have HCu : Hid (∀ w, Calls Tryz.prog 39 #[.string X, .int .u8 46] w fun e w' => ∃ v, e = .returned v ∧ Ad.OwnR w' w.heap.size v (splitS 46 (bs X)) ∧ Below w.heap.size w w') := Lib.hid (fun w => Ad.rcut_any X 46 w (by omega))
      have hsz : ∀ p ∈ splitS 46 (bs X), p.length < 4294967281 := fun p hp => by
        have := spl_mem 46 (bs X) p hp
        omega
      have hlen := spl_len 46 (bs X)
      have hne := splitS_ne 46 (bs X)
      have hlast := last_is hne
      have HBad : Hid (∀ p ∈ splitS 46 (bs X), labS p = false → nameS (bs X) = ([], 9)) := Lib.hid (fun p hp h => name_bad H0.out h1l (.inl (List.all_eq_false.2 ⟨p, hp, by rw [h]; simp⟩)))
      have HDig : Hid (digS ((splitS 46 (bs X)).getLastD []) = true → nameS (bs X) = ([], 9)) := Lib.hid (fun h => name_bad H0.out h1l (.inr h))
      have HYes : Hid ((splitS 46 (bs X)).all labS = true → digS ((splitS 46 (bs X)).getLastD []) = false → nameS (bs X) = (bs X, 0)) := Lib.hid (fun h1 h2 => name_yes ⟨h1, h2⟩ h1l)
      obtain ⟨q, hq⟩ : ∃ q, (splitS 46 (bs X)).getLastD [] = q := ⟨_, rfl⟩
      rw [hq] at HDig HYes hlast
      clear hq
      obtain ⟨L, hL⟩ : ∃ L, splitS 46 (bs X) = L := ⟨_, rfl⟩
      obtain ⟨n, hn⟩ : ∃ n, L.length = n := ⟨_, rfl⟩
      rw [hL] at HCu hsz hlen hne hlast HBad HYes
      rw [hn] at hlen hlast
      have hn0 : 0 < n := by rw [← hn]; exact List.length_pos_iff.2 hne
      have hn9 : n ≤ 1000 := by omega
      have HN := Lib.hid hn
      have HZ := Lib.hid hsz
      have HLa := Lib.hid hlast
      have HNe := Lib.hid hne
      clear hsz hlen hne hlast hn hL h1l h1
      go_wp2_with fail
      refine (HCu.out _).mono ?_
      rintro e w5 ⟨v, rfl, hr, hb⟩
      obtain ⟨g, c, rfl, hc, hg, hcell⟩ := OwnR.rowL hr HNe.out
      rw [HN.out]
      have HB5 := Lib.hid (HB4.out.trans (hb.mono HB4.out.size))
      have HC := Lib.hid hcell
      clear hb hcell hc HCu hr hg HB4
      go_wp2_with fail
      go_loop [8] (fun x => ∃ k : Nat, x = .int .i64 (k : Int) ∧ k ≤ n ∧ Hid ((L.take k).all labS = true)) (fun x => n - (intOf x).toNat)
      case atStart => exact ⟨0, rfl, Nat.zero_le _, Lib.hid rfl⟩
      case round =>
        obtain ⟨k, rfl, hk, HA⟩ := hrel
        by_cases hlt : k < n
        · obtain ⟨p, hp⟩ : ∃ p, L[k]? = some p := ⟨_, List.getElem?_eq_getElem (by rw [HN.out]; exact hlt)⟩
          have hz := HZ.out p (List.mem_of_getElem? hp)
          obtain ⟨P, hP⟩ : ∃ P, str p = P := ⟨_, rfl⟩
          have hPz : P.size < 4294967281 := by rw [← hP, str_size]; exact hz
          have hcl : w5.cell? ⟨g, k, none⟩ = some (.string P) := by rw [← hP]; exact HC.out k p hp
          have hT := take_next hp
          have HK := Lib.hid (fun u => rlabel_any P u hPz)
          rw [show bs P = p by rw [← hP]; rfl] at HK
          have hki : (k : Int) < (n : Int) := by omega
          cases hm : labS p
          · rw [hm] at HK
            have HQ := Lib.hid (HBad.out p (List.mem_of_getElem? hp) hm)
            clear hm hT hz hP hPz hp
            go_wp2_with (go_at_call 85; refine (HK.out _).mono ?_; rintro e w6 ⟨rfl, rfl⟩)
            go_ret2
            exact ⟨by rw [← HX.out, HQ.out]; rfl, HB5.out⟩
          · rw [hm] at HK
            have HX2 : Hid ((L.take (k + 1)).all labS = true) := Lib.hid (by rw [hT, List.all_append, HA.out]; simpa using hm)
            clear hm hT hz hP hPz hp
            go_wp2_with (go_at_call 85; refine (HK.out _).mono ?_; rintro e w6 ⟨rfl, rfl⟩)
            go_round
            case rel => exact ⟨k + 1, by go_num, hlt, HX2⟩
            case measure => simp [intOf]; omega
        · obtain rfl : k = n := by omega
          have hal : L.all labS = true := by have h := HA.out; rwa [List.take_of_length_le (by rw [HN.out]; exact Nat.le_refl _)] at h
          obtain ⟨j, hj⟩ : ∃ j, k - 1 = j := ⟨_, rfl⟩
          have hji : (k : Int) - 1 = (j : Int) := by omega
          have hjl : j < k := by omega
          obtain ⟨P, hP⟩ : ∃ P, str q = P := ⟨_, rfl⟩
          have hqz := HZ.out q (List.mem_of_getElem? HLa.out)
          have hPz : P.size < 4294967281 := by rw [← hP, str_size]; exact hqz
          have hcl : w5.cell? ⟨g, j, none⟩ = some (.string P) := by rw [← hP]; exact HC.out j q (by rw [← hj]; exact HLa.out)
          have HK := Lib.hid (fun u => rdigits_any P u hPz)
          rw [show bs P = q by rw [← hP]; rfl] at HK
          clear hP hqz hPz hj HZ HLa HN HNe
          cases hd2 : digS q
          · rw [hd2] at HK
            have HQ := Lib.hid (HYes.out hal hd2)
            clear hal hd2
            go_wp2_with (go_at_call 86; refine (HK.out _).mono ?_; rintro e w6 ⟨rfl, rfl⟩)
            go_ret2
            exact ⟨by rw [← HX.out, HQ.out]; show _ = Ending.returned (.tuple #[.string (str (bs X)), .int .i64 0]); rw [str_bs]; rfl, HB5.out⟩
          · rw [hd2] at HK
            have HQ := Lib.hid (HDig.out hd2)
            clear hal hd2
            go_wp2_with (go_at_call 86; refine (HK.out _).mono ?_; rintro e w6 ⟨rfl, rfl⟩)
            go_ret2
            exact ⟨by rw [← HX.out, HQ.out]; rfl, HB5.out⟩
    · subst hXl
      have i0 : (0 : Int) < (X.size : Int) := by omega
      clear HXc
      go_upto_region 7 with fail
      clear i0 hd hmi
      by_cases h0 : bs X = []
      · obtain ⟨e1, e2⟩ := is_empty h0
        have HQ : Hid (nameS (bs X) = ([], 8)) := Lib.hid (by rw [h0]; rfl)
        clear h0
        go_wp2_with fail
        go_ret2
        exact ⟨by rw [← HX.out, HQ.out]; rfl, HB4.out⟩
      obtain ⟨e1, e2⟩ := no_empty h0
      have H0 := Lib.hid h0
      clear h0
      by_cases h1 : 253 < X.size
      · have i1 : (253 : Int) < (X.size : Int) := by omega
        have HQ := Lib.hid (name_long H0.out (by rw [bs_length]; exact h1))
        clear h1
        go_wp2_with fail
        go_ret2
        exact ⟨by rw [← HX.out, HQ.out]; rfl, HB4.out⟩
      have i1 : ¬ (253 : Int) < (X.size : Int) := by omega
      have h1l : (bs X).length ≤ 253 := by rw [bs_length]; omega
      have HCu : Hid (∀ w, Calls Tryz.prog 39 #[.string X, .int .u8 46] w fun e w' => ∃ v, e = .returned v ∧ Ad.OwnR w' w.heap.size v (splitS 46 (bs X)) ∧ Below w.heap.size w w') := Lib.hid (fun w => Ad.rcut_any X 46 w (by omega))
      have hsz : ∀ p ∈ splitS 46 (bs X), p.length < 4294967281 := fun p hp => by
        have := spl_mem 46 (bs X) p hp
        omega
      have hlen := spl_len 46 (bs X)
      have hne := splitS_ne 46 (bs X)
      have hlast := last_is hne
      have HBad : Hid (∀ p ∈ splitS 46 (bs X), labS p = false → nameS (bs X) = ([], 9)) := Lib.hid (fun p hp h => name_bad H0.out h1l (.inl (List.all_eq_false.2 ⟨p, hp, by rw [h]; simp⟩)))
      have HDig : Hid (digS ((splitS 46 (bs X)).getLastD []) = true → nameS (bs X) = ([], 9)) := Lib.hid (fun h => name_bad H0.out h1l (.inr h))
      have HYes : Hid ((splitS 46 (bs X)).all labS = true → digS ((splitS 46 (bs X)).getLastD []) = false → nameS (bs X) = (bs X, 0)) := Lib.hid (fun h1 h2 => name_yes ⟨h1, h2⟩ h1l)
      obtain ⟨q, hq⟩ : ∃ q, (splitS 46 (bs X)).getLastD [] = q := ⟨_, rfl⟩
      rw [hq] at HDig HYes hlast
      clear hq
      obtain ⟨L, hL⟩ : ∃ L, splitS 46 (bs X) = L := ⟨_, rfl⟩
      obtain ⟨n, hn⟩ : ∃ n, L.length = n := ⟨_, rfl⟩
      rw [hL] at HCu hsz hlen hne hlast HBad HYes
      rw [hn] at hlen hlast
      have hn0 : 0 < n := by rw [← hn]; exact List.length_pos_iff.2 hne
      have hn9 : n ≤ 1000 := by omega
      have HN := Lib.hid hn
      have HZ := Lib.hid hsz
      have HLa := Lib.hid hlast
      have HNe := Lib.hid hne
      clear hsz hlen hne hlast hn hL h1l h1
      go_wp2_with fail
      refine (HCu.out _).mono ?_
      rintro e w5 ⟨v, rfl, hr, hb⟩
      obtain ⟨g, c, rfl, hc, hg, hcell⟩ := OwnR.rowL hr HNe.out
      rw [HN.out]
      have HB5 := Lib.hid (HB4.out.trans (hb.mono HB4.out.size))
      have HC := Lib.hid hcell
      clear hb hcell hc HCu hr hg HB4
      go_wp2_with fail
      go_loop [8] (fun x => ∃ k : Nat, x = .int .i64 (k : Int) ∧ k ≤ n ∧ Hid ((L.take k).all labS = true)) (fun x => n - (intOf x).toNat)
      case atStart => exact ⟨0, rfl, Nat.zero_le _, Lib.hid rfl⟩
      case round =>
        obtain ⟨k, rfl, hk, HA⟩ := hrel
        by_cases hlt : k < n
        · obtain ⟨p, hp⟩ : ∃ p, L[k]? = some p := ⟨_, List.getElem?_eq_getElem (by rw [HN.out]; exact hlt)⟩
          have hz := HZ.out p (List.mem_of_getElem? hp)
          obtain ⟨P, hP⟩ : ∃ P, str p = P := ⟨_, rfl⟩
          have hPz : P.size < 4294967281 := by rw [← hP, str_size]; exact hz
          have hcl : w5.cell? ⟨g, k, none⟩ = some (.string P) := by rw [← hP]; exact HC.out k p hp
          have hT := take_next hp
          have HK := Lib.hid (fun u => rlabel_any P u hPz)
          rw [show bs P = p by rw [← hP]; rfl] at HK
          have hki : (k : Int) < (n : Int) := by omega
          cases hm : labS p
          · rw [hm] at HK
            have HQ := Lib.hid (HBad.out p (List.mem_of_getElem? hp) hm)
            clear hm hT hz hP hPz hp
            go_wp2_with (go_at_call 85; refine (HK.out _).mono ?_; rintro e w6 ⟨rfl, rfl⟩)
            go_ret2
            exact ⟨by rw [← HX.out, HQ.out]; rfl, HB5.out⟩
          · rw [hm] at HK
            have HX2 : Hid ((L.take (k + 1)).all labS = true) := Lib.hid (by rw [hT, List.all_append, HA.out]; simpa using hm)
            clear hm hT hz hP hPz hp
            go_wp2_with (go_at_call 85; refine (HK.out _).mono ?_; rintro e w6 ⟨rfl, rfl⟩)
            go_round
            case rel => exact ⟨k + 1, by go_num, hlt, HX2⟩
            case measure => simp [intOf]; omega
        · obtain rfl : k = n := by omega
          have hal : L.all labS = true := by have h := HA.out; rwa [List.take_of_length_le (by rw [HN.out]; exact Nat.le_refl _)] at h
          obtain ⟨j, hj⟩ : ∃ j, k - 1 = j := ⟨_, rfl⟩
          have hji : (k : Int) - 1 = (j : Int) := by omega
          have hjl : j < k := by omega
          obtain ⟨P, hP⟩ : ∃ P, str q = P := ⟨_, rfl⟩
          have hqz := HZ.out q (List.mem_of_getElem? HLa.out)
          have hPz : P.size < 4294967281 := by rw [← hP, str_size]; exact hqz
          have hcl : w5.cell? ⟨g, j, none⟩ = some (.string P) := by rw [← hP]; exact HC.out j q (by rw [← hj]; exact HLa.out)
          have HK := Lib.hid (fun u => rdigits_any P u hPz)
          rw [show bs P = q by rw [← hP]; rfl] at HK
          clear hP hqz hPz hj HZ HLa HN HNe
          cases hd2 : digS q
          · rw [hd2] at HK
            have HQ := Lib.hid (HYes.out hal hd2)
            clear hal hd2
            go_wp2_with (go_at_call 86; refine (HK.out _).mono ?_; rintro e w6 ⟨rfl, rfl⟩)
            go_ret2
            exact ⟨by rw [← HX.out, HQ.out]; show _ = Ending.returned (.tuple #[.string (str (bs X)), .int .i64 0]); rw [str_bs]; rfl, HB5.out⟩
          · rw [hd2] at HK
            have HQ := Lib.hid (HDig.out hd2)
            clear hal hd2
            go_wp2_with (go_at_call 86; refine (HK.out _).mono ?_; rintro e w6 ⟨rfl, rfl⟩)
            go_ret2
            exact ⟨by rw [← HX.out, HQ.out]; rfl, HB5.out⟩
    · have i0 : (0 : Int) < (l.size : Int) := by omega
      clear HXc
      go_upto_region 7 with fail
      clear i0 hd hmi hX
      by_cases h0 : bs X = []
      · obtain ⟨e1, e2⟩ := is_empty h0
        have HQ : Hid (nameS (bs X) = ([], 8)) := Lib.hid (by rw [h0]; rfl)
        clear h0
        go_wp2_with fail
        go_ret2
        exact ⟨by rw [← HX.out, HQ.out]; rfl, HB4.out⟩
      obtain ⟨e1, e2⟩ := no_empty h0
      have H0 := Lib.hid h0
      clear h0
      by_cases h1 : 253 < X.size
      · have i1 : (253 : Int) < (X.size : Int) := by omega
        have HQ := Lib.hid (name_long H0.out (by rw [bs_length]; exact h1))
        clear h1
        go_wp2_with fail
        go_ret2
        exact ⟨by rw [← HX.out, HQ.out]; rfl, HB4.out⟩
      have i1 : ¬ (253 : Int) < (X.size : Int) := by omega
      have h1l : (bs X).length ≤ 253 := by rw [bs_length]; omega
      have HCu : Hid (∀ w, Calls Tryz.prog 39 #[.string X, .int .u8 46] w fun e w' => ∃ v, e = .returned v ∧ Ad.OwnR w' w.heap.size v (splitS 46 (bs X)) ∧ Below w.heap.size w w') := Lib.hid (fun w => Ad.rcut_any X 46 w (by omega))
      have hsz : ∀ p ∈ splitS 46 (bs X), p.length < 4294967281 := fun p hp => by
        have := spl_mem 46 (bs X) p hp
        omega
      have hlen := spl_len 46 (bs X)
      have hne := splitS_ne 46 (bs X)
      have hlast := last_is hne
      have HBad : Hid (∀ p ∈ splitS 46 (bs X), labS p = false → nameS (bs X) = ([], 9)) := Lib.hid (fun p hp h => name_bad H0.out h1l (.inl (List.all_eq_false.2 ⟨p, hp, by rw [h]; simp⟩)))
      have HDig : Hid (digS ((splitS 46 (bs X)).getLastD []) = true → nameS (bs X) = ([], 9)) := Lib.hid (fun h => name_bad H0.out h1l (.inr h))
      have HYes : Hid ((splitS 46 (bs X)).all labS = true → digS ((splitS 46 (bs X)).getLastD []) = false → nameS (bs X) = (bs X, 0)) := Lib.hid (fun h1 h2 => name_yes ⟨h1, h2⟩ h1l)
      obtain ⟨q, hq⟩ : ∃ q, (splitS 46 (bs X)).getLastD [] = q := ⟨_, rfl⟩
      rw [hq] at HDig HYes hlast
      clear hq
      obtain ⟨L, hL⟩ : ∃ L, splitS 46 (bs X) = L := ⟨_, rfl⟩
      obtain ⟨n, hn⟩ : ∃ n, L.length = n := ⟨_, rfl⟩
      rw [hL] at HCu hsz hlen hne hlast HBad HYes
      rw [hn] at hlen hlast
      have hn0 : 0 < n := by rw [← hn]; exact List.length_pos_iff.2 hne
      have hn9 : n ≤ 1000 := by omega
      have HN := Lib.hid hn
      have HZ := Lib.hid hsz
      have HLa := Lib.hid hlast
      have HNe := Lib.hid hne
      clear hsz hlen hne hlast hn hL h1l h1
      go_wp2_with fail
      refine (HCu.out _).mono ?_
      rintro e w5 ⟨v, rfl, hr, hb⟩
      obtain ⟨g, c, rfl, hc, hg, hcell⟩ := OwnR.rowL hr HNe.out
      rw [HN.out]
      have HB5 := Lib.hid (HB4.out.trans (hb.mono HB4.out.size))
      have HC := Lib.hid hcell
      clear hb hcell hc HCu hr hg HB4
      go_wp2_with fail
      go_loop [8] (fun x => ∃ k : Nat, x = .int .i64 (k : Int) ∧ k ≤ n ∧ Hid ((L.take k).all labS = true)) (fun x => n - (intOf x).toNat)
      case atStart => exact ⟨0, rfl, Nat.zero_le _, Lib.hid rfl⟩
      case round =>
        obtain ⟨k, rfl, hk, HA⟩ := hrel
        by_cases hlt : k < n
        · obtain ⟨p, hp⟩ : ∃ p, L[k]? = some p := ⟨_, List.getElem?_eq_getElem (by rw [HN.out]; exact hlt)⟩
          have hz := HZ.out p (List.mem_of_getElem? hp)
          obtain ⟨P, hP⟩ : ∃ P, str p = P := ⟨_, rfl⟩
          have hPz : P.size < 4294967281 := by rw [← hP, str_size]; exact hz
          have hcl : w5.cell? ⟨g, k, none⟩ = some (.string P) := by rw [← hP]; exact HC.out k p hp
          have hT := take_next hp
          have HK := Lib.hid (fun u => rlabel_any P u hPz)
          rw [show bs P = p by rw [← hP]; rfl] at HK
          have hki : (k : Int) < (n : Int) := by omega
          cases hm : labS p
          · rw [hm] at HK
            have HQ := Lib.hid (HBad.out p (List.mem_of_getElem? hp) hm)
            clear hm hT hz hP hPz hp
            go_wp2_with (go_at_call 85; refine (HK.out _).mono ?_; rintro e w6 ⟨rfl, rfl⟩)
            go_ret2
            exact ⟨by rw [← HX.out, HQ.out]; rfl, HB5.out⟩
          · rw [hm] at HK
            have HX2 : Hid ((L.take (k + 1)).all labS = true) := Lib.hid (by rw [hT, List.all_append, HA.out]; simpa using hm)
            clear hm hT hz hP hPz hp
            go_wp2_with (go_at_call 85; refine (HK.out _).mono ?_; rintro e w6 ⟨rfl, rfl⟩)
            go_round
            case rel => exact ⟨k + 1, by go_num, hlt, HX2⟩
            case measure => simp [intOf]; omega
        · obtain rfl : k = n := by omega
          have hal : L.all labS = true := by have h := HA.out; rwa [List.take_of_length_le (by rw [HN.out]; exact Nat.le_refl _)] at h
          obtain ⟨j, hj⟩ : ∃ j, k - 1 = j := ⟨_, rfl⟩
          have hji : (k : Int) - 1 = (j : Int) := by omega
          have hjl : j < k := by omega
          obtain ⟨P, hP⟩ : ∃ P, str q = P := ⟨_, rfl⟩
          have hqz := HZ.out q (List.mem_of_getElem? HLa.out)
          have hPz : P.size < 4294967281 := by rw [← hP, str_size]; exact hqz
          have hcl : w5.cell? ⟨g, j, none⟩ = some (.string P) := by rw [← hP]; exact HC.out j q (by rw [← hj]; exact HLa.out)
          have HK := Lib.hid (fun u => rdigits_any P u hPz)
          rw [show bs P = q by rw [← hP]; rfl] at HK
          clear hP hqz hPz hj HZ HLa HN HNe
          cases hd2 : digS q
          · rw [hd2] at HK
            have HQ := Lib.hid (HYes.out hal hd2)
            clear hal hd2
            go_wp2_with (go_at_call 86; refine (HK.out _).mono ?_; rintro e w6 ⟨rfl, rfl⟩)
            go_ret2
            exact ⟨by rw [← HX.out, HQ.out]; show _ = Ending.returned (.tuple #[.string (str (bs X)), .int .i64 0]); rw [str_bs]; rfl, HB5.out⟩
          · rw [hd2] at HK
            have HQ := Lib.hid (HDig.out hd2)
            clear hal hd2
            go_wp2_with (go_at_call 86; refine (HK.out _).mono ?_; rintro e w6 ⟨rfl, rfl⟩)
            go_ret2
            exact ⟨by rw [← HX.out, HQ.out]; rfl, HB5.out⟩

end Go.Proofs.YtgbhnjkigjecmaaGreatDoor.Nm
