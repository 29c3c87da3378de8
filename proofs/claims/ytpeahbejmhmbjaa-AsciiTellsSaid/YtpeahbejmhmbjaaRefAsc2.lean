/-
  Contracts of hagioscoperef02's Trim and Lower: what they answer is what the contracts of package ascii say.
-/
import Derived.Test.YtpeahbejmhmbjaaRefAsc
namespace Go.Proofs.Ytpeahbejmhmbjaa.Asc
open Go.RowKit Go.Proofs.Ytpeahbejmhmbjaa.Wd

theorem blk_is {c : UInt8} (h : ((c.toNat : Int) == 32) = true ∨ ((c.toNat : Int) == 9) = true) : blkB c = true := by
  simp only [blkB, blkI, decide_eq_true_eq]
  simpa using h

set_option maxHeartbeats 2000000 in
theorem rtrim_any (s : ByteArray) (w : World) (hs : s.size ≤ 140737488355328) :
    Calls Try.prog 18 #[.string s] w fun e w' => e = .returned (.string (trimS s)) ∧ w = w' := by
  go_enter Try.func18, Try.ntmps18
  go_wp2
  go_loop [3] (fun x => ∃ k : Nat, x = .int .i64 k ∧ k ≤ s.size ∧ ((bs s).take k).all blkB = true) (fun x => s.size - (intOf x).toNat)
  case atStart => exact ⟨0, rfl, Nat.zero_le _, rfl⟩
  case round =>
    obtain ⟨k, rfl, hk, ht⟩ := hrel
    have HT := Lib.hid ht
    clear ht
    by_cases hp : k < s.size
    · cases c1 : (((s[k]'hp).toNat : Int) == 32)
      · cases c2 : (((s[k]'hp).toNat : Int) == 9)
        · have HC : Hid (blkB (s[k]'hp) = false) := Lib.hid (by simp only [blkB, blkI, decide_eq_false_iff_not]; simpa using And.intro c1 c2)
          go_wp2
          go_loop [4] (fun x => ∃ t : Nat, x = .int .i64 t ∧ k ≤ t ∧ t ≤ s.size ∧ ((bs s).drop t).all blkB = true) (fun x => (intOf x).toNat)
          case atStart => exact ⟨s.size, rfl, hk, Nat.le_refl _, blk_end s⟩
          case round =>
            obtain ⟨t, rfl, hpt, hts, hbl⟩ := hrel
            have HBL := Lib.hid hbl
            clear hbl c1 c2
            by_cases hlt : k < t
            · obtain ⟨q, rfl⟩ : ∃ q, t = q + 1 := ⟨t - 1, by omega⟩
              have hq : q < s.size := by omega
              cases d1 : (((s[q]'hq).toNat : Int) == 32)
              · cases d2 : (((s[q]'hq).toNat : Int) == 9)
                · have HD : Hid (blkB (s[q]'hq) = false) := Lib.hid (by simp only [blkB, blkI, decide_eq_false_iff_not]; simpa using And.intro d1 d2)
                  go_wp2
                  go_ret
                  exact ⟨ret_s (by have hx := trim_is s k (q + 1) hpt hts HT.out (fun _ => HC.out) HBL.out (fun _ => HD.out); rw [← hx]), rfl⟩
                · have HD := Lib.hid (blk_is (.inr d2))
                  go_wp2
                  go_round
                  case rel => exact ⟨q, by go_num, by omega, by omega, blk_drop s q hq HBL.out HD.out⟩
                  case measure => simp [intOf]
              · have HD := Lib.hid (blk_is (.inl d1))
                go_wp2
                go_round
                case rel => exact ⟨q, by go_num, by omega, by omega, blk_drop s q hq HBL.out HD.out⟩
                case measure => simp [intOf]
            · go_wp2
              go_ret
              exact ⟨ret_s (by have hx := trim_is s k t hpt hts HT.out (fun _ => HC.out) HBL.out (fun h => absurd h hlt); rw [← hx]), rfl⟩
        · have HC := Lib.hid (blk_is (.inr c2))
          go_wp2
          go_round
          case rel => exact ⟨k + 1, by go_num, hp, blk_take s k hp HT.out HC.out⟩
          case measure => simp [intOf]; omega
      · have HC := Lib.hid (blk_is (.inl c1))
        go_wp2
        go_round
        case rel => exact ⟨k + 1, by go_num, hp, blk_take s k hp HT.out HC.out⟩
        case measure => simp [intOf]; omega
    · obtain rfl : k = s.size := by omega
      go_wp2
      go_loop [4] (fun x => ∃ t : Nat, x = .int .i64 t ∧ s.size ≤ t ∧ t ≤ s.size ∧ ((bs s).drop t).all blkB = true) (fun x => (intOf x).toNat)
      case atStart => exact ⟨s.size, rfl, Nat.le_refl _, Nat.le_refl _, blk_end s⟩
      case round =>
        obtain ⟨t, rfl, hpt, hts, hbl⟩ := hrel
        have HBL := Lib.hid hbl
        clear hbl
        have hlt : ¬ s.size < t := by omega
        go_wp2
        go_ret
        exact ⟨ret_s (by have hx := trim_is s s.size t hpt hts HT.out (fun h => absurd h (by omega)) HBL.out (fun h => absurd h hlt); rw [← hx]), rfl⟩

def LowAt (s : ByteArray) (w : World) (x : Value) (w' : World) : Prop :=
  ∃ (k : Nat) (w1 : World), w1 = w' ∧ x = .int .i64 k ∧ k ≤ s.size ∧ Row w1 w.heap.size (lowPre (bs s) k) ∧ Below w.heap.size w w1

set_option maxHeartbeats 2000000 in
theorem rlowers_any (s : ByteArray) (w : World) (hs : s.size ≤ 140737488355328) :
    Calls Try.prog 10 #[.string s] w fun e w' => e = .returned (.string (lowS s)) ∧ Below w.heap.size w w' := by
  obtain ⟨cap, w0, hcv, hsz, hrow, hbel, hcap⟩ := bytes_of w s
  clear hsz
  go_enter Try.func10, Try.ntmps10
  go_wp2
  clear hcv
  go_loopw [4] (fun x w' => LowAt s w x w') (fun x _ => s.size - (intOf x).toNat)
  case atStart => exact ⟨0, _, rfl, rfl, Nat.zero_le _, hrow, hbel⟩
  case round =>
    obtain ⟨k, w1, rfl, rfl, hle, hrow1, hbel1⟩ := hrel
    by_cases hp : k < s.size
    · have hcell : w1.cell? ⟨w.heap.size, k, none⟩ = some (.int .u8 ((s[k]'hp).toNat : Int)) := hrow1.cell (lowPre_at (bs s) k hp)
      have hfr : w1.frozen? ⟨w.heap.size, k, none⟩ = false := hrow1.frozen (by rw [lowPre_length]; exact hp)
      go_wp2_with (go_at_call 24; refine (rlower_any _ _).mono ?_; rintro e w' ⟨rfl, rfl⟩)
      go_roundw
      case rel => exact ⟨k + 1, _, rfl, by go_num, hp, by rw [lowPre_next (bs s) k hp]; exact hrow1.set_ k _, hbel1.setCell (Nat.le_refl _) _⟩
      case measure => simp [intOf]; omega
    · have kc : (convert 34 9 (.slice (some ⟨w.heap.size, 0, none⟩) s.size cap)).run Try.prog w1 = .ok (.string (lowS s)) w1 := by
        have h := conv (c := cap) hrow1.src
        rw [lowPre_length, bs_length, lowPre_all _ _ (by rw [bs_length]; omega)] at h
        exact h
      go_wp2
      go_ret
      exact ⟨rfl, hbel1⟩
end Go.Proofs.Ytpeahbejmhmbjaa.Asc
