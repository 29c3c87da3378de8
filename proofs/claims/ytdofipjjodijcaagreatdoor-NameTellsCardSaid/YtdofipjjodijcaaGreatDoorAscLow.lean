/-
  Contracts of package ascii's Lower and Same.
-/
import Derived.Test.YtdofipjjodijcaaGreatDoorAscRow
namespace Go.Proofs.YtdofipjjodijcaaGreatDoor.Asc
open Go.RowKit Go.Proofs.YtdofipjjodijcaaGreatDoor.Wd

def LowIn (s : ByteArray) (w : World) (N : Nat) (w' : World) : Prop :=
  ∃ pos w1, w' = w1.iter s pos ∧ w1.heap.size = N ∧ Row w1 w.heap.size (lowPre (bs s) pos) ∧ pos ≤ s.size ∧ Below w.heap.size w w1

theorem conv {w : World} {A : Option Addr} {n c : Nat} {xs : List UInt8} (h : Src w A n xs) : (convert 30 9 (.slice A n c)).run Tryz.prog w = .ok (.string ⟨xs.toArray⟩) w :=
  conv_src h Tryz.underlying30 Tryz.underlying5 Tryz.underlying9

set_option maxHeartbeats 1000000 in
theorem lower_any (s : ByteArray) (w : World) :
    Calls Tryz.prog 13 #[.string s] w fun e w' => e = .returned (.string (lowS s)) ∧ Below w.heap.size w w' := by
  obtain ⟨cap, w0, hcv, hsz, hrow, hbel, hcap⟩ := bytes_of w s
  have HZ := Lib.hid hsz
  have hgN : w.heap.size < w0.heap.size := by omega
  clear hsz
  go_enter Tryz.func13, Tryz.ntmps13
  go_wp2
  clear hcv
  go_loopw [4] (fun _ w' => LowIn s w w0.heap.size w') (fun _ w' => s.size - w'.iterPos w0.heap.size)
  case atStart => exact ⟨0, w0, rfl, rfl, hrow, Nat.zero_le _, hbel⟩
  case round =>
    obtain ⟨pos, w1, rfl, hz1, hrow1, hle, hbel1⟩ := hrel
    have HZ1 := Lib.hid hz1
    clear hz1
    by_cases hp : pos < s.size
    · by_cases ha : (s[pos]'hp).toNat < 128
      · have hnx : ∀ ty, (Instr.next (.pointer (some ⟨w0.heap.size, 0, none⟩)) true ty).run Tryz.prog (w1.iter s pos) = .ok (.tuple #[.bool true, .int .i64 pos, .int .i32 (s[pos]'hp).toNat]) (w1.iter s (pos + 1)) := fun ty => by
          have := run_next_ascii (P := Tryz.prog) w1 s pos ty hp ha
          rw [HZ1.out] at this; exact this
        by_cases hc : 65 ≤ (s[pos]'hp).toNat ∧ (s[pos]'hp).toNat ≤ 90
        · obtain ⟨hc1, hc2⟩ := hc
          have hi1 : (65 : Int) ≤ ((s[pos]'hp).toNat : Int) := by omega
          have hi2 : ((s[pos]'hp).toNat : Int) ≤ 90 := by omega
          have hcell : (w1.iter s (pos + 1)).cell? ⟨w.heap.size, pos, none⟩ = some (.int .u8 ((s[pos]'hp).toNat : Int)) := (hrow1.alloc _).cell (lowPre_at (bs s) pos hp)
          have hfr : (w1.iter s (pos + 1)).frozen? ⟨w.heap.size, pos, none⟩ = false := (hrow1.alloc _).frozen (by rw [lowPre_length]; exact hp)
          go_wp2
          go_roundw
          case rel =>
            refine ⟨pos + 1, w1.setCell ⟨w.heap.size, pos, none⟩ (b8 (lowB (s[pos]'hp))), ?_, by rw [size_set]; exact HZ1.out, ?_, hp, hbel1.setCell (Nat.le_refl _) _⟩
            · rw [← iter_setCell w1 s (pos + 1) _ _ hrow1.lt, b8, lowB_great _ hc1 hc2]
              rfl
            · rw [lowPre_next (bs s) pos hp]
              exact hrow1.set_ pos _
          case measure =>
            rw [iter_setCell _ _ _ _ _ hrow1.lt, iterPos_of (by rw [size_set]; exact HZ1.out), iterPos_of HZ1.out]
            omega
        · have hsame := Lib.hid (lowPre_same (bs s) pos hp (lowB_high _ hc))
          by_cases hc1 : 65 ≤ (s[pos]'hp).toNat
          · have hi1 : (65 : Int) ≤ ((s[pos]'hp).toNat : Int) := by omega
            have hi2 : ¬ ((s[pos]'hp).toNat : Int) ≤ 90 := by omega
            clear hc
            go_wp2
            go_roundw
            case rel => exact ⟨pos + 1, w1, rfl, HZ1.out, by rw [hsame.out]; exact hrow1, hp, hbel1⟩
            case measure => rw [iterPos_of HZ1.out, iterPos_of HZ1.out]; omega
          · have hi1 : ¬ (65 : Int) ≤ ((s[pos]'hp).toNat : Int) := by omega
            clear hc
            go_wp2
            go_roundw
            case rel => exact ⟨pos + 1, w1, rfl, HZ1.out, by rw [hsame.out]; exact hrow1, hp, hbel1⟩
            case measure => rw [iterPos_of HZ1.out, iterPos_of HZ1.out]; omega
      · have hnx : ∀ ty, (Instr.next (.pointer (some ⟨w0.heap.size, 0, none⟩)) true ty).run Tryz.prog (w1.iter s pos) = .ok (.tuple #[.bool true, .int .i64 pos, .int .i32 (Utf8.decode s pos).1]) (w1.iter s (pos + (Utf8.decode s pos).2)) := fun ty => by
          have := run_next_any (P := Tryz.prog) w1 s pos ty hp
          rw [HZ1.out] at this; exact this
        obtain ⟨hd1, hd2⟩ := decode_high s pos hp (by omega)
        obtain ⟨hw1, hw2⟩ := wide_high s pos hp (by omega)
        have hsame := Lib.hid (lowPre_skip (bs s) pos (Utf8.decode s pos).2 (by rw [bs_length]; exact hw1) (fun j hj h1 h2 => lowB_high _ (by
          have h3 := hw2 (j - pos) (by omega)
          rw [show pos + (j - pos) = j by omega, get_eq s j hj] at h3
          show ¬ (65 ≤ (s[j]'hj).toNat ∧ (s[j]'hj).toNat ≤ 90)
          omega)))
        have hi1 : (65 : Int) ≤ ((Utf8.decode s pos).1 : Int) := by omega
        have hi2 : ¬ ((Utf8.decode s pos).1 : Int) ≤ 90 := by omega
        clear hw2
        go_wp2
        go_roundw
        case rel => exact ⟨_, w1, rfl, HZ1.out, by rw [hsame.out]; exact hrow1, hw1, hbel1⟩
        case measure => rw [iterPos_of HZ1.out, iterPos_of HZ1.out]; omega
    · have hnx : ∀ ty, (Instr.next (.pointer (some ⟨w0.heap.size, 0, none⟩)) true ty).run Tryz.prog (w1.iter s pos) = .ok (.tuple #[.bool false]) (w1.iter s pos) := fun ty => by
        have := run_next_end (P := Tryz.prog) w1 s pos ty hp
        rw [HZ1.out] at this; exact this
      have kc : (convert 30 9 (.slice (some ⟨w.heap.size, 0, none⟩) s.size cap)).run Tryz.prog (w1.iter s pos) = .ok (.string (lowS s)) (w1.iter s pos) := by
        have h := conv (c := cap) ((hrow1.alloc (.stringIter s pos)).src)
        rw [lowPre_length, bs_length, lowPre_all _ _ (by rw [bs_length]; omega)] at h
        exact h
      go_wp2
      go_ret
      exact ⟨rfl, hbel1.alloc hbel1.size _⟩

def sameS (a b : ByteArray) : Bool := (bs a).map lowB == (bs b).map lowB
end Go.Proofs.YtdofipjjodijcaaGreatDoor.Asc
