/-
  Contract of hagioscoperef02's Visible over this seat's translation (XRefAsc's, for seats without the rest).
-/
import Derived.Test.YtgpgkfbbpiialaaGreatDoorMAsc
namespace Go.Proofs.YtgpgkfbbpiialaaGreatDoor.Asc
open Go.RowKit Go.Proofs.YtgpgkfbbpiialaaGreatDoor.Wd

set_option maxHeartbeats 1000000 in
theorem rvisible_any (s : ByteArray) (w : World) (hs : s.size ≤ maxLen) :
    Calls Tryz.prog 44 #[.string s] w fun e w' => e = .returned (.bool (allS visI (bs s))) ∧ w = w' := by
  unfold maxLen at hs
  go_enter Tryz.func44, Tryz.ntmps44
  go_wp2
  go_loop [3] (fun x => ∃ k : Nat, x = .int .i64 k ∧ k ≤ s.size ∧ ((bs s).take k).all (fun c => visI (c.toNat : Int)) = true) (fun x => s.size - (intOf x).toNat)
  case atStart => exact ⟨0, rfl, Nat.zero_le _, rfl⟩
  case round =>
    obtain ⟨k, rfl, hk, ht⟩ := hrel
    have HT := Lib.hid ht
    clear ht
    by_cases hlt : k < s.size
    · by_cases c1 : ((s[k]'hlt).toNat : Int) < 33
      · go_wp2
        go_ret
        exact ⟨ret_b (allS_no visI s k hlt (by simp [visI]; omega)).symm, rfl⟩
      · by_cases c2 : 126 < ((s[k]'hlt).toNat : Int)
        · go_wp2
          go_ret
          exact ⟨ret_b (allS_no visI s k hlt (by simp [visI]; omega)).symm, rfl⟩
        · go_wp2
          go_round
          case rel => exact ⟨k + 1, by go_num, hlt, take_all visI s k hlt HT.out (by simp [visI]; omega)⟩
          case measure => simp [intOf]; omega
    · go_wp2
      go_ret
      exact ⟨ret_b (allS_nil visI s k hlt hk HT.out), rfl⟩

end Go.Proofs.YtgpgkfbbpiialaaGreatDoor.Asc
