/-
  Contracts of package exts' PutName, PutProtocols and PutVersions over this seat's translation.
-/
import Derived.Test.YtajmdchidmamcaaExLyP
import Derived.Test.YtajmdchidmamcaaExLyN
import Derived.Test.YtajmdchidmamcaaExLyV
namespace Go.Proofs.Ytajmdchidmamcaa.Ex
open Go.RowKit Go.Proofs.Ytajmdchidmamcaa.Wd Go.Proofs.Ytajmdchidmamcaa.Be Go.Proofs.Ytajmdchidmamcaa.He Go.Proofs.Ytajmdchidmamcaa.Ro

theorem cl1 : clampI 1 = ((1 : Nat) : Int) := by decide
theorem cl2 : clampI 2 = ((2 : Nat) : Int) := by decide

set_option maxHeartbeats 400000 in
theorem pname_any (x : List UInt8) (w : World) : Calls Try.prog 18 #[.string (str8 x)] w (ItemP (layS putN 2 [x]) w) := by
  have hC : (#[.string (str8 x)] : Array Value) = (Ro.flat elS [x]).toArray := by rw [Ro.flat_one]; rfl
  have HS := Lib.hid (SrcE.new fineS w [x] #[.string (str8 x)] hC 9)
  have HB := Lib.hid ((Below.refl w.heap.size w).alloc (Nat.le_refl _) (.cells #[.string (str8 x)] 9))
  clear hC
  go_enter Try.func18, Try.ntmps18
  go_wp2_with fail
  refine (lyN_any (some ⟨w.heap.size, 0, none⟩) 1 1 2 2 [x] _ HS.out rfl (by omega) cl2 (by omega)).mono ?_
  rintro e w1 ⟨A, n, c, rfl, hs, hnc, hb⟩
  have HS1 := Lib.hid hs
  have HB1 := Lib.hid (HB.out.trans (hb.mono HB.out.size))
  clear hs hb HS HB
  generalize layS putN 2 [x] = p at *
  go_wp2_with fail
  go_ret2
  exact ⟨A, n, c, rfl, HS1.out, hnc, HB1.out⟩

set_option maxHeartbeats 400000 in
theorem pprotos_any (A : Option Addr) (n c : Nat) (l : List (List UInt8)) (w : World) (hs : SrcE w elS A l) (hl : l.length = n) (hn : n ≤ 140737488355328) (hok : ∀ x ∈ l, x.length ≤ 9223372036854775807) :
    Calls Try.prog 20 #[.slice A n c] w (ItemP (layS putP 2 l) w) := by
  go_enter Try.func20, Try.ntmps20
  go_wp2_with fail
  refine (lyP_any A n c 2 2 l _ hs hl hn hok cl2 (by omega)).mono ?_
  rintro e w1 ⟨A, n, c, rfl, hs, hnc, hb⟩
  have HS1 := Lib.hid hs
  clear hs
  generalize layS putP 2 l = p at *
  go_wp2_with fail
  go_ret2
  exact ⟨A, n, c, rfl, HS1.out, hnc, hb⟩

set_option maxHeartbeats 400000 in
theorem pvers_any (A : Option Addr) (n c : Nat) (l : List Int) (w : World) (hs : SrcE w elI A l) (hl : l.length = n) (hn : n ≤ 140737488355328) :
    Calls Try.prog 22 #[.slice A n c] w (ItemP (layS putV 1 l) w) := by
  go_enter Try.func22, Try.ntmps22
  go_wp2_with fail
  refine (lyV_any A n c 1 1 l _ hs hl hn cl1 (by omega)).mono ?_
  rintro e w1 ⟨A, n, c, rfl, hs, hnc, hb⟩
  have HS1 := Lib.hid hs
  clear hs
  generalize layS putV 1 l = p at *
  go_wp2_with fail
  go_ret2
  exact ⟨A, n, c, rfl, HS1.out, hnc, hb⟩
end Go.Proofs.Ytajmdchidmamcaa.Ex
