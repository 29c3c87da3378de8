/-
 Contract of the document's own Wrap (hagioscoperef08) over this seat's translation.
-/
import Derived.Test.YthfknndjdfofgaaGreatDoorR45
namespace Go.Proofs.YthfknndjdfofgaaGreatDoor.Sh
open Go.RowKit Go.Proofs.YthfknndjdfofgaaGreatDoor.Wd

theorem Own.whole (w : World) (B : Nat) (hB : B ≤ w.heap.size) (C : Array Value) (xs : List UInt8) (h : C = (cellsOf xs).toArray) (hl : xs.length ≤ 140737488355328) :
   Own (w.alloc (.cells C 5)) B (.slice (some ⟨w.heap.size, 0, none⟩) xs.length xs.length) xs := by
 subst h
 refine ⟨by rw [cellsOf_length, Nat.mul_one], .inr ⟨w.heap.size, xs.length, _, rfl, hB, heap_alloc_new w _, Nat.le_refl _, by unfold maxLen; omega, by simp [cellsOf_length], ?_⟩⟩
 rw [Nat.mul_one, ← cellsOf_length xs, List.take_length]
theorem rwrap_yes (A : Option Addr) (n c : Nat) (xs : List UInt8) (w : World) (hs : Src w A n xs) (hn : n ≤ 16384) : Calls Tryz.prog 35 #[.slice A n c] w fun e w' =>
   ∃ v, e = .returned (.tuple #[v, .bool true]) ∧ Own w' w.heap.size v (wrapS xs) ∧ Below w.heap.size w w' := by
 have hni : (n : Int) ≤ 16384 := by omega
 have e1 : ((UInt8.ofNat (n / 256)).toNat : Int) = (n : Int) / 256 := by rw [byte_nat _ (by omega)]; omega
 have e2 : ((UInt8.ofNat (n % 256)).toNat : Int) = (n : Int) % 256 := by rw [byte_nat _ (by omega)]; omega
 have HO := Lib.hid (Own.whole w w.heap.size (Nat.le_refl _) #[.int .u8 1, .int .u8 0, .int .u8 ((n : Int) / 256), .int .u8 ((n : Int) % 256)] (headS n) (by
   rw [← e1, ← e2]
   rfl) (by show 4 ≤ _; omega))
 have HS := Lib.hid (hs.alloc (.cells #[.int .u8 1, .int .u8 0, .int .u8 ((n : Int) / 256), .int .u8 ((n : Int) % 256)] 5))
 have HB := Lib.hid (show Below w.heap.size w (w.alloc (.cells #[.int .u8 1, .int .u8 0, .int .u8 ((n : Int) / 256), .int .u8 ((n : Int) % 256)] 5)) from (Below.refl _ _).alloc (Nat.le_refl _) _)
 have HW := Lib.hid (show headS n ++ xs = wrapS xs from by unfold wrapS; rw [hs.1])
 clear hs e1 e2
 go_enter Tryz.func35, Tryz.ntmps35
 go_wp2_with (at_builtin; refine wpList_app rfl (.tmp 15) (.tmp 16) 22 rfl und8 inf8 w.heap.size _ (headS n) rfl HO.out A n c xs rfl HS.out (by show 4 + n ≤ _; omega) (by exact HB.out.size) ?_; intro v2 w2 HO2 hb2; have HB2 := Lib.hid (HB.out.trans hb2); clear hb2)
 go_ret2
 rw [HW.out] at HO2
 exact ⟨_, rfl, HO2.out, HB2.out⟩
end Go.Proofs.YthfknndjdfofgaaGreatDoor.Sh
