/-
 Contract over this seat's translation: hagioscope/hagioscoperef10.Rows says that two equal rows are the same.
-/
import Derived.Test.YthfknndjdfofgaaGreatDoorR05
import Derived.RegionTactic
import Derived.Deep.Cut
namespace Go.Proofs.YthfknndjdfofgaaGreatDoor.Ex
open Go.RowKit Go.Proofs.YthfknndjdfofgaaGreatDoor.Wd Go.Proofs.YthfknndjdfofgaaGreatDoor.Be Go.Proofs.YthfknndjdfofgaaGreatDoor.He Go.Proofs.YthfknndjdfofgaaGreatDoor.Ro

set_option maxRecDepth 100000 in
set_option maxHeartbeats 1000000 in
theorem rrows_any (A B : Option Addr) (n c d : Nat) (l : List (List UInt8)) (w : World) (h1 : SrcE w elS A l) (h2 : SrcE w elS B l) (hl : l.length = n) (hn : n ≤ 140737488351232) :
   Calls Tryz.prog 18 #[.slice A n c, .slice B n d] w fun e w' => e = .returned (.bool true) ∧ Hid (∃ k, w' = w.drewN k) := by
 have H1 := Lib.hid h1
 have H2 := Lib.hid h2
 have HL := Lib.hid hl
 clear h1 h2 hl
 go_enter Tryz.func18, Tryz.ntmps18
 go_wp2_with fail
 go_loopw [5] (fun i wr => ∃ k, k ≤ n ∧ i = .int .i64 (k : Int) ∧ Hid (∃ j, wr = w.drewN j)) (fun i _ => n - (intOf i).toNat)
 case atStart => exact ⟨0, Nat.zero_le _, rfl, Lib.hid ⟨0, rfl⟩⟩
 case round =>
   obtain ⟨k, hk, rfl, HW⟩ := hrel
   by_cases hlt : k < n
   · have hki : (k : Int) < (n : Int) := by omega
     obtain ⟨x, hx⟩ : ∃ x, l[k]? = some x := ⟨_, List.getElem?_eq_getElem (by have := HL.out; omega)⟩
     obtain ⟨g1, o1, rfl, hg1, hc1⟩ := H1.out k x hx
     obtain ⟨g2, o2, rfl, hg2, hc2⟩ := H2.out k x hx
     have hd1 : wr.cell? ⟨g1, o1 + k, none⟩ = some (.string (str8 x)) := by obtain ⟨n0, rfl⟩ := HW.out; have := hc1 0 _ rfl; simpa [elS] using this
     have hd2 : wr.cell? ⟨g2, o2 + k, none⟩ = some (.string (str8 x)) := by obtain ⟨n0, rfl⟩ := HW.out; have := hc2 0 _ rfl; simpa [elS] using this
     clear hx hg1 hg2 hc1 hc2
     go_wp2_with fail
     go_quiet (fail)
     go_wp2_with fail
     go_roundw
     case rel => exact ⟨k + 1, by omega, by go_num, Lib.hid (by obtain ⟨j, rfl⟩ := HW.out; exact ⟨_, World.drewN_drewN _ _ _⟩)⟩
     case measure => simp [intOf]; omega
   · obtain rfl : k = n := by omega
     go_wp2_with fail
     go_ret
     exact ⟨rfl, HW⟩
end Go.Proofs.YthfknndjdfofgaaGreatDoor.Ex
