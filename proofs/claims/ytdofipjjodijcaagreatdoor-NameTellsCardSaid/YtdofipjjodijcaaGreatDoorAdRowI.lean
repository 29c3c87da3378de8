/-
  Contract of package addr's appendRow at ints, in base 16, over this seat's translation.
-/
import Derived.Test.YtdofipjjodijcaaGreatDoorAdGrps
namespace Go.Proofs.YtdofipjjodijcaaGreatDoor.Ad
open Go.RowKit Go.Proofs.YtdofipjjodijcaaGreatDoor.Wd Go.Proofs.YtdofipjjodijcaaGreatDoor.Asc

theorem one_srcI (w : World) (c : UInt8) : Src (w.alloc (.cells #[.int .u8 (c.toNat : Int)] 5)) (some ⟨w.heap.size, 0, none⟩) 1 [c] := Src.marked w _ _ _ [c] rfl
theorem joinS_le : ∀ row : List Nat, (joinS row).length ≤ 5 * row.length
  | [] => by simp [joinS]
  | [n] => by have := (hexT_len n).2; simp [joinS]; omega
  | n :: m :: r => by
    have h1 := (hexT_len n).2
    have h2 := joinS_le (m :: r)
    simp only [joinS, List.length_append, List.length_cons] at h2 ⊢
    omega
/-- numbers that a slice of ints leads to -/
def SrcI (w : World) (A : Option Addr) (n : Nat) (l : List Nat) : Prop :=
  l.length = n ∧ (∀ x ∈ l, x < 65536) ∧ (0 < n → ∃ g off, A = some ⟨g, off, none⟩ ∧ g < w.heap.size ∧ ∀ (k x : Nat), l[k]? = some x → w.cell? ⟨g, off + k, none⟩ = some (.int .i64 (x : Int)))
set_option maxRecDepth 100000 in
set_option maxHeartbeats 2000000 in
theorem rowI_any {B : Nat} (v : Value) (pre : List UInt8) (A : Option Addr) (n cp : Nat) (l : List Nat) (w : World) (hO : Own w B v pre) (hpre : pre.length ≤ 500) (hs : SrcI w A n l) (hn8 : n ≤ 8) (hB : B ≤ w.heap.size)
    (hA : 0 < n → ∀ x, A = some x → x.block < B) (htz : w.cell? ⟨5, 15, none⟩ = some (.int .u8 4)) (hg : 5 < B) :
    Calls Tryz.prog 32 #[v, .slice A n cp, .int .u8 58, .int .i64 16] w fun e w' => ∃ v', e = .returned v' ∧ Own w' B v' (pre ++ joinS l) ∧ Below B w w' := by
  obtain ⟨hl, h64, hcl⟩ := hs
  have HO := Lib.hid hO
  have HCl := Lib.hid hcl
  have HA := Lib.hid hA
  have HL := Lib.hid hl
  clear hO hcl hA hl
  go_enter Tryz.func32, Tryz.ntmps32
  go_wp2_with fail
  go_loopw [0, 13] (fun t i w' => ∃ k : Nat, k ≤ n ∧ i = .int .i64 (k : Int) ∧ Hid (Own w' B t (pre ++ joinS (l.take k))) ∧ Hid (Below B w w')) (fun _ i _ => n - (intOf i).toNat)
  case atStart => exact ⟨0, by omega, rfl, by rw [List.take_zero, joinS, List.append_nil]; exact HO, Lib.hid (Below.refl _ _)⟩
  case round =>
    obtain ⟨k, hk, rfl, HO1, HB1⟩ := hrel
    by_cases hlt : k < n
    · have hki : (k : Int) < (n : Int) := by omega
      obtain ⟨g, off, rfl, hgw, hcells⟩ := HCl.out (by omega)
      have hgB := HA.out (by omega) _ rfl
      obtain ⟨x, hx⟩ : ∃ x, l[k]? = some x := ⟨_, List.getElem?_eq_getElem (by have := HL.out; omega)⟩
      have hx64 := h64 x (List.mem_of_getElem? hx)
      have hc := (HB1.out.cell (p := ⟨g, off + k, none⟩) hgB).trans (hcells k x hx)
      have HJ := Lib.hid (joinS_take hx)
      have htz1 := (HB1.out.cell (p := ⟨5, 15, none⟩) hg).trans htz
      have HTz := Lib.hid htz1
      have hsz := HB1.out.size
      have hjl : (joinS (l.take k)).length ≤ 40 := by
        have h1 := joinS_le (l.take k)
        have h2 : (l.take k).length ≤ 8 := by rw [List.length_take]; omega
        omega
      clear hcells hx htz1
      generalize joinS (l.take k) = J at *
      by_cases hk0 : k = 0
      · subst hk0
        rw [Nat.add_zero] at hc
        go_wp2_with fail
        refine (appI_any x hx64 _ _ wr HO1.out (by rw [List.length_append]; omega) (by omega) HTz.out (by omega)).mono ?_
        rintro e w2 ⟨v2, rfl, hO2, hb2⟩
        have HO2 := Lib.hid hO2
        have HB2 := Lib.hid (HB1.out.trans hb2)
        clear hO2 hb2
        go_wp2_with fail
        go_roundw
        case rel => exact ⟨1, by omega, by go_num, by rw [HJ.out, if_pos trivial, List.nil_append, ← List.append_assoc]; exact HO2, HB2⟩
        case measure => simp [intOf]; omega
      · have hkp : (0 : Int) < (k : Int) := by omega
        go_wp2_with (at_builtin; refine wpList_app rfl _ _ 30 rfl Tryz.underlying30 inf81 B _ _ rfl (HO1.out.alloc _) _ 1 1 [58] rfl (one_srcI wr 58) (by rw [List.length_append]; omega) (by simp; omega) ?_; intro v1 w1 hown1 hb1; refine Hid.out ?_)
        have hbA : Below B wr (wr.alloc (.cells #[.int .u8 58] 5)) := (Below.refl _ _).alloc (by omega) _
        have hb2 := hbA.trans hb1
        have HB2 := Lib.hid (HB1.out.trans hb2)
        have HTz2 := Lib.hid ((hb2.cell (p := ⟨5, 15, none⟩) hg).trans HTz.out)
        have hsz1 := hb2.size
        clear hb1 hbA hb2
        refine Lib.hid ?_
        go_wp2_with fail
        refine (appI_any x hx64 _ _ w1 hown1.out (by rw [List.length_append, List.length_append]; simp; omega) (by omega) HTz2.out (by omega)).mono ?_
        rintro e w2 ⟨v2, rfl, hO2, hb2⟩
        have HO2 := Lib.hid hO2
        have HB3 := Lib.hid (HB2.out.trans hb2)
        clear hO2 hb2
        go_wp2_with fail
        go_roundw
        case rel => exact ⟨k + 1, by omega, by go_num, by rw [HJ.out, if_neg hk0, ← List.append_assoc, ← List.append_assoc]; exact HO2, HB3⟩
        case measure => simp [intOf]; omega
    · obtain rfl : k = n := by omega
      rw [List.take_of_length_le (by have := HL.out; omega)] at HO1
      go_wp2_with fail
      go_ret
      exact ⟨_, rfl, HO1.out, HB1.out⟩
end Go.Proofs.YtdofipjjodijcaaGreatDoor.Ad
