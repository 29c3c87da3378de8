/-
  Contracts of hagioscoperef02's lower, Lower, token and Token for the seats of later layers: what they answer is what the contracts of package ascii say.
-/
import Derived.Test.YtdofipjjodijcaaGreatDoorAscLow
namespace Go.Proofs.YtdofipjjodijcaaGreatDoor.Asc
open Go.RowKit Go.Proofs.YtdofipjjodijcaaGreatDoor.Wd

theorem bs_add (a b : ByteArray) : bs (a ++ b) = bs a ++ bs b := by simp [bs, ByteArray.data_append]
theorem bs_extract (s : ByteArray) (a t : Nat) : bs (s.extract a t) = ((bs s).drop a).take (t - a) := by
  simp [bs, ByteArray.data_extract, Array.toList_extract, List.extract_eq_take_drop]

theorem empty_of (a : ByteArray) (h : a.size = 0) : a = ⟨#[]⟩ := bs_inj (bs_nil a h)
theorem ret_s {a b : ByteArray} (h : a = b) : Ending.returned (.string a) = .returned (.string b) := by rw [h]
theorem ret_u8 {a b : Int} (h : a = b) : Ending.returned (.int .u8 a) = .returned (.int .u8 b) := by rw [h]

theorem rlower_any (c : UInt8) (w : World) : Calls Tryz.prog 43 #[.int .u8 (c.toNat : Int)] w fun e w' => e = .returned (.int .u8 ((lowB c).toNat : Int)) ∧ w = w' := by
  have hlt := c.toNat_lt
  by_cases a1 : 65 ≤ c.toNat
  · have i1 : (65 : Int) ≤ (c.toNat : Int) := by omega
    by_cases a2 : c.toNat ≤ 90
    · have i2 : (c.toNat : Int) ≤ 90 := by omega
      have H := Lib.hid (lowB_great c a1 a2)
      go_enter Tryz.func43, Tryz.ntmps43
      go_wp2
      go_ret
      exact ⟨ret_u8 (by rw [H.out]; omega), rfl⟩
    · have i2 : ¬ (c.toNat : Int) ≤ 90 := by omega
      have H := Lib.hid (lowB_high c (by omega))
      go_enter Tryz.func43, Tryz.ntmps43
      go_wp2
      go_ret
      exact ⟨ret_u8 (by rw [H.out]), rfl⟩
  · have i1 : ¬ (65 : Int) ≤ (c.toNat : Int) := by omega
    have H := Lib.hid (lowB_high c (by omega))
    go_enter Tryz.func43, Tryz.ntmps43
    go_wp2
    go_ret
    exact ⟨ret_u8 (by rw [H.out]), rfl⟩

def LowAt (s : ByteArray) (w : World) (x : Value) (w' : World) : Prop :=
  ∃ (k : Nat) (w1 : World), w1 = w' ∧ x = .int .i64 k ∧ k ≤ s.size ∧ Row w1 w.heap.size (lowPre (bs s) k) ∧ Below w.heap.size w w1

set_option maxHeartbeats 2000000 in
theorem rlowers_any (s : ByteArray) (w : World) (hs : s.size ≤ 140737488355328) :
    Calls Tryz.prog 17 #[.string s] w fun e w' => e = .returned (.string (lowS s)) ∧ Below w.heap.size w w' := by
  obtain ⟨cap, w0, hcv, hsz, hrow, hbel, hcap⟩ := bytes_of w s
  clear hsz
  go_enter Tryz.func17, Tryz.ntmps17
  go_wp2
  clear hcv
  go_loopw [4] (fun x w' => LowAt s w x w') (fun x _ => s.size - (intOf x).toNat)
  case atStart => exact ⟨0, _, rfl, rfl, Nat.zero_le _, hrow, hbel⟩
  case round =>
    obtain ⟨k, w1, rfl, rfl, hle, hrow1, hbel1⟩ := hrel
    by_cases hp : k < s.size
    · have hcell : w1.cell? ⟨w.heap.size, k, none⟩ = some (.int .u8 ((s[k]'hp).toNat : Int)) := hrow1.cell (lowPre_at (bs s) k hp)
      have hfr : w1.frozen? ⟨w.heap.size, k, none⟩ = false := hrow1.frozen (by rw [lowPre_length]; exact hp)
      go_wp2_with (go_at_call 43; refine (rlower_any _ _).mono ?_; rintro e w' ⟨rfl, rfl⟩)
      go_roundw
      case rel => exact ⟨k + 1, _, rfl, by go_num, hp, by rw [lowPre_next (bs s) k hp]; exact hrow1.set_ k _, hbel1.setCell (Nat.le_refl _) _⟩
      case measure => simp [intOf]; omega
    · have kc : (convert 30 9 (.slice (some ⟨w.heap.size, 0, none⟩) s.size cap)).run Tryz.prog w1 = .ok (.string (lowS s)) w1 := by
        have h := conv (c := cap) hrow1.src
        rw [lowPre_length, bs_length, lowPre_all _ _ (by rw [bs_length]; omega)] at h
        exact h
      go_wp2
      go_ret
      exact ⟨rfl, hbel1⟩
theorem ltr_of_low (c : UInt8) : ltrI (c.toNat : Int) = decide (97 ≤ ((lowB c).toNat : Int) ∧ ((lowB c).toNat : Int) ≤ 122) := by
  rw [ltrI]
  by_cases h : 65 ≤ c.toNat ∧ c.toNat ≤ 90
  · rw [lowB_great c h.1 h.2]
    rw [Bool.eq_iff_iff]; simp only [decide_eq_true_eq]; omega
  · rw [lowB_high c h]
    rw [Bool.eq_iff_iff]; simp only [decide_eq_true_eq]; omega

def signs : List UInt8 := [33, 35, 36, 37, 38, 39, 42, 43, 45, 46, 94, 95, 96, 124, 126]
set_option maxRecDepth 100000 in
theorem sgn_all : ∀ c : Fin 256, sgnI (c.1 : Int) = signs.any (fun x => x.toNat == c.1) := by decide
theorem sgn_is (c : UInt8) : sgnI (c.toNat : Int) = signs.any (fun x => x.toNat == c.toNat) := sgn_all ⟨c.toNat, c.toNat_lt⟩

theorem kc96 (w : World) : (convert 30 9 (.slice (some ⟨w.heap.size, 0, none⟩) 1 1)).run Tryz.prog (w.alloc (.cells #[.int .u8 96] 5)) = .ok (.string ⟨#[96]⟩) (w.alloc (.cells #[.int .u8 96] 5)) :=
  conv (c := 1) (Src.of_blk (off := 0) (xs := [96]) (Blk.new w 5 #[.int .u8 96]) (fun j c hj => by
    cases j with
    | zero => simp at hj; subst hj; rfl
    | succ j => simp at hj))

theorem bs_signs : bs ((⟨#[33, 35, 36, 37, 38, 39, 42, 43, 45, 46, 94, 95]⟩ : ByteArray) ++ ⟨#[96]⟩ ++ ⟨#[124, 126]⟩) = signs := by
  rw [bs_add, bs_add]; rfl
theorem any_next (p : UInt8 → Bool) (s : ByteArray) (k : Nat) (h : k < s.size) (h1 : ((bs s).take k).any p = false) (h2 : p (s[k]'h) = false) : ((bs s).take (k + 1)).any p = false := by
  rw [bs_take s k h, List.any_append, h1]; simpa using h2
theorem any_yes (p : UInt8 → Bool) (s : ByteArray) (k : Nat) (h : k < s.size) (h2 : p (s[k]'h) = true) : (bs s).any p = true :=
  List.any_eq_true.2 ⟨s[k]'h, List.getElem_mem (by rw [bs_length]; exact h), h2⟩

def SgIn (c : UInt8) (sg : ByteArray) (x : Value) : Prop := ∃ k : Nat, x = .int .i64 k ∧ k ≤ sg.size ∧ ((bs sg).take k).any (fun y => y.toNat == c.toNat) = false



def TokIn (s : ByteArray) (w : World) (x : Value) (w' : World) : Prop :=
  ∃ (k : Nat) (w1 : World), w1 = w' ∧ x = .int .i64 k ∧ k ≤ s.size ∧ ((bs s).take k).all (fun c => tokI (c.toNat : Int)) = true ∧ Below w.heap.size w w1

end Go.Proofs.YtdofipjjodijcaaGreatDoor.Asc
