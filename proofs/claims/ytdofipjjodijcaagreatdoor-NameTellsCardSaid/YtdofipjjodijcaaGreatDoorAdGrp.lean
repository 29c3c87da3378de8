/-
  Contract of package addr's parseGroup over this seat's translation.
-/
import Derived.Test.YtdofipjjodijcaaGreatDoorAdDot
namespace Go.Proofs.YtdofipjjodijcaaGreatDoor.Ad
open Go.RowKit Go.Proofs.YtdofipjjodijcaaGreatDoor.Wd Go.Proofs.YtdofipjjodijcaaGreatDoor.Asc

theorem foldv_lt (B : Nat) : ∀ (l : List UInt8) (a n : Int), 0 ≤ a → foldv B l a = some n → n < (a + 1) * ((B ^ l.length : Nat) : Int)
  | [], a, n, _, h => by unfold foldv at h; injection h with h; simp; omega
  | c :: r, a, n, ha, h => by
    unfold foldv at h
    split at h
    · cases h
    · rename_i d hd
      have hb := hex_bd hd
      split at h
      · rename_i hdB
        have h0 : (0 : Int) ≤ a * B := Int.mul_nonneg ha (by omega)
        have h1 := foldv_lt B r _ n (by omega) h
        have h2 : (a * B + d + 1) * ((B ^ r.length : Nat) : Int) ≤ ((a + 1) * B) * ((B ^ r.length : Nat) : Int) :=
          Int.mul_le_mul_of_nonneg_right (by rw [Int.add_mul, Int.one_mul]; omega) (by omega)
        rw [List.length_cons, Nat.pow_succ, Nat.mul_comm, Int.natCast_mul, ← Int.mul_assoc]
        exact Int.lt_of_lt_of_le h1 h2
      · cases h
theorem hexS_bd {l : List UInt8} {n : Int} (h : hexS l = some n) : 0 ≤ n ∧ n < 65536 := by
  unfold hexS digitsS at h
  split at h
  · cases h
  · rename_i hl
    refine ⟨foldv_nn 16 (by omega) _ _ _ (by omega) h, ?_⟩
    have h1 := foldv_lt 16 l 0 n (by omega) h
    have h2 : (16 ^ l.length : Nat) ≤ 16 ^ 4 := Nat.pow_le_pow_right (by omega) (by omega)
    have h3 : (16 ^ 4 : Nat) = 65536 := by decide
    omega
theorem fstB (N : Nat) (h : N < 65536) : (UInt8.ofNat (N / 256)).toNat = N / 256 := by rw [UInt8.toNat_ofNat']; omega
theorem sndB (N : Nat) : (UInt8.ofNat (N % 256)).toNat = N % 256 := by rw [UInt8.toNat_ofNat']; omega

def GrpPost (l : List UInt8) (d : Bool) (w : World) (e : Ending) (w' : World) : Prop :=
  ∃ A n c, e = .returned (.tuple #[.slice A n c, .bool (grpS l d).isSome]) ∧ (∀ b, grpS l d = some b → n = b.length ∧ Src w' A n b) ∧ Below w.heap.size w w'

set_option maxHeartbeats 1000000 in
theorem group_any {B : Nat} (l : List UInt8) (d : Bool) (w : World) (hE : Env B w) (hl : l.length < 4294967281) :
    Calls Tryz.prog 68 #[.string (str l), .bool d] w (GrpPost l d w) := by
  have hsz : (str l).size ≤ maxLen := by rw [str_size]; unfold maxLen; omega
  have hb16 : bs (str l) = l := rfl
  cases hh : hexS l with
  | some n =>
    obtain ⟨n0, n1⟩ := hexS_bd hh
    obtain ⟨N, rfl⟩ : ∃ N : Nat, n = (N : Int) := ⟨n.toNat, by omega⟩
    have hG := Lib.hid (show grpS l d = some [UInt8.ofNat (N / 256), UInt8.ofNat (N % 256)] by rw [grpS, hh]; simp)
    have HH := Lib.hid hh
    have e1 := fstB N (by omega)
    have e2 := sndB N
    clear hh
    go_enter Tryz.func68, Tryz.ntmps68
    go_wp2_with fail
    refine (hex_any (str l) _ hsz).mono ?_
    rintro e w1 ⟨rfl, hb1⟩
    rw [hb16, HH.out, dTup]
    have HB := Lib.hid hb1
    clear hb1 hb16
    go_wp2
    go_ret2
    refine ⟨some ⟨w1.heap.size, 0, none⟩, 2, 2, by rw [hG.out]; rfl, fun b hb => ?_, HB.out.alloc HB.out.size _⟩
    rw [hG.out] at hb
    injection hb with hb
    subst hb
    refine ⟨rfl, Src.marked w1 _ _ _ [UInt8.ofNat (N / 256), UInt8.ofNat (N % 256)] ?_⟩
    show _ = #[Value.int .u8 ((UInt8.ofNat (N / 256)).toNat : Int), .int .u8 ((UInt8.ofNat (N % 256)).toNat : Int)]
    rw [e1, e2]
    simp
  | none =>
    have HH := Lib.hid hh
    cases d with
    | false =>
      have hG := Lib.hid (show grpS l false = none by rw [grpS, hh]; rfl)
      clear hh
      go_enter Tryz.func68, Tryz.ntmps68
      go_wp2_with fail
      refine (hex_any (str l) _ hsz).mono ?_
      rintro e w1 ⟨rfl, hb1⟩
      rw [hb16, HH.out, dTup]
      have HB := Lib.hid hb1
      clear hb1 hb16
      go_wp2
      go_ret2
      exact ⟨none, 0, 0, by rw [hG.out]; rfl, fun b hb => (by rw [hG.out] at hb; cases hb), HB.out⟩
    | true =>
      have hG := Lib.hid (show grpS l true = dotS 4 l by rw [grpS, hh]; rfl)
      have hlen : ((dotS 4 l).getD (List.replicate 4 0)).length = 4 := by
        cases h : dotS 4 l with
        | none => rfl
        | some b => exact dotS_len 4 l b h
      clear hh
      go_enter Tryz.func68, Tryz.ntmps68
      go_wp2_with fail
      refine (hex_any (str l) _ hsz).mono ?_
      rintro e w1 ⟨rfl, hb1⟩
      rw [hb16, HH.out, dTup]
      have HE1 := hE.on hb1
      have HB := Lib.hid hb1
      clear hb1 hb16
      go_wp2_with fail
      refine (dotted_any l _ HE1 hl).mono ?_
      rintro e w2 ⟨rfl, hb2⟩
      have HB2 := Lib.hid (HB.out.trans (hb2.mono HB.out.size))
      clear hb2
      have hX : ∀ b, dotS 4 l = some b → (dotS 4 l).getD (List.replicate 4 0) = b := fun b h => by rw [h]; rfl
      have HX := Lib.hid hX
      clear hX
      generalize (dotS 4 l).getD (List.replicate 4 0) = X at *
      go_wp2_with (refine go_st 40 (Blk.new _ _ _) info4 rfl (by rw [cA_size, hlen]) (cA_one _) rfl rfl rfl rfl ?_)
      go_ret2
      have hb3 : Below w.heap.size w (w2.alloc (.cells #[.int .u8 0, .int .u8 0, .int .u8 0, .int .u8 0] 40)) := HB2.out.alloc HB2.out.size _
      refine ⟨some ⟨w2.heap.size, 0, none⟩, 4, 4, by rw [hG.out]; rfl, fun b hb => ?_, setRow_below hb3 (Blk.new _ _ _) HB2.out.size _⟩
      rw [hG.out] at hb
      have hbl := dotS_len 4 l b hb
      obtain rfl := HX.out b hb
      refine ⟨hbl.symm, ?_⟩
      have := src_all (setRow_blk (new := cA X) (Blk.new w2 40 #[.int .u8 0, .int .u8 0, .int .u8 0, .int .u8 0]))
      rwa [hbl] at this
end Go.Proofs.YtdofipjjodijcaaGreatDoor.Ad
