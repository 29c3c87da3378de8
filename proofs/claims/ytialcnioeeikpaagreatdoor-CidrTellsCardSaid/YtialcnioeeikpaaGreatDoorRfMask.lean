/-
  Contract of hagioscoperef03.Mask: bit by bit, what package addr masks byte by byte.
-/
import Derived.Test.YtialcnioeeikpaaGreatDoorAdHas
import Derived.Test.YtialcnioeeikpaaGreatDoorRgMem
namespace Go.Proofs.YtialcnioeeikpaaGreatDoor.Ad
open Go.RowKit Go.Proofs.YtialcnioeeikpaaGreatDoor.Wd

/-- a byte that keeps the bits ahead of n and those from m on -/
def pmB (n m : Nat) : UInt8 := ~~~(UInt8.ofNat (255 >>> n) &&& ~~~UInt8.ofNat (255 >>> m))
def bitB (m : Nat) : UInt8 := ~~~UInt8.ofNat (128 >>> m)
theorem pm_clear : ∀ (n : Fin 9) (m : Fin 8), n.1 ≤ m.1 → pmB n.1 m.1 &&& bitB m.1 = pmB n.1 (m.1 + 1) := by decide
theorem pm_keep : ∀ (n : Fin 9) (m : Fin 8), m.1 < n.1 → pmB n.1 (m.1 + 1) = pmB n.1 m.1 := by decide
theorem pm_none : ∀ (n : Fin 9), pmB n.1 0 = 255 := by decide
theorem pm_mask : ∀ (n : Fin 8), pmB n.1 8 = ~~~((255 : UInt8) >>> UInt8.ofNat n.1) := by decide
theorem and_all (c : UInt8) : c &&& 255 = c := by
  apply UInt8.toNat.inj
  rw [UInt8.toNat_and]
  have := c.toNat_lt
  exact Nat.and_two_pow_sub_one_of_lt_two_pow (n := 8) (by omega)
def partB (c : UInt8) (n m : Nat) : UInt8 := c &&& pmB n m
theorem maskS_get : ∀ (a : List UInt8) (n k : Nat) (c : UInt8), a[k]? = some c → (maskS a n)[k]? = some (partB c (min (n - 8 * k) 8) 8)
  | [], n, k, c, h => by simp at h
  | x :: r, n, 0, c, h => by
    simp only [List.getElem?_cons_zero, Option.some.injEq] at h
    subst h
    unfold maskS
    by_cases h8 : n < 8
    · rw [if_pos h8, show min (n - 8 * 0) 8 = n by omega, partB, pm_mask ⟨n, h8⟩]
      rfl
    · rw [if_neg h8, show min (n - 8 * 0) 8 = 8 by omega, partB, show pmB 8 8 = 255 by decide, and_all]
      rfl
  | x :: r, n, k + 1, c, h => by
    simp only [List.getElem?_cons_succ] at h
    unfold maskS
    by_cases h8 : n < 8
    · rw [if_pos h8, show min (n - 8 * (k + 1)) 8 = 0 by omega, partB, show pmB 0 8 = 0 by decide]
      have hk := (List.getElem?_eq_some_iff.1 h).1
      rw [List.getElem?_cons_succ, List.getElem?_replicate, if_pos hk]
      simp
    · rw [if_neg h8, List.getElem?_cons_succ, maskS_get r (n - 8) k c h, show n - 8 - 8 * k = n - 8 * (k + 1) by omega]
/-- what lies there once the bits ahead of i are done -/
def stM (a : List UInt8) (n i : Nat) : List UInt8 := (maskS a n).take (i / 8) ++ (match a.drop (i / 8) with
  | [] => []
  | c :: r => partB c (min (n - 8 * (i / 8)) 8) (i % 8) :: r)
theorem stM_zero (a : List UInt8) (n : Nat) : stM a n 0 = a := by
  unfold stM
  cases a with
  | nil => rfl
  | cons c r =>
    simp only [Nat.zero_div, List.take_zero, List.drop_zero, List.nil_append, Nat.zero_mod]
    rw [partB, pm_none ⟨min (n - 8 * 0) 8, by omega⟩, and_all]
theorem stM_all {a : List UInt8} (ha : a.length = 16) (n : Nat) : stM a n 128 = maskS a n := by
  unfold stM
  rw [List.drop_of_length_le (by omega), List.take_of_length_le (by rw [maskS_length]; omega)]
  simp
theorem stM_len {a : List UInt8} (ha : a.length = 16) (n i : Nat) (hi : i ≤ 128) : (stM a n i).length = 16 := by
  unfold stM
  rw [List.length_append, List.length_take, maskS_length, ha]
  cases hd : a.drop (i / 8) with
  | nil => have := List.drop_eq_nil_iff.1 hd; simp; omega
  | cons c r =>
    have e := congrArg List.length hd
    rw [List.length_drop, List.length_cons] at e
    rw [List.length_cons]
    omega
theorem stM_step {a : List UInt8} (ha : a.length = 16) (n i : Nat) (hi : i < 128) : ∃ x : UInt8, (stM a n i)[i / 8]? = some x ∧
    (n ≤ i → stM a n (i + 1) = (stM a n i).set (i / 8) (x &&& bitB (i % 8))) ∧ (¬ n ≤ i → stM a n (i + 1) = stM a n i) := by
  have hk : i / 8 < a.length := by omega
  have hm : i % 8 < 8 := Nat.mod_lt _ (by omega)
  have hd := List.drop_eq_getElem_cons hk
  have hc : a[i / 8]? = some a[i / 8] := List.getElem?_eq_getElem hk
  have hg := maskS_get a n (i / 8) _ hc
  generalize a[i / 8] = c at *
  have hl : ((maskS a n).take (i / 8)).length = i / 8 := by rw [List.length_take, maskS_length]; omega
  have e0 : stM a n i = (maskS a n).take (i / 8) ++ partB c (min (n - 8 * (i / 8)) 8) (i % 8) :: a.drop (i / 8 + 1) := by unfold stM; rw [hd]
  -- one bit more, in the same byte or in the next one
  have e1 : stM a n (i + 1) = (maskS a n).take (i / 8) ++ partB c (min (n - 8 * (i / 8)) 8) (i % 8 + 1) :: a.drop (i / 8 + 1) := by
    by_cases h7 : i % 8 + 1 < 8
    · unfold stM
      rw [show (i + 1) / 8 = i / 8 by omega, show (i + 1) % 8 = i % 8 + 1 by omega, hd]
    · rw [show i % 8 + 1 = 8 by omega]
      unfold stM
      rw [show (i + 1) / 8 = i / 8 + 1 by omega, show (i + 1) % 8 = 0 by omega, List.take_add_one, hg, List.append_assoc]
      congr 1
      simp only [Option.toList_some, List.cons_append, List.nil_append, List.cons.injEq, true_and]
      cases a.drop (i / 8 + 1) with
      | nil => rfl
      | cons d r =>
        dsimp only
        rw [partB, pm_none ⟨min (n - 8 * (i / 8 + 1)) 8, by omega⟩, and_all]
  refine ⟨partB c (min (n - 8 * (i / 8)) 8) (i % 8), ?_, fun hn => ?_, fun hn => ?_⟩
  · rw [e0, List.getElem?_append_right (by omega), hl, Nat.sub_self]
    rfl
  · rw [e0, e1, List.set_append_right _ _ (by omega), hl, Nat.sub_self, List.set_cons_zero, partB, partB, UInt8.and_assoc, pm_clear ⟨min (n - 8 * (i / 8)) 8, by omega⟩ ⟨i % 8, hm⟩ (by show min (n - 8 * (i / 8)) 8 ≤ i % 8; omega)]
  · rw [e0, e1, partB, partB, pm_keep ⟨min (n - 8 * (i / 8)) 8, by omega⟩ ⟨i % 8, hm⟩ (by show i % 8 < min (n - 8 * (i / 8)) 8; omega)]

theorem bit_minmax (n M1 : Int) (h : M1 = if (128 : Int) < n then 128 else n) : ((bitN n : Nat) : Int) = if (0 : Int) < M1 then M1 else 0 := by
  rw [← bitN_is, h]
  unfold withinI
  repeat' split
  all_goals omega

theorem andNot_bit (c : UInt8) (m : Nat) (hm : m < 8) : bits .andNot .u8 (c.toNat : Int) (128 / 2 ^ m) = ((c &&& bitB m).toNat : Int) := by
  have hc : c.toNat < 256 := c.toNat_lt
  have hd : ((128 : Int) / 2 ^ m) = ((128 / 2 ^ m : Nat) : Int) := by simp
  rw [hd, u8_andNot_nat c.toNat (128 / 2 ^ m) hc (Nat.lt_of_le_of_lt (Nat.div_le_self _ _) (by omega))]
  have hm' : ∀ m : Fin 8, (255 - 128 / 2 ^ m.1 : Nat) = (bitB m.1).toNat := by decide
  have := hm' ⟨m, hm⟩
  simp only at this
  rw [this, UInt8.toNat_and]
def RMaskAt (a : List UInt8) (N : Nat) (w : World) (i : Value) (w' : World) : Prop :=
  ∃ k : Nat, k ≤ 128 ∧ i = .int .i64 k ∧ Blk w' w.heap.size 23 (cA (stM a N k)) ∧ Blk w' (w.heap.size + 1) 23 (cA (List.replicate 16 0)) ∧ Below w.heap.size w w'
set_option maxRecDepth 100000 in
set_option maxHeartbeats 2000000 in
theorem rmask_any (a : List UInt8) (ha : a.length = 16) (n : Int) (w : World) :
    Calls Tryz.prog 30 #[.agg (cA a), .int .i64 n] w fun e w' => e = .returned (.agg (cA (maskS a (bitN n)))) ∧ Below w.heap.size w w' := by
  obtain ⟨M1, hM1⟩ : ∃ M : Int, M = if (128 : Int) < n then 128 else n := ⟨_, rfl⟩
  have HM1 := Lib.hid hM1
  have HM2 := Lib.hid (bit_minmax n M1 hM1)
  have hN := bitN_le n
  clear hM1
  generalize bitN n = N at *
  go_enter Tryz.func30, Tryz.ntmps30
  go_wp2_with (first
    | (with_reducible refine wpList_min2 (some 8) rfl rfl _ _ _ rfl n 128 M1 rfl rfl HM1.out ?_)
    | (with_reducible refine wpList_max2 (some 9) rfl rfl _ _ _ rfl 0 M1 (N : Int) rfl rfl HM2.out ?_))
  go_loopw [6] (fun i w' => RMaskAt a N w i w') (fun i _ => 128 - (intOf i).toNat)
  case atStart => exact ⟨0, by omega, rfl, by rw [stM_zero]; exact (Blk.new _ _ _).alloc _, blk_at _ _ _ _ _ (by rw [alloc_size]) rfl, ((Below.refl _ _).alloc (Nat.le_refl _) _).alloc (by simp) _⟩
  case round =>
    obtain ⟨k, hk, rfl, b0, b1, hbel⟩ := hrel
    have HL := Lib.hid hbel
    have HB0 := Lib.hid b0
    have HB1 := Lib.hid b1
    clear hbel
    by_cases hlt : k < 128
    · obtain ⟨x, hx, hset, hkeep⟩ := stM_step ha N k hlt
      by_cases hnk : N ≤ k
      · have HS := Lib.hid (hset hnk)
        have hcell : wr.cell? ⟨w.heap.size, k / 8, none⟩ = some (.int .u8 (x.toNat : Int)) := by
          rw [cell_a b0 (k / 8), hx]; rfl
        have hfr := b0.frozen (k / 8)
        clear b0 b1 hset hkeep hx
        have HV := Lib.hid (andNot_bit x (k % 8) (Nat.mod_lt _ (by omega)))
        go_wp2_with fail
        refine ⟨⟨k + 1, by omega, by go_num, ?_, HB1.out.far (by simp) _, HL.out.setCell (by simp) _⟩, by simp [intOf]; omega⟩
        have b2 := HB0.out.set_ (k / 8) (.int .u8 ((x &&& bitB (k % 8)).toNat : Int))
        rw [cA_set, ← HS.out, ← HV.out] at b2
        exact b2
      · have HS := Lib.hid (hkeep hnk)
        clear b0 b1 hset hkeep hx
        go_wp2
        go_roundw
        case rel => exact ⟨k + 1, by omega, by go_num, by rw [HS.out]; exact HB0.out, HB1.out, HL.out⟩
        case measure => simp [intOf]; omega
    · obtain rfl : k = 128 := by omega
      have e16 : (stM a N 128).length = 16 := stM_len ha N 128 (by omega)
      go_wp2_with (first
        | (refine go_ld 23 b0 und16 rfl info16 (by rw [cA_size, e16]) rfl rfl rfl ?_)
        | (refine go_st 23 b1 info16 rfl (by rw [cA_size, e16]) (cA_one _) rfl rfl rfl rfl ?_))
      rw [stM_all ha] at e16 ⊢
      exact ret_row Tryz.results30 b1 und16 rfl info16 (by rw [cA_size, e16]) rfl ⟨rfl, setRow_below HL.out b1 (by omega) _⟩ rfl
end Go.Proofs.YtialcnioeeikpaaGreatDoor.Ad
