/-
  Contract of hagioscoperef03.Mask: bit by bit, what package addr masks byte by byte.
-/
import Derived.Test.YtlpondbcnfaggaaGreatDoorQ05
import Derived.Test.YtlpondbcnfaggaaGreatDoorQ01
namespace Go.Proofs.YtlpondbcnfaggaaGreatDoor.Ad
open Go.RowKit Go.Proofs.YtlpondbcnfaggaaGreatDoor.Wd

/-- a byte that keeps the bits ahead of n and those from m on -/
def pmB (n m : Nat) : UInt8 := ~~~(UInt8.ofNat (255 >>> n) &&& ~~~UInt8.ofNat (255 >>> m))
def bitB (m : Nat) : UInt8 := ~~~UInt8.ofNat (128 >>> m)
theorem pm_clear : ∀ (n : Fin 9) (m : Fin 8), n.1 ≤ m.1 → pmB n.1 m.1 &&& bitB m.1 = pmB n.1 (m.1 + 1) := by decide
theorem pm_keep : ∀ (n : Fin 9) (m : Fin 8), m.1 < n.1 → pmB n.1 (m.1 + 1) = pmB n.1 m.1 := by decide
theorem pm_none : ∀ (n : Fin 9), pmB n.1 0 = 255 := by decide
theorem pm_mask : ∀ (n : Fin 8), pmB n.1 8 = ~~~((255 : UInt8) >>> UInt8.ofNat n.1) := by decide
theorem and_all (c : UInt8) : c &&& 255 = c := by
  apply UInt8.toNat.inj
  rw [UInt8.toNat_and]
  have := c.toNat_lt
  exact Nat.and_two_pow_sub_one_of_lt_two_pow (n := 8) (by omega)
def partB (c : UInt8) (n m : Nat) : UInt8 := c &&& pmB n m
theorem maskS_get : ∀ (a : List UInt8) (n k : Nat) (c : UInt8), a[k]? = some c → (maskS a n)[k]? = some (partB c (min (n - 8 * k) 8) 8)
  | [], n, k, c, h => by simp at h
  | x :: r, n, 0, c, h => by
    simp only [List.getElem?_cons_zero, Option.some.injEq] at h
    subst h
    unfold maskS
    by_cases h8 : n < 8
    · rw [if_pos h8, show min (n - 8 * 0) 8 = n by omega, partB, pm_mask ⟨n, h8⟩]
      rfl
    · rw [if_neg h8, show min (n - 8 * 0) 8 = 8 by omega, partB, show pmB 8 8 = 255 by decide, and_all]
      rfl
  | x :: r, n, k + 1, c, h => by
    simp only [List.getElem?_cons_succ] at h
    unfold maskS
    by_cases h8 : n < 8
    · rw [if_pos h8, show min (n - 8 * (k + 1)) 8 = 0 by omega, partB, show pmB 0 8 = 0 by decide]
      have hk := (List.getElem?_eq_some_iff.1 h).1
      rw [List.getElem?_cons_succ, List.getElem?_replicate, if_pos hk]
      simp
    · rw [if_neg h8, List.getElem?_cons_succ, maskS_get r (n - 8) k c h, show n - 8 - 8 * k = n - 8 * (k + 1) by omega]
/-- what lies there once the bits ahead of i are done -/
def stM (a : List UInt8) (n i : Nat) : List UInt8 := (maskS a n).take (i / 8) ++ (match a.drop (i / 8) with
  | [] => []
  | c :: r => partB c (min (n - 8 * (i / 8)) 8) (i % 8) :: r)
theorem stM_zero (a : List UInt8) (n : Nat) : stM a n 0 = a := by
  unfold stM
  cases a with
  | nil => rfl
  | cons c r =>
    simp only [Nat.zero_div, List.take_zero, List.drop_zero, List.nil_append, Nat.zero_mod]
    rw [partB, pm_none ⟨min (n - 8 * 0) 8, by omega⟩, and_all]
theorem stM_all {a : List UInt8} (ha : a.length = 16) (n : Nat) : stM a n 128 = maskS a n := by
  unfold stM
  rw [List.drop_of_length_le (by omega), List.take_of_length_le (by rw [maskS_length]; omega)]
  simp
theorem stM_len {a : List UInt8} (ha : a.length = 16) (n i : Nat) (hi : i ≤ 128) : (stM a n i).length = 16 := by
  unfold stM
  rw [List.length_append, List.length_take, maskS_length, ha]
  cases hd : a.drop (i / 8) with
  | nil => have := List.drop_eq_nil_iff.1 hd; simp; omega
  | cons c r =>
    have e := congrArg List.length hd
    rw [List.length_drop, List.length_cons] at e
    rw [List.length_cons]
    omega
theorem stM_step {a : List UInt8} (ha : a.length = 16) (n i : Nat) (hi : i < 128) : ∃ x : UInt8, (stM a n i)[i / 8]? = some x ∧
    (n ≤ i → stM a n (i + 1) = (stM a n i).set (i / 8) (x &&& bitB (i % 8))) ∧ (¬ n ≤ i → stM a n (i + 1) = stM a n i) := by
  have hk : i / 8 < a.length := by omega
  have hm : i % 8 < 8 := Nat.mod_lt _ (by omega)
  have hd := List.drop_eq_getElem_cons hk
  have hc : a[i / 8]? = some a[i / 8] := List.getElem?_eq_getElem hk
  have hg := maskS_get a n (i / 8) _ hc
  generalize a[i / 8] = c at *
  have hl : ((maskS a n).take (i / 8)).length = i / 8 := by rw [List.length_take, maskS_length]; omega
  have e0 : stM a n i = (maskS a n).take (i / 8) ++ partB c (min (n - 8 * (i / 8)) 8) (i % 8) :: a.drop (i / 8 + 1) := by unfold stM; rw [hd]
  -- one bit more, in the same byte or in the next one
  have e1 : stM a n (i + 1) = (maskS a n).take (i / 8) ++ partB c (min (n - 8 * (i / 8)) 8) (i % 8 + 1) :: a.drop (i / 8 + 1) := by
    by_cases h7 : i % 8 + 1 < 8
    · unfold stM
      rw [show (i + 1) / 8 = i / 8 by omega, show (i + 1) % 8 = i % 8 + 1 by omega, hd]
    · rw [show i % 8 + 1 = 8 by omega]
      unfold stM
      rw [show (i + 1) / 8 = i / 8 + 1 by omega, show (i + 1) % 8 = 0 by omega, List.take_add_one, hg, List.append_assoc]
      congr 1
      simp only [Option.toList_some, List.cons_append, List.nil_append, List.cons.injEq, true_and]
      cases a.drop (i / 8 + 1) with
      | nil => rfl
      | cons d r =>
        dsimp only
        rw [partB, pm_none ⟨min (n - 8 * (i / 8 + 1)) 8, by omega⟩, and_all]
  refine ⟨partB c (min (n - 8 * (i / 8)) 8) (i % 8), ?_, fun hn => ?_, fun hn => ?_⟩
  · rw [e0, List.getElem?_append_right (by omega), hl, Nat.sub_self]
    rfl
  · rw [e0, e1, List.set_append_right _ _ (by omega), hl, Nat.sub_self, List.set_cons_zero, partB, partB, UInt8.and_assoc, pm_clear ⟨min (n - 8 * (i / 8)) 8, by omega⟩ ⟨i % 8, hm⟩ (by show min (n - 8 * (i / 8)) 8 ≤ i % 8; omega)]
  · rw [e0, e1, partB, partB, pm_keep ⟨min (n - 8 * (i / 8)) 8, by omega⟩ ⟨i % 8, hm⟩ (by show i % 8 < min (n - 8 * (i / 8)) 8; omega)]

theorem bit_minmax (n M1 : Int) (h : M1 = if (128 : Int) < n then 128 else n) : ((bitN n : Nat) : Int) = if (0 : Int) < M1 then M1 else 0 := by
  rw [← bitN_is, h]
  unfold withinI
  repeat' split
  all_goals omega

theorem andNot_bit (c : UInt8) (m : Nat) (hm : m < 8) : bits .andNot .u8 (c.toNat : Int) (128 / 2 ^ m) = ((c &&& bitB m).toNat : Int) := by
  have hc : c.toNat < 256 := c.toNat_lt
  have hd : ((128 : Int) / 2 ^ m) = ((128 / 2 ^ m : Nat) : Int) := by simp
  rw [hd, u8_andNot_nat c.toNat (128 / 2 ^ m) hc (Nat.lt_of_le_of_lt (Nat.div_le_self _ _) (by omega))]
  have hm' : ∀ m : Fin 8, (255 - 128 / 2 ^ m.1 : Nat) = (bitB m.1).toNat := by decide
  have := hm' ⟨m, hm⟩
  simp only at this
  rw [this, UInt8.toNat_and]
def RMaskAt (a : List UInt8) (N : Nat) (w : World) (i : Value) (w' : World) : Prop :=
  ∃ k : Nat, k ≤ 128 ∧ i = .int .i64 k ∧ Blk w' w.heap.size 48 (cA (stM a N k)) ∧ Blk w' (w.heap.size + 1) 48 (cA (List.replicate 16 0)) ∧ Below w.heap.size w w'
end Go.Proofs.YtlpondbcnfaggaaGreatDoor.Ad

/-
  Contracts of hagioscoperef03.Of4 and Four; copy as a step of a walk.
-/
namespace Go.Proofs.YtlpondbcnfaggaaGreatDoor.Ad
open Go.RowKit Go.Proofs.YtlpondbcnfaggaaGreatDoor.Wd

def pre12 : List UInt8 := [0, 0, 0, 0, 0, 0, 0, 0, 0, 0, 255, 255]
theorem pre12_len : pre12.length = 12 := rfl
theorem of4S_pre (b : List UInt8) : of4S b = pre12 ++ b := rfl
def st4 (b : List UInt8) (k : Nat) : List UInt8 := pre12 ++ (b.take k ++ List.replicate (4 - k) 0)
theorem st4_zero (b : List UInt8) : st4 b 0 = ffS := rfl
theorem st4_len {b : List UInt8} (hb : b.length = 4) {k : Nat} (hk : k ≤ 4) : (st4 b k).length = 16 := by simp [st4, hb, pre12_len]; omega
theorem st4_all {b : List UInt8} (hb : b.length = 4) : st4 b 4 = of4S b := by
  rw [of4S_pre, st4, List.take_of_length_le (by omega)]
  simp
theorem st4_set {b : List UInt8} (hb : b.length = 4) {k : Nat} (hk : k < 4) (c : UInt8) (hc : b[k]? = some c) : (st4 b k).set (12 + k) c = st4 b (k + 1) := by
  unfold st4
  rw [List.set_append_right _ _ (by rw [pre12_len]; omega), pre12_len, Nat.add_sub_cancel_left, set_mid _ k (4 - k) 0 c (by rw [List.length_take]; omega) (by omega), List.take_add_one, hc, show 4 - (k + 1) = 4 - k - 1 by omega]
  simp
theorem st4_get {b : List UInt8} (hb : b.length = 4) {k : Nat} (hk : k < 4) : (st4 b k)[12 + k]? = some 0 := by
  unfold st4
  rw [List.getElem?_append_right (by rw [pre12_len]; omega), pre12_len, Nat.add_sub_cancel_left, List.getElem?_append_right (by rw [List.length_take]; omega), List.getElem?_replicate, if_pos (by rw [List.length_take]; omega)]

def ROf4At (b : List UInt8) (w : World) (i : Value) (w' : World) : Prop :=
  ∃ k : Nat, k ≤ 4 ∧ i = .int .i64 k ∧ Blk w' w.heap.size 90 (cA b) ∧ Blk w' (w.heap.size + 1) 48 (cA (List.replicate 16 0)) ∧ Blk w' (w.heap.size + 1 + 1) 48 (cA (st4 b k)) ∧ Below w.heap.size w w'
set_option maxRecDepth 100000 in
set_option maxHeartbeats 2000000 in
theorem rof4_any (b : List UInt8) (hb : b.length = 4) (w : World) :
    Calls Tryz.prog 116 #[.agg (cA b)] w fun e w' => e = .returned (.agg (cA (of4S b))) ∧ Below w.heap.size w w' := by
  go_enter Tryz.func116, Tryz.ntmps116
  go_wp2_with fail
  go_loopw [4] (fun i w' => ROf4At b w i w') (fun i _ => 4 - (intOf i).toNat)
  case atStart =>
    rw [show #[Value.int .u8 0, .int .u8 0, .int .u8 0, .int .u8 0, .int .u8 0, .int .u8 0, .int .u8 0, .int .u8 0, .int .u8 0, .int .u8 0, .int .u8 0, .int .u8 0, .int .u8 0, .int .u8 0, .int .u8 0, .int .u8 0] = cA (List.replicate 16 0) from rfl,
      show #[Value.int .u8 0, .int .u8 0, .int .u8 0, .int .u8 0, .int .u8 0, .int .u8 0, .int .u8 0, .int .u8 0, .int .u8 0, .int .u8 0, .int .u8 255, .int .u8 255, .int .u8 0, .int .u8 0, .int .u8 0, .int .u8 0] = cA ffS from rfl]
    exact ⟨0, by omega, rfl, ((Blk.new _ _ _).alloc _).alloc _, (blk_at _ _ _ _ _ (by rw [alloc_size]) rfl).alloc _, blk_at _ _ _ _ _ (by rw [alloc_size, alloc_size]) (by rw [st4_zero]), ((((Below.refl _ _).alloc (Nat.le_refl _) _).alloc (by simp) _).alloc (by simp; omega) _)⟩
  case round =>
    obtain ⟨k, hk, rfl, b0, b1, b2, hbel⟩ := hrel
    have HL := Lib.hid hbel
    have HB0 := Lib.hid b0
    have HB1 := Lib.hid b1
    have HB2 := Lib.hid b2
    by_cases hlt : k < 4
    · have hc : b[k]? = some (b[k]'(by omega)) := List.getElem?_eq_getElem (by omega)
      generalize b[k]'(by omega) = c at *
      have HS := Lib.hid (st4_set hb hlt c hc)
      have hcell : wr.cell? ⟨w.heap.size, k, none⟩ = some (.int .u8 (c.toNat : Int)) := by rw [cell_a b0 k, hc]; rfl
      have hcell2 : wr.cell? ⟨w.heap.size + 1 + 1, 12 + k, none⟩ = some (.int .u8 0) := by rw [cell_a b2 (12 + k), st4_get hb hlt]; rfl
      have hfr := b2.frozen (12 + k)
      clear b0 b1 b2 hbel hc
      go_wp2
      go_roundw
      case rel =>
        have h2 := HB2.out.set_ (12 + k) (.int .u8 (c.toNat : Int))
        rw [cA_set, HS.out] at h2
        exact ⟨k + 1, by omega, by go_num, HB0.out.far (by simp; omega) _, HB1.out.far (by simp) _, h2, HL.out.setCell (by simp; omega) _⟩
      case measure => simp [intOf]; omega
    · obtain rfl : k = 4 := by omega
      have e16 : (st4 b 4).length = 16 := st4_len hb (by omega)
      go_wp2_with (first
        | (refine go_ld 48 b2 und16 rfl info16 (by rw [cA_size, e16]) rfl rfl rfl ?_)
        | (refine go_st 48 b1 info16 rfl (by rw [cA_size, e16]) (cA_one _) rfl rfl rfl rfl ?_))
      rw [st4_all hb] at e16 ⊢
      exact ret_row Tryz.results116 b1 und16 rfl info16 (by rw [cA_size, e16]) rfl ⟨rfl, setRow_below HL.out b1 (by omega) _⟩ rfl

theorem four_no {a : List UInt8} {j : Nat} (hj : j < 10) {c : UInt8} (h : a[j]? = some c) (hc : c ≠ 0) : fourS a = false := by
  rw [fourS, beq_eq_false_iff_ne]
  intro e
  rw [e, of4S_pre, List.getElem?_append_left (by rw [pre12_len]; omega)] at h
  have h10 : ∀ j : Fin 10, pre12[j.1]? = some 0 := by decide
  rw [h10 ⟨j, hj⟩] at h
  injection h with h
  exact hc h.symm
theorem four_yes {a : List UInt8} (h : ∀ j, j < 10 → a[j]? = some 0) {x y : UInt8} (hx : a[10]? = some x) (hy : a[11]? = some y) : fourS a = (((x.toNat : Int) == 255) && ((y.toNat : Int) == 255)) := by
  have e10 : a.take 10 = pre12.take 10 := by
    apply List.ext_getElem?
    intro j
    rw [List.getElem?_take, List.getElem?_take]
    split
    · rename_i hj
      have h10 : ∀ j : Fin 10, pre12[j.1]? = some 0 := by decide
      rw [h j hj, h10 ⟨j, hj⟩]
    · rfl
  have e : a = pre12.take 10 ++ x :: y :: a.drop 12 := by
    conv => lhs; rw [← List.take_append_drop 10 a, e10]
    congr 1
    obtain ⟨l1, e1⟩ := List.getElem?_eq_some_iff.1 hx
    obtain ⟨l2, e2⟩ := List.getElem?_eq_some_iff.1 hy
    rw [List.drop_eq_getElem_cons l1, e1, List.drop_eq_getElem_cons l2, e2]
  have e2 : of4S (lastS a) = pre12.take 10 ++ 255 :: 255 :: a.drop 12 := rfl
  rw [Bool.eq_iff_iff, Bool.and_eq_true, beq_iff_eq, beq_iff_eq, fourS, beq_iff_eq, e2]
  constructor
  · intro he
    rw [e] at he
    have h1 := List.append_cancel_left he
    simp only [List.cons.injEq] at h1
    obtain ⟨rfl, rfl, _⟩ := h1
    exact ⟨rfl, rfl⟩
  · rintro ⟨h1, h2⟩
    have hx' : x = 255 := UInt8.toNat.inj (by show x.toNat = 255; omega)
    have hy' : y = 255 := UInt8.toNat.inj (by show y.toNat = 255; omega)
    rw [hx', hy'] at e
    exact e

def RFourAt (a : List UInt8) (w : World) (i : Value) (w' : World) : Prop :=
  ∃ k : Nat, k ≤ 10 ∧ i = .int .i64 k ∧ (∀ j, j < k → a[j]? = some 0) ∧ Blk w' w.heap.size 48 (cA a) ∧ Below w.heap.size w w'
set_option maxRecDepth 100000 in
set_option maxHeartbeats 2000000 in
theorem rfour_any (a : List UInt8) (ha : a.length = 16) (w : World) :
    Calls Tryz.prog 177 #[.agg (cA a)] w fun e w' => e = .returned (.bool (fourS a)) ∧ Below w.heap.size w w' := by
  go_enter Tryz.func177, Tryz.ntmps177
  go_wp2_with fail
  go_loopw [3] (fun i w' => RFourAt a w i w') (fun i _ => 10 - (intOf i).toNat)
  case atStart => exact ⟨0, by omega, rfl, fun j hj => absurd hj (by omega), Blk.new _ _ _, (Below.refl _ _).alloc (Nat.le_refl _) _⟩
  case round =>
    obtain ⟨k, hk, rfl, hz, b0, hbel⟩ := hrel
    have HL := Lib.hid hbel
    have HB0 := Lib.hid b0
    have HZ := Lib.hid hz
    by_cases hlt : k < 10
    · have hc : a[k]? = some (a[k]'(by omega)) := List.getElem?_eq_getElem (by omega)
      generalize a[k]'(by omega) = c at *
      have hcell : wr.cell? ⟨w.heap.size, k, none⟩ = some (.int .u8 (c.toNat : Int)) := by rw [cell_a b0 k, hc]; rfl
      have HC := Lib.hid hc
      clear b0 hbel hc hz
      by_cases h0 : c = 0
      · have h1 : (c.toNat : Int) = 0 := by rw [h0]; rfl
        rw [h1] at hcell
        go_wp2
        go_roundw
        case rel => exact ⟨k + 1, by omega, by go_num, fun j hj => (by
          rcases Nat.lt_or_ge j k with h | h
          · exact HZ.out j h
          · rw [show j = k by omega, HC.out, h0]), HB0.out, HL.out⟩
        case measure => simp [intOf]; omega
      · have h1 : ((c.toNat : Int) == 0) = false := by
          rw [beq_eq_false_iff_ne]
          intro e
          exact h0 (UInt8.toNat.inj (by show c.toNat = 0; omega))
        have HF := Lib.hid (four_no hlt HC.out h0)
        clear h0
        go_wp2
        go_ret
        exact ⟨by rw [HF.out]; rfl, HL.out⟩
    · obtain rfl : k = 10 := by omega
      have hc1 : a[10]? = some (a[10]'(by omega)) := List.getElem?_eq_getElem (by omega)
      have hc2 : a[11]? = some (a[11]'(by omega)) := List.getElem?_eq_getElem (by omega)
      generalize a[10]'(by omega) = x at *
      generalize a[11]'(by omega) = y at *
      have hx : wr.cell? ⟨w.heap.size, 10, none⟩ = some (.int .u8 (x.toNat : Int)) := by rw [cell_a b0 10, hc1]; rfl
      have hy : wr.cell? ⟨w.heap.size, 11, none⟩ = some (.int .u8 (y.toNat : Int)) := by rw [cell_a b0 11, hc2]; rfl
      have HF := Lib.hid (four_yes hz hc1 hc2)
      clear b0 hbel hc1 hc2 hz
      cases c1 : ((x.toNat : Int) == 255)
      · have HG := Lib.hid (show fourS a = false by rw [HF.out, c1]; rfl)
        clear HF
        go_wp2
        go_ret
        exact ⟨by rw [HG.out]; rfl, HL.out⟩
      · have HG := Lib.hid (show fourS a = ((y.toNat : Int) == 255) by rw [HF.out, c1]; rfl)
        clear HF
        go_wp2
        go_ret
        exact ⟨by rw [HG.out]; rfl, HL.out⟩

theorem run_cpb {w : World} {ty : TypeId} {dp A : Option Addr} {dLen dCap sLen sCap : Nat} (g off : Nat) {t : TypeId} {cur ys : List UInt8}
    (hb : Blk w g t (cA cur)) (hs : Src w A sLen ys) (hle : sLen ≤ dLen) (hdp : 0 < sLen → dp = some ⟨g, off, none⟩) (hfit : off + sLen ≤ cur.length) :
    ∃ w', (Builtin.copy_ #[110, 110] ty #[.slice dp dLen dCap, .slice A sLen sCap]).run Tryz.prog w = .ok (.int .i64 (sLen : Int)) w' ∧ Blk w' g t (cA (splB cur off ys)) ∧ But [g] w w' := by
  have hl := hs.1
  have hm : min sLen dLen = sLen := Nat.min_eq_left hle
  by_cases h0 : sLen = 0
  · refine ⟨w, ?_, ?_, But.refl _ _⟩
    · rw [run_copy_none w 110 110 ty 5 dp A dLen dCap sLen sCap Tryz.underlying110 size8 (by show min sLen dLen = 0; omega), h0]; rfl
    · have : ys = [] := List.eq_nil_of_length_eq_zero (by omega)
      rw [this, show splB cur off [] = cur by simp [splB]]
      exact hb
  · obtain rfl := hdp (by omega)
    obtain ⟨ad, rfl, _, hc⟩ := hs.2 (by omega)
    have hlen : (cellsOf ys).length = min sLen dLen := by rw [cellsOf_length, hl, hm]
    refine ⟨w.setRow g ((cellsOf cur).toArray.toList.take off ++ cellsOf ys ++ (cellsOf cur).toArray.toList.drop (off + (cellsOf ys).length)).toArray, ?_, ?_, (But.refl [g] w).row (g := g) (.inl (List.mem_singleton.2 rfl)) _⟩
    · rw [run_copy_row (P := Tryz.prog) w 110 110 ty 5 g off dLen dCap ad sLen sCap (cellsOf cur).toArray t (cellsOf ys) Tryz.underlying110 size8 hb hlen ?_ (by rw [hlen, hm]; simpa [cellsOf_length] using hfit) (cellsOf_one _), hlen, hm]
      · rfl
      · intro j v hj
        simp only [cellsOf, List.getElem?_map, Option.map_eq_some_iff] at hj
        obtain ⟨x, hx, rfl⟩ := hj
        exact hc j x hx
    · have := setRow_heap w g (cellsOf cur).toArray (((cellsOf cur).toArray.toList.take off ++ cellsOf ys ++ (cellsOf cur).toArray.toList.drop (off + (cellsOf ys).length)).toArray) t (0, 0) hb
      unfold Blk cA
      rw [splB_cells]
      unfold splice
      rw [← List.append_assoc]
      simpa using this
/-- copy, as one operation of a walk: what is shorter is copied whole -/
theorem wpList_cp {ops : Array Oper} {rest : List Oper} {o : Oper} {a : Act} {w : World} {Q : Exit → Act → World → Prop} {d s : Operand} {dp sp : Option Addr} {dLen dCap sLen sCap : Nat} (g off : Nat) {t : TypeId} {cur ys : List UInt8}
    (hb : Blk w g t (cA cur)) (hsrc : Src w sp sLen ys) (hgd : o.guard = none)
    (ho : o.op = .call { callee := .builtin .copy, args := #[d, s], argTypes := #[110, 110] }) (hd : a.eval d = .slice dp dLen dCap) (hs : a.eval s = .slice sp sLen sCap) (hle : sLen ≤ dLen)
    (hdp : 0 < sLen → dp = some ⟨g, off, none⟩) (hfit : off + sLen ≤ cur.length)
    (h : ∀ w', RowKit.Hid (Blk w' g t (cA (splB cur off ys))) → RowKit.Hid (But [g] w w') → wpList Tryz.prog ops Q rest (a.put o.dst (.int .i64 (sLen : Int))) w') :
    wpList Tryz.prog ops Q (o :: rest) a w := by
  obtain ⟨w', hrun, h2, h3⟩ := run_cpb (ty := o.type) (dCap := dCap) (sCap := sCap) g off hb hsrc hle hdp hfit
  refine wpList_plain hgd fun K hK => ?_
  unfold Oper.wp execOp
  simp only [ho, resolve, invoke, builtin, Sem.run_bind, Sem.run_pure, Result.andThen_ok, List.map_toArray, List.map_cons, List.map_nil, hd, hs, hrun]
  exact hK _ _ (h w' (Lib.hid h2) (Lib.hid h3))
end Go.Proofs.YtlpondbcnfaggaaGreatDoor.Ad
