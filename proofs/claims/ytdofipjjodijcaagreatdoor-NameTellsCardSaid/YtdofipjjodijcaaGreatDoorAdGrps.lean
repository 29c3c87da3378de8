/-
  Contracts of package addr's groupsOf and gap over this seat's translation.
-/
import Derived.Test.YtdofipjjodijcaaGreatDoorAdFmt
namespace Go.Proofs.YtdofipjjodijcaaGreatDoor.Ad
open Go.RowKit Go.Proofs.YtdofipjjodijcaaGreatDoor.Wd Go.Proofs.YtdofipjjodijcaaGreatDoor.Asc

theorem ofInt_i64 (a : Nat) (ha : a < 9223372036854775808) : (BitVec.ofInt 64 (a : Int)).toNat = a := by
  rw [BitVec.ofInt_natCast, BitVec.toNat_ofNat]; exact Nat.mod_eq_of_lt (by omega)
theorem i64_or_nat (a b : Nat) (ha : a < 9223372036854775808) (hb : b < 9223372036854775808) : bits .or .i64 (a : Int) (b : Int) = ((a ||| b : Nat) : Int) := by
  have hx : a ||| b < 2 ^ 63 := Nat.or_lt_two_pow (by omega) (by omega)
  show IntKind.i64.wrap ((BitVec.ofInt 64 (a : Int) ||| BitVec.ofInt 64 (b : Int)).toNat : Int) = _
  rw [BitVec.toNat_or, ofInt_i64 a ha, ofInt_i64 b hb, IntKind.wrap_i64]
  omega
theorem or_byte (a b : Nat) (ha : a < 16777216) (hb : b < 256) : bits .or .i64 ((a : Int) * 256) (b : Int) = (a : Int) * 256 + b := by
  have h := i64_or_nat (a * 256) b (by omega) (by omega)
  rw [show ((a * 256 : Nat) : Int) = (a : Int) * 256 from by omega] at h
  rw [h]
  have := Nat.shiftLeft_add_eq_or_of_lt (i := 8) (b := b) (by omega) a
  rw [Nat.shiftLeft_eq, show (2 : Nat) ^ 8 = 256 from rfl] at this
  omega

def intsOf (l : List Nat) : List Value := l.map fun n : Nat => Value.int .i64 (n : Int)
abbrev cI (l : List Nat) : Array Value := (intsOf l).toArray
theorem cI_size (l : List Nat) : (cI l).size = l.length := by simp [intsOf]
theorem cI_one (l : List Nat) : (cI l).all (·.oneCell') = true := all_oneCell_toArray (fun v hv => by
  simp only [intsOf, List.mem_map] at hv
  obtain ⟨n, _, rfl⟩ := hv
  rfl)
theorem cI_set (l : List Nat) (k v : Nat) : (cI l).setIfInBounds k (Value.int .i64 (v : Int)) = cI (l.set k v) := by
  apply Array.ext'
  simp [intsOf, List.map_set]
theorem cell_i {w : World} {g : Nat} {t : TypeId} {l : List Nat} (h : Blk w g t (cI l)) (k : Nat) : w.cell? ⟨g, k, none⟩ = (l[k]?).map fun n : Nat => Value.int .i64 (n : Int) := by
  rw [h.cell]; simp [intsOf]
theorem und8i : Tryz.prog.underlying 47 = some (.array 8 3) := by kernel_rfl
theorem inf8i : (Tryz.prog.info? 47).map (·.size) = some 8 := by kernel_rfl
theorem siz1i : (Tryz.prog.info? 3).map (·.size) = some 1 := by kernel_rfl
theorem pairs_get : ∀ (k : Nat) (a : List UInt8) (x y : UInt8), a[2 * k]? = some x → a[2 * k + 1]? = some y → (pairs a)[k]? = some (x.toNat * 256 + y.toNat)
  | 0, a :: b :: l, x, y, h1, h2 => by simp at h1 h2; subst h1 h2; rfl
  | 0, [a], x, y, h1, h2 => by simp at h2
  | 0, [], x, y, h1, h2 => by simp at h1
  | k + 1, a :: b :: l, x, y, h1, h2 => by
    rw [pairs, List.getElem?_cons_succ]
    exact pairs_get k l x y (by simpa [Nat.mul_add] using h1) (by simpa [Nat.mul_add] using h2)
  | k + 1, [a], x, y, h1, h2 => by simp at h2
  | k + 1, [], x, y, h1, h2 => by simp at h1
/-- the groups laid so far -/
def rowG (a : List UInt8) (k : Nat) : List Nat := (pairs a).take k ++ List.replicate (8 - k) 0
theorem rowG_len {a : List UInt8} (hp : (pairs a).length = 8) {k : Nat} (hk : k ≤ 8) : (rowG a k).length = 8 := by simp [rowG, hp]; omega
theorem rowG_next {a : List UInt8} (hp : (pairs a).length = 8) {k v : Nat} (hk : k < 8) (h : (pairs a)[k]? = some v) : (rowG a k).set k v = rowG a (k + 1) := by
  rw [rowG, set_mid _ _ _ _ _ (by simp [hp]; omega) (by omega), rowG, List.take_add_one, h, show 8 - (k + 1) = 8 - k - 1 by omega]
  simp
def GrpAt (a : List UInt8) (w : World) (i : Value) (w' : World) : Prop :=
  ∃ k : Nat, k ≤ 8 ∧ i = .int .i64 k ∧ Blk w' w.heap.size 32 (cA a) ∧ Blk w' (w.heap.size + 1) 47 (cI (List.replicate 8 0)) ∧ Blk w' (w.heap.size + 2) 47 (cI (rowG a k)) ∧ Below w.heap.size w w'

set_option maxHeartbeats 1000000 in
theorem grpsOf_any (a : List UInt8) (ha : a.length = 16) (hp : (pairs a).length = 8) (w : World) :
    Calls Tryz.prog 30 #[.agg (cA a)] w fun e w' => e = .returned (.agg (cI (pairs a))) ∧ Below w.heap.size w w' := by
  go_enter Tryz.func30, Tryz.ntmps30
  go_wp2_with fail
  go_loopw [5] (fun i w' => GrpAt a w i w') (fun i _ => 8 - (intOf i).toNat)
  case atStart => exact ⟨0, by omega, rfl, ((Blk.new _ _ _).alloc _).alloc _, (blk_at _ _ _ _ _ (by rw [alloc_size]) rfl).alloc _, blk_at _ _ _ _ _ (by rw [alloc_size, alloc_size]) (by simp [rowG]; rfl), (((Below.refl _ _).alloc (Nat.le_refl _) _).alloc (by simp) _).alloc (by simp; omega) _⟩
  case round =>
    obtain ⟨k, hk, rfl, b0, b1, b2, hbel⟩ := hrel
    by_cases hlt : k < 8
    · have hki : (k : Int) < 8 := by omega
      obtain ⟨x, hx⟩ : ∃ x, a[2 * k]? = some x := ⟨_, List.getElem?_eq_getElem (by omega)⟩
      obtain ⟨y, hy⟩ : ∃ y, a[2 * k + 1]? = some y := ⟨_, List.getElem?_eq_getElem (by omega)⟩
      have hpk := pairs_get k a x y hx hy
      have c0 := cell_a b0 (2 * k)
      have c1 := cell_a b0 (2 * k + 1)
      have c2 := cell_i b2 k
      have f2 := b2.frozen k
      have e2 : (rowG a k)[k]? = some 0 := by
        rw [rowG, List.getElem?_append_right (by rw [List.length_take]; omega), List.getElem?_replicate, if_pos (by rw [List.length_take]; omega)]
      rw [hx, Option.map_some] at c0
      rw [hy, Option.map_some] at c1
      rw [e2, Option.map_some] at c2
      have hm1 : IntKind.i64.wrap (2 * (k : Int)) = ((2 * k : Nat) : Int) := by rw [IntWalk.i64_in _ (by omega)]; omega
      have hm2 : IntKind.i64.wrap (((2 * k : Nat) : Int) + 1) = ((2 * k + 1 : Nat) : Int) := by rw [IntWalk.i64_in _ (by omega)]; omega
      have hi1 : ((2 * k : Nat) : Int) < 16 := by omega
      have hi2 : ((2 * k + 1 : Nat) : Int) < 16 := by omega
      have HB0 := Lib.hid b0
      have HB1 := Lib.hid b1
      have HB2 := Lib.hid b2
      have hxb := x.toNat_lt
      have hyb := y.toNat_lt
      clear b0 b1 b2 hx hy e2
      have hor : bits .or .i64 ((x.toNat : Int) * 256) (y.toNat : Int) = ((x.toNat * 256 + y.toNat : Nat) : Int) := by rw [or_byte x.toNat y.toNat (by omega) hyb]; omega
      have HN := Lib.hid (rowG_next hp hlt hpk)
      clear hpk
      go_wp2_with fail
      go_region
      go_wp2_with fail
      go_roundw
      case rel =>
        have b2 := HB2.out.set_ k (.int .i64 ((x.toNat * 256 + y.toNat : Nat) : Int))
        rw [cI_set, HN.out, show ((x.toNat * 256 + y.toNat : Nat) : Int) = (x.toNat : Int) * 256 + (y.toNat : Int) by omega] at b2
        refine ⟨k + 1, by omega, by go_num, HB0.out.far (p := ⟨w.heap.size + 1 + 1, k, none⟩) (by simp; omega) _, HB1.out.far (p := ⟨w.heap.size + 1 + 1, k, none⟩) (by simp) _, b2, (hbel.setCell (p := ⟨w.heap.size + 1 + 1, k, none⟩) (by simp; omega) _).drew⟩
      case measure => simp [intOf]; omega
    · obtain rfl : k = 8 := by omega
      have e8 : (rowG a 8).length = 8 := rowG_len hp (Nat.le_refl _)
      have e0 : (List.replicate 8 0 : List Nat).length = 8 := rfl
      go_wp2_with (first
        | (refine go_ld 47 b2 und8i rfl inf8i (by rw [cI_size, e8]) rfl rfl rfl ?_)
        | (refine go_st 47 b1 inf8i (by rw [cI_size]; rfl) (by rw [cI_size, e8]) (cI_one _) rfl rfl rfl rfl ?_))
      have e : rowG a 8 = pairs a := by
        rw [rowG, List.take_of_length_le (by omega)]; simp
      rw [e]
      exact ret_row Tryz.results30 b1 und8i rfl inf8i (by rw [cI_size, hp]) rfl ⟨rfl, setRow_below hbel b1 (by omega) _⟩ rfl

theorem idx_row (row : List Nat) (k n : Nat) (hk : k < 8) (h : row[k]? = some n) (w : World) : (Instr.index 47 (.agg (cI row)) (.int .i64 (k : Int))).run Tryz.prog w = .ok (.int .i64 (n : Int)) w := by
  have hci : (cI row)[k]? = some (.int .i64 (n : Int)) := by
    show (intsOf row).toArray[k]? = _
    rw [List.getElem?_toArray, intsOf, List.getElem?_map, h]
    rfl
  have h1 := sz_one (P := Tryz.prog) (w := w) siz1i
  have h2 := run_part_plain (P := Tryz.prog) (e := 3) (off := k) w (by kernel_rfl) hci
  have h3 : ¬ 8 ≤ k := by omega
  simp [Instr.index, asIntOf, run_underlying und8i, h1, h2, h3]
set_option maxRecDepth 100000 in
set_option maxHeartbeats 1000000 in
theorem gap_any (row : List Nat) (hp : row.length = 8) (w : World) :
    Calls Tryz.prog 31 #[.agg (cI row)] w fun e w' => e = .returned (.tuple #[.int .i64 ((gapS row).1 : Int), .int .i64 ((gapS row).2 : Int)]) ∧ Below w.heap.size w w' := by
  go_enter Tryz.func31, Tryz.ntmps31
  have b0 := Blk.new w 47 (cI row)
  have hbel : Below w.heap.size w (w.alloc (.cells (cI row) 47)) := (Below.refl _ _).alloc (Nat.le_refl _) _
  go_wp2_with (refine go_ld 47 b0 und8i rfl inf8i (by rw [cI_size, hp]) rfl rfl rfl ?_)
  have HBel := Lib.hid hbel
  clear hbel b0
  generalize w.alloc (.cells (cI row) 47) = w1 at *
  go_loop [4, 5, 6, 11] (fun f t s i => ∃ k : Nat, k ≤ 8 ∧ i = .int .i64 (k : Int) ∧ f = .int .i64 ((gapN row k).1 : Int) ∧ t = .int .i64 ((gapN row k).2.1 : Int) ∧ s = .int .i64 ((gapN row k).2.2 : Int)) (fun _ _ _ i => 8 - (intOf i).toNat)
  case atStart => exact ⟨0, by omega, rfl, rfl, rfl, rfl⟩
  case round =>
    obtain ⟨k, hk, rfl, rfl, rfl, rfl⟩ := hrel
    by_cases hlt : k < 8
    · have hki : (k : Int) < 8 := by omega
      have hg : row[k]? = some (row.getD k 0) := by rw [List.getD_eq_getElem?_getD, List.getElem?_eq_getElem (by omega)]; rfl
      have hidx := fun w' => idx_row row k _ hlt hg w'
      have HStep := Lib.hid (show gapN row (k + 1) = gapStep k (row.getD k 0) (gapN row k) from rfl)
      have hinv := gapN_inv row k
      generalize row.getD k 0 = n at *
      generalize gapN row k = st at *
      obtain ⟨f, t, s⟩ := st
      dsimp only at hinv
      obtain ⟨h1, -, h3⟩ := hinv
      have hft : f ≤ t ∧ t ≤ k := by rcases h3 with h3 | h3 <;> omega
      clear h3
      have hw1 : IntKind.i64.wrap ((k : Int) + 1) = ((k + 1 : Nat) : Int) := by rw [IntWalk.i64_in _ (by omega)]; omega
      by_cases hn : n = 0
      · subst hn
        have hw2 : IntKind.i64.wrap (((k + 1 : Nat) : Int) - (s : Int)) = ((k + 1 - s : Nat) : Int) := by rw [IntWalk.i64_in _ (by omega)]; omega
        have hw3 : IntKind.i64.wrap ((t : Int) - (f : Int)) = ((t - f : Nat) : Int) := by rw [IntWalk.i64_in _ (by omega)]; omega
        obtain ⟨z, hz⟩ : ∃ z, z = k + 1 - s := ⟨_, rfl⟩
        obtain ⟨d, hd⟩ : ∃ d, d = t - f := ⟨_, rfl⟩
        have HG := Lib.hid (show gapStep k 0 (f, t, s) = if 2 ≤ z ∧ d < z then (s, k + 1, s) else (f, t, s) from by rw [hz, hd]; rfl)
        rw [← hz] at hw2
        rw [← hd] at hw3
        have hzb : z ≤ 8 := by omega
        clear hw2
        by_cases h2 : 2 ≤ z
        · have h2i : (2 : Int) ≤ (k : Int) + 1 - (s : Int) := by omega
          by_cases h4 : d < z
          · have h4i : (d : Int) < (k : Int) + 1 - (s : Int) := by omega
            have HG2 := Lib.hid (HStep.out.trans (HG.out.trans (if_pos ⟨h2, h4⟩)))
            clear HG HStep h2 h4 hz hd
            go_wp2_with fail
            go_round
            case rel => exact ⟨k + 1, by omega, by go_num, by rw [HG2.out], by rw [HG2.out]; go_num, by rw [HG2.out]⟩
            case measure => simp [intOf]; omega
          · have h4i : (k : Int) + 1 - (s : Int) ≤ (d : Int) := by omega
            have HG2 := Lib.hid (HStep.out.trans (HG.out.trans (if_neg (fun h => h4 h.2))))
            clear HG HStep h2 h4 hz hd
            go_wp2_with fail
            go_round
            case rel => exact ⟨k + 1, by omega, by go_num, by rw [HG2.out], by rw [HG2.out], by rw [HG2.out]⟩
            case measure => simp [intOf]; omega
        · have h2i : (k : Int) + 1 - (s : Int) < 2 := by omega
          have HG2 := Lib.hid (HStep.out.trans (HG.out.trans (if_neg (fun h => h2 h.1))))
          clear HG HStep h2 hz hd
          go_wp2_with fail
          go_round
          case rel => exact ⟨k + 1, by omega, by go_num, by rw [HG2.out], by rw [HG2.out], by rw [HG2.out]⟩
          case measure => simp [intOf]; omega
      · have hni : ((n : Int) == 0) = false := by rw [beq_eq_false_iff_ne]; omega
        have hni2 : ((n : Int) != 0) = true := by rw [bne, hni]; rfl
        have hw2 : IntKind.i64.wrap (((k + 1 : Nat) : Int) - ((k + 1 : Nat) : Int)) = 0 := by rw [IntWalk.i64_in _ (by omega)]; omega
        have HG2 := Lib.hid (HStep.out.trans (show gapStep k n (f, t, s) = (f, t, k + 1) from by
          unfold gapStep
          dsimp only
          rw [if_neg hn, if_neg (by omega)]))
        clear HStep hn
        go_wp2_with fail
        go_round
        case rel => exact ⟨k + 1, by omega, by go_num, by rw [HG2.out], by rw [HG2.out], by rw [HG2.out]; go_num⟩
        case measure => simp [intOf]; omega
    · obtain rfl : k = 8 := by omega
      go_wp2_with fail
      go_ret2
      exact ⟨rfl, HBel.out⟩
end Go.Proofs.YtdofipjjodijcaaGreatDoor.Ad
