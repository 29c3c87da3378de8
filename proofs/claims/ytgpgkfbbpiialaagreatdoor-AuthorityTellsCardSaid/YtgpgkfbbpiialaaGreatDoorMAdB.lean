/-
  The text of an address by its groups, in plain words: digits in base 16, groups with a colon between two, the longest row of zeros. No condition.
-/
import Derived.Test.YtgpgkfbbpiialaaGreatDoorAscPure
import Derived.Test.YtgpgkfbbpiialaaGreatDoorMAdA
import Derived.Test.YtgpgkfbbpiialaaGreatDoorApp
import Derived.Laws.BitsAllLaws
import Derived.LoopTactic
namespace Go.Proofs.YtgpgkfbbpiialaaGreatDoor.Ad
open Go Go.Proofs.YtgpgkfbbpiialaaGreatDoor.Asc

/-! a number's text in base 16 -/
def hdg (d : Nat) : UInt8 := UInt8.ofNat (if d < 10 then 48 + d else 87 + d)
theorem hdg_all : ∀ d : Fin 16, hexI ((hdg d.1).toNat : Int) = some (d.1 : Int) ∧ hdg d.1 ≠ 58 ∧ hdg d.1 ≠ 46 ∧ hdg d.1 ≠ 47 := by decide
theorem hx {d : Nat} (h : d < 16) : hexI ((hdg d).toNat : Int) = some (d : Int) := (hdg_all ⟨d, h⟩).1
def hexT (n : Nat) : List UInt8 :=
  if n < 16 then [hdg n] else if n < 256 then [hdg (n / 16), hdg (n % 16)] else if n < 4096 then [hdg (n / 256), hdg (n / 16 % 16), hdg (n % 16)]
  else [hdg (n / 4096), hdg (n / 256 % 16), hdg (n / 16 % 16), hdg (n % 16)]
theorem hexT_len (n : Nat) : 1 ≤ (hexT n).length ∧ (hexT n).length ≤ 4 := by
  unfold hexT
  split <;> (try split) <;> (try split) <;> simp
/-! groups with a colon between two -/
def gB (n : Nat) : List UInt8 := [UInt8.ofNat (n / 256), UInt8.ofNat (n % 256)]
def joinS : List Nat → List UInt8
  | [] => []
  | [n] => hexT n
  | n :: m :: r => hexT n ++ 58 :: joinS (m :: r)
theorem joinS_snoc : ∀ (l : List Nat) (n : Nat), joinS (l ++ [n]) = joinS l ++ ((if l = [] then [] else [58]) ++ hexT n)
  | [], n => by simp [joinS]
  | [m], n => by simp [joinS]
  | m :: k :: r, n => by
    have ih := joinS_snoc (k :: r) n
    rw [List.cons_append, List.cons_append, joinS, ← List.cons_append, ih, joinS]
    simp
theorem joinS_take {l : List Nat} {k n : Nat} (h : l[k]? = some n) : joinS (l.take (k + 1)) = joinS (l.take k) ++ ((if k = 0 then [] else [58]) ++ hexT n) := by
  have hk := (List.getElem?_eq_some_iff.1 h).1
  rw [List.take_add_one, h, Option.toList_some, joinS_snoc]
  congr 3
  rw [eq_iff_iff, ← List.length_eq_zero_iff, List.length_take]
  omega
/-! bytes two by two -/
def pairs : List UInt8 → List Nat
  | a :: b :: l => (a.toNat * 256 + b.toNat) :: pairs l
  | _ => []
/-! the groups that :: stands for -/
def gapStep (i n : Nat) (s : Nat × Nat × Nat) : Nat × Nat × Nat :=
  let start := if n = 0 then s.2.2 else i + 1
  if 2 ≤ i + 1 - start ∧ s.2.1 - s.1 < i + 1 - start then (start, i + 1, start) else (s.1, s.2.1, start)
def gapN (row : List Nat) : Nat → Nat × Nat × Nat
  | 0 => (0, 0, 0)
  | k + 1 => gapStep k (row.getD k 0) (gapN row k)
theorem gapN_inv (row : List Nat) : ∀ k, (gapN row k).2.2 ≤ k ∧ (∀ j, (gapN row k).2.2 ≤ j → j < k → row.getD j 0 = 0) ∧
    (((gapN row k).1 = 0 ∧ (gapN row k).2.1 = 0) ∨ ((gapN row k).1 + 2 ≤ (gapN row k).2.1 ∧ (gapN row k).2.1 ≤ k ∧ ∀ j, (gapN row k).1 ≤ j → j < (gapN row k).2.1 → row.getD j 0 = 0))
  | 0 => ⟨Nat.le_refl _, fun j _ h => absurd h (by omega), .inl ⟨rfl, rfl⟩⟩
  | k + 1 => by
    obtain ⟨h1, h2, h3⟩ := gapN_inv row k
    have hs : (gapN row (k + 1)) = gapStep k (row.getD k 0) (gapN row k) := rfl
    rw [hs]
    generalize gapN row k = s at *
    obtain ⟨f, t, st⟩ := s
    dsimp only at h1 h2 h3
    have hst : (if row.getD k 0 = 0 then st else k + 1) ≤ k + 1 ∧ ∀ j, (if row.getD k 0 = 0 then st else k + 1) ≤ j → j < k + 1 → row.getD j 0 = 0 := by
      split
      · rename_i hz
        refine ⟨by omega, fun j h4 h5 => ?_⟩
        rcases Nat.lt_or_ge j k with h6 | h6
        · exact h2 j h4 h6
        · rw [show j = k by omega]; exact hz
      · exact ⟨Nat.le_refl _, fun j h4 h5 => absurd h4 (by omega)⟩
    unfold gapStep
    dsimp only
    generalize (if row.getD k 0 = 0 then st else k + 1) = start at *
    split
    · rename_i hc
      exact ⟨hst.1, hst.2, .inr ⟨by dsimp only; omega, Nat.le_refl _, hst.2⟩⟩
    · refine ⟨hst.1, hst.2, ?_⟩
      rcases h3 with h3 | ⟨h3, h4, h5⟩
      · exact .inl h3
      · exact .inr ⟨h3, Nat.le_succ_of_le h4, h5⟩
def gapS (row : List Nat) : Nat × Nat := ((gapN row 8).1, (gapN row 8).2.1)

/-- the last j digits of n -/
def lowT (n : Nat) : Nat → List UInt8
  | 0 => []
  | j + 1 => hdg (n / 16 ^ j % 16) :: lowT n j
theorem hexT_low {n j : Nat} (hn : n < 65536) (h : n / 16 ^ j < 16) (hj : j = 0 ∨ 16 ^ j ≤ n) : hexT n = hdg (n / 16 ^ j) :: lowT n j := by
  have hj3 : j ≤ 3 := by
    rcases Nat.lt_or_ge j 4 with h4 | h4
    · omega
    · have := Nat.pow_le_pow_right (n := 16) (by omega) h4
      have e : (16 : Nat) ^ 4 = 65536 := by decide
      omega
  unfold hexT
  obtain rfl | rfl | rfl | rfl : j = 0 ∨ j = 1 ∨ j = 2 ∨ j = 3 := by omega
  · simp at h
    rw [if_pos h]; simp [lowT]
  · simp at h hj
    rw [if_neg (by omega), if_pos (by omega)]; simp [lowT]
  · simp at h hj
    rw [if_neg (by omega), if_neg (by omega), if_pos (by omega)]; simp [lowT]
  · simp at h hj
    rw [if_neg (by omega), if_neg (by omega), if_neg (by omega)]; simp [lowT]
end Go.Proofs.YtgpgkfbbpiialaaGreatDoor.Ad

/-
  Contracts of strconv.AppendInt in base 16 and of what it calls, at numbers of up to two bytes, over this seat's translation.
-/
namespace Go.Proofs.YtgpgkfbbpiialaaGreatDoor.Ad
open Go.RowKit Go.Proofs.YtgpgkfbbpiialaaGreatDoor.Wd Go.Proofs.YtgpgkfbbpiialaaGreatDoor.Asc

theorem pow2_16 (w : World) : Calls Tryz.prog 89 #[.int .i64 16] w fun e w' => e = .returned (.bool true) ∧ w = w' := by
  have h : bits .and .i64 16 15 = 0 := by decide
  go_enter Tryz.func89, Tryz.ntmps89
  go_wp2
  go_ret
  exact ⟨rfl, rfl⟩
theorem tz64_16 (w : World) (h : w.cell? ⟨3, 15, none⟩ = some (.int .u8 4)) : Calls Tryz.prog 98 #[.int .u64 16] w fun e w' => e = .returned (.int .i64 4) ∧ w = w' := by
  have h1 : bits .and .u64 16 (IntKind.u64.wrap (-16)) = 16 := by decide
  have h2 : IntKind.u64.wrap (16 * 285870213051353865) = 4573923408821661840 := by decide
  go_enter Tryz.func98, Tryz.ntmps98
  go_wp2
  go_ret
  exact ⟨rfl, rfl⟩
theorem tz_16 (w : World) (h : w.cell? ⟨3, 15, none⟩ = some (.int .u8 4)) : Calls Tryz.prog 90 #[.int .u64 16] w fun e w' => e = .returned (.int .i64 4) ∧ w = w' := by
  go_enter Tryz.func90, Tryz.ntmps90
  go_wp2_with fail
  refine (tz64_16 w h).mono ?_
  rintro e w1 ⟨rfl, rfl⟩
  go_wp2
  go_ret
  exact ⟨rfl, rfl⟩

/-- the library's digits -/
abbrev digs : ByteArray := ⟨#[48, 49, 50, 51, 52, 53, 54, 55, 56, 57, 97, 98, 99, 100, 101, 102, 103, 104, 105, 106, 107, 108, 109, 110, 111, 112, 113, 114, 115, 116, 117, 118, 119, 120, 121, 122]⟩
theorem digs_all : ∀ d : Fin 16, digs.data[d.1]? = some (hdg d.1) := by decide
theorem digs_at {q : Nat} (h : q < 16) (h' : q < digs.size) : digs[q]'h' = hdg q := by
  have h1 := digs_all ⟨q, h⟩
  rw [Array.getElem?_eq_getElem h'] at h1
  injection h1
theorem set_drop {α : Type} {L : List α} {k : Nat} (h : k < L.length) (v : α) : (L.set k v).drop k = v :: L.drop (k + 1) := by
  rw [List.drop_eq_getElem_cons (by rw [List.length_set]; exact h), List.getElem_set_self, List.drop_set_of_lt (by omega)]
section
variable {P : Program} {t e : TypeId} {n : Nat} (ht : P.underlying t = some (.array n e)) (hs : (P.info? e).map (·.size) = some 1) (g k : Nat) (w : World)
include ht hs
omit ht in
theorem sz_one : (sizeOf e).run P w = .ok 1 w := by
  cases hq : P.info? e with
  | none => simp [hq] at hs
  | some i =>
    have hi : i.size = 1 := by simpa [hq] using hs
    simp [sizeOf, typeInfo, hq, hi]
theorem arr_from (hk : k ≤ n) : (Instr.sliceAt t (.pointer (some ⟨g, 0, none⟩)) (some (.int .i64 (k : Int))) none none).run P w = .ok (.slice (some (if n = k then ⟨g, 0, none⟩ else ⟨g, k, none⟩)) (n - k) (n - k)) w := by
  have h1 := sz_one (w := w) hs
  by_cases h : n = k
  · subst h
    simp [Instr.sliceAt, Instr.sureAddr, run_underlying ht, Instr.sliceBounds, run_sliceBound, h1]
  · have e2 : (Addr.mk g 0 none).add k = ⟨g, k, none⟩ := by rw [add_none, Nat.zero_add]
    simp [Instr.sliceAt, Instr.sureAddr, run_underlying ht, Instr.sliceBounds, run_sliceBound, h1, (by omega : (k : Int) ≤ (n : Int)), h, e2]
theorem arr_to (hk : k ≤ n) : (Instr.sliceAt t (.pointer (some ⟨g, 0, none⟩)) none (some (.int .i64 (k : Int))) none).run P w = .ok (.slice (some ⟨g, 0, none⟩) k n) w := by
  have h1 := sz_one (w := w) hs
  simp [Instr.sliceAt, Instr.sureAddr, run_underlying ht, Instr.sliceBounds, run_sliceBound, h1, (by omega : (k : Int) ≤ (n : Int)), Addr.add]
end
theorem und65 : Tryz.prog.underlying 109 = some (.array 65 5) := by kernel_rfl
theorem siz81 : (Tryz.prog.info? 5).map (·.size) = some 1 := by kernel_rfl
theorem inf81 : (Tryz.prog.info? 5).map (fun i => (i.zero, i.size, i.bytes)) = some (some (.int .u8 0), 1, 1) := by kernel_rfl
def FmtAt (N : Nat) (w : World) (u i : Value) (w' : World) : Prop :=
  ∃ (j : Nat) (L : List UInt8), j ≤ 3 ∧ u = .int .u64 ((N / 16 ^ j : Nat) : Int) ∧ i = .int .i64 ((65 - j : Nat) : Int) ∧ (j = 0 ∨ 16 ^ j ≤ N) ∧ L.length = 65 ∧ L.drop (65 - j) = lowT N j ∧ Blk w' w.heap.size 109 (cA L) ∧ Below w.heap.size w w'

set_option maxRecDepth 100000 in
set_option maxHeartbeats 2000000 in
theorem fmt_any {B : Nat} (N : Nat) (hN : N < 65536) (v : Value) (xs : List UInt8) (w : World) (hO : Own w B v xs) (hx : xs.length ≤ 1000) (hB : B ≤ w.heap.size) (h : w.cell? ⟨3, 15, none⟩ = some (.int .u8 4)) (hg : 3 < w.heap.size) :
    Calls Tryz.prog 65 #[v, .int .u64 (N : Int), .int .i64 16, .bool false, .bool true] w fun e w' => ∃ v', e = .returned (.tuple #[v', .string ⟨#[]⟩]) ∧ Own w' B v' (xs ++ hexT N) ∧ Below B w w' := by
  have HO := Lib.hid hO
  clear hO
  go_enter Tryz.func65, Tryz.ntmps65
  go_wp2_with fail
  have b0 : Blk (w.alloc (.cells (cA (List.replicate 65 0)) 109)) w.heap.size 109 (cA (List.replicate 65 0)) := Blk.new _ _ _
  have hb0 : Below w.heap.size w (w.alloc (.cells (cA (List.replicate 65 0)) 109)) := (Below.refl _ _).alloc (Nat.le_refl _) _
  rw [show (Obj.cells Tryz.zeroCells109 109) = .cells (cA (List.replicate 65 0)) 109 from by congr 1]
  generalize w.alloc (.cells (cA (List.replicate 65 0)) 109) = w1 at *
  refine (pow2_16 _).mono ?_
  rintro e w2 ⟨rfl, rfl⟩
  go_wp2_with fail
  refine (tz_16 _ ((hb0.cell (p := ⟨3, 15, none⟩) hg).trans h)).mono ?_
  rintro e w2 ⟨rfl, rfl⟩
  go_wp2_with fail
  go_loopw [1, 13] (fun u i w' => FmtAt N w u i w') (fun u _ _ => (intOf u).toNat)
  case atStart => exact ⟨0, List.replicate 65 0, by omega, by simp, rfl, .inl rfl, by simp, by simp [lowT], b0, hb0⟩
  case round =>
    clear b0 hb0
    obtain ⟨j, L, hj, rfl, rfl, hjn, hL, hLd, hb, hbel⟩ := hrel
    obtain ⟨U, hU⟩ : ∃ U, U = N / 16 ^ j := ⟨_, rfl⟩
    have HU := Lib.hid hU
    have hUN : U ≤ N := by rw [hU]; exact Nat.div_le_self _ _
    rw [← hU]
    obtain ⟨I, hI⟩ : ∃ I, I = 65 - j := ⟨_, rfl⟩
    rw [← hI] at hLd
    rw [← hI]
    have hI2 : 62 ≤ I ∧ I ≤ 65 := by omega
    have HI := Lib.hid hI
    clear hI
    have HLd := Lib.hid hLd
    have HB := Lib.hid hb
    have HBe := Lib.hid hbel
    have hw1 : IntKind.i64.wrap ((I : Int) - 1) = ((I - 1 : Nat) : Int) := by rw [IntWalk.i64_in _ (by omega)]; omega
    have hf := fun k => hb.frozen k
    have hcell := fun k => cell_a hb k
    clear hLd hb hbel hU
    by_cases h16 : 16 ≤ U
    · have h16i : (16 : Int) ≤ (U : Int) := by omega
      have hand : bits .and .u64 (U : Int) 15 = ((U % 16 : Nat) : Int) := by
        have h := u64_and_nat U 15 (by omega) (by omega)
        rw [show ((15 : Nat) : Int) = 15 from rfl] at h
        rw [h, show (15 : Nat) = 2 ^ 4 - 1 from rfl, Nat.and_two_pow_sub_one_eq_mod]
      have hq : U % 16 < 16 := by omega
      generalize hqq : U % 16 = q at *
      have HQ := Lib.hid hqq
      clear hqq
      have hc1 := hcell (I - 1)
      have hf1 := hf (I - 1)
      rw [List.getElem?_eq_getElem (by omega), Option.map_some] at hc1
      clear hcell hf
      have hIi : ((I - 1 : Nat) : Int) < 65 := by omega
      go_wp2_with fail
      go_roundw
      case rel =>
        rw [digs_at hq]
        have hj1 : 16 ^ (j + 1) ≤ N := by
          rw [Nat.pow_succ]
          have h1 := HU.out
          have h2 := Nat.div_mul_le_self N (16 ^ j)
          rw [← h1] at h2
          exact Nat.le_trans (Nat.mul_comm _ _ ▸ Nat.mul_le_mul_right _ h16) h2
        have hj4 : j + 1 ≤ 3 := by
          rcases Nat.lt_or_ge (j + 1) 4 with h4 | h4
          · omega
          · have h5 := Nat.pow_le_pow_right (n := 16) (by omega) h4
            have e : (16 : Nat) ^ 4 = 65536 := by decide
            omega
        have b2 := HB.out.set_ (I - 1) (.int .u8 ((hdg q).toNat : Int))
        rw [cA_set] at b2
        have hI1 := HI.out
        refine ⟨j + 1, L.set (I - 1) (hdg q), hj4, ?_, by congr 2; omega, .inr hj1, by rw [List.length_set, hL], ?_, b2, HBe.out.setCell (p := ⟨w.heap.size, I - 1, none⟩) (Nat.le_refl _) _⟩
        · congr 1
          rw [Nat.pow_succ, ← Nat.div_div_eq_div_mul, ← HU.out]
          omega
        · rw [show 65 - (j + 1) = I - 1 by omega, set_drop (by omega), show I - 1 + 1 = I by omega, HLd.out, lowT, ← HU.out, HQ.out]
      case measure => simp [intOf]; omega
    · have h16i : (U : Int) < 16 := by omega
      have hc1 := hcell (I - 1)
      have hf1 := hf (I - 1)
      rw [List.getElem?_eq_getElem (by omega), Option.map_some] at hc1
      clear hcell hf
      have hIi : ((I - 1 : Nat) : Int) < 65 := by omega
      have hsl := fun w' => arr_from und65 siz81 w.heap.size (I - 1) w' (by omega)
      rw [if_neg (by omega)] at hsl
      have HT := Lib.hid (hexT_low hN (j := j) (by rw [← HU.out]; omega) hjn)
      go_wp2_with (at_builtin; rw [digs_at (by omega)]; refine Hid.out ?_)
      refine Lib.hid ?_
      have b2 := HB.out.set_ (I - 1) (.int .u8 ((hdg U).toNat : Int))
      rw [cA_set] at b2
      have hb2 : Below w.heap.size w (wr.setCell ⟨w.heap.size, I - 1, none⟩ (.int .u8 ((hdg U).toNat : Int))) := HBe.out.setCell (p := ⟨w.heap.size, I - 1, none⟩) (Nat.le_refl _) _
      generalize wr.setCell ⟨w.heap.size, I - 1, none⟩ (.int .u8 ((hdg U).toNat : Int)) = w2 at *
      have HO2 := Lib.hid (HO.out.below hb2 (Nat.le_refl _))
      have hs2 : Src w2 (some ⟨w.heap.size, I - 1, none⟩) (65 - (I - 1)) (hexT N) := by
        have h1 := HI.out
        have hd : (L.set (I - 1) (hdg U)).drop (I - 1) = hexT N := by
          rw [set_drop (by omega), show I - 1 + 1 = I by omega, HLd.out, HU.out, HT.out]
        have hl : (hexT N).length = 65 - (I - 1) := by rw [← hd, List.length_drop, List.length_set, hL]
        rw [← hl]
        refine Src.of_blk b2 (fun j c hc => ?_)
        rw [← hd, List.getElem?_drop] at hc
        simpa [cellsOf] using cellsOf_get hc
      have HS2 := Lib.hid hs2
      have HB2 := Lib.hid (hb2.mono hB)
      have hsz := hb2.size
      clear b2 hs2 hb2 hc1 hf1 hsl
      go_wp2_with (at_builtin; refine wpList_app rfl (.tmp 95) (.tmp 97) 57 rfl Tryz.underlying57 inf81 B _ _ rfl HO2.out _ _ _ (hexT N) rfl HS2.out (by omega) (by omega) ?_; intro v3 w3 HO3 hb3)
      go_ret2
      exact ⟨_, rfl, HO3.out, HB2.out.trans hb3⟩

theorem appU_any {B : Nat} (N : Nat) (hN : N < 65536) (v : Value) (xs : List UInt8) (w : World) (hO : Own w B v xs) (hx : xs.length ≤ 1000) (hB : B ≤ w.heap.size) (h : w.cell? ⟨3, 15, none⟩ = some (.int .u8 4)) (hg : 3 < w.heap.size) :
    Calls Tryz.prog 102 #[v, .int .u64 (N : Int), .int .i64 16] w fun e w' => ∃ v', e = .returned v' ∧ Own w' B v' (xs ++ hexT N) ∧ Below B w w' := by
  have HF := Lib.hid (fmt_any N hN v xs w hO hx hB h hg)
  clear hO
  go_enter Tryz.func102, Tryz.ntmps102
  go_wp2_with fail
  refine HF.out.mono ?_
  rintro e w1 ⟨v1, rfl, hO1, hb1⟩
  have HO1 := Lib.hid hO1
  have HB1 := Lib.hid hb1
  clear hO1 hb1
  go_wp2_with fail
  go_ret
  exact ⟨_, rfl, HO1.out, HB1.out⟩
theorem appI_in {B : Nat} (N : Nat) (hN : N < 65536) (v : Value) (xs : List UInt8) (w : World) (hO : Own w B v xs) (hx : xs.length ≤ 1000) (hB : B ≤ w.heap.size) (h : w.cell? ⟨3, 15, none⟩ = some (.int .u8 4)) (hg : 3 < w.heap.size) :
    Calls Tryz.prog 100 #[v, .int .i64 (N : Int), .int .i64 16] w fun e w' => ∃ v', e = .returned v' ∧ Own w' B v' (xs ++ hexT N) ∧ Below B w w' := by
  have HF := Lib.hid (appU_any N hN v xs w hO hx hB h hg)
  clear hO
  go_enter Tryz.func100, Tryz.ntmps100
  go_wp2_with fail
  refine HF.out.mono ?_
  rintro e w1 ⟨v1, rfl, hO1, hb1⟩
  have HO1 := Lib.hid hO1
  have HB1 := Lib.hid hb1
  clear hO1 hb1
  go_wp2_with fail
  go_ret
  exact ⟨_, rfl, HO1.out, HB1.out⟩
theorem appI_any {B : Nat} (N : Nat) (hN : N < 65536) (v : Value) (xs : List UInt8) (w : World) (hO : Own w B v xs) (hx : xs.length ≤ 1000) (hB : B ≤ w.heap.size) (h : w.cell? ⟨3, 15, none⟩ = some (.int .u8 4)) (hg : 3 < w.heap.size) :
    Calls Tryz.prog 95 #[v, .int .i64 (N : Int), .int .i64 16] w fun e w' => ∃ v', e = .returned v' ∧ Own w' B v' (xs ++ hexT N) ∧ Below B w w' := by
  have HF := Lib.hid (appI_in N hN v xs w hO hx hB h hg)
  clear hO
  go_enter Tryz.func95, Tryz.ntmps95
  go_wp2_with fail
  refine HF.out.mono ?_
  rintro e w1 ⟨v1, rfl, hO1, hb1⟩
  have HO1 := Lib.hid hO1
  have HB1 := Lib.hid hb1
  clear hO1 hb1
  go_wp2_with fail
  go_ret
  exact ⟨_, rfl, HO1.out, HB1.out⟩
end Go.Proofs.YtgpgkfbbpiialaaGreatDoor.Ad

/-
  Contracts of package addr's groupsOf and gap over this seat's translation.
-/
namespace Go.Proofs.YtgpgkfbbpiialaaGreatDoor.Ad
open Go.RowKit Go.Proofs.YtgpgkfbbpiialaaGreatDoor.Wd Go.Proofs.YtgpgkfbbpiialaaGreatDoor.Asc

theorem ofInt_i64 (a : Nat) (ha : a < 9223372036854775808) : (BitVec.ofInt 64 (a : Int)).toNat = a := by
  rw [BitVec.ofInt_natCast, BitVec.toNat_ofNat]; exact Nat.mod_eq_of_lt (by omega)
theorem i64_or_nat (a b : Nat) (ha : a < 9223372036854775808) (hb : b < 9223372036854775808) : bits .or .i64 (a : Int) (b : Int) = ((a ||| b : Nat) : Int) := by
  have hx : a ||| b < 2 ^ 63 := Nat.or_lt_two_pow (by omega) (by omega)
  show IntKind.i64.wrap ((BitVec.ofInt 64 (a : Int) ||| BitVec.ofInt 64 (b : Int)).toNat : Int) = _
  rw [BitVec.toNat_or, ofInt_i64 a ha, ofInt_i64 b hb, IntKind.wrap_i64]
  omega
theorem or_byte (a b : Nat) (ha : a < 16777216) (hb : b < 256) : bits .or .i64 ((a : Int) * 256) (b : Int) = (a : Int) * 256 + b := by
  have h := i64_or_nat (a * 256) b (by omega) (by omega)
  rw [show ((a * 256 : Nat) : Int) = (a : Int) * 256 from by omega] at h
  rw [h]
  have := Nat.shiftLeft_add_eq_or_of_lt (i := 8) (b := b) (by omega) a
  rw [Nat.shiftLeft_eq, show (2 : Nat) ^ 8 = 256 from rfl] at this
  omega

def intsOf (l : List Nat) : List Value := l.map fun n : Nat => Value.int .i64 (n : Int)
abbrev cI (l : List Nat) : Array Value := (intsOf l).toArray
theorem cI_size (l : List Nat) : (cI l).size = l.length := by simp [intsOf]
theorem cI_one (l : List Nat) : (cI l).all (·.oneCell') = true := all_oneCell_toArray (fun v hv => by
  simp only [intsOf, List.mem_map] at hv
  obtain ⟨n, _, rfl⟩ := hv
  rfl)
theorem cI_set (l : List Nat) (k v : Nat) : (cI l).setIfInBounds k (Value.int .i64 (v : Int)) = cI (l.set k v) := by
  apply Array.ext'
  simp [intsOf, List.map_set]
theorem cell_i {w : World} {g : Nat} {t : TypeId} {l : List Nat} (h : Blk w g t (cI l)) (k : Nat) : w.cell? ⟨g, k, none⟩ = (l[k]?).map fun n : Nat => Value.int .i64 (n : Int) := by
  rw [h.cell]; simp [intsOf]
theorem und8i : Tryz.prog.underlying 97 = some (.array 8 3) := by kernel_rfl
theorem inf8i : (Tryz.prog.info? 97).map (·.size) = some 8 := by kernel_rfl
theorem siz1i : (Tryz.prog.info? 3).map (·.size) = some 1 := by kernel_rfl
theorem pairs_get : ∀ (k : Nat) (a : List UInt8) (x y : UInt8), a[2 * k]? = some x → a[2 * k + 1]? = some y → (pairs a)[k]? = some (x.toNat * 256 + y.toNat)
  | 0, a :: b :: l, x, y, h1, h2 => by simp at h1 h2; subst h1 h2; rfl
  | 0, [a], x, y, h1, h2 => by simp at h2
  | 0, [], x, y, h1, h2 => by simp at h1
  | k + 1, a :: b :: l, x, y, h1, h2 => by
    rw [pairs, List.getElem?_cons_succ]
    exact pairs_get k l x y (by simpa [Nat.mul_add] using h1) (by simpa [Nat.mul_add] using h2)
  | k + 1, [a], x, y, h1, h2 => by simp at h2
  | k + 1, [], x, y, h1, h2 => by simp at h1
/-- the groups laid so far -/
def rowG (a : List UInt8) (k : Nat) : List Nat := (pairs a).take k ++ List.replicate (8 - k) 0
theorem rowG_len {a : List UInt8} (hp : (pairs a).length = 8) {k : Nat} (hk : k ≤ 8) : (rowG a k).length = 8 := by simp [rowG, hp]; omega
theorem rowG_next {a : List UInt8} (hp : (pairs a).length = 8) {k v : Nat} (hk : k < 8) (h : (pairs a)[k]? = some v) : (rowG a k).set k v = rowG a (k + 1) := by
  rw [rowG, set_mid _ _ _ _ _ (by simp [hp]; omega) (by omega), rowG, List.take_add_one, h, show 8 - (k + 1) = 8 - k - 1 by omega]
  simp
def GrpAt (a : List UInt8) (w : World) (i : Value) (w' : World) : Prop :=
  ∃ k : Nat, k ≤ 8 ∧ i = .int .i64 k ∧ Blk w' w.heap.size 63 (cA a) ∧ Blk w' (w.heap.size + 1) 97 (cI (List.replicate 8 0)) ∧ Blk w' (w.heap.size + 2) 97 (cI (rowG a k)) ∧ Below w.heap.size w w'

set_option maxHeartbeats 1000000 in
theorem grpsOf_any (a : List UInt8) (ha : a.length = 16) (hp : (pairs a).length = 8) (w : World) :
    Calls Tryz.prog 80 #[.agg (cA a)] w fun e w' => e = .returned (.agg (cI (pairs a))) ∧ Below w.heap.size w w' := by
  go_enter Tryz.func80, Tryz.ntmps80
  go_wp2_with fail
  go_loopw [5] (fun i w' => GrpAt a w i w') (fun i _ => 8 - (intOf i).toNat)
  case atStart => exact ⟨0, by omega, rfl, ((Blk.new _ _ _).alloc _).alloc _, (blk_at _ _ _ _ _ (by rw [alloc_size]) rfl).alloc _, blk_at _ _ _ _ _ (by rw [alloc_size, alloc_size]) (by simp [rowG]; rfl), (((Below.refl _ _).alloc (Nat.le_refl _) _).alloc (by simp) _).alloc (by simp; omega) _⟩
  case round =>
    obtain ⟨k, hk, rfl, b0, b1, b2, hbel⟩ := hrel
    by_cases hlt : k < 8
    · have hki : (k : Int) < 8 := by omega
      obtain ⟨x, hx⟩ : ∃ x, a[2 * k]? = some x := ⟨_, List.getElem?_eq_getElem (by omega)⟩
      obtain ⟨y, hy⟩ : ∃ y, a[2 * k + 1]? = some y := ⟨_, List.getElem?_eq_getElem (by omega)⟩
      have hpk := pairs_get k a x y hx hy
      have c0 := cell_a b0 (2 * k)
      have c1 := cell_a b0 (2 * k + 1)
      have c2 := cell_i b2 k
      have f2 := b2.frozen k
      have e2 : (rowG a k)[k]? = some 0 := by
        rw [rowG, List.getElem?_append_right (by rw [List.length_take]; omega), List.getElem?_replicate, if_pos (by rw [List.length_take]; omega)]
      rw [hx, Option.map_some] at c0
      rw [hy, Option.map_some] at c1
      rw [e2, Option.map_some] at c2
      have hm1 : IntKind.i64.wrap (2 * (k : Int)) = ((2 * k : Nat) : Int) := by rw [IntWalk.i64_in _ (by omega)]; omega
      have hm2 : IntKind.i64.wrap (((2 * k : Nat) : Int) + 1) = ((2 * k + 1 : Nat) : Int) := by rw [IntWalk.i64_in _ (by omega)]; omega
      have hi1 : ((2 * k : Nat) : Int) < 16 := by omega
      have hi2 : ((2 * k + 1 : Nat) : Int) < 16 := by omega
      have HB0 := Lib.hid b0
      have HB1 := Lib.hid b1
      have HB2 := Lib.hid b2
      have hxb := x.toNat_lt
      have hyb := y.toNat_lt
      clear b0 b1 b2 hx hy e2
      have hor : bits .or .i64 ((x.toNat : Int) * 256) (y.toNat : Int) = ((x.toNat * 256 + y.toNat : Nat) : Int) := by rw [or_byte x.toNat y.toNat (by omega) hyb]; omega
      have HN := Lib.hid (rowG_next hp hlt hpk)
      clear hpk
      go_wp2_with fail
      go_region
      go_wp2_with fail
      go_roundw
      case rel =>
        have b2 := HB2.out.set_ k (.int .i64 ((x.toNat * 256 + y.toNat : Nat) : Int))
        rw [cI_set, HN.out, show ((x.toNat * 256 + y.toNat : Nat) : Int) = (x.toNat : Int) * 256 + (y.toNat : Int) by omega] at b2
        refine ⟨k + 1, by omega, by go_num, HB0.out.far (p := ⟨w.heap.size + 1 + 1, k, none⟩) (by simp; omega) _, HB1.out.far (p := ⟨w.heap.size + 1 + 1, k, none⟩) (by simp) _, b2, (hbel.setCell (p := ⟨w.heap.size + 1 + 1, k, none⟩) (by simp; omega) _).drew⟩
      case measure => simp [intOf]; omega
    · obtain rfl : k = 8 := by omega
      have e8 : (rowG a 8).length = 8 := rowG_len hp (Nat.le_refl _)
      have e0 : (List.replicate 8 0 : List Nat).length = 8 := rfl
      go_wp2_with (first
        | (refine go_ld 97 b2 und8i rfl inf8i (by rw [cI_size, e8]) rfl rfl rfl ?_)
        | (refine go_st 97 b1 inf8i (by rw [cI_size]; rfl) (by rw [cI_size, e8]) (cI_one _) rfl rfl rfl rfl ?_))
      have e : rowG a 8 = pairs a := by
        rw [rowG, List.take_of_length_le (by omega)]; simp
      rw [e]
      exact ret_row Tryz.results80 b1 und8i rfl inf8i (by rw [cI_size, hp]) rfl ⟨rfl, setRow_below hbel b1 (by omega) _⟩ rfl

theorem idx_row (row : List Nat) (k n : Nat) (hk : k < 8) (h : row[k]? = some n) (w : World) : (Instr.index 97 (.agg (cI row)) (.int .i64 (k : Int))).run Tryz.prog w = .ok (.int .i64 (n : Int)) w := by
  have hci : (cI row)[k]? = some (.int .i64 (n : Int)) := by
    show (intsOf row).toArray[k]? = _
    rw [List.getElem?_toArray, intsOf, List.getElem?_map, h]
    rfl
  have h1 := sz_one (P := Tryz.prog) (w := w) siz1i
  have h2 := run_part_plain (P := Tryz.prog) (e := 3) (off := k) w (by kernel_rfl) hci
  have h3 : ¬ 8 ≤ k := by omega
  simp [Instr.index, asIntOf, run_underlying und8i, h1, h2, h3]
set_option maxRecDepth 100000 in
set_option maxHeartbeats 1000000 in
theorem gap_any (row : List Nat) (hp : row.length = 8) (w : World) :
    Calls Tryz.prog 81 #[.agg (cI row)] w fun e w' => e = .returned (.tuple #[.int .i64 ((gapS row).1 : Int), .int .i64 ((gapS row).2 : Int)]) ∧ Below w.heap.size w w' := by
  go_enter Tryz.func81, Tryz.ntmps81
  have b0 := Blk.new w 97 (cI row)
  have hbel : Below w.heap.size w (w.alloc (.cells (cI row) 97)) := (Below.refl _ _).alloc (Nat.le_refl _) _
  go_wp2_with (refine go_ld 97 b0 und8i rfl inf8i (by rw [cI_size, hp]) rfl rfl rfl ?_)
  have HBel := Lib.hid hbel
  clear hbel b0
  generalize w.alloc (.cells (cI row) 97) = w1 at *
  go_loop [4, 5, 6, 11] (fun f t s i => ∃ k : Nat, k ≤ 8 ∧ i = .int .i64 (k : Int) ∧ f = .int .i64 ((gapN row k).1 : Int) ∧ t = .int .i64 ((gapN row k).2.1 : Int) ∧ s = .int .i64 ((gapN row k).2.2 : Int)) (fun _ _ _ i => 8 - (intOf i).toNat)
  case atStart => exact ⟨0, by omega, rfl, rfl, rfl, rfl⟩
  case round =>
    obtain ⟨k, hk, rfl, rfl, rfl, rfl⟩ := hrel
    by_cases hlt : k < 8
    · have hki : (k : Int) < 8 := by omega
      have hg : row[k]? = some (row.getD k 0) := by rw [List.getD_eq_getElem?_getD, List.getElem?_eq_getElem (by omega)]; rfl
      have hidx := fun w' => idx_row row k _ hlt hg w'
      have HStep := Lib.hid (show gapN row (k + 1) = gapStep k (row.getD k 0) (gapN row k) from rfl)
      have hinv := gapN_inv row k
      generalize row.getD k 0 = n at *
      generalize gapN row k = st at *
      obtain ⟨f, t, s⟩ := st
      dsimp only at hinv
      obtain ⟨h1, -, h3⟩ := hinv
      have hft : f ≤ t ∧ t ≤ k := by rcases h3 with h3 | h3 <;> omega
      clear h3
      have hw1 : IntKind.i64.wrap ((k : Int) + 1) = ((k + 1 : Nat) : Int) := by rw [IntWalk.i64_in _ (by omega)]; omega
      by_cases hn : n = 0
      · subst hn
        have hw2 : IntKind.i64.wrap (((k + 1 : Nat) : Int) - (s : Int)) = ((k + 1 - s : Nat) : Int) := by rw [IntWalk.i64_in _ (by omega)]; omega
        have hw3 : IntKind.i64.wrap ((t : Int) - (f : Int)) = ((t - f : Nat) : Int) := by rw [IntWalk.i64_in _ (by omega)]; omega
        obtain ⟨z, hz⟩ : ∃ z, z = k + 1 - s := ⟨_, rfl⟩
        obtain ⟨d, hd⟩ : ∃ d, d = t - f := ⟨_, rfl⟩
        have HG := Lib.hid (show gapStep k 0 (f, t, s) = if 2 ≤ z ∧ d < z then (s, k + 1, s) else (f, t, s) from by rw [hz, hd]; rfl)
        rw [← hz] at hw2
        rw [← hd] at hw3
        have hzb : z ≤ 8 := by omega
        clear hw2
        by_cases h2 : 2 ≤ z
        · have h2i : (2 : Int) ≤ (k : Int) + 1 - (s : Int) := by omega
          by_cases h4 : d < z
          · have h4i : (d : Int) < (k : Int) + 1 - (s : Int) := by omega
            have HG2 := Lib.hid (HStep.out.trans (HG.out.trans (if_pos ⟨h2, h4⟩)))
            clear HG HStep h2 h4 hz hd
            go_wp2_with fail
            go_round
            case rel => exact ⟨k + 1, by omega, by go_num, by rw [HG2.out], by rw [HG2.out]; go_num, by rw [HG2.out]⟩
            case measure => simp [intOf]; omega
          · have h4i : (k : Int) + 1 - (s : Int) ≤ (d : Int) := by omega
            have HG2 := Lib.hid (HStep.out.trans (HG.out.trans (if_neg (fun h => h4 h.2))))
            clear HG HStep h2 h4 hz hd
            go_wp2_with fail
            go_round
            case rel => exact ⟨k + 1, by omega, by go_num, by rw [HG2.out], by rw [HG2.out], by rw [HG2.out]⟩
            case measure => simp [intOf]; omega
        · have h2i : (k : Int) + 1 - (s : Int) < 2 := by omega
          have HG2 := Lib.hid (HStep.out.trans (HG.out.trans (if_neg (fun h => h2 h.1))))
          clear HG HStep h2 hz hd
          go_wp2_with fail
          go_round
          case rel => exact ⟨k + 1, by omega, by go_num, by rw [HG2.out], by rw [HG2.out], by rw [HG2.out]⟩
          case measure => simp [intOf]; omega
      · have hni : ((n : Int) == 0) = false := by rw [beq_eq_false_iff_ne]; omega
        have hni2 : ((n : Int) != 0) = true := by rw [bne, hni]; rfl
        have hw2 : IntKind.i64.wrap (((k + 1 : Nat) : Int) - ((k + 1 : Nat) : Int)) = 0 := by rw [IntWalk.i64_in _ (by omega)]; omega
        have HG2 := Lib.hid (HStep.out.trans (show gapStep k n (f, t, s) = (f, t, k + 1) from by
          unfold gapStep
          dsimp only
          rw [if_neg hn, if_neg (by omega)]))
        clear HStep hn
        go_wp2_with fail
        go_round
        case rel => exact ⟨k + 1, by omega, by go_num, by rw [HG2.out], by rw [HG2.out], by rw [HG2.out]; go_num⟩
        case measure => simp [intOf]; omega
    · obtain rfl : k = 8 := by omega
      go_wp2_with fail
      go_ret2
      exact ⟨rfl, HBel.out⟩
end Go.Proofs.YtgpgkfbbpiialaaGreatDoor.Ad

/-
  Contract of package addr's appendRow at ints, in base 16, over this seat's translation.
-/
namespace Go.Proofs.YtgpgkfbbpiialaaGreatDoor.Ad
open Go.RowKit Go.Proofs.YtgpgkfbbpiialaaGreatDoor.Wd Go.Proofs.YtgpgkfbbpiialaaGreatDoor.Asc

theorem one_srcI (w : World) (c : UInt8) : Src (w.alloc (.cells #[.int .u8 (c.toNat : Int)] 5)) (some ⟨w.heap.size, 0, none⟩) 1 [c] := Src.marked w _ _ _ [c] rfl
theorem joinS_le : ∀ row : List Nat, (joinS row).length ≤ 5 * row.length
  | [] => by simp [joinS]
  | [n] => by have := (hexT_len n).2; simp [joinS]; omega
  | n :: m :: r => by
    have h1 := (hexT_len n).2
    have h2 := joinS_le (m :: r)
    simp only [joinS, List.length_append, List.length_cons] at h2 ⊢
    omega
/-- numbers that a slice of ints leads to -/
def SrcI (w : World) (A : Option Addr) (n : Nat) (l : List Nat) : Prop :=
  l.length = n ∧ (∀ x ∈ l, x < 65536) ∧ (0 < n → ∃ g off, A = some ⟨g, off, none⟩ ∧ g < w.heap.size ∧ ∀ (k x : Nat), l[k]? = some x → w.cell? ⟨g, off + k, none⟩ = some (.int .i64 (x : Int)))
set_option maxRecDepth 100000 in
set_option maxHeartbeats 2000000 in
theorem rowI_any {B : Nat} (v : Value) (pre : List UInt8) (A : Option Addr) (n cp : Nat) (l : List Nat) (w : World) (hO : Own w B v pre) (hpre : pre.length ≤ 500) (hs : SrcI w A n l) (hn8 : n ≤ 8) (hB : B ≤ w.heap.size)
    (hA : 0 < n → ∀ x, A = some x → x.block < B) (htz : w.cell? ⟨3, 15, none⟩ = some (.int .u8 4)) (hg : 3 < B) :
    Calls Tryz.prog 82 #[v, .slice A n cp, .int .u8 58, .int .i64 16] w fun e w' => ∃ v', e = .returned v' ∧ Own w' B v' (pre ++ joinS l) ∧ Below B w w' := by
  obtain ⟨hl, h64, hcl⟩ := hs
  have HO := Lib.hid hO
  have HCl := Lib.hid hcl
  have HA := Lib.hid hA
  have HL := Lib.hid hl
  clear hO hcl hA hl
  go_enter Tryz.func82, Tryz.ntmps82
  go_wp2_with fail
  go_loopw [0, 13] (fun t i w' => ∃ k : Nat, k ≤ n ∧ i = .int .i64 (k : Int) ∧ Hid (Own w' B t (pre ++ joinS (l.take k))) ∧ Hid (Below B w w')) (fun _ i _ => n - (intOf i).toNat)
  case atStart => exact ⟨0, by omega, rfl, by rw [List.take_zero, joinS, List.append_nil]; exact HO, Lib.hid (Below.refl _ _)⟩
  case round =>
    obtain ⟨k, hk, rfl, HO1, HB1⟩ := hrel
    by_cases hlt : k < n
    · have hki : (k : Int) < (n : Int) := by omega
      obtain ⟨g, off, rfl, hgw, hcells⟩ := HCl.out (by omega)
      have hgB := HA.out (by omega) _ rfl
      obtain ⟨x, hx⟩ : ∃ x, l[k]? = some x := ⟨_, List.getElem?_eq_getElem (by have := HL.out; omega)⟩
      have hx64 := h64 x (List.mem_of_getElem? hx)
      have hc := (HB1.out.cell (p := ⟨g, off + k, none⟩) hgB).trans (hcells k x hx)
      have HJ := Lib.hid (joinS_take hx)
      have htz1 := (HB1.out.cell (p := ⟨3, 15, none⟩) hg).trans htz
      have HTz := Lib.hid htz1
      have hsz := HB1.out.size
      have hjl : (joinS (l.take k)).length ≤ 40 := by
        have h1 := joinS_le (l.take k)
        have h2 : (l.take k).length ≤ 8 := by rw [List.length_take]; omega
        omega
      clear hcells hx htz1
      generalize joinS (l.take k) = J at *
      by_cases hk0 : k = 0
      · subst hk0
        rw [Nat.add_zero] at hc
        go_wp2_with fail
        refine (appI_any x hx64 _ _ wr HO1.out (by rw [List.length_append]; omega) (by omega) HTz.out (by omega)).mono ?_
        rintro e w2 ⟨v2, rfl, hO2, hb2⟩
        have HO2 := Lib.hid hO2
        have HB2 := Lib.hid (HB1.out.trans hb2)
        clear hO2 hb2
        go_wp2_with fail
        go_roundw
        case rel => exact ⟨1, by omega, by go_num, by rw [HJ.out, if_pos trivial, List.nil_append, ← List.append_assoc]; exact HO2, HB2⟩
        case measure => simp [intOf]; omega
      · have hkp : (0 : Int) < (k : Int) := by omega
        go_wp2_with (at_builtin; refine wpList_app rfl _ _ 57 rfl Tryz.underlying57 inf81 B _ _ rfl (HO1.out.alloc _) _ 1 1 [58] rfl (one_srcI wr 58) (by rw [List.length_append]; omega) (by simp; omega) ?_; intro v1 w1 hown1 hb1; refine Hid.out ?_)
        have hbA : Below B wr (wr.alloc (.cells #[.int .u8 58] 5)) := (Below.refl _ _).alloc (by omega) _
        have hb2 := hbA.trans hb1
        have HB2 := Lib.hid (HB1.out.trans hb2)
        have HTz2 := Lib.hid ((hb2.cell (p := ⟨3, 15, none⟩) hg).trans HTz.out)
        have hsz1 := hb2.size
        clear hb1 hbA hb2
        refine Lib.hid ?_
        go_wp2_with fail
        refine (appI_any x hx64 _ _ w1 hown1.out (by rw [List.length_append, List.length_append]; simp; omega) (by omega) HTz2.out (by omega)).mono ?_
        rintro e w2 ⟨v2, rfl, hO2, hb2⟩
        have HO2 := Lib.hid hO2
        have HB3 := Lib.hid (HB2.out.trans hb2)
        clear hO2 hb2
        go_wp2_with fail
        go_roundw
        case rel => exact ⟨k + 1, by omega, by go_num, by rw [HJ.out, if_neg hk0, ← List.append_assoc, ← List.append_assoc]; exact HO2, HB3⟩
        case measure => simp [intOf]; omega
    · obtain rfl : k = n := by omega
      rw [List.take_of_length_le (by have := HL.out; omega)] at HO1
      go_wp2_with fail
      go_ret
      exact ⟨_, rfl, HO1.out, HB1.out⟩
end Go.Proofs.YtgpgkfbbpiialaaGreatDoor.Ad
