/-
  Contracts of strconv.AppendInt in base 16 and of what it calls, at numbers of up to two bytes, over this seat's translation.
-/
import Derived.Test.YtlpondbcnfaggaaGreatDoorR08
import Derived.Test.YtlpondbcnfaggaaGreatDoorR01
import Derived.Test.YtlpondbcnfaggaaGreatDoorR04
import Derived.Laws.BitsAllLaws
import Derived.LoopTactic
import Derived.Test.YtlpondbcnfaggaaGreatDoorR07
import Derived.Lib.AppendStr
namespace Go.Proofs.YtlpondbcnfaggaaGreatDoor.Ad
open Go.RowKit Go.Proofs.YtlpondbcnfaggaaGreatDoor.Wd Go.Proofs.YtlpondbcnfaggaaGreatDoor.Asc

theorem pow2_16 (w : World) : Calls Tryz.prog 200 #[.int .i64 16] w fun e w' => e = .returned (.bool true) ∧ w = w' := by
  have h : bits .and .i64 16 15 = 0 := by decide
  go_enter Tryz.func200, Tryz.ntmps200
  go_wp2
  go_ret
  exact ⟨rfl, rfl⟩
theorem tz64_16 (w : World) (h : w.cell? ⟨5, 15, none⟩ = some (.int .u8 4)) : Calls Tryz.prog 203 #[.int .u64 16] w fun e w' => e = .returned (.int .i64 4) ∧ w = w' := by
  have h1 : bits .and .u64 16 (IntKind.u64.wrap (-16)) = 16 := by decide
  have h2 : IntKind.u64.wrap (16 * 285870213051353865) = 4573923408821661840 := by decide
  go_enter Tryz.func203, Tryz.ntmps203
  go_wp2
  go_ret
  exact ⟨rfl, rfl⟩
theorem tz_16 (w : World) (h : w.cell? ⟨5, 15, none⟩ = some (.int .u8 4)) : Calls Tryz.prog 201 #[.int .u64 16] w fun e w' => e = .returned (.int .i64 4) ∧ w = w' := by
  go_enter Tryz.func201, Tryz.ntmps201
  go_wp2_with fail
  refine (tz64_16 w h).mono ?_
  rintro e w1 ⟨rfl, rfl⟩
  go_wp2
  go_ret
  exact ⟨rfl, rfl⟩

/-- the library's digits -/
abbrev digs : ByteArray := ⟨#[48, 49, 50, 51, 52, 53, 54, 55, 56, 57, 97, 98, 99, 100, 101, 102, 103, 104, 105, 106, 107, 108, 109, 110, 111, 112, 113, 114, 115, 116, 117, 118, 119, 120, 121, 122]⟩
theorem digs_all : ∀ d : Fin 16, digs.data[d.1]? = some (hdg d.1) := by decide
theorem digs_at {q : Nat} (h : q < 16) (h' : q < digs.size) : digs[q]'h' = hdg q := by
  have h1 := digs_all ⟨q, h⟩
  rw [Array.getElem?_eq_getElem h'] at h1
  injection h1
theorem set_drop {α : Type} {L : List α} {k : Nat} (h : k < L.length) (v : α) : (L.set k v).drop k = v :: L.drop (k + 1) := by
  rw [List.drop_eq_getElem_cons (by rw [List.length_set]; exact h), List.getElem_set_self, List.drop_set_of_lt (by omega)]
section
variable {P : Program} {t e : TypeId} {n : Nat} (ht : P.underlying t = some (.array n e)) (hs : (P.info? e).map (·.size) = some 1) (g k : Nat) (w : World)
include ht hs
omit ht in
theorem sz_one : (sizeOf e).run P w = .ok 1 w := by
  cases hq : P.info? e with
  | none => simp [hq] at hs
  | some i =>
    have hi : i.size = 1 := by simpa [hq] using hs
    simp [sizeOf, typeInfo, hq, hi]
theorem arr_from (hk : k ≤ n) : (Instr.sliceAt t (.pointer (some ⟨g, 0, none⟩)) (some (.int .i64 (k : Int))) none none).run P w = .ok (.slice (some (if n = k then ⟨g, 0, none⟩ else ⟨g, k, none⟩)) (n - k) (n - k)) w := by
  have h1 := sz_one (w := w) hs
  by_cases h : n = k
  · subst h
    simp [Instr.sliceAt, Instr.sureAddr, run_underlying ht, Instr.sliceBounds, run_sliceBound, h1]
  · have e2 : (Addr.mk g 0 none).add k = ⟨g, k, none⟩ := by rw [add_none, Nat.zero_add]
    simp [Instr.sliceAt, Instr.sureAddr, run_underlying ht, Instr.sliceBounds, run_sliceBound, h1, (by omega : (k : Int) ≤ (n : Int)), h, e2]
theorem arr_to (hk : k ≤ n) : (Instr.sliceAt t (.pointer (some ⟨g, 0, none⟩)) none (some (.int .i64 (k : Int))) none).run P w = .ok (.slice (some ⟨g, 0, none⟩) k n) w := by
  have h1 := sz_one (w := w) hs
  simp [Instr.sliceAt, Instr.sureAddr, run_underlying ht, Instr.sliceBounds, run_sliceBound, h1, (by omega : (k : Int) ≤ (n : Int)), Addr.add]
end
theorem und65 : Tryz.prog.underlying 225 = some (.array 65 5) := by kernel_rfl
theorem siz81 : (Tryz.prog.info? 5).map (·.size) = some 1 := by kernel_rfl
theorem inf81 : (Tryz.prog.info? 5).map (fun i => (i.zero, i.size, i.bytes)) = some (some (.int .u8 0), 1, 1) := by kernel_rfl
def FmtAt (N : Nat) (w : World) (u i : Value) (w' : World) : Prop :=
  ∃ (j : Nat) (L : List UInt8), j ≤ 3 ∧ u = .int .u64 ((N / 16 ^ j : Nat) : Int) ∧ i = .int .i64 ((65 - j : Nat) : Int) ∧ (j = 0 ∨ 16 ^ j ≤ N) ∧ L.length = 65 ∧ L.drop (65 - j) = lowT N j ∧ Blk w' w.heap.size 225 (cA L) ∧ Below w.heap.size w w'

set_option maxRecDepth 100000 in
set_option maxHeartbeats 2000000 in
theorem fmt_any {B : Nat} (N : Nat) (hN : N < 65536) (v : Value) (xs : List UInt8) (w : World) (hO : Own w B v xs) (hx : xs.length ≤ 1000) (hB : B ≤ w.heap.size) (h : w.cell? ⟨5, 15, none⟩ = some (.int .u8 4)) (hg : 5 < w.heap.size) :
    Calls Tryz.prog 194 #[v, .int .u64 (N : Int), .int .i64 16, .bool false, .bool true] w fun e w' => ∃ v', e = .returned (.tuple #[v', .string ⟨#[]⟩]) ∧ Own w' B v' (xs ++ hexT N) ∧ Below B w w' := by
  have HO := Lib.hid hO
  clear hO
  go_enter Tryz.func194, Tryz.ntmps194
  go_wp2_with fail
  have b0 : Blk (w.alloc (.cells (cA (List.replicate 65 0)) 225)) w.heap.size 225 (cA (List.replicate 65 0)) := Blk.new _ _ _
  have hb0 : Below w.heap.size w (w.alloc (.cells (cA (List.replicate 65 0)) 225)) := (Below.refl _ _).alloc (Nat.le_refl _) _
  rw [show (Obj.cells Tryz.zeroCells225 225) = .cells (cA (List.replicate 65 0)) 225 from by congr 1]
  generalize w.alloc (.cells (cA (List.replicate 65 0)) 225) = w1 at *
  refine (pow2_16 _).mono ?_
  rintro e w2 ⟨rfl, rfl⟩
  go_wp2_with fail
  refine (tz_16 _ ((hb0.cell (p := ⟨5, 15, none⟩) hg).trans h)).mono ?_
  rintro e w2 ⟨rfl, rfl⟩
  go_wp2_with fail
  go_loopw [1, 13] (fun u i w' => FmtAt N w u i w') (fun u _ _ => (intOf u).toNat)
  case atStart => exact ⟨0, List.replicate 65 0, by omega, by simp, rfl, .inl rfl, by simp, by simp [lowT], b0, hb0⟩
  case round =>
    clear b0 hb0
    obtain ⟨j, L, hj, rfl, rfl, hjn, hL, hLd, hb, hbel⟩ := hrel
    obtain ⟨U, hU⟩ : ∃ U, U = N / 16 ^ j := ⟨_, rfl⟩
    have HU := Lib.hid hU
    have hUN : U ≤ N := by rw [hU]; exact Nat.div_le_self _ _
    rw [← hU]
    obtain ⟨I, hI⟩ : ∃ I, I = 65 - j := ⟨_, rfl⟩
    rw [← hI] at hLd
    rw [← hI]
    have hI2 : 62 ≤ I ∧ I ≤ 65 := by omega
    have HI := Lib.hid hI
    clear hI
    have HLd := Lib.hid hLd
    have HB := Lib.hid hb
    have HBe := Lib.hid hbel
    have hw1 : IntKind.i64.wrap ((I : Int) - 1) = ((I - 1 : Nat) : Int) := by rw [IntWalk.i64_in _ (by omega)]; omega
    have hf := fun k => hb.frozen k
    have hcell := fun k => cell_a hb k
    clear hLd hb hbel hU
    by_cases h16 : 16 ≤ U
    · have h16i : (16 : Int) ≤ (U : Int) := by omega
      have hand : bits .and .u64 (U : Int) 15 = ((U % 16 : Nat) : Int) := by
        have h := u64_and_nat U 15 (by omega) (by omega)
        rw [show ((15 : Nat) : Int) = 15 from rfl] at h
        rw [h, show (15 : Nat) = 2 ^ 4 - 1 from rfl, Nat.and_two_pow_sub_one_eq_mod]
      have hq : U % 16 < 16 := by omega
      generalize hqq : U % 16 = q at *
      have HQ := Lib.hid hqq
      clear hqq
      have hc1 := hcell (I - 1)
      have hf1 := hf (I - 1)
      rw [List.getElem?_eq_getElem (by omega), Option.map_some] at hc1
      clear hcell hf
      have hIi : ((I - 1 : Nat) : Int) < 65 := by omega
      go_wp2_with fail
      go_roundw
      case rel =>
        rw [digs_at hq]
        have hj1 : 16 ^ (j + 1) ≤ N := by
          rw [Nat.pow_succ]
          have h1 := HU.out
          have h2 := Nat.div_mul_le_self N (16 ^ j)
          rw [← h1] at h2
          exact Nat.le_trans (Nat.mul_comm _ _ ▸ Nat.mul_le_mul_right _ h16) h2
        have hj4 : j + 1 ≤ 3 := by
          rcases Nat.lt_or_ge (j + 1) 4 with h4 | h4
          · omega
          · have h5 := Nat.pow_le_pow_right (n := 16) (by omega) h4
            have e : (16 : Nat) ^ 4 = 65536 := by decide
            omega
        have b2 := HB.out.set_ (I - 1) (.int .u8 ((hdg q).toNat : Int))
        rw [cA_set] at b2
        have hI1 := HI.out
        refine ⟨j + 1, L.set (I - 1) (hdg q), hj4, ?_, by congr 2; omega, .inr hj1, by rw [List.length_set, hL], ?_, b2, HBe.out.setCell (p := ⟨w.heap.size, I - 1, none⟩) (Nat.le_refl _) _⟩
        · congr 1
          rw [Nat.pow_succ, ← Nat.div_div_eq_div_mul, ← HU.out]
          omega
        · rw [show 65 - (j + 1) = I - 1 by omega, set_drop (by omega), show I - 1 + 1 = I by omega, HLd.out, lowT, ← HU.out, HQ.out]
      case measure => simp [intOf]; omega
    · have h16i : (U : Int) < 16 := by omega
      have hc1 := hcell (I - 1)
      have hf1 := hf (I - 1)
      rw [List.getElem?_eq_getElem (by omega), Option.map_some] at hc1
      clear hcell hf
      have hIi : ((I - 1 : Nat) : Int) < 65 := by omega
      have hsl := fun w' => arr_from und65 siz81 w.heap.size (I - 1) w' (by omega)
      rw [if_neg (by omega)] at hsl
      have HT := Lib.hid (hexT_low hN (j := j) (by rw [← HU.out]; omega) hjn)
      go_wp2_with (at_builtin; rw [digs_at (by omega)]; refine Hid.out ?_)
      refine Lib.hid ?_
      have b2 := HB.out.set_ (I - 1) (.int .u8 ((hdg U).toNat : Int))
      rw [cA_set] at b2
      have hb2 : Below w.heap.size w (wr.setCell ⟨w.heap.size, I - 1, none⟩ (.int .u8 ((hdg U).toNat : Int))) := HBe.out.setCell (p := ⟨w.heap.size, I - 1, none⟩) (Nat.le_refl _) _
      generalize wr.setCell ⟨w.heap.size, I - 1, none⟩ (.int .u8 ((hdg U).toNat : Int)) = w2 at *
      have HO2 := Lib.hid (HO.out.below hb2 (Nat.le_refl _))
      have hs2 : Src w2 (some ⟨w.heap.size, I - 1, none⟩) (65 - (I - 1)) (hexT N) := by
        have h1 := HI.out
        have hd : (L.set (I - 1) (hdg U)).drop (I - 1) = hexT N := by
          rw [set_drop (by omega), show I - 1 + 1 = I by omega, HLd.out, HU.out, HT.out]
        have hl : (hexT N).length = 65 - (I - 1) := by rw [← hd, List.length_drop, List.length_set, hL]
        rw [← hl]
        refine Src.of_blk b2 (fun j c hc => ?_)
        rw [← hd, List.getElem?_drop] at hc
        simpa [cellsOf] using cellsOf_get hc
      have HS2 := Lib.hid hs2
      have HB2 := Lib.hid (hb2.mono hB)
      have hsz := hb2.size
      clear b2 hs2 hb2 hc1 hf1 hsl
      go_wp2_with (at_builtin; refine wpList_app rfl (.tmp 95) (.tmp 97) 110 rfl Tryz.underlying110 inf81 B _ _ rfl HO2.out _ _ _ (hexT N) rfl HS2.out (by omega) (by omega) ?_; intro v3 w3 HO3 hb3)
      go_ret2
      exact ⟨_, rfl, HO3.out, HB2.out.trans hb3⟩

theorem appU_any {B : Nat} (N : Nat) (hN : N < 65536) (v : Value) (xs : List UInt8) (w : World) (hO : Own w B v xs) (hx : xs.length ≤ 1000) (hB : B ≤ w.heap.size) (h : w.cell? ⟨5, 15, none⟩ = some (.int .u8 4)) (hg : 5 < w.heap.size) :
    Calls Tryz.prog 181 #[v, .int .u64 (N : Int), .int .i64 16] w fun e w' => ∃ v', e = .returned v' ∧ Own w' B v' (xs ++ hexT N) ∧ Below B w w' := by
  have HF := Lib.hid (fmt_any N hN v xs w hO hx hB h hg)
  clear hO
  go_enter Tryz.func181, Tryz.ntmps181
  go_wp2_with fail
  refine HF.out.mono ?_
  rintro e w1 ⟨v1, rfl, hO1, hb1⟩
  have HO1 := Lib.hid hO1
  have HB1 := Lib.hid hb1
  clear hO1 hb1
  go_wp2_with fail
  go_ret
  exact ⟨_, rfl, HO1.out, HB1.out⟩
theorem appI_in {B : Nat} (N : Nat) (hN : N < 65536) (v : Value) (xs : List UInt8) (w : World) (hO : Own w B v xs) (hx : xs.length ≤ 1000) (hB : B ≤ w.heap.size) (h : w.cell? ⟨5, 15, none⟩ = some (.int .u8 4)) (hg : 5 < w.heap.size) :
    Calls Tryz.prog 156 #[v, .int .i64 (N : Int), .int .i64 16] w fun e w' => ∃ v', e = .returned v' ∧ Own w' B v' (xs ++ hexT N) ∧ Below B w w' := by
  have HF := Lib.hid (appU_any N hN v xs w hO hx hB h hg)
  clear hO
  go_enter Tryz.func156, Tryz.ntmps156
  go_wp2_with fail
  refine HF.out.mono ?_
  rintro e w1 ⟨v1, rfl, hO1, hb1⟩
  have HO1 := Lib.hid hO1
  have HB1 := Lib.hid hb1
  clear hO1 hb1
  go_wp2_with fail
  go_ret
  exact ⟨_, rfl, HO1.out, HB1.out⟩
theorem appI_any {B : Nat} (N : Nat) (hN : N < 65536) (v : Value) (xs : List UInt8) (w : World) (hO : Own w B v xs) (hx : xs.length ≤ 1000) (hB : B ≤ w.heap.size) (h : w.cell? ⟨5, 15, none⟩ = some (.int .u8 4)) (hg : 5 < w.heap.size) :
    Calls Tryz.prog 123 #[v, .int .i64 (N : Int), .int .i64 16] w fun e w' => ∃ v', e = .returned v' ∧ Own w' B v' (xs ++ hexT N) ∧ Below B w w' := by
  have HF := Lib.hid (appI_in N hN v xs w hO hx hB h hg)
  clear hO
  go_enter Tryz.func123, Tryz.ntmps123
  go_wp2_with fail
  refine HF.out.mono ?_
  rintro e w1 ⟨v1, rfl, hO1, hb1⟩
  have HO1 := Lib.hid hO1
  have HB1 := Lib.hid hb1
  clear hO1 hb1
  go_wp2_with fail
  go_ret
  exact ⟨_, rfl, HO1.out, HB1.out⟩
end Go.Proofs.YtlpondbcnfaggaaGreatDoor.Ad

/-
  Contracts of package addr's groupsOf and gap over this seat's translation.
-/
namespace Go.Proofs.YtlpondbcnfaggaaGreatDoor.Ad
open Go.RowKit Go.Proofs.YtlpondbcnfaggaaGreatDoor.Wd Go.Proofs.YtlpondbcnfaggaaGreatDoor.Asc

theorem ofInt_i64 (a : Nat) (ha : a < 9223372036854775808) : (BitVec.ofInt 64 (a : Int)).toNat = a := by
  rw [BitVec.ofInt_natCast, BitVec.toNat_ofNat]; exact Nat.mod_eq_of_lt (by omega)
theorem i64_or_nat (a b : Nat) (ha : a < 9223372036854775808) (hb : b < 9223372036854775808) : bits .or .i64 (a : Int) (b : Int) = ((a ||| b : Nat) : Int) := by
  have hx : a ||| b < 2 ^ 63 := Nat.or_lt_two_pow (by omega) (by omega)
  show IntKind.i64.wrap ((BitVec.ofInt 64 (a : Int) ||| BitVec.ofInt 64 (b : Int)).toNat : Int) = _
  rw [BitVec.toNat_or, ofInt_i64 a ha, ofInt_i64 b hb, IntKind.wrap_i64]
  omega
theorem or_byte (a b : Nat) (ha : a < 16777216) (hb : b < 256) : bits .or .i64 ((a : Int) * 256) (b : Int) = (a : Int) * 256 + b := by
  have h := i64_or_nat (a * 256) b (by omega) (by omega)
  rw [show ((a * 256 : Nat) : Int) = (a : Int) * 256 from by omega] at h
  rw [h]
  have := Nat.shiftLeft_add_eq_or_of_lt (i := 8) (b := b) (by omega) a
  rw [Nat.shiftLeft_eq, show (2 : Nat) ^ 8 = 256 from rfl] at this
  omega

def intsOf (l : List Nat) : List Value := l.map fun n : Nat => Value.int .i64 (n : Int)
abbrev cI (l : List Nat) : Array Value := (intsOf l).toArray
theorem cI_size (l : List Nat) : (cI l).size = l.length := by simp [intsOf]
theorem cI_one (l : List Nat) : (cI l).all (·.oneCell') = true := all_oneCell_toArray (fun v hv => by
  simp only [intsOf, List.mem_map] at hv
  obtain ⟨n, _, rfl⟩ := hv
  rfl)
theorem cI_set (l : List Nat) (k v : Nat) : (cI l).setIfInBounds k (Value.int .i64 (v : Int)) = cI (l.set k v) := by
  apply Array.ext'
  simp [intsOf, List.map_set]
theorem cell_i {w : World} {g : Nat} {t : TypeId} {l : List Nat} (h : Blk w g t (cI l)) (k : Nat) : w.cell? ⟨g, k, none⟩ = (l[k]?).map fun n : Nat => Value.int .i64 (n : Int) := by
  rw [h.cell]; simp [intsOf]
theorem und8i : Tryz.prog.underlying 139 = some (.array 8 3) := by kernel_rfl
theorem inf8i : (Tryz.prog.info? 139).map (·.size) = some 8 := by kernel_rfl
theorem siz1i : (Tryz.prog.info? 3).map (·.size) = some 1 := by kernel_rfl
theorem pairs_get : ∀ (k : Nat) (a : List UInt8) (x y : UInt8), a[2 * k]? = some x → a[2 * k + 1]? = some y → (pairs a)[k]? = some (x.toNat * 256 + y.toNat)
  | 0, a :: b :: l, x, y, h1, h2 => by simp at h1 h2; subst h1 h2; rfl
  | 0, [a], x, y, h1, h2 => by simp at h2
  | 0, [], x, y, h1, h2 => by simp at h1
  | k + 1, a :: b :: l, x, y, h1, h2 => by
    rw [pairs, List.getElem?_cons_succ]
    exact pairs_get k l x y (by simpa [Nat.mul_add] using h1) (by simpa [Nat.mul_add] using h2)
  | k + 1, [a], x, y, h1, h2 => by simp at h2
  | k + 1, [], x, y, h1, h2 => by simp at h1
/-- the groups laid so far -/
def rowG (a : List UInt8) (k : Nat) : List Nat := (pairs a).take k ++ List.replicate (8 - k) 0
theorem rowG_len {a : List UInt8} (hp : (pairs a).length = 8) {k : Nat} (hk : k ≤ 8) : (rowG a k).length = 8 := by simp [rowG, hp]; omega
theorem rowG_next {a : List UInt8} (hp : (pairs a).length = 8) {k v : Nat} (hk : k < 8) (h : (pairs a)[k]? = some v) : (rowG a k).set k v = rowG a (k + 1) := by
  rw [rowG, set_mid _ _ _ _ _ (by simp [hp]; omega) (by omega), rowG, List.take_add_one, h, show 8 - (k + 1) = 8 - k - 1 by omega]
  simp
def GrpAt (a : List UInt8) (w : World) (i : Value) (w' : World) : Prop :=
  ∃ k : Nat, k ≤ 8 ∧ i = .int .i64 k ∧ Blk w' w.heap.size 48 (cA a) ∧ Blk w' (w.heap.size + 1) 139 (cI (List.replicate 8 0)) ∧ Blk w' (w.heap.size + 2) 139 (cI (rowG a k)) ∧ Below w.heap.size w w'

set_option maxHeartbeats 1000000 in
theorem grpsOf_any (a : List UInt8) (ha : a.length = 16) (hp : (pairs a).length = 8) (w : World) :
    Calls Tryz.prog 86 #[.agg (cA a)] w fun e w' => e = .returned (.agg (cI (pairs a))) ∧ Below w.heap.size w w' := by
  go_enter Tryz.func86, Tryz.ntmps86
  go_wp2_with fail
  go_loopw [5] (fun i w' => GrpAt a w i w') (fun i _ => 8 - (intOf i).toNat)
  case atStart => exact ⟨0, by omega, rfl, ((Blk.new _ _ _).alloc _).alloc _, (blk_at _ _ _ _ _ (by rw [alloc_size]) rfl).alloc _, blk_at _ _ _ _ _ (by rw [alloc_size, alloc_size]) (by simp [rowG]; rfl), (((Below.refl _ _).alloc (Nat.le_refl _) _).alloc (by simp) _).alloc (by simp; omega) _⟩
  case round =>
    obtain ⟨k, hk, rfl, b0, b1, b2, hbel⟩ := hrel
    by_cases hlt : k < 8
    · have hki : (k : Int) < 8 := by omega
      obtain ⟨x, hx⟩ : ∃ x, a[2 * k]? = some x := ⟨_, List.getElem?_eq_getElem (by omega)⟩
      obtain ⟨y, hy⟩ : ∃ y, a[2 * k + 1]? = some y := ⟨_, List.getElem?_eq_getElem (by omega)⟩
      have hpk := pairs_get k a x y hx hy
      have c0 := cell_a b0 (2 * k)
      have c1 := cell_a b0 (2 * k + 1)
      have c2 := cell_i b2 k
      have f2 := b2.frozen k
      have e2 : (rowG a k)[k]? = some 0 := by
        rw [rowG, List.getElem?_append_right (by rw [List.length_take]; omega), List.getElem?_replicate, if_pos (by rw [List.length_take]; omega)]
      rw [hx, Option.map_some] at c0
      rw [hy, Option.map_some] at c1
      rw [e2, Option.map_some] at c2
      have hm1 : IntKind.i64.wrap (2 * (k : Int)) = ((2 * k : Nat) : Int) := by rw [IntWalk.i64_in _ (by omega)]; omega
      have hm2 : IntKind.i64.wrap (((2 * k : Nat) : Int) + 1) = ((2 * k + 1 : Nat) : Int) := by rw [IntWalk.i64_in _ (by omega)]; omega
      have hi1 : ((2 * k : Nat) : Int) < 16 := by omega
      have hi2 : ((2 * k + 1 : Nat) : Int) < 16 := by omega
      have HB0 := Lib.hid b0
      have HB1 := Lib.hid b1
      have HB2 := Lib.hid b2
      have hxb := x.toNat_lt
      have hyb := y.toNat_lt
      clear b0 b1 b2 hx hy e2
      have hor : bits .or .i64 ((x.toNat : Int) * 256) (y.toNat : Int) = ((x.toNat * 256 + y.toNat : Nat) : Int) := by rw [or_byte x.toNat y.toNat (by omega) hyb]; omega
      have HN := Lib.hid (rowG_next hp hlt hpk)
      clear hpk
      go_wp2_with fail
      go_region
      go_wp2_with fail
      go_roundw
      case rel =>
        have b2 := HB2.out.set_ k (.int .i64 ((x.toNat * 256 + y.toNat : Nat) : Int))
        rw [cI_set, HN.out, show ((x.toNat * 256 + y.toNat : Nat) : Int) = (x.toNat : Int) * 256 + (y.toNat : Int) by omega] at b2
        refine ⟨k + 1, by omega, by go_num, HB0.out.far (p := ⟨w.heap.size + 1 + 1, k, none⟩) (by simp; omega) _, HB1.out.far (p := ⟨w.heap.size + 1 + 1, k, none⟩) (by simp) _, b2, (hbel.setCell (p := ⟨w.heap.size + 1 + 1, k, none⟩) (by simp; omega) _).drew⟩
      case measure => simp [intOf]; omega
    · obtain rfl : k = 8 := by omega
      have e8 : (rowG a 8).length = 8 := rowG_len hp (Nat.le_refl _)
      have e0 : (List.replicate 8 0 : List Nat).length = 8 := rfl
      go_wp2_with (first
        | (refine go_ld 139 b2 und8i rfl inf8i (by rw [cI_size, e8]) rfl rfl rfl ?_)
        | (refine go_st 139 b1 inf8i (by rw [cI_size]; rfl) (by rw [cI_size, e8]) (cI_one _) rfl rfl rfl rfl ?_))
      have e : rowG a 8 = pairs a := by
        rw [rowG, List.take_of_length_le (by omega)]; simp
      rw [e]
      exact ret_row Tryz.results86 b1 und8i rfl inf8i (by rw [cI_size, hp]) rfl ⟨rfl, setRow_below hbel b1 (by omega) _⟩ rfl

theorem idx_row (row : List Nat) (k n : Nat) (hk : k < 8) (h : row[k]? = some n) (w : World) : (Instr.index 139 (.agg (cI row)) (.int .i64 (k : Int))).run Tryz.prog w = .ok (.int .i64 (n : Int)) w := by
  have hci : (cI row)[k]? = some (.int .i64 (n : Int)) := by
    show (intsOf row).toArray[k]? = _
    rw [List.getElem?_toArray, intsOf, List.getElem?_map, h]
    rfl
  have h1 := sz_one (P := Tryz.prog) (w := w) siz1i
  have h2 := run_part_plain (P := Tryz.prog) (e := 3) (off := k) w (by kernel_rfl) hci
  have h3 : ¬ 8 ≤ k := by omega
  simp [Instr.index, asIntOf, run_underlying und8i, h1, h2, h3]
set_option maxRecDepth 100000 in
set_option maxHeartbeats 1000000 in
theorem gap_any (row : List Nat) (hp : row.length = 8) (w : World) :
    Calls Tryz.prog 87 #[.agg (cI row)] w fun e w' => e = .returned (.tuple #[.int .i64 ((gapS row).1 : Int), .int .i64 ((gapS row).2 : Int)]) ∧ Below w.heap.size w w' := by
  go_enter Tryz.func87, Tryz.ntmps87
  have b0 := Blk.new w 139 (cI row)
  have hbel : Below w.heap.size w (w.alloc (.cells (cI row) 139)) := (Below.refl _ _).alloc (Nat.le_refl _) _
  go_wp2_with (refine go_ld 139 b0 und8i rfl inf8i (by rw [cI_size, hp]) rfl rfl rfl ?_)
  have HBel := Lib.hid hbel
  clear hbel b0
  generalize w.alloc (.cells (cI row) 139) = w1 at *
  go_loop [4, 5, 6, 11] (fun f t s i => ∃ k : Nat, k ≤ 8 ∧ i = .int .i64 (k : Int) ∧ f = .int .i64 ((gapN row k).1 : Int) ∧ t = .int .i64 ((gapN row k).2.1 : Int) ∧ s = .int .i64 ((gapN row k).2.2 : Int)) (fun _ _ _ i => 8 - (intOf i).toNat)
  case atStart => exact ⟨0, by omega, rfl, rfl, rfl, rfl⟩
  case round =>
    obtain ⟨k, hk, rfl, rfl, rfl, rfl⟩ := hrel
    by_cases hlt : k < 8
    · have hki : (k : Int) < 8 := by omega
      have hg : row[k]? = some (row.getD k 0) := by rw [List.getD_eq_getElem?_getD, List.getElem?_eq_getElem (by omega)]; rfl
      have hidx := fun w' => idx_row row k _ hlt hg w'
      have HStep := Lib.hid (show gapN row (k + 1) = gapStep k (row.getD k 0) (gapN row k) from rfl)
      have hinv := gapN_inv row k
      generalize row.getD k 0 = n at *
      generalize gapN row k = st at *
      obtain ⟨f, t, s⟩ := st
      dsimp only at hinv
      obtain ⟨h1, -, h3⟩ := hinv
      have hft : f ≤ t ∧ t ≤ k := by rcases h3 with h3 | h3 <;> omega
      clear h3
      have hw1 : IntKind.i64.wrap ((k : Int) + 1) = ((k + 1 : Nat) : Int) := by rw [IntWalk.i64_in _ (by omega)]; omega
      by_cases hn : n = 0
      · subst hn
        have hw2 : IntKind.i64.wrap (((k + 1 : Nat) : Int) - (s : Int)) = ((k + 1 - s : Nat) : Int) := by rw [IntWalk.i64_in _ (by omega)]; omega
        have hw3 : IntKind.i64.wrap ((t : Int) - (f : Int)) = ((t - f : Nat) : Int) := by rw [IntWalk.i64_in _ (by omega)]; omega
        obtain ⟨z, hz⟩ : ∃ z, z = k + 1 - s := ⟨_, rfl⟩
        obtain ⟨d, hd⟩ : ∃ d, d = t - f := ⟨_, rfl⟩
        have HG := Lib.hid (show gapStep k 0 (f, t, s) = if 2 ≤ z ∧ d < z then (s, k + 1, s) else (f, t, s) from by rw [hz, hd]; rfl)
        rw [← hz] at hw2
        rw [← hd] at hw3
        have hzb : z ≤ 8 := by omega
        clear hw2
        by_cases h2 : 2 ≤ z
        · have h2i : (2 : Int) ≤ (k : Int) + 1 - (s : Int) := by omega
          by_cases h4 : d < z
          · have h4i : (d : Int) < (k : Int) + 1 - (s : Int) := by omega
            have HG2 := Lib.hid (HStep.out.trans (HG.out.trans (if_pos ⟨h2, h4⟩)))
            clear HG HStep h2 h4 hz hd
            go_wp2_with fail
            go_round
            case rel => exact ⟨k + 1, by omega, by go_num, by rw [HG2.out], by rw [HG2.out]; go_num, by rw [HG2.out]⟩
            case measure => simp [intOf]; omega
          · have h4i : (k : Int) + 1 - (s : Int) ≤ (d : Int) := by omega
            have HG2 := Lib.hid (HStep.out.trans (HG.out.trans (if_neg (fun h => h4 h.2))))
            clear HG HStep h2 h4 hz hd
            go_wp2_with fail
            go_round
            case rel => exact ⟨k + 1, by omega, by go_num, by rw [HG2.out], by rw [HG2.out], by rw [HG2.out]⟩
            case measure => simp [intOf]; omega
        · have h2i : (k : Int) + 1 - (s : Int) < 2 := by omega
          have HG2 := Lib.hid (HStep.out.trans (HG.out.trans (if_neg (fun h => h2 h.1))))
          clear HG HStep h2 hz hd
          go_wp2_with fail
          go_round
          case rel => exact ⟨k + 1, by omega, by go_num, by rw [HG2.out], by rw [HG2.out], by rw [HG2.out]⟩
          case measure => simp [intOf]; omega
      · have hni : ((n : Int) == 0) = false := by rw [beq_eq_false_iff_ne]; omega
        have hni2 : ((n : Int) != 0) = true := by rw [bne, hni]; rfl
        have hw2 : IntKind.i64.wrap (((k + 1 : Nat) : Int) - ((k + 1 : Nat) : Int)) = 0 := by rw [IntWalk.i64_in _ (by omega)]; omega
        have HG2 := Lib.hid (HStep.out.trans (show gapStep k n (f, t, s) = (f, t, k + 1) from by
          unfold gapStep
          dsimp only
          rw [if_neg hn, if_neg (by omega)]))
        clear HStep hn
        go_wp2_with fail
        go_round
        case rel => exact ⟨k + 1, by omega, by go_num, by rw [HG2.out], by rw [HG2.out], by rw [HG2.out]; go_num⟩
        case measure => simp [intOf]; omega
    · obtain rfl : k = 8 := by omega
      go_wp2_with fail
      go_ret2
      exact ⟨rfl, HBel.out⟩
end Go.Proofs.YtlpondbcnfaggaaGreatDoor.Ad

/-
  Contract of package addr's appendRow at ints, in base 16, over this seat's translation.
-/
namespace Go.Proofs.YtlpondbcnfaggaaGreatDoor.Ad
open Go.RowKit Go.Proofs.YtlpondbcnfaggaaGreatDoor.Wd Go.Proofs.YtlpondbcnfaggaaGreatDoor.Asc

theorem one_srcI (w : World) (c : UInt8) : Src (w.alloc (.cells #[.int .u8 (c.toNat : Int)] 5)) (some ⟨w.heap.size, 0, none⟩) 1 [c] := Src.marked w _ _ _ [c] rfl
theorem joinS_le : ∀ row : List Nat, (joinS row).length ≤ 5 * row.length
  | [] => by simp [joinS]
  | [n] => by have := (hexT_len n).2; simp [joinS]; omega
  | n :: m :: r => by
    have h1 := (hexT_len n).2
    have h2 := joinS_le (m :: r)
    simp only [joinS, List.length_append, List.length_cons] at h2 ⊢
    omega
/-- numbers that a slice of ints leads to -/
def SrcI (w : World) (A : Option Addr) (n : Nat) (l : List Nat) : Prop :=
  l.length = n ∧ (∀ x ∈ l, x < 65536) ∧ (0 < n → ∃ g off, A = some ⟨g, off, none⟩ ∧ g < w.heap.size ∧ ∀ (k x : Nat), l[k]? = some x → w.cell? ⟨g, off + k, none⟩ = some (.int .i64 (x : Int)))
set_option maxRecDepth 100000 in
set_option maxHeartbeats 2000000 in
theorem rowI_any {B : Nat} (v : Value) (pre : List UInt8) (A : Option Addr) (n cp : Nat) (l : List Nat) (w : World) (hO : Own w B v pre) (hpre : pre.length ≤ 500) (hs : SrcI w A n l) (hn8 : n ≤ 8) (hB : B ≤ w.heap.size)
    (hA : 0 < n → ∀ x, A = some x → x.block < B) (htz : w.cell? ⟨5, 15, none⟩ = some (.int .u8 4)) (hg : 5 < B) :
    Calls Tryz.prog 88 #[v, .slice A n cp, .int .u8 58, .int .i64 16] w fun e w' => ∃ v', e = .returned v' ∧ Own w' B v' (pre ++ joinS l) ∧ Below B w w' := by
  obtain ⟨hl, h64, hcl⟩ := hs
  have HO := Lib.hid hO
  have HCl := Lib.hid hcl
  have HA := Lib.hid hA
  have HL := Lib.hid hl
  clear hO hcl hA hl
  go_enter Tryz.func88, Tryz.ntmps88
  go_wp2_with fail
  go_loopw [0, 13] (fun t i w' => ∃ k : Nat, k ≤ n ∧ i = .int .i64 (k : Int) ∧ Hid (Own w' B t (pre ++ joinS (l.take k))) ∧ Hid (Below B w w')) (fun _ i _ => n - (intOf i).toNat)
  case atStart => exact ⟨0, by omega, rfl, by rw [List.take_zero, joinS, List.append_nil]; exact HO, Lib.hid (Below.refl _ _)⟩
  case round =>
    obtain ⟨k, hk, rfl, HO1, HB1⟩ := hrel
    by_cases hlt : k < n
    · have hki : (k : Int) < (n : Int) := by omega
      obtain ⟨g, off, rfl, hgw, hcells⟩ := HCl.out (by omega)
      have hgB := HA.out (by omega) _ rfl
      obtain ⟨x, hx⟩ : ∃ x, l[k]? = some x := ⟨_, List.getElem?_eq_getElem (by have := HL.out; omega)⟩
      have hx64 := h64 x (List.mem_of_getElem? hx)
      have hc := (HB1.out.cell (p := ⟨g, off + k, none⟩) hgB).trans (hcells k x hx)
      have HJ := Lib.hid (joinS_take hx)
      have htz1 := (HB1.out.cell (p := ⟨5, 15, none⟩) hg).trans htz
      have HTz := Lib.hid htz1
      have hsz := HB1.out.size
      have hjl : (joinS (l.take k)).length ≤ 40 := by
        have h1 := joinS_le (l.take k)
        have h2 : (l.take k).length ≤ 8 := by rw [List.length_take]; omega
        omega
      clear hcells hx htz1
      generalize joinS (l.take k) = J at *
      by_cases hk0 : k = 0
      · subst hk0
        rw [Nat.add_zero] at hc
        go_wp2_with fail
        refine (appI_any x hx64 _ _ wr HO1.out (by rw [List.length_append]; omega) (by omega) HTz.out (by omega)).mono ?_
        rintro e w2 ⟨v2, rfl, hO2, hb2⟩
        have HO2 := Lib.hid hO2
        have HB2 := Lib.hid (HB1.out.trans hb2)
        clear hO2 hb2
        go_wp2_with fail
        go_roundw
        case rel => exact ⟨1, by omega, by go_num, by rw [HJ.out, if_pos trivial, List.nil_append, ← List.append_assoc]; exact HO2, HB2⟩
        case measure => simp [intOf]; omega
      · have hkp : (0 : Int) < (k : Int) := by omega
        go_wp2_with (at_builtin; refine wpList_app rfl _ _ 110 rfl Tryz.underlying110 inf81 B _ _ rfl (HO1.out.alloc _) _ 1 1 [58] rfl (one_srcI wr 58) (by rw [List.length_append]; omega) (by simp; omega) ?_; intro v1 w1 hown1 hb1; refine Hid.out ?_)
        have hbA : Below B wr (wr.alloc (.cells #[.int .u8 58] 5)) := (Below.refl _ _).alloc (by omega) _
        have hb2 := hbA.trans hb1
        have HB2 := Lib.hid (HB1.out.trans hb2)
        have HTz2 := Lib.hid ((hb2.cell (p := ⟨5, 15, none⟩) hg).trans HTz.out)
        have hsz1 := hb2.size
        clear hb1 hbA hb2
        refine Lib.hid ?_
        go_wp2_with fail
        refine (appI_any x hx64 _ _ w1 hown1.out (by rw [List.length_append, List.length_append]; simp; omega) (by omega) HTz2.out (by omega)).mono ?_
        rintro e w2 ⟨v2, rfl, hO2, hb2⟩
        have HO2 := Lib.hid hO2
        have HB3 := Lib.hid (HB2.out.trans hb2)
        clear hO2 hb2
        go_wp2_with fail
        go_roundw
        case rel => exact ⟨k + 1, by omega, by go_num, by rw [HJ.out, if_neg hk0, ← List.append_assoc, ← List.append_assoc]; exact HO2, HB3⟩
        case measure => simp [intOf]; omega
    · obtain rfl : k = n := by omega
      rw [List.take_of_length_le (by have := HL.out; omega)] at HO1
      go_wp2_with fail
      go_ret
      exact ⟨_, rfl, HO1.out, HB1.out⟩
end Go.Proofs.YtlpondbcnfaggaaGreatDoor.Ad

/-
  Contract of package addr's Print at any address, over this seat's translation.
-/
namespace Go.Proofs.YtlpondbcnfaggaaGreatDoor.Ad
open Go.RowKit Go.Proofs.YtlpondbcnfaggaaGreatDoor.Wd Go.Proofs.YtlpondbcnfaggaaGreatDoor.Asc

theorem wpList_apps {ops : Array Oper} {rest : List Oper} {o : Oper} {a : Act} {w : World} {Q : Exit → Act → World → Prop} (hgd : o.guard = none) (sl x : Operand)
    (ho : o.op = .call { callee := .builtin .append, args := #[sl, x], argTypes := #[110, 9] }) (B : Nat) (v : Value) (xs : List UInt8) (hs : a.eval sl = v) (hown : Own w B v xs) (ys : List UInt8) (hx : a.eval x = .string ⟨ys.toArray⟩)
    (hlen : xs.length + ys.length ≤ 1000) (hB : B ≤ w.heap.size)
    (h : ∀ v' w', Hid (Own w' B v' (xs ++ ys)) → Below B w w' → wpList Tryz.prog ops Q rest (a.put o.dst v') w') : wpList Tryz.prog ops Q (o :: rest) a w := by
  obtain ⟨i0, hi, hz0, hz1, hz2⟩ := info_parts inf81
  have hsz : (⟨ys.toArray⟩ : ByteArray).size = ys.length := rfl
  refine Lib.wpList_append_own_string (P := Tryz.prog) w hgd sl x _ _ ho B 5 i0 Tryz.underlying110 Tryz.underlying9 hi hz0 hz1 hz2 v xs.length (cellsOf xs) hs hown ⟨ys.toArray⟩ hx (by unfold maxLen; rw [hsz]; omega) (by rw [hsz]; omega) hB ?_
  intro v' w' h2 h3 _
  refine h v' w' ?_ ((Below.refl _ _).grown h3 hB (fun k hk => ?_))
  · unfold Own
    rw [List.length_append, cellsOf_append]
    exact h2
  · obtain ⟨_, ⟨rfl, _⟩ | ⟨g, cap, cur, rfl, hg, _⟩⟩ := hown
    · simp [Value.ownBlock] at hk
    · simp [Value.ownBlock] at hk; omega

theorem gapS_inv (row : List Nat) : (gapS row).1 ≤ (gapS row).2 ∧ (gapS row).2 ≤ 8 := by
  have h := (gapN_inv row 8).2.2
  unfold gapS
  dsimp only
  rcases h with h | h <;> omega

set_option maxRecDepth 100000 in
set_option maxHeartbeats 1000000 in
theorem print_gen {B : Nat} (a : List UInt8) (ha : a.length = 16) (hf : fourS a = false) (w : World) (hE : Env B w) :
    Calls Tryz.prog 48 #[.agg (cA a)] w fun e w' => e = .returned (.string (str (textG a))) ∧ Below w.heap.size w w' := by
  have HE := Lib.hid hE
  have HF := Lib.hid hf
  obtain ⟨-, hp8, hp64⟩ := pairs_bytes 8 a (by omega)
  have HT := Lib.hid (show textG a = if (gapS (pairs a)).1 = (gapS (pairs a)).2 then joinS (pairs a) else joinS ((pairs a).take (gapS (pairs a)).1) ++ [58, 58] ++ joinS ((pairs a).drop (gapS (pairs a)).2) from rfl)
  have hgi := gapS_inv (pairs a)
  have HGr := Lib.hid (fun w => grpsOf_any a ha hp8 w)
  clear hE hf
  go_enter Tryz.func48, Tryz.ntmps48
  go_upto_region 1 with fail
  have b0 := Blk.new w 48 (cA a)
  have hbel : Below w.heap.size w (w.alloc (.cells (cA a) 48)) := (Below.refl _ _).alloc (Nat.le_refl _) _
  generalize w.alloc (.cells (cA a) 48) = w1 at *
  go_wp2_with (refine go_ld 48 b0 und16 rfl info16 (by rw [cA_size, ha]) rfl rfl rfl ?_)
  refine (four_any a ha _).mono ?_
  rintro e w2 ⟨rfl, hb2⟩
  rw [HF.out]
  have b2 := b0.below hb2 b0.lt
  have hbel2 := hbel.trans (hb2.mono hbel.size)
  clear b0 hbel hb2
  go_wp2_with (refine go_ld 48 b2 und16 rfl info16 (by rw [cA_size, ha]) rfl rfl rfl ?_)
  refine (HGr.out _).mono ?_
  rintro e w3 ⟨rfl, hb3⟩
  have hbel3 := Lib.hid (hbel2.trans (hb3.mono hbel2.size))
  clear b2 hbel2 hb3 HGr
  generalize pairs a = row at *
  go_upto_region 5 with (refine go_st 139 (Blk.new _ _ _) inf8i rfl (by rw [cI_size, hp8]) (cI_one _) rfl rfl rfl rfl ?_)
  have hn := new_below w3 139 #[Value.int .i64 0, Value.int .i64 0, Value.int .i64 0, Value.int .i64 0, Value.int .i64 0, Value.int .i64 0, Value.int .i64 0, Value.int .i64 0] (cI row)
  have b4 := new_blk w3 139 #[Value.int .i64 0, Value.int .i64 0, Value.int .i64 0, Value.int .i64 0, Value.int .i64 0, Value.int .i64 0, Value.int .i64 0, Value.int .i64 0] (cI row)
  generalize (w3.alloc (.cells #[Value.int .i64 0, Value.int .i64 0, Value.int .i64 0, Value.int .i64 0, Value.int .i64 0, Value.int .i64 0, Value.int .i64 0, Value.int .i64 0] 139)).setRow w3.heap.size (cI row) = w4 at *
  have hbel4 := Lib.hid (hbel3.out.trans (hn.mono hbel3.out.size))
  generalize hg4 : w3.heap.size = g4 at *
  have HG4 := Lib.hid (show w.heap.size ≤ g4 from by rw [← hg4]; exact hbel3.out.size)
  clear hn hg4
  go_wp2_with (refine go_ld 139 b4 und8i rfl inf8i (by rw [cI_size, hp8]) rfl rfl rfl ?_)
  refine (gap_any row hp8 _).mono ?_
  rintro e w5 ⟨rfl, hb5⟩
  have HB5 := Lib.hid (b4.below hb5 b4.lt)
  have hbel5 := Lib.hid (hbel4.out.trans (hb5.mono hbel4.out.size))
  clear b4 hb5 hbel4 hbel3
  generalize (gapS row).1 = F at *
  generalize (gapS row).2 = T at *
  have HE5 := Lib.hid (HE.out.on hbel5.out)
  have hgl := HB5.out.lt
  have HNil := Lib.hid (show Own w5 w5.heap.size (.slice none 0 0) [] from ⟨rfl, .inl ⟨rfl, rfl⟩⟩)
  have hcs : ∀ k x : Nat, row[k]? = some x → w5.cell? ⟨g4, k, none⟩ = some (.int .i64 (x : Int)) := fun k x hx => by rw [cell_i HB5.out k, hx]; rfl
  have HCs := Lib.hid hcs
  have hlz := Nat.lt_of_lt_of_le HE5.out.lowz HE5.out.le
  have HTz := Lib.hid HE5.out.tz
  clear hcs
  by_cases hFT : F = T
  · have hft : ((F : Int) == (T : Int)) = true := by rw [beq_iff_eq]; omega
    rw [if_pos hFT] at HT
    have hsI : SrcI w5 (some ⟨g4, 0, none⟩) 8 row := ⟨hp8, hp64, fun _ => ⟨g4, 0, rfl, hgl, fun k x hx => by rw [Nat.zero_add]; exact HCs.out k x hx⟩⟩
    have HR := Lib.hid (rowI_any (B := w5.heap.size) (.slice none 0 0) [] (some ⟨g4, 0, none⟩) 8 8 row w5 HNil.out (by simp) hsI (by omega) (Nat.le_refl _) (fun _ x hx => by injection hx with hx; subst hx; exact hgl) HTz.out hlz)
    clear hsI
    go_wp2_with fail
    refine HR.out.mono ?_
    rintro e w6 ⟨v6, rfl, hO6, hb6⟩
    rw [List.nil_append] at hO6
    obtain ⟨A6, c6, rfl, -, hs6⟩ := hO6.src
    have hconv := conv_src (P := Tryz.prog) (c := c6) hs6 Tryz.underlying110 Tryz.underlying5 Tryz.underlying9
    have HL := Lib.hid (hbel5.out.trans (hb6.mono hbel5.out.size))
    clear hO6 hs6 hb6
    generalize joinS row = J at *
    go_wp2_with fail
    go_ret
    rw [HT.out]
    exact ⟨rfl, HL.out⟩
  · have hft : ((F : Int) == (T : Int)) = false := by rw [beq_eq_false_iff_ne]; omega
    rw [if_neg hFT] at HT
    have hsl1 := fun w' => arr_to und8i siz1i g4 F w' (by omega)
    have hsl2 := fun w' => arr_from und8i siz1i g4 T w' (by omega)
    obtain ⟨ad2, had2⟩ : ∃ x : Addr, (if 8 = T then (⟨g4, 0, none⟩ : Addr) else ⟨g4, T, none⟩) = x := ⟨_, rfl⟩
    simp only [had2] at hsl2
    have HAd2 := Lib.hid had2
    clear had2
    have hsI : SrcI w5 (some ⟨g4, 0, none⟩) F (row.take F) := ⟨by rw [List.length_take]; omega, fun x hx => hp64 x (List.mem_of_mem_take hx), fun _ => ⟨g4, 0, rfl, hgl, fun k x hx => by
      rw [Nat.zero_add]
      rw [List.getElem?_take] at hx
      split at hx
      · exact HCs.out k x hx
      · cases hx⟩⟩
    have HR := Lib.hid (rowI_any (B := w5.heap.size) (.slice none 0 0) [] (some ⟨g4, 0, none⟩) F 8 (row.take F) w5 HNil.out (by simp) hsI (by omega) (Nat.le_refl _) (fun _ x hx => by injection hx with hx; subst hx; exact hgl) HTz.out hlz)
    clear hsI
    go_wp2_with fail
    refine HR.out.mono ?_
    rintro e w6 ⟨v6, rfl, hO6, hb6⟩
    rw [List.nil_append] at hO6
    have HO6 := Lib.hid hO6
    have HL6 := Lib.hid hb6
    have hj6 : (joinS (row.take F)).length ≤ 40 := by
      have h1 := joinS_le (row.take F)
      rw [List.length_take] at h1
      omega
    clear hb6 HR hsl1
    generalize joinS (row.take F) = J at *
    have hj62 : J.length + ([58, 58] : List UInt8).length ≤ 1000 := by simp; omega
    obtain ⟨A6, c6, rfl, -, -⟩ := hO6.src
    clear hO6
    go_wp2_with (at_builtin; refine wpList_apps rfl (.tmp 31) (.const (.string ⟨#[58, 58]⟩)) rfl w5.heap.size (.slice A6 J.length c6) J rfl HO6.out [58, 58] rfl hj62 HL6.out.size ?_; intro v7 w7 HO7 hb7; refine Hid.out ?_)
    have HL7 := Lib.hid (HL6.out.trans hb7)
    clear hb7
    refine Lib.hid ?_
    have hsI : SrcI w7 (some ad2) (8 - T) (row.drop T) := ⟨by rw [List.length_drop]; omega, fun x hx => hp64 x (List.mem_of_mem_drop hx), fun h0 => ⟨g4, T, by rw [← HAd2.out, if_neg (by omega)], Nat.lt_of_lt_of_le hgl HL7.out.size, fun k x hx => by
      rw [List.getElem?_drop] at hx
      exact (HL7.out.cell (p := ⟨g4, T + k, none⟩) hgl).trans (HCs.out _ x hx)⟩⟩
    have HR := Lib.hid (rowI_any (B := w5.heap.size) v7 (J ++ [58, 58]) (some ad2) (8 - T) (8 - T) (row.drop T) w7 HO7.out (by simp; omega) hsI (by omega) HL7.out.size
      (fun h0 x hx => by rw [← HAd2.out, if_neg (by omega)] at hx; injection hx with hx; subst hx; exact hgl) ((HL7.out.cell (p := ⟨5, 15, none⟩) hlz).trans HTz.out) hlz)
    clear hsI
    go_wp2_with fail
    refine HR.out.mono ?_
    rintro e w8 ⟨v8, rfl, hO8, hb8⟩
    obtain ⟨A8, c8, rfl, -, hs8⟩ := hO8.src
    have hconv := conv_src (P := Tryz.prog) (c := c8) hs8 Tryz.underlying110 Tryz.underlying5 Tryz.underlying9
    have HL := Lib.hid (hbel5.out.trans ((HL7.out.trans hb8).mono hbel5.out.size))
    clear hO8 hs8 hb8
    generalize J ++ [58, 58] ++ joinS (row.drop T) = K at *
    go_wp2_with fail
    go_ret
    rw [HT.out]
    exact ⟨rfl, HL.out⟩

theorem print_any {B : Nat} (a : List UInt8) (ha : a.length = 16) (w : World) (hE : Env B w) :
    Calls Tryz.prog 48 #[.agg (cA a)] w fun e w' => e = .returned (.string (str (ctext a))) ∧ Below w.heap.size w w' := by
  unfold ctext
  cases hf : fourS a with
  | true => rw [if_pos rfl]; exact print_four a ha hf w hE
  | false => rw [if_neg (by simp)]; exact print_gen a ha hf w hE
end Go.Proofs.YtlpondbcnfaggaaGreatDoor.Ad
