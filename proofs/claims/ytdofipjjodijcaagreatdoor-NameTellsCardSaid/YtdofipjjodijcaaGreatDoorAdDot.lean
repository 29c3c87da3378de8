/-
  Contract of package addr's parseDotted over this seat's translation.
-/
import Derived.Test.YtdofipjjodijcaaGreatDoorAdParsP
namespace Go.Proofs.YtdofipjjodijcaaGreatDoor.Ad
open Go.RowKit Go.Proofs.YtdofipjjodijcaaGreatDoor.Wd Go.Proofs.YtdofipjjodijcaaGreatDoor.Asc

/-- two results, the first one in a block -/
theorem ret_two {fn : Func} {p q : Tmp} {ty t : TypeId} {a : Act} {w : World} {g n : Nat} {C : Array Value} {v : Value} {d : TypeDesc} {R : Ending → World → Prop} (hf : fn.results = #[.cell p ty, .tmp q]) (hb : Blk w g t C) (hu : Tryz.prog.underlying ty = some d)
    (hd : d.isRow = true) (hi : (Tryz.prog.info? ty).map (·.size) = some n) (hn : C.size = n) (hp : a.tmps.getD p undef = .pointer (some ⟨g, 0, none⟩)) (hq : a.tmps.getD q undef = v) (h : R (.returned (.tuple #[.agg C, v])) w) (hdf : a.defers = []) : bodyPost Tryz.prog fn R .ret a w := by
  have hp' : a.tmps[p]?.getD undef = .pointer (some ⟨g, 0, none⟩) := by simpa using hp
  have hq' : a.tmps[q]?.getD undef = v := by simpa using hq
  have hl := run_loadVar_row w g t ty C (0, 0) d hb hu (by cases d <;> first | rfl | cases hd) (by rw [hi, hn])
  exact bodyPost_ret (v := .tuple #[.agg C, v]) (by simp [results, hf, hp', hq', asAddr, hl]) hdf h
/-- a variable is built of nothing -/
theorem go_bd0 {ops : Array Oper} {rest : List Oper} {o : Oper} {a : Act} {w : World} {Q : Exit → Act → World → Prop} (ty : TypeId) (C : Array Value) (hB : Tryz.prog.built ty [] = some C) (hg : o.guard = none) (ho : o.op = .build ty #[])
    (h : wpList Tryz.prog ops Q rest (a.put o.dst (.agg C)) w) : wpList Tryz.prog ops Q (o :: rest) a w := by
  have e : Tryz.prog.built ty ((#[] : Array (Nat × Operand)).map fun (i, x) => (i, a.eval x)).toList = some C := by simpa using hB
  refine wpList_build hg _ _ ho (by rw [e]; rfl) ?_
  rw [e]
  exact h
theorem built4 : Tryz.prog.built 40 [] = some (cA (List.replicate 4 0)) := by kernel_rfl

theorem dotS_step (k : Nat) (l : List UInt8) : dotS (k + 1) l = (match numS (Lib.cut l [46]).1 255 with
    | none => none
    | some n => if (Lib.cut l [46]).2.2 = (k == 0) then none else (dotS k (Lib.cut l [46]).2.1).map (UInt8.ofNat n.toNat :: ·)) := rfl

def DotAt (B : Nat) (l0 : List UInt8) (w : World) (s i : Value) (w' : World) : Prop :=
  ∃ (k : Nat) (l acc : List UInt8), k ≤ 4 ∧ i = .int .i64 k ∧ s = .string (str l) ∧ l.length ≤ l0.length ∧ acc.length = k ∧ dotS 4 l0 = (dotS (4 - k) l).map (acc ++ ·) ∧
    Blk w' w.heap.size 40 (cA (List.replicate 4 0)) ∧ Blk w' (w.heap.size + 1) 40 (cA (acc ++ List.replicate (4 - k) 0)) ∧ Below w.heap.size w w' ∧ Env B w'

def DotPost (l : List UInt8) (w : World) (e : Ending) (w' : World) : Prop :=
  e = .returned (.tuple #[.agg (cA ((dotS 4 l).getD (List.replicate 4 0))), .bool (dotS 4 l).isSome]) ∧ Below w.heap.size w w'

set_option maxHeartbeats 4000000 in
theorem dotted_any {B : Nat} (l : List UInt8) (w : World) (hE : Env B w) (hl : l.length < 4294967281) :
    Calls Tryz.prog 25 #[.string (str l)] w (DotPost l w) := by
  have HE := Lib.hid hE
  clear hE
  go_enter Tryz.func25, Tryz.ntmps25
  go_wp2_with fail
  go_loopw [0, 12] (fun s i w' => DotAt B l w s i w') (fun _ i _ => 4 - (intOf i).toNat)
  case atStart =>
    have hb : Below w.heap.size w ((w.alloc (.cells (cA (List.replicate 4 0)) 40)).alloc (.cells (cA (List.replicate 4 0)) 40)) := ((Below.refl _ _).alloc (Nat.le_refl _) _).alloc (by simp) _
    exact ⟨0, l, [], by omega, rfl, rfl, Nat.le_refl _, rfl, (by cases dotS 4 l <;> rfl), (blk_at _ _ _ _ _ rfl rfl).alloc _, blk_at _ _ _ _ _ (by rw [alloc_size]) rfl, hb, HE.out.on hb⟩
  case round =>
    obtain ⟨k, r, acc, hk, rfl, rfl, hr, ha, hd, b0, b1, hbel, hE⟩ := hrel
    have HE1 := Lib.hid hE
    have HL := Lib.hid hbel
    have HB0 := Lib.hid b0
    have HB1 := Lib.hid b1
    have HD := Lib.hid hd
    clear hE hbel hd
    by_cases hlt : k < 4
    · clear b0 b1
      have hk3 : ((k : Int) == 3) = ((3 - k : Nat) == 0) := by
        rw [Bool.eq_iff_iff, beq_iff_eq, beq_iff_eq]; omega
      have HK3 := Lib.hid hk3
      have HS := Lib.hid (dotS_step (3 - k) r)
      rw [show 3 - k + 1 = 4 - k by omega] at HS
      have hcl := cut_le r [46]
      have hc1 : (str (Lib.cut r [46]).1).size ≤ maxLen := by rw [str_size]; unfold maxLen; omega
      have HC := Lib.hid hc1
      have HC2 := Lib.hid hcl.2
      clear hk3 hcl hc1
      go_wp2_with fail
      refine (cut_any r [46] _ HE1.out (by omega)).mono ?_
      rintro e w1 ⟨rfl, hb1⟩
      generalize hcut : Lib.cut r [46] = cu at *
      obtain ⟨p1, p2, more⟩ := cu
      have HB := Lib.hid hb1
      have HCU := Lib.hid hcut
      clear hb1 hcut
      go_wp2_with fail
      refine (number_any (str p1) 255 _ (by exact HC.out)).mono ?_
      rintro e w2 ⟨rfl, hb2⟩
      have HB2 := Lib.hid (HL.out.trans ((HB.out.trans (hb2.mono HB.out.size)).mono HL.out.size))
      have c0 := HB0.out.below (HB.out.trans (hb2.mono HB.out.size)) HB0.out.lt
      have c1 := HB1.out.below (HB.out.trans (hb2.mono HB.out.size)) HB1.out.lt
      have HE2 := Lib.hid (HE1.out.on (HB.out.trans (hb2.mono HB.out.size)))
      have C0 := Lib.hid c0
      have C1 := Lib.hid c1
      clear hb2 c0 c1
      rw [show bs (str p1) = p1 from rfl]
      cases hn : numS p1 255 with
      | none =>
        have HZ := Lib.hid (show dotS 4 l = none by rw [HD.out, HS.out, hn]; rfl)
        rw [dTup]
        clear hn
        go_wp2_with (first
          | (refine go_bd0 40 _ built4 rfl rfl ?_)
          | (refine go_st 40 C0.out info4 rfl rfl (cA_one _) rfl rfl rfl rfl ?_))
        exact ret_two Tryz.results25 (setRow_blk C0.out) und4 rfl info4 rfl rfl rfl ⟨by rw [HZ.out]; rfl, setRow_below HB2.out C0.out (Nat.le_refl _) _⟩ rfl
      | some n =>
        obtain ⟨n0, n1⟩ := numS_bd hn
        rw [hn] at HS
        rw [dTup]
        clear hn
        obtain ⟨c, rfl⟩ : ∃ c : UInt8, n = (c.toNat : Int) := ⟨UInt8.ofNat n.toNat, by
          rw [UInt8.toNat_ofNat']; omega⟩
        have HS2 : Hid (dotS (4 - k) r = if more = (3 - k == 0) then none else (dotS (3 - k) p2).map (c :: ·)) := by
          have h := HS.out
          simp only [Int.toNat_natCast, UInt8.ofNat_toNat] at h
          exact h
        clear HS
        have HS := HS2
        clear HS2
        have hk3 := HK3.out
        have hle : B ≤ w.heap.size := HE.out.le
        have hcell : w2.cell? ⟨w.heap.size + 1, k, none⟩ = some (.int .u8 0) := by
          rw [cell_a C1.out k, List.getElem?_append_right (by omega), List.getElem?_replicate, if_pos (by omega)]; rfl
        have hfr := C1.out.frozen k
        have hnew := C1.out.set_ k (.int .u8 (c.toNat : Int))
        rw [cA_set, set_mid acc k (4 - k) 0 c ha (by omega), show acc ++ c :: List.replicate (4 - k - 1) 0 = (acc ++ [c]) ++ List.replicate (4 - (k + 1)) 0 by rw [List.append_assoc, show 4 - k - 1 = 4 - (k + 1) by omega]; rfl] at hnew
        cases hL : (3 - k == 0) <;> rw [hL] at hk3 HS <;> clear hL <;> cases more
        · -- not the last one, no dot behind
          have HZ := Lib.hid (show dotS 4 l = none by rw [HD.out, HS.out]; simp)
          clear HS HD
          go_wp2_with (first
            | (refine go_bd0 40 _ built4 rfl rfl ?_)
            | (refine go_st 40 C0.out info4 rfl rfl (cA_one _) rfl rfl rfl rfl ?_))
          exact ret_two Tryz.results25 (setRow_blk C0.out) und4 rfl info4 rfl rfl rfl ⟨by rw [HZ.out]; rfl, setRow_below HB2.out C0.out (Nat.le_refl _) _⟩ rfl
        · have HZ := Lib.hid (show dotS 4 l = (dotS (4 - (k + 1)) p2).map ((acc ++ [c]) ++ ·) by
            rw [HD.out, HS.out, show 4 - (k + 1) = 3 - k by omega]
            cases dotS (3 - k) p2 <;> simp)
          clear HS HD
          go_wp2
          go_roundw
          case rel => exact ⟨k + 1, p2, acc ++ [c], by omega, by go_num, rfl, Nat.le_trans HC2.out hr, by simp [ha], HZ.out, C0.out.far (by simp) _, hnew, HB2.out.setCell (by simp) _, HE2.out.below (Below.setCell (Below.refl _ _) (by simp; omega) _)⟩
          case measure => simp [intOf]; omega
        · have HZ := Lib.hid (show dotS 4 l = (dotS (4 - (k + 1)) p2).map ((acc ++ [c]) ++ ·) by
            rw [HD.out, HS.out, show 4 - (k + 1) = 3 - k by omega]
            cases dotS (3 - k) p2 <;> simp)
          clear HS HD
          go_wp2
          go_roundw
          case rel => exact ⟨k + 1, p2, acc ++ [c], by omega, by go_num, rfl, Nat.le_trans HC2.out hr, by simp [ha], HZ.out, C0.out.far (by simp) _, hnew, HB2.out.setCell (by simp) _, HE2.out.below (Below.setCell (Below.refl _ _) (by simp; omega) _)⟩
          case measure => simp [intOf]; omega
        · -- the last one, a dot behind
          have HZ := Lib.hid (show dotS 4 l = none by rw [HD.out, HS.out]; simp)
          clear HS HD
          go_wp2_with (first
            | (refine go_bd0 40 _ built4 rfl rfl ?_)
            | (refine go_st 40 C0.out info4 rfl rfl (cA_one _) rfl rfl rfl rfl ?_))
          exact ret_two Tryz.results25 (setRow_blk C0.out) und4 rfl info4 rfl rfl rfl ⟨by rw [HZ.out]; rfl, setRow_below HB2.out C0.out (Nat.le_refl _) _⟩ rfl
    · obtain rfl : k = 4 := by omega
      have e4 : acc ++ List.replicate (4 - 4) 0 = acc := by simp
      rw [e4] at b1
      have HZ := Lib.hid (show dotS 4 l = some acc by rw [HD.out]; simp [dotS])
      go_wp2_with (first
        | (refine go_ld 40 b1 und4 rfl info4 (by rw [cA_size, ha]) rfl rfl rfl ?_)
        | (refine go_st 40 b0 info4 rfl (by rw [cA_size, ha]) (cA_one _) rfl rfl rfl rfl ?_))
      exact ret_two Tryz.results25 (setRow_blk b0) und4 rfl info4 (by rw [cA_size, ha]) rfl rfl ⟨by rw [HZ.out]; rfl, setRow_below HL.out b0 (Nat.le_refl _) _⟩ rfl
end Go.Proofs.YtdofipjjodijcaaGreatDoor.Ad
