/-
  Contract of package addr's parseSide over this seat's translation.
-/
import Derived.Test.YtdofipjjodijcaaGreatDoorAdGrp
namespace Go.Proofs.YtdofipjjodijcaaGreatDoor.Ad
open Go.RowKit Go.Proofs.YtdofipjjodijcaaGreatDoor.Wd Go.Proofs.YtdofipjjodijcaaGreatDoor.Asc

theorem infoS : (Tryz.prog.info? 65).map (·.size) = some 17 := by kernel_rfl
theorem undS : Tryz.prog.underlying 65 = some (.struct (Tryz.prog.fieldsOf 65)) := by kernel_rfl
theorem builtS : Tryz.prog.built 65 [] = some (C.cells ⟨List.replicate 16 0, 0⟩) := by kernel_rfl

/-- bytes as a side: the bytes, and how many they are -/
def sideC (x : List UInt8) : C := ⟨x ++ List.replicate (16 - x.length) 0, x.length⟩
theorem sideC_len {x : List UInt8} (h : x.length ≤ 16) : (sideC x).a.length = 16 := by simp [sideC]; omega
theorem splC (c : C) (off : Nat) (ys : List UInt8) (h : off + ys.length ≤ c.a.length) : splice (cellsOf c.a ++ [Value.int .i64 c.n]) off (cellsOf ys) = cellsOf (splB c.a off ys) ++ [Value.int .i64 c.n] := by
  unfold splice splB
  rw [List.take_append_of_le_length (by rw [cellsOf_length]; omega), List.drop_append_of_le_length (by rw [cellsOf_length, cellsOf_length]; omega)]
  simp [cellsOf]
theorem C_setn (a : List UInt8) (n m : Int) (h : a.length = 16) : (C.cells ⟨a, n⟩).setIfInBounds 16 (.int .i64 m) = C.cells ⟨a, m⟩ := by
  apply Array.ext'
  simp only [C.cells, Array.toList_setIfInBounds]
  rw [List.set_append_right _ _ (by rw [cellsOf_length]; omega), cellsOf_length, h]
  rfl
theorem sideC_app (x b : List UInt8) (_h : x.length + b.length ≤ 16) : C.mk (splB (sideC x).a x.length b) (((x.length + b.length : Nat) : Int)) = sideC (x ++ b) := by
  simp only [sideC, splB]
  congr 1
  · rw [List.take_append_of_le_length (Nat.le_refl _), List.take_length, List.drop_append, List.drop_of_length_le (by omega), List.drop_replicate]
    simp
    omega
  · simp

/-- copy into the bytes of a side, or of a Cidr, as one step of a region that draws its order -/
theorem step_cpC {ops : Array Oper} {o : Oper} {a : Act} {w : World} {K : Act → World → Prop} {Q : Exit → Act → World → Prop} {E : Prop} {d s : Operand} {dp sp : Option Addr} {dLen dCap sLen sCap : Nat} (g off : Nat) {t : TypeId} {c : C} {ys : List UInt8}
    (hb : Blk w g t c.cells) (hsrc : Src w sp sLen ys) (hgd : o.guard = none)
    (ho : o.op = .call { callee := .builtin .copy, args := #[d, s], argTypes := #[30, 30] }) (hd : a.eval d = .slice dp dLen dCap) (hs : a.eval s = .slice sp sLen sCap) (hle : sLen ≤ dLen)
    (hdp : 0 < sLen → dp = some ⟨g, off, none⟩) (hfit : off + sLen ≤ c.a.length)
    (h : ∀ w', RowKit.Hid (Blk w' g t (C.cells ⟨splB c.a off ys, c.n⟩)) → RowKit.Hid (RowKit.Below g w w') → K (a.put o.dst (goInt sLen)) w') :
    if Region.wanted o (yielded ops a.tmps) = true then Oper.wp Tryz.prog o a w K Q else E := by
  have hl := hsrc.1
  refine step_copy_splice hgd d s 30 30 ho 5 Tryz.underlying30 size8 dp sp dLen dCap sLen sCap hd hs g off (cellsOf c.a ++ [Value.int .i64 c.n]) t hb (cellsOf ys)
    (by rw [cellsOf_length, hl]; exact (Nat.min_eq_left hle).symm) ?_ (by rw [cellsOf_length, List.length_append, cellsOf_length, hl]; omega) (cellsOf_one ys) g w (Below.refl _ _) (Nat.le_refl _) ?_
  · intro h0
    rw [cellsOf_length, hl] at h0
    obtain ⟨ad, e, hlt, hc⟩ := hsrc.2 h0
    refine ⟨hdp h0, ad, e, fun j v hv => ?_⟩
    simp only [cellsOf, List.getElem?_map, Option.map_eq_some_iff] at hv
    obtain ⟨x, hx, rfl⟩ := hv
    exact hc j x hx
  · intro w' hg' hb'
    rw [cellsOf_length, hl]
    exact h w' (by have := hg'.out; rw [splC c off ys (by omega)] at this; exact this) hb'

def sideM : Value → Value → Nat
  | .string b, .bool true => b.size + 1
  | _, _ => 0
def SideAt (B : Nat) (l : List UInt8) (last : Bool) (w : World) (s m : Value) (w' : World) : Prop :=
  ∃ (acc r : List UInt8) (f : Nat) (mo : Bool), s = .string (str r) ∧ m = .bool mo ∧ acc.length ≤ 16 ∧ r.length ≤ l.length ∧
    (mo = true → r.length < f ∧ sideS l last = sideGo last f acc r) ∧ (mo = false → sideS l last = some acc) ∧
    Blk w' w.heap.size 65 (C.cells ⟨List.replicate 16 0, 0⟩) ∧ Blk w' (w.heap.size + 1) 65 (sideC acc).cells ∧ Below w.heap.size w w' ∧ Env B w'
def SidePost (l : List UInt8) (last : Bool) (w : World) (e : Ending) (w' : World) : Prop :=
  e = .returned (.tuple #[.agg (sideC ((sideS l last).getD [])).cells, .bool (sideS l last).isSome]) ∧ Below w.heap.size w w'

theorem sideGo_step (last : Bool) (f : Nat) (acc l : List UInt8) : sideGo last (f + 1) acc l = (match grpS (Lib.cut l [58]).1 (last && !(Lib.cut l [58]).2.2) with
    | none => none
    | some b => if 16 < acc.length + b.length then none else if (Lib.cut l [58]).2.2 then sideGo last f (acc ++ b) (Lib.cut l [58]).2.1 else some (acc ++ b)) := rfl

theorem C_cell16 {w : World} {g t : Nat} {c : C} (h : Blk w g t c.cells) (hc : c.a.length = 16) : w.cell? ⟨g, 16, none⟩ = some (.int .i64 c.n) := by
  rw [h.cell]; simp [C.cells, cellsOf_length, hc]

set_option linter.unusedSimpArgs false in
set_option maxHeartbeats 4000000 in
theorem side_any {B : Nat} (l : List UInt8) (last : Bool) (w : World) (hE : Env B w) (hl : l.length < 4294967281) :
    Calls Tryz.prog 49 #[.string (str l), .bool last] w (SidePost l last w) := by
  have HE := Lib.hid hE
  clear hE
  go_enter Tryz.func49, Tryz.ntmps49
  go_wp2_with fail
  go_loopw [0, 7] (fun s m w' => SideAt B l last w s m w') (fun s m _ => sideM s m)
  case atStart =>
    have hb : Below w.heap.size w ((w.alloc (.cells (C.cells ⟨List.replicate 16 0, 0⟩) 65)).alloc (.cells (C.cells ⟨List.replicate 16 0, 0⟩) 65)) := ((Below.refl _ _).alloc (Nat.le_refl _) _).alloc (by simp) _
    refine ⟨[], l, l.length + 1, !l.isEmpty, rfl, rfl, by simp, Nat.le_refl _, fun h => ⟨by omega, ?_⟩, fun h => ?_, (blk_at _ _ _ _ _ rfl rfl).alloc _, blk_at _ _ _ _ _ (by rw [alloc_size]) rfl, hb, HE.out.on hb⟩
    · rw [sideS, if_neg (by rintro rfl; cases h)]
    · have : l = [] := by simpa using h
      rw [sideS, if_pos this]
  case round =>
    obtain ⟨acc, r, f, mo, rfl, rfl, ha, hr, hyes, hno, b0, b1, hbel, hE1⟩ := hrel
    have hL16 := sideC_len ha
    cases mo with
    | false =>
      have HZ := Lib.hid (hno rfl)
      clear hyes hno
      go_wp2_with (first
        | (refine go_ld 65 b1 undS rfl infoS (C_size _ hL16) rfl rfl rfl ?_)
        | (refine go_st 65 b0 infoS rfl (C_size _ hL16) (C_one _) rfl rfl rfl rfl ?_))
      exact ret_two Tryz.results49 (setRow_blk b0) undS rfl infoS (C_size _ hL16) rfl rfl ⟨by rw [HZ.out]; rfl, setRow_below hbel b0 (Nat.le_refl _) _⟩ rfl
    | true =>
      obtain ⟨hf, hgo⟩ := hyes rfl
      obtain ⟨f, rfl⟩ : ∃ k, f = k + 1 := ⟨f - 1, by omega⟩
      have HG := Lib.hid (hgo.trans (sideGo_step last f acc r))
      have hcl := cut_le r [58]
      have hct := cut_lt (l := r) (sep := [58]) (by simp)
      have hE1' := hE1
      have HB0 := Lib.hid b0
      have HB1 := Lib.hid b1
      have HL := Lib.hid hbel
      clear hyes hno hgo b0 b1 hbel
      go_wp2_with fail
      refine (cut_any r [58] _ hE1' (by omega)).mono ?_
      rintro e w1 ⟨rfl, hb1⟩
      generalize hcut : Lib.cut r [58] = cu at *
      obtain ⟨p1, p2, mo⟩ := cu
      simp only at HG hcl hct
      have HE2 := hE1'.on hb1
      have HB := Lib.hid hb1
      clear hb1 hcut hE1 hE1'
      cases last with
      | false =>
        go_wp2_with fail
        refine (group_any p1 _ _ HE2 (by omega)).mono ?_
        rintro e w2 ⟨A, n, cp, rfl, hsrc, hb2⟩
        have HB2 := Lib.hid (HB.out.trans (hb2.mono HB.out.size))
        have G0 := Lib.hid (HB0.out.below HB2.out HB0.out.lt)
        have G1 := Lib.hid (HB1.out.below HB2.out HB1.out.lt)
        have GL := Lib.hid (HL.out.trans (HB2.out.mono HL.out.size))
        have HE3 := HE2.on hb2
        have hlen := fun b h => And.intro (hsrc b h) (grpS_len h)
        clear hsrc
        simp only [Bool.false_and, Bool.true_and, Bool.not_true, Bool.not_false, if_true, Bool.false_eq_true, if_false] at HG
        clear hb2
        generalize grpS p1 false = go at *
        cases go with
        | none =>
          have HZ := Lib.hid (HG.out)
          simp only at HZ
          clear HG hlen
          go_wp2_with (first
            | (refine go_bd0 65 _ builtS rfl rfl ?_)
            | (refine go_st 65 G0.out infoS rfl rfl (C_one _) rfl rfl rfl rfl ?_))
          exact ret_two Tryz.results49 (setRow_blk G0.out) undS rfl infoS rfl rfl rfl ⟨by rw [HZ.out]; rfl, setRow_below GL.out G0.out (Nat.le_refl _) _⟩ rfl
        | some b =>
          obtain ⟨⟨rfl, hs⟩, hb24⟩ := hlen b rfl
          have HSR := Lib.hid hs
          clear hlen hs
          simp only at HG
          have hu := C_cell16 G1.out hL16
          rw [show (sideC acc).n = (acc.length : Int) from rfl] at hu
          by_cases hbig : 16 < acc.length + b.length
          · have HZ := Lib.hid (HG.out.trans (if_pos hbig))
            have hbi : (16 : Int) < (acc.length : Int) + (b.length : Int) := by omega
            clear HG
            go_wp2_with (first
              | (refine go_bd0 65 _ builtS rfl rfl ?_)
              | (refine go_st 65 G0.out infoS rfl rfl (C_one _) rfl rfl rfl rfl ?_))
            exact ret_two Tryz.results49 (setRow_blk G0.out) undS rfl infoS rfl rfl rfl ⟨by rw [HZ.out]; rfl, setRow_below GL.out G0.out (Nat.le_refl _) _⟩ rfl
          · have HZ := Lib.hid (HG.out.trans (if_neg hbig))
            have hbi : ¬ (16 : Int) < (acc.length : Int) + (b.length : Int) := by omega
            clear HG
            go_wp2_with fail
            have hac : (acc.length : Int) ≤ 16 := by omega
            have hac2 : ¬ 16 = acc.length := by omega
            have hfr := G1.out.frozen 16
            have HSP := Lib.hid (show (splB (sideC acc).a acc.length b).length = 16 by rw [splB_length _ _ _ (by rw [hL16]; omega), hL16])
            go_region_law (refine step_cpC (w.heap.size + 1) acc.length (by exact G1.out) (by first | exact HSR.out | exact HSR.out.below (Below.refl _ _).drew) rfl rfl rfl rfl (by omega) (fun _ => rfl) (by rw [hL16]; omega) ?_; intro w4 hg4 hb4; have hu4 := C_cell16 hg4.out HSP.out; have hfr4 := hg4.out.frozen 16)
            all_goals (
              have hset := hg4.out.set_ 16 (.int .i64 ((acc.length : Int) + (b.length : Int)))
              rw [C_setn _ _ _ HSP.out, ← Int.natCast_add, sideC_app acc b (by omega), Int.natCast_add] at hset
              have HSET := Lib.hid hset
              have hb5 : Below (w.heap.size + 1) w2 w4 := (Below.refl _ _).drew.trans hb4.out
              have HG5 := Lib.hid (G0.out.below hb5 (by omega))
              have HL5 := Lib.hid (GL.out.trans (hb5.mono (by omega)))
              have HE5 := Lib.hid (HE3.below (hb5.mono (by have := HE.out.le; omega)))
              have hBle := HE.out.le
              clear hset hg4 hb4 hb5
              have hw : IntKind.i64.wrap ((acc.length : Int) + (b.length : Int)) = (acc.length : Int) + (b.length : Int) := by rw [IntKind.wrap_i64]; omega
              have HW := Lib.hid hw
              clear hw
              go_wp2
              have hw := HW.out
              go_roundw
              case rel => exact ⟨acc ++ b, p2, f, mo, rfl, rfl, by simp; omega, by omega, fun h => ⟨by have := hct h; omega, by rw [HZ.out, if_pos h]⟩, fun h => by rw [HZ.out, if_neg (by rw [h]; simp)], HG5.out.far (by simp) _, (by first | exact HSET.out | (rw [hw]; exact HSET.out) | (rw [show (sideC acc).n = (acc.length : Int) from rfl, hw]; exact HSET.out)), HL5.out.setCell (by simp) _, HE5.out.below ((Below.refl _ _).setCell (by simp; omega) _)⟩
              case measure =>
                show sideM (.string (str p2)) (.bool mo) < (str r).size + 1
                rw [str_size]
                cases mo with
                | false => show 0 < _; omega
                | true => show (str p2).size + 1 < _; rw [str_size]; have := hct rfl; omega)
      | true =>
        go_wp2_with fail
        refine (group_any p1 _ _ HE2 (by omega)).mono ?_
        rintro e w2 ⟨A, n, cp, rfl, hsrc, hb2⟩
        have HB2 := Lib.hid (HB.out.trans (hb2.mono HB.out.size))
        have G0 := Lib.hid (HB0.out.below HB2.out HB0.out.lt)
        have G1 := Lib.hid (HB1.out.below HB2.out HB1.out.lt)
        have GL := Lib.hid (HL.out.trans (HB2.out.mono HL.out.size))
        have HE3 := HE2.on hb2
        have hlen := fun b h => And.intro (hsrc b h) (grpS_len h)
        clear hsrc
        simp only [Bool.false_and, Bool.true_and, Bool.not_true, Bool.not_false, if_true, Bool.false_eq_true, if_false] at HG
        clear hb2
        generalize grpS p1 (!mo) = go at *
        cases go with
        | none =>
          have HZ := Lib.hid (HG.out)
          simp only at HZ
          clear HG hlen
          go_wp2_with (first
            | (refine go_bd0 65 _ builtS rfl rfl ?_)
            | (refine go_st 65 G0.out infoS rfl rfl (C_one _) rfl rfl rfl rfl ?_))
          exact ret_two Tryz.results49 (setRow_blk G0.out) undS rfl infoS rfl rfl rfl ⟨by rw [HZ.out]; rfl, setRow_below GL.out G0.out (Nat.le_refl _) _⟩ rfl
        | some b =>
          obtain ⟨⟨rfl, hs⟩, hb24⟩ := hlen b rfl
          have HSR := Lib.hid hs
          clear hlen hs
          simp only at HG
          have hu := C_cell16 G1.out hL16
          rw [show (sideC acc).n = (acc.length : Int) from rfl] at hu
          by_cases hbig : 16 < acc.length + b.length
          · have HZ := Lib.hid (HG.out.trans (if_pos hbig))
            have hbi : (16 : Int) < (acc.length : Int) + (b.length : Int) := by omega
            clear HG
            go_wp2_with (first
              | (refine go_bd0 65 _ builtS rfl rfl ?_)
              | (refine go_st 65 G0.out infoS rfl rfl (C_one _) rfl rfl rfl rfl ?_))
            exact ret_two Tryz.results49 (setRow_blk G0.out) undS rfl infoS rfl rfl rfl ⟨by rw [HZ.out]; rfl, setRow_below GL.out G0.out (Nat.le_refl _) _⟩ rfl
          · have HZ := Lib.hid (HG.out.trans (if_neg hbig))
            have hbi : ¬ (16 : Int) < (acc.length : Int) + (b.length : Int) := by omega
            clear HG
            go_wp2_with fail
            have hac : (acc.length : Int) ≤ 16 := by omega
            have hac2 : ¬ 16 = acc.length := by omega
            have hfr := G1.out.frozen 16
            have HSP := Lib.hid (show (splB (sideC acc).a acc.length b).length = 16 by rw [splB_length _ _ _ (by rw [hL16]; omega), hL16])
            go_region_law (refine step_cpC (w.heap.size + 1) acc.length (by exact G1.out) (by first | exact HSR.out | exact HSR.out.below (Below.refl _ _).drew) rfl rfl rfl rfl (by omega) (fun _ => rfl) (by rw [hL16]; omega) ?_; intro w4 hg4 hb4; have hu4 := C_cell16 hg4.out HSP.out; have hfr4 := hg4.out.frozen 16)
            all_goals (
              have hset := hg4.out.set_ 16 (.int .i64 ((acc.length : Int) + (b.length : Int)))
              rw [C_setn _ _ _ HSP.out, ← Int.natCast_add, sideC_app acc b (by omega), Int.natCast_add] at hset
              have HSET := Lib.hid hset
              have hb5 : Below (w.heap.size + 1) w2 w4 := (Below.refl _ _).drew.trans hb4.out
              have HG5 := Lib.hid (G0.out.below hb5 (by omega))
              have HL5 := Lib.hid (GL.out.trans (hb5.mono (by omega)))
              have HE5 := Lib.hid (HE3.below (hb5.mono (by have := HE.out.le; omega)))
              have hBle := HE.out.le
              clear hset hg4 hb4 hb5
              have hw : IntKind.i64.wrap ((acc.length : Int) + (b.length : Int)) = (acc.length : Int) + (b.length : Int) := by rw [IntKind.wrap_i64]; omega
              have HW := Lib.hid hw
              clear hw
              go_wp2
              have hw := HW.out
              go_roundw
              case rel => exact ⟨acc ++ b, p2, f, mo, rfl, rfl, by simp; omega, by omega, fun h => ⟨by have := hct h; omega, by rw [HZ.out, if_pos h]⟩, fun h => by rw [HZ.out, if_neg (by rw [h]; simp)], HG5.out.far (by simp) _, (by first | exact HSET.out | (rw [hw]; exact HSET.out) | (rw [show (sideC acc).n = (acc.length : Int) from rfl, hw]; exact HSET.out)), HL5.out.setCell (by simp) _, HE5.out.below ((Below.refl _ _).setCell (by simp; omega) _)⟩
              case measure =>
                show sideM (.string (str p2)) (.bool mo) < (str r).size + 1
                rw [str_size]
                cases mo with
                | false => show 0 < _; omega
                | true => show (str p2).size + 1 < _; rw [str_size]; have := hct rfl; omega)
end Go.Proofs.YtdofipjjodijcaaGreatDoor.Ad
