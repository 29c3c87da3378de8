/-
  Contracts of package cidr's Drop and Find over this seat's translation.
-/
import Derived.Test.YtpbogmdmjeehpaaDoorAdSet
import Derived.Test.YtpbogmdmjeehpaaDoorAdCParse
namespace Go.Proofs.YtpbogmdmjeehpaaDoor.Ad
open Go.RowKit Go.Proofs.YtpbogmdmjeehpaaDoor.Wd Go.Maps

theorem step_del {ops : Array Oper} {o : Oper} {a : Act} {w w' : World} {K : Act → World → Prop} {Q : Exit → Act → World → Prop} {E : Prop} {m x : Operand} {b : Nat} {key : Value} (hgd : o.guard = none)
    (ho : o.op = .call { callee := .builtin .delete, args := #[m, x], argTypes := #[51, 25] }) (hm : a.eval m = .map (some b)) (hx : a.eval x = key)
    (hrun : (Builtin.delete_ #[51, 25] o.type #[.map (some b), key]).run Tryd.prog w = .ok (.tuple #[]) w') (h : K (a.put o.dst (.tuple #[])) w') : if Region.wanted o (yielded ops a.tmps) = true then Oper.wp Tryd.prog o a w K Q else E := by
  have hw : Region.wanted o (yielded ops a.tmps) = true := by simp [Region.wanted, hgd]
  rw [if_pos hw]
  unfold Oper.wp
  simp [execOp, ho, resolve, invoke, builtin, hm, hx, hrun, Result.andThen]
  exact h

set_option linter.unusedSimpArgs false in
set_option maxRecDepth 100000 in
set_option maxHeartbeats 2000000 in
theorem sdrop_any {s b n : Nat} {D : DataW Unit} {L : List C} (c : C) (hc : OkC c) (w : World) (hS : SetIs w s b n D L) :
    Calls Tryd.prog 12 #[.pointer (some ⟨s, 0, none⟩), .agg c.cells] w (SetPost w s b n (L.erase c) (decide (c ∈ L))) := by
  have hi17 : (Tryd.prog.info? 25).map (·.size) = some (cL c).length := by rw [cL_len c hc.len]; exact info17
  have h17 := C_size c hc.len
  go_enter Tryd.func12, Tryd.ntmps12
  go_upto_region 1 with fail
  have b0 := Blk.new w 25 c.cells
  have hbel : Below w.heap.size w (w.alloc (.cells c.cells 25)) := (Below.refl _ _).alloc (Nat.le_refl _) _
  have s1 := hS.on hbel
  have hbw := hS.own.lt
  generalize w.alloc (.cells c.cells 25) = w1 at *
  clear hS
  go_wp2_with (refine go_ld 25 b0 und17 rfl info17 h17 rfl rfl rfl ?_)
  refine (shas_any c hc _ s1).mono ?_
  rintro e w3 ⟨rfl, hb3⟩
  have S3 := Lib.hid (s1.on hb3)
  have HL := Lib.hid (hbel.trans (hb3.mono hbel.size))
  have b3 := b0.below hb3 b0.lt
  clear hb3 hbel b0 s1
  by_cases hm : c ∈ L
  · have H1 := Lib.hid (show decide (c ∈ L) = true from decide_eq_true hm)
    rw [H1.out]
    go_upto_region 3 with fail
    have hcell := set_cell S3.out
    have HG := Lib.hid (And.intro (rangeC (w := w3.drew) b3) (show w3.drew.cell? ⟨s, 0, none⟩ = some (.map (some b)) from hcell))
    obtain ⟨w4, hrun, hown, hturn⟩ := (S3.out.own.drew).drop keyedC undM (keyC c hc) 0
    have hgr : w3.grownBy w4 (some b) := (only_of_below (Below.refl _ _).drew _).trans hturn.grown
    have S4 := Lib.hid (set_del S3.out c hc hm hown hgr)
    have hlt3 := b3.lt
    have HFIN : Hid (w.grownBy w4 (some b)) := only_trans (only_of_below HL.out _) hgr
    have HS4 : Hid (w4.rangeAt w.heap.size 0 (cL c) ∧ w4.cell? ⟨s, 0, none⟩ = some (.map (some b))) := ⟨SetIs.range HG.out.1 hturn.grown hlt3 (by omega), set_cell S4.out⟩
    have HRUN := Lib.hid hrun
    clear hcell hown hturn hgr hrun
    generalize hG : w.heap.size = G at *
    refine wp_region_held_drew (S := fun w' => w'.rangeAt G 0 (cL c) ∧ w'.cell? ⟨s, 0, none⟩ = some (.map (some b))) (by kernel_rfl) HG.out (fun h0 => ?_)
    refine hd_take 0 (some 9) (.pointer (some ⟨s, 0, none⟩)) rfl rfl (by kernel_rfl) (by kernel_rfl) (by kernel_rfl) (fun _ _ _ h => h) (Or.inl ⟨by rfl, fun w hw => by go_simp⟩) h0 ?_
    simp only [Act.put, List.setIfInBounds_toArray, List.set_cons_zero, List.set_cons_succ]
    refine hd_take 1 (some 10) (.pointer (some ⟨s, 0, none⟩)) rfl rfl (by kernel_rfl) (by kernel_rfl) (by kernel_rfl) (fun _ _ _ h => h) (Or.inl ⟨by rfl, fun w hw => by go_simp⟩) h0 ?_
    simp only [Act.put, List.setIfInBounds_toArray, List.set_cons_zero, List.set_cons_succ]
    refine hd_take 2 (some 11) (.pointer (some ⟨s, 0, none⟩)) rfl rfl (by kernel_rfl) (by kernel_rfl) (by kernel_rfl) (fun _ _ _ h => h) (Or.inl ⟨by rfl, fun w hw => by go_simp⟩) h0 ?_
    simp only [Act.put, List.setIfInBounds_toArray, List.set_cons_zero, List.set_cons_succ]
    refine hd_take 3 (some 12) (.map (some b)) rfl rfl (by kernel_rfl) (by kernel_rfl) (by kernel_rfl) (fun _ _ _ h => h) (Or.inl ⟨by rfl, fun w hw => by have h16 := hw.2; go_simp⟩) h0 ?_
    simp only [Act.put, List.setIfInBounds_toArray, List.set_cons_zero, List.set_cons_succ]
    refine hd_take 4 (some 13) (.agg c.cells) rfl rfl (by kernel_rfl) (by kernel_rfl) (by kernel_rfl) (fun _ _ _ h => h) (yieldsIf_load_mid (by rfl) _ _ rfl G 0 rfl (cL c) _ (fun _ h => h.1) und17 rfl hi17) h0 ?_
    simp only [Act.put, List.setIfInBounds_toArray, List.set_cons_zero, List.set_cons_succ]
    refine wpAnyH_ready (rs := [5]) (by kernel_rfl) (by simp) (AllReadyH.cons rfl (fun K hK => ?_) AllReadyH.nil)
    refine step_del rfl rfl rfl rfl HRUN.out ?_
    refine hK.out _ _ HS4.out (fun h4 => ?_)
    clear hK K
    refine wpAnyH_done (by kernel_rfl) ?_ _
    go_wp2_with fail
    go_ret
    exact ⟨by rw [H1.out]; rfl, ⟨_, S4.out⟩, HFIN.out⟩
  · have H1 := Lib.hid (show decide (c ∈ L) = false from decide_eq_false hm)
    have H2 := Lib.hid (List.erase_of_not_mem hm)
    rw [H1.out]
    clear hm
    go_wp2_with fail
    go_ret
    exact ⟨by rw [H1.out]; rfl, ⟨D, by rw [H2.out]; exact S3.out⟩, only_of_below HL.out _⟩

/-- the one of the most bits, below k, that has a -/
def findS (L : List C) (a : List UInt8) : Nat → Option C
  | 0 => none
  | k + 1 => if ofS a (k : Int) ∈ L then some (ofS a (k : Int)) else findS L a k
theorem findS_ok {L : List C} {a : List UInt8} : ∀ {k : Nat} {c : C}, findS L a k = some c → ∃ j : Nat, j < k ∧ c = ofS a (j : Int) ∧ c ∈ L
  | 0, _, h => by cases h
  | k + 1, c, h => by
    unfold findS at h
    split at h
    · injection h with h; subst h; exact ⟨k, by omega, rfl, by assumption⟩
    · obtain ⟨j, hj, r⟩ := findS_ok h; exact ⟨j, by omega, r⟩
def FindAt (s b n : Nat) (D : DataW Unit) (L : List C) (a : List UInt8) (w : World) (i : Value) (w' : World) : Prop :=
  ∃ k : Nat, k ≤ 129 ∧ i = .int .i64 ((k : Int) - 1) ∧ findS L a 129 = findS L a k ∧ Blk w' w.heap.size 23 (cA a) ∧ Blk w' (w.heap.size + 1) 25 (C.cells ⟨List.replicate 16 0, 0⟩) ∧ SetIs w' s b n D L ∧ Below w.heap.size w w'
def FindPost (L : List C) (a : List UInt8) (w : World) (e : Ending) (w' : World) : Prop :=
  e = .returned (.tuple #[.agg ((findS L a 129).getD C0).cells, .bool (findS L a 129).isSome]) ∧ Below w.heap.size w w'

set_option linter.unusedSimpArgs false in
set_option maxRecDepth 100000 in
set_option maxHeartbeats 4000000 in
theorem sfind_any {s b n : Nat} {D : DataW Unit} {L : List C} (a : List UInt8) (ha : a.length = 16) (w : World) (hS : SetIs w s b n D L) :
    Calls Tryd.prog 11 #[.pointer (some ⟨s, 0, none⟩), .agg (cA a)] w (FindPost L a w) := by
  go_enter Tryd.func11, Tryd.ntmps11
  go_wp2_with fail
  go_loopw [6] (fun i w' => FindAt s b n D L a w i w') (fun i _ => (intOf i + 1).toNat)
  case atStart =>
    have hb : Below w.heap.size w ((w.alloc (.cells (cA a) 23)).alloc (.cells (C.cells ⟨List.replicate 16 0, 0⟩) 25)) := ((Below.refl _ _).alloc (Nat.le_refl _) _).alloc (by simp) _
    exact ⟨129, by omega, rfl, rfl, (Blk.new _ _ _).alloc _, blk_at _ _ _ _ _ (by rw [alloc_size]) rfl, hS.on hb, hb⟩
  case round =>
    obtain ⟨k, hk, rfl, hf, b0, b1, hS, hbel⟩ := hrel
    cases k with
    | zero =>
      have HZ := Lib.hid (show findS L a 129 = none from hf)
      have HS := Lib.hid hS
      clear hf hS
      go_wp2_with (first
        | (refine go_bd0 25 _ builtC rfl rfl ?_)
        | (refine go_st 25 b1 info17 rfl rfl (C_one _) rfl rfl rfl rfl ?_))
      refine ret_two Tryd.results11 (setRow_blk b1) und17 rfl info17 rfl rfl rfl ?_ rfl
      exact ⟨by rw [HZ.out]; rfl, setRow_below hbel b1 (by omega) _⟩
    | succ j =>
      have HF := Lib.hid (hf.trans (show findS L a (j + 1) = if ofS a (j : Int) ∈ L then some (ofS a (j : Int)) else findS L a j from rfl))
      have hz := ofS_len a (j : Int)
      rw [ha] at hz
      have hzs := C_size _ hz
      have hok := ofS_ok ha (j : Int)
      have hj0 : (0 : Int) ≤ ((j + 1 : Nat) : Int) - 1 := by omega
      have hj1 : ((j + 1 : Nat) : Int) - 1 = (j : Int) := by omega
      rw [hj1]
      have HS := Lib.hid hS
      have HB1 := Lib.hid b1
      have HL := Lib.hid hbel
      clear hf hS b1 hbel hj0 hj1
      go_wp2_with (refine go_ld 23 b0 und16 rfl info16 (by rw [cA_size, ha]) rfl rfl rfl ?_)
      refine (of_any a ha (j : Int) _).mono ?_
      rintro e w2 ⟨rfl, hb2⟩
      have B0 := Lib.hid (b0.below hb2 b0.lt)
      have B1 := Lib.hid (HB1.out.below hb2 HB1.out.lt)
      have S2 := Lib.hid (HS.out.on hb2)
      have L2 := Lib.hid (HL.out.trans (hb2.mono HL.out.size))
      clear hb2 b0 HB1 HS HL
      generalize ofS a (j : Int) = c at *
      go_upto_region 5 with (refine go_st 25 (Blk.new _ _ _) info17 rfl hzs (C_one _) rfl rfl rfl rfl ?_)
      have hn := new_below w2 25 #[Value.int .u8 0, Value.int .u8 0, Value.int .u8 0, Value.int .u8 0, Value.int .u8 0, Value.int .u8 0, Value.int .u8 0, Value.int .u8 0, Value.int .u8 0, Value.int .u8 0, Value.int .u8 0, Value.int .u8 0, Value.int .u8 0, Value.int .u8 0, Value.int .u8 0, Value.int .u8 0, Value.int .i64 0] c.cells
      have b7 := new_blk w2 25 #[Value.int .u8 0, Value.int .u8 0, Value.int .u8 0, Value.int .u8 0, Value.int .u8 0, Value.int .u8 0, Value.int .u8 0, Value.int .u8 0, Value.int .u8 0, Value.int .u8 0, Value.int .u8 0, Value.int .u8 0, Value.int .u8 0, Value.int .u8 0, Value.int .u8 0, Value.int .u8 0, Value.int .i64 0] c.cells
      generalize (w2.alloc (.cells #[Value.int .u8 0, Value.int .u8 0, Value.int .u8 0, Value.int .u8 0, Value.int .u8 0, Value.int .u8 0, Value.int .u8 0, Value.int .u8 0, Value.int .u8 0, Value.int .u8 0, Value.int .u8 0, Value.int .u8 0, Value.int .u8 0, Value.int .u8 0, Value.int .u8 0, Value.int .u8 0, Value.int .i64 0] 25)).setRow w2.heap.size c.cells = w3 at *
      have B03 := Lib.hid (B0.out.below hn B0.out.lt)
      have B13 := Lib.hid (B1.out.below hn B1.out.lt)
      have S3 := Lib.hid (S2.out.on hn)
      have L3 := Lib.hid (L2.out.trans (hn.mono L2.out.size))
      clear hn B0 B1 S2 L2
      go_wp2_with (refine go_ld 25 b7 und17 rfl info17 hzs rfl rfl rfl ?_)
      refine (shas_any c hok _ S3.out).mono ?_
      rintro e w4 ⟨rfl, hb4⟩
      have B04 := Lib.hid (B03.out.below hb4 B03.out.lt)
      have B14 := Lib.hid (B13.out.below hb4 B13.out.lt)
      have S4 := Lib.hid (S3.out.on hb4)
      have L4 := Lib.hid (L3.out.trans (hb4.mono L3.out.size))
      have b74 := b7.below hb4 b7.lt
      clear hb4 b7 B03 B13 S3 L3
      by_cases hm : c ∈ L
      · have HZ := Lib.hid (HF.out.trans (if_pos hm))
        rw [show decide (c ∈ L) = true from decide_eq_true hm]
        clear HF hm
        have b14 := B14.out
        go_wp2_with (first
          | (refine go_ld 25 b74 und17 rfl info17 hzs rfl rfl rfl ?_)
          | (refine go_st 25 b14 info17 rfl hzs (C_one _) rfl rfl rfl rfl ?_))
        refine ret_two Tryd.results11 (setRow_blk b14) und17 rfl info17 hzs rfl rfl ?_ rfl
        exact ⟨by rw [HZ.out]; rfl, setRow_below L4.out b14 (by omega) _⟩
      · have HZ := Lib.hid (HF.out.trans (if_neg hm))
        rw [show decide (c ∈ L) = false from decide_eq_false hm]
        clear HF hm b74
        go_wp2_with fail
        go_roundw
        case rel => exact ⟨j, by omega, by go_num, HZ.out, B04.out, B14.out, S4.out, L4.out⟩
        case measure => simp [intOf]
end Go.Proofs.YtpbogmdmjeehpaaDoor.Ad
