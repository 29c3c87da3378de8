/-
  'What is right is printed, and parsed as it was', over this seat's translation: the walk.
-/
import Derived.Test.YtpbogmdmjeehpaaDoorAdSmall
import Derived.Test.YtpbogmdmjeehpaaDoorAdNestsP
import Derived.Test.YtpbogmdmjeehpaaDoorAdPrintG
namespace Go.Proofs.YtpbogmdmjeehpaaDoor.Ad
open Go.RowKit Go.Maps Go.Proofs.YtpbogmdmjeehpaaDoor.Wd

theorem bk_bdg {ops : Array Oper} {rest : List Oper} {o : Oper} {a : Act} {w : World} {Q : Exit → Act → World → Prop} (ty : TypeId) (C : Array Value) (hB : Tryd.prog.built ty [] = some C) (hw : Region.wanted o (yielded ops a.tmps) = true) (ho : o.op = .build ty #[])
    (h : wpList Tryd.prog ops Q rest (a.put o.dst (.agg C)) w) : wpList Tryd.prog ops Q (o :: rest) a w := by
  show if Region.wanted o (yielded ops a.tmps) = true then _ else _
  rw [if_pos hw]
  have e : Tryd.prog.built ty ((#[] : Array (Nat × Operand)).map fun (i, x) => (i, a.eval x)).toList = some C := by simpa using hB
  refine .inl (wp_build ty _ ho (by rw [e]; rfl) ?_)
  rw [e]
  exact h
theorem bk_neq (c : C) (hc : c.a.length = 16) (w : World) : (binOp .neq 25 (.agg c.cells) (.agg c.cells)).run Tryd.prog w = .ok (.bool false) w := by
  rw [run_neq_struct, eqIn17n _ (by omega) c c hc hc w, Result.andThen_ok]
  simp
theorem bk_eql (c : C) (hc : c.a.length = 16) (w : World) : (binOp .eql 25 (.agg c.cells) (.agg c.cells)).run Tryd.prog w = .ok (.bool true) w := by
  rw [eql17 c c hc hc w]
  simp
theorem cparse_right {l : List UInt8} {c : C} (h : cparseS l = some c) : rightS c = true := by
  unfold cparseS at h
  split at h
  · cases h
  · split at h
    · cases h
    · injection h with h
      rw [← h]
      exact right_of _ _
theorem right_ok {c : C} (hc : c.a.length = 16) (h : rightS c = true) : OkC c := by
  unfold rightS at h
  rw [beq_iff_eq] at h
  rw [h]
  exact ofS_ok hc c.n
theorem ctext_free (a : List UInt8) (ha : a.length = 16) : (ctext a).length ≤ 64 := ctext_len a ha
theorem cprint_len (c : C) (hc : OkC c) : (cprintS (ctext c.a) c).length ≤ 100 := by
  have h1 := ctext_len c.a hc.len
  have h2 := Lib.itoa_length_le (bitsI c.a c.n) (by have := hc.lo; unfold bitsI; split <;> omega) (by have := hc.hi; unfold bitsI; split <;> omega)
  unfold cprintS
  simp
  omega
theorem print_c {B : Nat} (c : C) (hc : OkC c) (w : World) (hE : Env B w) : Calls Tryd.prog 6 #[.agg c.cells] w fun e w' => e = .returned (.string (str (cprintS (ctext c.a) c))) ∧ Below w.heap.size w w' :=
  cprint_any c hc.len hc.lo hc.hi (ctext c.a) (ctext_len c.a hc.len) w hE (fun w1 h1 => print_any c.a hc.len w1 h1)
theorem getD_len (r : Option C) (h : ∀ c, r = some c → c.a.length = 16) : (r.getD C0).a.length = 16 := by
  cases r with
  | none => rfl
  | some c => exact h c rfl

set_option linter.unusedSimpArgs false in
set_option maxRecDepth 100000 in
set_option maxHeartbeats 4000000 in
theorem back_walk (W : World) (c : C) (hc : OkC c) (l : List UInt8) {B : Nat} (hE : Env B W) (hl : l.length ≤ 9223372036854775807) :
    Calls Tryd.prog 3 #[.agg c.cells, .string (str l)] W fun e w' => e = .returned (.bool true) ∧ Below W.heap.size W w' := by
  have E : Loc B W W [] := ⟨hE, Below.refl _ _, fun x hx => by cases hx⟩
  clear hE
  have hls := str_size l
  go_enter Tryd.func3, Tryd.ntmps3
  go_wp2_with fail
  replace E : Loc B W (W.alloc (.cells c.cells 25)) [(W.heap.size, 25, c.cells)] :=
    (E.on ((Below.refl _ _).alloc (Nat.le_refl _) _)).add (Blk.new W 25 c.cells)
  generalize W.alloc (.cells c.cells 25) = w1 at *
  generalize hGc : W.heap.size = Gc at *
  have HG := Lib.hid hGc
  clear hGc
  refine (small_any _ E.env).mono ?_
  rintro e w2 ⟨rfl, hb2⟩
  replace E := E.on hb2
  clear hb2 w1
  by_cases h300 : 300 < l.length
  · have hli : (300 : Int) < ((str l).size : Int) := by omega
    generalize str l = s at *
    have HF := Lib.hid E.low
    clear E
    go_wp2_with fail
    go_ret
    rw [HG.out] at *
    exact ⟨rfl, HF.out⟩
  · have hli : ((str l).size : Int) ≤ 300 := by omega
    have bc := E.at_ (Gc, 25, c.cells) (by simp)
    have hzc := C_size c hc.len
    have HS := Lib.hid (rfl : str l = str l)
    generalize hsl : str l = s at *
    have HSL := Lib.hid hsl
    clear hsl HS hls
    go_wp2_with (refine go_ld 25 bc und17 rfl info17 hzc rfl rfl rfl ?_)
    refine (print_c c hc _ E.env).mono ?_
    rintro e w3 ⟨rfl, hb2⟩
    replace E := E.on hb2
    clear hb2 bc w2
    have hpl := cprint_len c hc
    have HBack := Lib.hid (fun h : rightS c = true => back c hc.len h)
    generalize cprintS (ctext c.a) c = T at *
    go_wp2_with fail
    refine (cparse_any T _ E.env (by omega)).mono ?_
    rintro e w4 ⟨rfl, hb2⟩
    replace E := E.on hb2
    clear hb2 w3
    have hXl : ((cparseS T).getD C0).a.length = 16 := getD_len _ (fun c h => cparseS_len h)
    have HX := Lib.hid (show rightS c = true → (cparseS T).getD C0 = c ∧ (cparseS T).isSome = true from fun h => by rw [HBack.out h]; exact ⟨rfl, rfl⟩)
    clear HBack
    generalize (cparseS T).getD C0 = X at *
    generalize (cparseS T).isSome = OK at *
    have hzX := C_size X hXl
    have HPar := Lib.hid (fun (w : World) (hE : Env B w) => (show Calls Tryd.prog 5 #[.string s] w (CParsePost l w) from by rw [← HSL.out]; exact cparse_any l w hE (by omega)))
    have HLen := Lib.hid (fun (y : C) (h : cparseS l = some y) => cparseS_len h)
    have HRig := Lib.hid (fun (y : C) (h : cparseS l = some y) => cparse_right h)
    clear hpl
    go_upto_region 5 with (refine go_st 25 (Blk.new _ _ _) info17 rfl hzX (C_one _) rfl rfl rfl rfl ?_)
    replace E := E.new 25 #[Value.int .u8 0, Value.int .u8 0, Value.int .u8 0, Value.int .u8 0, Value.int .u8 0, Value.int .u8 0, Value.int .u8 0, Value.int .u8 0, Value.int .u8 0, Value.int .u8 0, Value.int .u8 0, Value.int .u8 0, Value.int .u8 0, Value.int .u8 0, Value.int .u8 0, Value.int .u8 0, Value.int .i64 0] X.cells
    generalize hG0 : w4.heap.size = Gx at *
    generalize (w4.alloc (.cells #[Value.int .u8 0, Value.int .u8 0, Value.int .u8 0, Value.int .u8 0, Value.int .u8 0, Value.int .u8 0, Value.int .u8 0, Value.int .u8 0, Value.int .u8 0, Value.int .u8 0, Value.int .u8 0, Value.int .u8 0, Value.int .u8 0, Value.int .u8 0, Value.int .u8 0, Value.int .u8 0, Value.int .i64 0] 25)).setRow Gx X.cells = w5 at *
    clear hG0 w4
    have bc := E.at_ (Gc, 25, c.cells) (by simp)
    go_wp2_with (refine go_ld 25 bc und17 rfl info17 hzc rfl rfl rfl ?_)
    clear bc
    refine (right_any c hc.len _).mono ?_
    rintro e w6 ⟨rfl, hb2⟩
    replace E := E.on hb2
    clear hb2 w5
    have bc := E.at_ (Gc, 25, c.cells) (by simp)
    have bx := E.at_ (Gx, 25, X.cells) (by simp)
    cases hR : rightS c with
    | true =>
      obtain ⟨rfl, rfl⟩ := HX.out hR
      have hneq := bk_neq X hXl
      clear HX hR
      go_wp2_with (first
        | (refine go_ldg 25 bx und17 rfl info17 hzX (by rfl) rfl rfl ?_)
        | (refine go_ldg 25 bc und17 rfl info17 hzc (by rfl) rfl rfl ?_))
      clear bx bc hneq
      refine (HPar.out _ E.env).mono ?_
      rintro e w7 ⟨rfl, hb2⟩
      replace E := E.on hb2
      clear hb2 w6 HPar
      cases hP : cparseS l with
      | none =>
        simp only [Option.getD_none, Option.isSome_none]
        clear hP HLen HRig
        go_upto_region 8 with (refine go_st 25 (Blk.new _ _ _) info17 rfl (C_size C0 rfl) (C_one _) rfl rfl rfl rfl ?_)
        replace E := E.new 25 #[Value.int .u8 0, Value.int .u8 0, Value.int .u8 0, Value.int .u8 0, Value.int .u8 0, Value.int .u8 0, Value.int .u8 0, Value.int .u8 0, Value.int .u8 0, Value.int .u8 0, Value.int .u8 0, Value.int .u8 0, Value.int .u8 0, Value.int .u8 0, Value.int .u8 0, Value.int .u8 0, Value.int .i64 0] C0.cells
        generalize hG0 : w7.heap.size = Gy at *
        generalize (w7.alloc (.cells #[Value.int .u8 0, Value.int .u8 0, Value.int .u8 0, Value.int .u8 0, Value.int .u8 0, Value.int .u8 0, Value.int .u8 0, Value.int .u8 0, Value.int .u8 0, Value.int .u8 0, Value.int .u8 0, Value.int .u8 0, Value.int .u8 0, Value.int .u8 0, Value.int .u8 0, Value.int .u8 0, Value.int .i64 0] 25)).setRow Gy C0.cells = w8 at *
        clear hG0 w7
        have bf := E.at_ (Gy, 25, C0.cells) (by simp)
        have heq0 := bk_eql C0 rfl
        have hz0 := C_size C0 rfl
        have HF := Lib.hid E.low
        clear E
        go_wp2_with (first
          | (refine go_ldg 25 bf und17 rfl info17 hz0 (by rfl) rfl rfl ?_)
          | (refine bk_bdg 25 C0.cells builtC (by rfl) rfl ?_))
        go_ret
        rw [HG.out] at *
        exact ⟨rfl, HF.out⟩
      | some y =>
        simp only [Option.getD_some, Option.isSome_some]
        have hyl := HLen.out y hP
        have hyr := HRig.out y hP
        have hyo := right_ok hyl hyr
        have hzy := C_size y hyl
        have HYR := Lib.hid hyr
        have HYB := Lib.hid (back y hyl hyr)
        have hpl := cprint_len y hyo
        clear hP HLen HRig hyr
        go_upto_region 8 with (refine go_st 25 (Blk.new _ _ _) info17 rfl hzy (C_one _) rfl rfl rfl rfl ?_)
        replace E := E.new 25 #[Value.int .u8 0, Value.int .u8 0, Value.int .u8 0, Value.int .u8 0, Value.int .u8 0, Value.int .u8 0, Value.int .u8 0, Value.int .u8 0, Value.int .u8 0, Value.int .u8 0, Value.int .u8 0, Value.int .u8 0, Value.int .u8 0, Value.int .u8 0, Value.int .u8 0, Value.int .u8 0, Value.int .i64 0] y.cells
        generalize hG0 : w7.heap.size = Gy at *
        generalize (w7.alloc (.cells #[Value.int .u8 0, Value.int .u8 0, Value.int .u8 0, Value.int .u8 0, Value.int .u8 0, Value.int .u8 0, Value.int .u8 0, Value.int .u8 0, Value.int .u8 0, Value.int .u8 0, Value.int .u8 0, Value.int .u8 0, Value.int .u8 0, Value.int .u8 0, Value.int .u8 0, Value.int .u8 0, Value.int .i64 0] 25)).setRow Gy y.cells = w8 at *
        clear hG0 w7
        have by_ := E.at_ (Gy, 25, y.cells) (by simp)
        go_wp2_with (refine go_ld 25 by_ und17 rfl info17 hzy rfl rfl rfl ?_)
        refine (print_c y hyo _ E.env).mono ?_
        rintro e w9 ⟨rfl, hb2⟩
        replace E := E.on hb2
        clear hb2 by_ w8
        generalize cprintS (ctext y.a) y = T2 at *
        go_wp2_with fail
        refine (cparse_any T2 _ E.env (by omega)).mono ?_
        rintro e w10 ⟨rfl, hb2⟩
        rw [HYB.out]
        simp only [Option.getD_some, Option.isSome_some]
        replace E := E.on hb2
        clear hb2 w9
        go_upto_region 11 with (refine go_st 25 (Blk.new _ _ _) info17 rfl hzy (C_one _) rfl rfl rfl rfl ?_)
        replace E := E.new 25 #[Value.int .u8 0, Value.int .u8 0, Value.int .u8 0, Value.int .u8 0, Value.int .u8 0, Value.int .u8 0, Value.int .u8 0, Value.int .u8 0, Value.int .u8 0, Value.int .u8 0, Value.int .u8 0, Value.int .u8 0, Value.int .u8 0, Value.int .u8 0, Value.int .u8 0, Value.int .u8 0, Value.int .i64 0] y.cells
        generalize hG0 : w10.heap.size = Gz at *
        generalize (w10.alloc (.cells #[Value.int .u8 0, Value.int .u8 0, Value.int .u8 0, Value.int .u8 0, Value.int .u8 0, Value.int .u8 0, Value.int .u8 0, Value.int .u8 0, Value.int .u8 0, Value.int .u8 0, Value.int .u8 0, Value.int .u8 0, Value.int .u8 0, Value.int .u8 0, Value.int .u8 0, Value.int .u8 0, Value.int .i64 0] 25)).setRow Gz y.cells = w11 at *
        clear hG0 w10
        have by_ := E.at_ (Gy, 25, y.cells) (by simp)
        go_wp2_with (refine go_ldg 25 by_ und17 rfl info17 hzy (by rfl) rfl rfl ?_)
        refine (right_any y hyl _).mono ?_
        rintro e w12 ⟨rfl, hb2⟩
        rw [HYR.out]
        replace E := E.on hb2
        clear hb2 by_ w11
        have by_ := E.at_ (Gy, 25, y.cells) (by simp)
        have bz := E.at_ (Gz, 25, y.cells) (by simp)
        have heqy := bk_eql y hyl
        have HF := Lib.hid E.low
        clear E
        go_wp2_with (first
          | (refine go_ldg 25 bz und17 rfl info17 hzy (by rfl) rfl rfl ?_)
          | (refine go_ldg 25 by_ und17 rfl info17 hzy (by rfl) rfl rfl ?_))
        go_ret
        rw [HG.out] at *
        exact ⟨rfl, HF.out⟩
    | false =>
      clear HX hR
      go_wp2_with fail
      clear bx bc
      refine (HPar.out _ E.env).mono ?_
      rintro e w7 ⟨rfl, hb2⟩
      replace E := E.on hb2
      clear hb2 w6 HPar
      cases hP : cparseS l with
      | none =>
        simp only [Option.getD_none, Option.isSome_none]
        clear hP HLen HRig
        go_upto_region 8 with (refine go_st 25 (Blk.new _ _ _) info17 rfl (C_size C0 rfl) (C_one _) rfl rfl rfl rfl ?_)
        replace E := E.new 25 #[Value.int .u8 0, Value.int .u8 0, Value.int .u8 0, Value.int .u8 0, Value.int .u8 0, Value.int .u8 0, Value.int .u8 0, Value.int .u8 0, Value.int .u8 0, Value.int .u8 0, Value.int .u8 0, Value.int .u8 0, Value.int .u8 0, Value.int .u8 0, Value.int .u8 0, Value.int .u8 0, Value.int .i64 0] C0.cells
        generalize hG0 : w7.heap.size = Gy at *
        generalize (w7.alloc (.cells #[Value.int .u8 0, Value.int .u8 0, Value.int .u8 0, Value.int .u8 0, Value.int .u8 0, Value.int .u8 0, Value.int .u8 0, Value.int .u8 0, Value.int .u8 0, Value.int .u8 0, Value.int .u8 0, Value.int .u8 0, Value.int .u8 0, Value.int .u8 0, Value.int .u8 0, Value.int .u8 0, Value.int .i64 0] 25)).setRow Gy C0.cells = w8 at *
        clear hG0 w7
        have bf := E.at_ (Gy, 25, C0.cells) (by simp)
        have heq0 := bk_eql C0 rfl
        have hz0 := C_size C0 rfl
        have HF := Lib.hid E.low
        clear E
        go_wp2_with (first
          | (refine go_ldg 25 bf und17 rfl info17 hz0 (by rfl) rfl rfl ?_)
          | (refine bk_bdg 25 C0.cells builtC (by rfl) rfl ?_))
        go_ret
        rw [HG.out] at *
        exact ⟨rfl, HF.out⟩
      | some y =>
        simp only [Option.getD_some, Option.isSome_some]
        have hyl := HLen.out y hP
        have hyr := HRig.out y hP
        have hyo := right_ok hyl hyr
        have hzy := C_size y hyl
        have HYR := Lib.hid hyr
        have HYB := Lib.hid (back y hyl hyr)
        have hpl := cprint_len y hyo
        clear hP HLen HRig hyr
        go_upto_region 8 with (refine go_st 25 (Blk.new _ _ _) info17 rfl hzy (C_one _) rfl rfl rfl rfl ?_)
        replace E := E.new 25 #[Value.int .u8 0, Value.int .u8 0, Value.int .u8 0, Value.int .u8 0, Value.int .u8 0, Value.int .u8 0, Value.int .u8 0, Value.int .u8 0, Value.int .u8 0, Value.int .u8 0, Value.int .u8 0, Value.int .u8 0, Value.int .u8 0, Value.int .u8 0, Value.int .u8 0, Value.int .u8 0, Value.int .i64 0] y.cells
        generalize hG0 : w7.heap.size = Gy at *
        generalize (w7.alloc (.cells #[Value.int .u8 0, Value.int .u8 0, Value.int .u8 0, Value.int .u8 0, Value.int .u8 0, Value.int .u8 0, Value.int .u8 0, Value.int .u8 0, Value.int .u8 0, Value.int .u8 0, Value.int .u8 0, Value.int .u8 0, Value.int .u8 0, Value.int .u8 0, Value.int .u8 0, Value.int .u8 0, Value.int .i64 0] 25)).setRow Gy y.cells = w8 at *
        clear hG0 w7
        have by_ := E.at_ (Gy, 25, y.cells) (by simp)
        go_wp2_with (refine go_ld 25 by_ und17 rfl info17 hzy rfl rfl rfl ?_)
        refine (print_c y hyo _ E.env).mono ?_
        rintro e w9 ⟨rfl, hb2⟩
        replace E := E.on hb2
        clear hb2 by_ w8
        generalize cprintS (ctext y.a) y = T2 at *
        go_wp2_with fail
        refine (cparse_any T2 _ E.env (by omega)).mono ?_
        rintro e w10 ⟨rfl, hb2⟩
        rw [HYB.out]
        simp only [Option.getD_some, Option.isSome_some]
        replace E := E.on hb2
        clear hb2 w9
        go_upto_region 11 with (refine go_st 25 (Blk.new _ _ _) info17 rfl hzy (C_one _) rfl rfl rfl rfl ?_)
        replace E := E.new 25 #[Value.int .u8 0, Value.int .u8 0, Value.int .u8 0, Value.int .u8 0, Value.int .u8 0, Value.int .u8 0, Value.int .u8 0, Value.int .u8 0, Value.int .u8 0, Value.int .u8 0, Value.int .u8 0, Value.int .u8 0, Value.int .u8 0, Value.int .u8 0, Value.int .u8 0, Value.int .u8 0, Value.int .i64 0] y.cells
        generalize hG0 : w10.heap.size = Gz at *
        generalize (w10.alloc (.cells #[Value.int .u8 0, Value.int .u8 0, Value.int .u8 0, Value.int .u8 0, Value.int .u8 0, Value.int .u8 0, Value.int .u8 0, Value.int .u8 0, Value.int .u8 0, Value.int .u8 0, Value.int .u8 0, Value.int .u8 0, Value.int .u8 0, Value.int .u8 0, Value.int .u8 0, Value.int .u8 0, Value.int .i64 0] 25)).setRow Gz y.cells = w11 at *
        clear hG0 w10
        have by_ := E.at_ (Gy, 25, y.cells) (by simp)
        go_wp2_with (refine go_ldg 25 by_ und17 rfl info17 hzy (by rfl) rfl rfl ?_)
        refine (right_any y hyl _).mono ?_
        rintro e w12 ⟨rfl, hb2⟩
        rw [HYR.out]
        replace E := E.on hb2
        clear hb2 by_ w11
        have by_ := E.at_ (Gy, 25, y.cells) (by simp)
        have bz := E.at_ (Gz, 25, y.cells) (by simp)
        have heqy := bk_eql y hyl
        have HF := Lib.hid E.low
        clear E
        go_wp2_with (first
          | (refine go_ldg 25 bz und17 rfl info17 hzy (by rfl) rfl rfl ?_)
          | (refine go_ldg 25 by_ und17 rfl info17 hzy (by rfl) rfl rfl ?_))
        go_ret
        rw [HG.out] at *
        exact ⟨rfl, HF.out⟩
end Go.Proofs.YtpbogmdmjeehpaaDoor.Ad
