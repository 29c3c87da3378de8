/-
  law11's small case over this seat's translation.
-/
import Derived.Test.YtnkcloebnlolaaaDoorRlRAuth
namespace Go.Proofs.YtnkcloebnlolaaaDoor.Rl
open Go.RowKit Go.Proofs.YtnkcloebnlolaaaDoor.Wd Go.Proofs.YtnkcloebnlolaaaDoor.Asc Go.Proofs.YtnkcloebnlolaaaDoor.Tx Go.Proofs.YtnkcloebnlolaaaDoor.St

/-- a request is built -/
theorem go_bdR {ops : Array Oper} {rest : List Oper} {o : Oper} {a : Act} {w : World} {Q : Exit → Act → World → Prop} {fs : Array (Nat × Operand)} (vs : List (Nat × Value)) (r : Rq) (hB : Tryd.prog.built 23 vs = some (rqC r))
    (hw : Region.wanted o (yielded ops a.tmps) = true) (ho : o.op = .build 23 fs) (hv : (fs.map fun (i, x) => (i, a.eval x)).toList = vs)
    (h : wpList Tryd.prog ops Q rest (a.put o.dst (.agg (rqC r))) w) : wpList Tryd.prog ops Q (o :: rest) a w := by
  show if Region.wanted o (yielded ops a.tmps) = true then _ else _
  rw [if_pos hw]
  have e : Tryd.prog.built 23 (fs.map fun (i, x) => (i, a.eval x)).toList = some (rqC r) := by rw [hv]; exact hB
  refine .inl (wp_build _ _ ho (by rw [e]; rfl) ?_)
  rw [e]
  exact h
/-- a request in a block of its own -/
theorem st_new (w : World) (r : Rq) : Blk ((w.alloc (.cells #[.string ⟨#[]⟩, .string ⟨#[]⟩, .int .i64 0] 23)).setRow w.heap.size (rqC r)) w.heap.size 23 (rqC r) ∧
    Below w.heap.size w ((w.alloc (.cells #[.string ⟨#[]⟩, .string ⟨#[]⟩, .int .i64 0] 23)).setRow w.heap.size (rqC r)) :=
  ⟨setRow_blk (Blk.new _ _ _), setRow_below ((Below.refl _ _).alloc (Nat.le_refl _) _) (Blk.new _ _ _) (Nat.le_refl _) _⟩

abbrev R1 : Rq := ⟨[71, 69, 84], [47, 97], 1⟩
abbrev R2 : Rq := ⟨cnct, [47], 0⟩
abbrev R3 : Rq := ⟨[], [42], 0⟩
abbrev R4 : Rq := ⟨[], http, 0⟩
theorem par_is {N : Nat} (l : List UInt8) (S : ByteArray) (hS : S = str l) (p : Rq × Int) (hp : parseS l = p) (hl : l.length < 4294967281) (w : World) (hE : Env N w) :
    Calls Tryd.prog 14 #[.string S] w (ParP p w) := by subst hS hp; exact parse_any l w hE hl
theorem aut_is (l : List UInt8) (S : ByteArray) (hS : S = str l) (o : Option (List UInt8)) (ho : authS l = o) (hl : l.length ≤ 1000000) (w : World) :
    Calls Tryd.prog 10 #[.string S] w fun e w' => e = .returned (optT o) ∧ Below w.heap.size w w' := by subst ho; exact auth_any l S hS.symm (by rw [hS, str_size]; exact hl) w
theorem frm_is (r : Rq) (k : Int) (hk : formS r = k) (hl : r.targ.length ≤ 1000000) (w : World) :
    Calls Tryd.prog 12 #[.agg (rqC r)] w fun e w' => e = .returned (.int .i64 k) ∧ Below w.heap.size w w' := by subst hk; exact form_any r hl w

set_option maxRecDepth 100000 in
set_option maxHeartbeats 8000000 in
theorem small_any {N : Nat} (w : World) (hE : Env N w) : Calls Tryd.prog 7 #[] w fun e w' => e = .returned (.bool true) ∧ Below w.heap.size w w' := by
  have P1 := Lib.hid (fun w hE => par_is (N := N) [71, 69, 84, 32, 47, 97, 32, 72, 84, 84, 80, 47, 49, 46, 49] ⟨#[71, 69, 84, 32, 47, 97, 32, 72, 84, 84, 80, 47, 49, 46, 49]⟩ rfl (R1, 0) (by kernel_rfl) (by decide) w hE)
  have P2 := Lib.hid (fun w hE => par_is (N := N) [71, 69, 84, 32, 32, 47, 97, 32, 72, 84, 84, 80, 47, 49, 46, 49] ⟨#[71, 69, 84, 32, 32, 47, 97, 32, 72, 84, 84, 80, 47, 49, 46, 49]⟩ rfl (Rq.zero, 3) (by kernel_rfl) (by decide) w hE)
  have P3 := Lib.hid (fun w hE => par_is (N := N) [71, 91, 84, 32, 47, 97, 32, 72, 84, 84, 80, 47, 49, 46, 49] ⟨#[71, 91, 84, 32, 47, 97, 32, 72, 84, 84, 80, 47, 49, 46, 49]⟩ rfl (Rq.zero, 11) (by kernel_rfl) (by decide) w hE)
  have P4 := Lib.hid (fun w hE => par_is (N := N) [71, 69, 84, 32, 47, 97, 32, 72, 84, 84, 80, 47, 50, 46, 48] ⟨#[71, 69, 84, 32, 47, 97, 32, 72, 84, 84, 80, 47, 50, 46, 48]⟩ rfl (Rq.zero, 5) (by kernel_rfl) (by decide) w hE)
  have P5 := Lib.hid (fun w hE => par_is (N := N) [71, 69, 84, 32, 47, 127, 32, 72, 84, 84, 80, 47, 49, 46, 48] ⟨#[71, 69, 84, 32, 47, 127, 32, 72, 84, 84, 80, 47, 49, 46, 48]⟩ rfl (Rq.zero, 3) (by kernel_rfl) (by decide) w hE)
  have HPr : Hid (printS R1 = some [71, 69, 84, 32, 47, 97, 32, 72, 84, 84, 80, 47, 49, 46, 49]) := Lib.hid (print_yes (by kernel_rfl) (by kernel_rfl))
  have PP := Lib.hid (fun w hE => print_any (N := N) R1 w hE (by decide) (by decide) (by decide))
  rw [HPr.out] at PP
  have A1 := Lib.hid (fun w => aut_is [72, 84, 84, 80, 58, 47, 47, 120, 58, 49, 47, 121] ⟨#[72, 84, 84, 80, 58, 47, 47, 120, 58, 49, 47, 121]⟩ rfl (some [120, 58, 49]) (by kernel_rfl) (by decide) w)
  have A2 := Lib.hid (fun w => aut_is [104, 116, 116, 112, 115, 58, 47, 47, 120] ⟨#[104, 116, 116, 112, 115, 58, 47, 47, 120]⟩ rfl none (by kernel_rfl) (by decide) w)
  have F1 := Lib.hid (fun w => frm_is R1 1 (by kernel_rfl) (by decide) w)
  have F2 := Lib.hid (fun w => frm_is R2 4 (by kernel_rfl) (by decide) w)
  have F3 := Lib.hid (fun w => frm_is R3 3 (by kernel_rfl) (by decide) w)
  have F4 := Lib.hid (fun w => frm_is R4 2 (by kernel_rfl) (by decide) w)
  have B1 := Lib.hid (show Tryd.prog.built 23 [(0, .string ⟨#[71, 69, 84]⟩), (1, .string ⟨#[47, 97]⟩), (2, .int .i64 1)] = some (rqC R1) by kernel_rfl)
  have B2 := Lib.hid (show Tryd.prog.built 23 [(0, .string ⟨#[67, 79, 78, 78, 69, 67, 84]⟩), (1, .string ⟨#[47]⟩)] = some (rqC R2) by kernel_rfl)
  have B3 := Lib.hid (show Tryd.prog.built 23 [(1, .string ⟨#[42]⟩)] = some (rqC R3) by kernel_rfl)
  have B4 := Lib.hid (show Tryd.prog.built 23 [(1, .string ⟨#[104, 116, 116, 112, 58, 47, 47]⟩)] = some (rqC R4) by kernel_rfl)
  have E0 := Lib.hid hE
  have L0 := Lib.hid (Below.refl w.heap.size w)
  clear hE
  go_enter Tryd.func7, Tryd.ntmps7
  go_wp2_with fail
  refine (P1.out w E0.out).mono ?_
  rintro e v1 ⟨rfl, hb⟩
  have L1a := Lib.hid (L0.out.trans (hb.mono L0.out.size))
  clear hb P1
  go_upto_region 2 with (refine go_st 23 (Blk.new _ _ _) infR rfl rfl (rqC_one _) rfl rfl rfl rfl ?_)
  obtain ⟨hk, hb⟩ := st_new v1 R1
  have L1 := Lib.hid (L1a.out.trans (hb.mono L1a.out.size))
  have E1 := Lib.hid (E0.out.on L1.out)
  have K1 := Lib.hid hk
  clear hk hb L1a L0
  generalize (v1.alloc (.cells #[.string ⟨#[]⟩, .string ⟨#[]⟩, .int .i64 0] 23)).setRow v1.heap.size (rqC R1) = u1 at *
  generalize v1.heap.size = g at *
  go_wp2_with fail
  refine (P2.out u1 E1.out).mono ?_
  rintro e v2 ⟨rfl, hb⟩
  have L2a := Lib.hid (L1.out.trans (hb.mono L1.out.size))
  have K2a := Lib.hid (K1.out.below hb K1.out.lt)
  clear hb P2
  go_upto_region 3 with (refine go_st 23 (Blk.new _ _ _) infR rfl rfl (rqC_one _) rfl rfl rfl rfl ?_)
  obtain ⟨hk, hb⟩ := st_new v2 Rq.zero
  have L2 := Lib.hid (L2a.out.trans (hb.mono L2a.out.size))
  have E2 := Lib.hid (E0.out.on L2.out)
  have K2 := Lib.hid (K2a.out.below hb K2a.out.lt)
  clear hk hb L2a L1 K2a K1
  generalize (v2.alloc (.cells #[.string ⟨#[]⟩, .string ⟨#[]⟩, .int .i64 0] 23)).setRow v2.heap.size (rqC Rq.zero) = u2 at *
  go_wp2_with fail
  refine (P3.out u2 E2.out).mono ?_
  rintro e v3 ⟨rfl, hb⟩
  have L3a := Lib.hid (L2.out.trans (hb.mono L2.out.size))
  have K3a := Lib.hid (K2.out.below hb K2.out.lt)
  clear hb P3
  go_upto_region 4 with (refine go_st 23 (Blk.new _ _ _) infR rfl rfl (rqC_one _) rfl rfl rfl rfl ?_)
  obtain ⟨hk, hb⟩ := st_new v3 Rq.zero
  have L3 := Lib.hid (L3a.out.trans (hb.mono L3a.out.size))
  have E3 := Lib.hid (E0.out.on L3.out)
  have K3 := Lib.hid (K3a.out.below hb K3a.out.lt)
  clear hk hb L3a L2 K3a K2
  generalize (v3.alloc (.cells #[.string ⟨#[]⟩, .string ⟨#[]⟩, .int .i64 0] 23)).setRow v3.heap.size (rqC Rq.zero) = u3 at *
  go_wp2_with fail
  refine (P4.out u3 E3.out).mono ?_
  rintro e v4 ⟨rfl, hb⟩
  have L4a := Lib.hid (L3.out.trans (hb.mono L3.out.size))
  have K4a := Lib.hid (K3.out.below hb K3.out.lt)
  clear hb P4
  go_upto_region 5 with (refine go_st 23 (Blk.new _ _ _) infR rfl rfl (rqC_one _) rfl rfl rfl rfl ?_)
  obtain ⟨hk, hb⟩ := st_new v4 Rq.zero
  have L4 := Lib.hid (L4a.out.trans (hb.mono L4a.out.size))
  have E4 := Lib.hid (E0.out.on L4.out)
  have K4 := Lib.hid (K4a.out.below hb K4a.out.lt)
  clear hk hb L4a L3 K4a K3
  generalize (v4.alloc (.cells #[.string ⟨#[]⟩, .string ⟨#[]⟩, .int .i64 0] 23)).setRow v4.heap.size (rqC Rq.zero) = u4 at *
  go_wp2_with fail
  refine (P5.out u4 E4.out).mono ?_
  rintro e v5 ⟨rfl, hb⟩
  have L5a := Lib.hid (L4.out.trans (hb.mono L4.out.size))
  have K5a := Lib.hid (K4.out.below hb K4.out.lt)
  clear hb P5
  go_upto_region 6 with (refine go_st 23 (Blk.new _ _ _) infR rfl rfl (rqC_one _) rfl rfl rfl rfl ?_)
  obtain ⟨hk, hb⟩ := st_new v5 Rq.zero
  have L5 := Lib.hid (L5a.out.trans (hb.mono L5a.out.size))
  have E5 := Lib.hid (E0.out.on L5.out)
  have K5 := Lib.hid (K5a.out.below hb K5a.out.lt)
  clear hk hb L5a L4 K5a K4
  generalize (v5.alloc (.cells #[.string ⟨#[]⟩, .string ⟨#[]⟩, .int .i64 0] 23)).setRow v5.heap.size (rqC Rq.zero) = u5 at *
  have k5 := K5.out
  have hz : (rqC R1).size = 3 := rfl
  go_wp2_with (refine go_ldg (x := .tmp 1) 23 k5 undR rfl infR hz (by rfl) rfl rfl ?_)
  refine (PP.out u5 E5.out).mono ?_
  rintro e u6 ⟨rfl, hb⟩
  have L6 := Lib.hid (L5.out.trans (hb.mono L5.out.size))
  have K6 := Lib.hid (K5.out.below hb K5.out.lt)
  clear hb k5 K5 L5 PP
  unfold optT
  go_wp2_with fail
  refine (A1.out u6).mono ?_
  rintro e u7 ⟨rfl, hb⟩
  have L7 := Lib.hid (L6.out.trans (hb.mono L6.out.size))
  have K7 := Lib.hid (K6.out.below hb K6.out.lt)
  clear hb K6 L6 A1
  unfold optT
  go_wp2_with fail
  refine (A2.out u7).mono ?_
  rintro e u8 ⟨rfl, hb⟩
  have L8 := Lib.hid (L7.out.trans (hb.mono L7.out.size))
  have K8 := Lib.hid (K7.out.below hb K7.out.lt)
  clear hb K7 L7 A2
  unfold optT
  have k8 := K8.out
  go_wp2_with (first | (refine go_ldg (x := .tmp 1) 23 k8 undR rfl infR hz (by rfl) rfl rfl ?_) | (refine go_bdR _ R1 B1.out (by rfl) rfl (by simp only [List.map_toArray, List.map_cons, List.map_nil]; rfl) ?_; refine Hid.out ?_))
  refine Lib.hid ?_
  refine go_eqlR (x := .tmp 50) (y := .tmp 51) (t := 23) R1 R1 true (by decide) rfl (by rfl) rfl rfl ?_
  go_wp2_with (refine go_ldg (x := .tmp 1) 23 k8 undR rfl infR hz (by rfl) rfl rfl ?_)
  refine (F1.out u8).mono ?_
  rintro e u9 ⟨rfl, hb⟩
  have L9 := Lib.hid (L8.out.trans (hb.mono L8.out.size))
  clear hb K8 k8 L8 F1
  go_wp2_with (refine go_bdR _ R2 B2.out (by rfl) rfl (by simp only [List.map_toArray, List.map_cons, List.map_nil]; rfl) ?_)
  refine (F2.out u9).mono ?_
  rintro e u10 ⟨rfl, hb⟩
  have L10 := Lib.hid (L9.out.trans (hb.mono L9.out.size))
  clear hb L9 F2
  go_wp2_with (refine go_bdR _ R3 B3.out (by rfl) rfl (by simp only [List.map_toArray, List.map_cons, List.map_nil]; rfl) ?_)
  refine (F3.out u10).mono ?_
  rintro e u11 ⟨rfl, hb⟩
  have L11 := Lib.hid (L10.out.trans (hb.mono L10.out.size))
  clear hb L10 F3
  go_wp2_with (refine go_bdR _ R4 B4.out (by rfl) rfl (by simp only [List.map_toArray, List.map_cons, List.map_nil]; rfl) ?_)
  refine (F4.out u11).mono ?_
  rintro e u12 ⟨rfl, hb⟩
  have L12 := Lib.hid (L11.out.trans (hb.mono L11.out.size))
  clear hb L11 F4
  go_wp2_with fail
  go_ret
  exact ⟨rfl, L12.out⟩
end Go.Proofs.YtnkcloebnlolaaaDoor.Rl
