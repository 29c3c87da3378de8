/-
  'Single ones' of Cidrs, over this seat's translation: the walk.
-/
import Derived.Test.YtialcnioeeikpaaGreatDoorAdSmall
import Derived.Test.YtialcnioeeikpaaGreatDoorAdBackL
import Derived.Test.YtialcnioeeikpaaGreatDoorMPar
import Derived.Test.YtialcnioeeikpaaGreatDoorRfCPrint
import Derived.Test.YtialcnioeeikpaaGreatDoorRfPrint
namespace Go.Proofs.YtialcnioeeikpaaGreatDoor.Ad
open Go.RowKit Go.Maps Go.Proofs.YtialcnioeeikpaaGreatDoor.Wd

/-- what lies where: the Cidr, the address, what was parsed, twice -/
def S4 (Gc Gx Gy : Nat) (c : C) (a : List UInt8) (X : C) (w : World) : Prop :=
  (w.rangeAt Gc 0 (cL c) ∧ w.rangeAt (Gc + 1) 0 (cellsOf a)) ∧ (w.rangeAt Gx 0 (cL X) ∧ w.rangeAt Gy 0 (cL X))
theorem locS {B Gc Gx Gy : Nat} {W w : World} {c X : C} {a : List UInt8} (E : Loc B W w [(Gy, 25, X.cells), (Gx, 25, X.cells), (Gc + 1, 23, cA a), (Gc, 25, c.cells)]) : S4 Gc Gx Gy c a X w :=
  ⟨⟨rangeC (E.at_ (Gc, 25, c.cells) (by simp)), rangeA (E.at_ (Gc + 1, 23, cA a) (by simp))⟩, ⟨rangeC (E.at_ (Gx, 25, X.cells) (by simp)), rangeC (E.at_ (Gy, 25, X.cells) (by simp))⟩⟩

set_option linter.unusedSimpArgs false in
set_option maxRecDepth 100000 in
set_option maxHeartbeats 8000000 in
theorem tells_walk (W : World) (c : C) (hc : OkC c) (a : List UInt8) (ha : a.length = 16) (bits : Int) (l : List UInt8) {B : Nat} (hE : Env B W) (hl : l.length ≤ 9223372036854775807) :
    Calls Tryz.prog 3 #[.agg c.cells, .agg (cA a), .int .i64 bits, .string (str l)] W fun e w' => e = .returned (.bool true) ∧ Below W.heap.size W w' := by
  have E : Loc B W W [] := ⟨hE, Below.refl _ _, fun x hx => by cases hx⟩
  clear hE
  have hls := str_size l
  go_enter Tryz.func3, Tryz.ntmps3
  go_wp2_with fail
  replace E : Loc B W ((W.alloc (.cells c.cells 25)).alloc (.cells (cA a) 23)) [(W.heap.size + 1, 23, cA a), (W.heap.size, 25, c.cells)] :=
    (((E.on ((Below.refl _ _).alloc (Nat.le_refl _) _)).add (Blk.new W 25 c.cells)).on ((Below.refl _ _).alloc (Nat.le_refl _) _)).add (blk_at _ _ _ _ _ (by rw [alloc_size]) rfl)
  generalize (W.alloc (.cells c.cells 25)).alloc (.cells (cA a) 23) = w1 at *
  generalize hGc : W.heap.size = Gc at *
  have HG := Lib.hid hGc
  clear hGc
  refine (small_any _ E.env).mono ?_
  rintro e w2 ⟨rfl, hb2⟩
  replace E := E.on hb2
  clear hb2 w1
  by_cases h300 : 300 < l.length
  · have hli : (300 : Int) < ((str l).size : Int) := by omega
    generalize str l = s at *
    have HF := Lib.hid E.low
    clear E
    go_wp2_with fail
    go_ret
    rw [HG.out] at *
    exact ⟨rfl, HF.out⟩
  · have hli : ((str l).size : Int) ≤ 300 := by omega
    have HPar := Lib.hid (fun (w : World) (hE : Env B w) => (show Calls Tryz.prog 5 #[.string (str l)] w (CParsePost l w) from cparse_any l w hE (by omega)))
    have HRPar := Lib.hid (fun (w : World) => (show Calls Tryz.prog 6 #[.string (str l)] w (CParsePost l w) from rcparse_any (str l) w (by omega)))
    have HCl := Lib.hid (fun c h => cparseS_len (l := l) (c := c) h)
    unfold CParsePost at HPar HRPar
    generalize str l = s at *
    have hXl : ((cparseS l).getD C0).a.length = 16 := getD_len _ (fun c h => HCl.out c h)
    generalize (cparseS l).getD C0 = X at *
    generalize (cparseS l).isSome = OK at *
    clear HCl h300 hls
    have hzX := C_size X hXl
    go_wp2_with fail
    refine (HPar.out _ E.env).mono ?_
    rintro e w3 ⟨rfl, hb2⟩
    replace E := E.on hb2
    clear hb2 w2 HPar
    go_upto_region 5 with (refine go_st 25 (Blk.new _ _ _) info17 rfl hzX (C_one _) rfl rfl rfl rfl ?_)
    replace E := E.new 25 #[Value.int .u8 0, Value.int .u8 0, Value.int .u8 0, Value.int .u8 0, Value.int .u8 0, Value.int .u8 0, Value.int .u8 0, Value.int .u8 0, Value.int .u8 0, Value.int .u8 0, Value.int .u8 0, Value.int .u8 0, Value.int .u8 0, Value.int .u8 0, Value.int .u8 0, Value.int .u8 0, Value.int .i64 0] X.cells
    generalize hG0 : w3.heap.size = Gx at *
    generalize (w3.alloc (.cells #[Value.int .u8 0, Value.int .u8 0, Value.int .u8 0, Value.int .u8 0, Value.int .u8 0, Value.int .u8 0, Value.int .u8 0, Value.int .u8 0, Value.int .u8 0, Value.int .u8 0, Value.int .u8 0, Value.int .u8 0, Value.int .u8 0, Value.int .u8 0, Value.int .u8 0, Value.int .u8 0, Value.int .i64 0] 25)).setRow Gx X.cells = w4 at *
    clear hG0 w3
    go_wp2_with fail
    refine (HRPar.out _).mono ?_
    rintro e w5 ⟨rfl, hb2⟩
    replace E := E.on hb2
    clear hb2 w4 HRPar
    go_upto_region 6 with (refine go_st 25 (Blk.new _ _ _) info17 rfl hzX (C_one _) rfl rfl rfl rfl ?_)
    replace E := E.new 25 #[Value.int .u8 0, Value.int .u8 0, Value.int .u8 0, Value.int .u8 0, Value.int .u8 0, Value.int .u8 0, Value.int .u8 0, Value.int .u8 0, Value.int .u8 0, Value.int .u8 0, Value.int .u8 0, Value.int .u8 0, Value.int .u8 0, Value.int .u8 0, Value.int .u8 0, Value.int .u8 0, Value.int .i64 0] X.cells
    generalize hG0 : w5.heap.size = Gy at *
    generalize (w5.alloc (.cells #[Value.int .u8 0, Value.int .u8 0, Value.int .u8 0, Value.int .u8 0, Value.int .u8 0, Value.int .u8 0, Value.int .u8 0, Value.int .u8 0, Value.int .u8 0, Value.int .u8 0, Value.int .u8 0, Value.int .u8 0, Value.int .u8 0, Value.int .u8 0, Value.int .u8 0, Value.int .u8 0, Value.int .i64 0] 25)).setRow Gy X.cells = w6 at *
    clear hG0 w5
    have hi16 : (Tryz.prog.info? 23).map (·.size) = some (cellsOf a).length := by rw [cellsOf_length, ha]; exact info16
    have hi17 : (Tryz.prog.info? 25).map (·.size) = some (cL c).length := by rw [cL_len c hc.len]; exact info17
    have hix : (Tryz.prog.info? 25).map (·.size) = some (cL X).length := by rw [cL_len X hXl]; exact info17
    have hz := ofS_len a bits
    rw [ha] at hz
    have heqo := bk_eql (ofS a bits) hz
    have heqx := bk_eql X hXl
    have HR1 := Lib.hid (fun w => right_any c hc.len w)
    have HR2 := Lib.hid (fun w => rright_any c hc.len w)
    have HH1 := Lib.hid (fun w => has_any c hc.len a ha w)
    have HH2 := Lib.hid (fun w => rhas_any c hc.len a ha w)
    have HP1 := Lib.hid (fun (w : World) (hE : Env B w) => print_c c hc w hE)
    have HP2 := Lib.hid (fun w => rcprint_of c hc.len hc.lo hc.hi (ctext c.a) (ctext_len c.a hc.len) w (fun w1 => rprint_any c.a hc.len w1))
    generalize rightS c = r at *
    generalize hasS c a = hs at *
    generalize str (cprintS (ctext c.a) c) = t at *
    have E0 := Lib.hid E.drew
    have S0 := Lib.hid (locS E0.out)
    clear E
    refine wp_region_held_drew (S := S4 Gc Gx Gy c a X) (by kernel_rfl) S0.out (fun h0 => ?_)
    refine hd_take 0 (some 29) (.bool true) rfl rfl (by kernel_rfl) (by kernel_rfl) (by kernel_rfl) (fun _ _ _ h => h) (Or.inl ⟨by rfl, fun w hw => by go_simp⟩) h0 ?_
    simp only [Act.put, List.setIfInBounds_toArray, List.set_cons_zero, List.set_cons_succ]
    refine hd_take 1 (some 30) (.bool true) rfl rfl (by kernel_rfl) (by kernel_rfl) (by kernel_rfl) (fun _ _ _ h => h) (Or.inl ⟨by rfl, fun w hw => by go_simp⟩) h0 ?_
    simp only [Act.put, List.setIfInBounds_toArray, List.set_cons_zero, List.set_cons_succ]
    refine hd_take 2 (some 31) (.agg (cA a)) rfl rfl (by kernel_rfl) (by kernel_rfl) (by kernel_rfl) (fun _ _ _ h => h) (yieldsIf_load_mid (by rfl) _ _ rfl (Gc + 1) 0 rfl (cellsOf a) _ (fun _ h => h.1.2) und16 rfl hi16) h0 ?_
    simp only [Act.put, List.setIfInBounds_toArray, List.set_cons_zero, List.set_cons_succ]
    refine hd_take 3 (some 32) (.int .i64 bits) rfl rfl (by kernel_rfl) (by kernel_rfl) (by kernel_rfl) (fun _ _ _ h => h) (Or.inl ⟨by rfl, fun w hw => by go_simp⟩) h0 ?_
    simp only [Act.put, List.setIfInBounds_toArray, List.set_cons_zero, List.set_cons_succ]
    refine hd_take 5 (some 34) (.agg (cA a)) rfl rfl (by kernel_rfl) (by kernel_rfl) (by kernel_rfl) (fun _ _ _ h => h) (yieldsIf_load_mid (by rfl) _ _ rfl (Gc + 1) 0 rfl (cellsOf a) _ (fun _ h => h.1.2) und16 rfl hi16) h0 ?_
    simp only [Act.put, List.setIfInBounds_toArray, List.set_cons_zero, List.set_cons_succ]
    refine hd_take 6 (some 35) (.int .i64 bits) rfl rfl (by kernel_rfl) (by kernel_rfl) (by kernel_rfl) (fun _ _ _ h => h) (Or.inl ⟨by rfl, fun w hw => by go_simp⟩) h0 ?_
    simp only [Act.put, List.setIfInBounds_toArray, List.set_cons_zero, List.set_cons_succ]
    refine wpAnyH_ready (rs := [4]) (by kernel_rfl) (by simp) (AllReadyH.cons rfl (fun K hK => ?_) AllReadyH.nil)
    go_simp
    go_wp2_with (go_at_call 7; refine (of_any a ha bits _).mono ?_; rintro e v1 ⟨rfl, hb⟩; have E1 := Lib.hid (E0.out.on hb); have S1 := Lib.hid (locS E1.out); clear hb)
    refine hK.out _ _ S1.out (fun h1 => ?_)
    clear hK K E0 S0
    refine wpAnyH_ready (rs := [7]) (by kernel_rfl) (by simp) (AllReadyH.cons rfl (fun K hK => ?_) AllReadyH.nil)
    go_simp
    go_wp2_with (go_at_call 8; refine (rofc_any a ha bits _).mono ?_; rintro e v2 ⟨rfl, hb⟩; have E2 := Lib.hid (E1.out.on hb); have S2 := Lib.hid (locS E2.out); clear hb)
    refine hK.out _ _ S2.out (fun h2 => ?_)
    clear hK K E1 S1
    refine hd_take 8 (some 37) (.bool true) rfl rfl (by kernel_rfl) (by kernel_rfl) (by kernel_rfl) (fun _ _ _ h => h) (Or.inl ⟨by rfl, fun w hw => by go_simp⟩) h2 ?_
    simp only [Act.put, List.setIfInBounds_toArray, List.set_cons_zero, List.set_cons_succ]
    refine hd_take 9 (some 38) (.bool true) rfl rfl (by kernel_rfl) (by kernel_rfl) (by kernel_rfl) (fun _ _ _ h => h) (Or.inl ⟨by rfl, fun w hw => by go_simp⟩) h2 ?_
    simp only [Act.put, List.setIfInBounds_toArray, List.set_cons_zero, List.set_cons_succ]
    refine hd_take 10 (some 39) (.bool true) rfl rfl (by kernel_rfl) (by kernel_rfl) (by kernel_rfl) (fun _ _ _ h => h) (Or.inl ⟨by rfl, fun w hw => by go_simp⟩) h2 ?_
    simp only [Act.put, List.setIfInBounds_toArray, List.set_cons_zero, List.set_cons_succ]
    refine hd_take 11 (some 40) (.agg c.cells) rfl rfl (by kernel_rfl) (by kernel_rfl) (by kernel_rfl) (fun _ _ _ h => h) (yieldsIf_load_mid (by rfl) _ _ rfl Gc 0 rfl (cL c) _ (fun _ h => h.1.1) und17 rfl hi17) h2 ?_
    simp only [Act.put, List.setIfInBounds_toArray, List.set_cons_zero, List.set_cons_succ]
    refine hd_take 13 (some 42) (.agg c.cells) rfl rfl (by kernel_rfl) (by kernel_rfl) (by kernel_rfl) (fun _ _ _ h => h) (yieldsIf_load_mid (by rfl) _ _ rfl Gc 0 rfl (cL c) _ (fun _ h => h.1.1) und17 rfl hi17) h2 ?_
    simp only [Act.put, List.setIfInBounds_toArray, List.set_cons_zero, List.set_cons_succ]
    refine wpAnyH_ready (rs := [12]) (by kernel_rfl) (by simp) (AllReadyH.cons rfl (fun K hK => ?_) AllReadyH.nil)
    go_simp
    go_wp2_with (go_at_call 9; refine (HR1.out _).mono ?_; rintro e v3 ⟨rfl, hb⟩; have E3 := Lib.hid (E2.out.on hb); have S3 := Lib.hid (locS E3.out); clear hb)
    refine hK.out _ _ S3.out (fun h3 => ?_)
    clear hK K E2 S2
    refine wpAnyH_ready (rs := [14]) (by kernel_rfl) (by simp) (AllReadyH.cons rfl (fun K hK => ?_) AllReadyH.nil)
    go_simp
    go_wp2_with (go_at_call 10; refine (HR2.out _).mono ?_; rintro e v4 ⟨rfl, hb⟩; have E4 := Lib.hid (E3.out.on hb); have S4 := Lib.hid (locS E4.out); clear hb)
    refine hK.out _ _ S4.out (fun h4 => ?_)
    clear hK K E3 S3
    refine hd_take 15 (some 44) (.bool true) rfl rfl (by kernel_rfl) (by kernel_rfl) (by kernel_rfl) (fun _ _ _ h => h) (Or.inl ⟨by rfl, fun w hw => by go_simp⟩) h4 ?_
    simp only [Act.put, List.setIfInBounds_toArray, List.set_cons_zero, List.set_cons_succ]
    refine hd_take 16 (some 45) (.bool true) rfl rfl (by kernel_rfl) (by kernel_rfl) (by kernel_rfl) (fun _ _ _ h => h) (Or.inl ⟨by rfl, fun w hw => by go_simp⟩) h4 ?_
    simp only [Act.put, List.setIfInBounds_toArray, List.set_cons_zero, List.set_cons_succ]
    refine hd_take 17 (some 46) (.bool true) rfl rfl (by kernel_rfl) (by kernel_rfl) (by kernel_rfl) (fun _ _ _ h => h) (Or.inl ⟨by rfl, fun w hw => by go_simp⟩) h4 ?_
    simp only [Act.put, List.setIfInBounds_toArray, List.set_cons_zero, List.set_cons_succ]
    refine hd_take 18 (some 47) (.agg c.cells) rfl rfl (by kernel_rfl) (by kernel_rfl) (by kernel_rfl) (fun _ _ _ h => h) (yieldsIf_load_mid (by rfl) _ _ rfl Gc 0 rfl (cL c) _ (fun _ h => h.1.1) und17 rfl hi17) h4 ?_
    simp only [Act.put, List.setIfInBounds_toArray, List.set_cons_zero, List.set_cons_succ]
    refine hd_take 19 (some 48) (.agg (cA a)) rfl rfl (by kernel_rfl) (by kernel_rfl) (by kernel_rfl) (fun _ _ _ h => h) (yieldsIf_load_mid (by rfl) _ _ rfl (Gc + 1) 0 rfl (cellsOf a) _ (fun _ h => h.1.2) und16 rfl hi16) h4 ?_
    simp only [Act.put, List.setIfInBounds_toArray, List.set_cons_zero, List.set_cons_succ]
    refine hd_take 21 (some 50) (.agg c.cells) rfl rfl (by kernel_rfl) (by kernel_rfl) (by kernel_rfl) (fun _ _ _ h => h) (yieldsIf_load_mid (by rfl) _ _ rfl Gc 0 rfl (cL c) _ (fun _ h => h.1.1) und17 rfl hi17) h4 ?_
    simp only [Act.put, List.setIfInBounds_toArray, List.set_cons_zero, List.set_cons_succ]
    refine hd_take 22 (some 51) (.agg (cA a)) rfl rfl (by kernel_rfl) (by kernel_rfl) (by kernel_rfl) (fun _ _ _ h => h) (yieldsIf_load_mid (by rfl) _ _ rfl (Gc + 1) 0 rfl (cellsOf a) _ (fun _ h => h.1.2) und16 rfl hi16) h4 ?_
    simp only [Act.put, List.setIfInBounds_toArray, List.set_cons_zero, List.set_cons_succ]
    refine wpAnyH_ready (rs := [20]) (by kernel_rfl) (by simp) (AllReadyH.cons rfl (fun K hK => ?_) AllReadyH.nil)
    go_simp
    go_wp2_with (go_at_call 11; refine (HH1.out _).mono ?_; rintro e v5 ⟨rfl, hb⟩; have E5 := Lib.hid (E4.out.on hb); have S5 := Lib.hid (locS E5.out); clear hb)
    refine hK.out _ _ S5.out (fun h5 => ?_)
    clear hK K E4 S4
    refine wpAnyH_ready (rs := [23]) (by kernel_rfl) (by simp) (AllReadyH.cons rfl (fun K hK => ?_) AllReadyH.nil)
    go_simp
    go_wp2_with (go_at_call 12; refine (HH2.out _).mono ?_; rintro e v6 ⟨rfl, hb⟩; have E6 := Lib.hid (E5.out.on hb); have S6 := Lib.hid (locS E6.out); clear hb)
    refine hK.out _ _ S6.out (fun h6 => ?_)
    clear hK K E5 S5
    refine hd_take 24 (some 53) (.bool true) rfl rfl (by kernel_rfl) (by kernel_rfl) (by kernel_rfl) (fun _ _ _ h => h) (Or.inl ⟨by rfl, fun w hw => by go_simp⟩) h6 ?_
    simp only [Act.put, List.setIfInBounds_toArray, List.set_cons_zero, List.set_cons_succ]
    refine hd_take 25 (some 54) (.bool true) rfl rfl (by kernel_rfl) (by kernel_rfl) (by kernel_rfl) (fun _ _ _ h => h) (Or.inl ⟨by rfl, fun w hw => by go_simp⟩) h6 ?_
    simp only [Act.put, List.setIfInBounds_toArray, List.set_cons_zero, List.set_cons_succ]
    refine hd_take 26 (some 55) (.bool true) rfl rfl (by kernel_rfl) (by kernel_rfl) (by kernel_rfl) (fun _ _ _ h => h) (Or.inl ⟨by rfl, fun w hw => by go_simp⟩) h6 ?_
    simp only [Act.put, List.setIfInBounds_toArray, List.set_cons_zero, List.set_cons_succ]
    refine hd_take 27 (some 56) (.agg c.cells) rfl rfl (by kernel_rfl) (by kernel_rfl) (by kernel_rfl) (fun _ _ _ h => h) (yieldsIf_load_mid (by rfl) _ _ rfl Gc 0 rfl (cL c) _ (fun _ h => h.1.1) und17 rfl hi17) h6 ?_
    simp only [Act.put, List.setIfInBounds_toArray, List.set_cons_zero, List.set_cons_succ]
    refine hd_take 29 (some 58) (.agg c.cells) rfl rfl (by kernel_rfl) (by kernel_rfl) (by kernel_rfl) (fun _ _ _ h => h) (yieldsIf_load_mid (by rfl) _ _ rfl Gc 0 rfl (cL c) _ (fun _ h => h.1.1) und17 rfl hi17) h6 ?_
    simp only [Act.put, List.setIfInBounds_toArray, List.set_cons_zero, List.set_cons_succ]
    refine wpAnyH_ready (rs := [28]) (by kernel_rfl) (by simp) (AllReadyH.cons rfl (fun K hK => ?_) AllReadyH.nil)
    go_simp
    go_wp2_with (go_at_call 13; refine (HP1.out _ E6.out.env).mono ?_; rintro e v7 ⟨rfl, hb⟩; have E7 := Lib.hid (E6.out.on hb); have S7 := Lib.hid (locS E7.out); clear hb)
    refine hK.out _ _ S7.out (fun h7 => ?_)
    clear hK K E6 S6
    refine wpAnyH_ready (rs := [30]) (by kernel_rfl) (by simp) (AllReadyH.cons rfl (fun K hK => ?_) AllReadyH.nil)
    go_simp
    go_wp2_with (go_at_call 14; refine (HP2.out _).mono ?_; rintro e v8 ⟨rfl, hb⟩; have E8 := Lib.hid (E7.out.on hb); have S8 := Lib.hid (locS E8.out); clear hb)
    refine hK.out _ _ S8.out (fun h8 => ?_)
    clear hK K E7 S7
    refine hd_take 31 (some 60) (.bool true) rfl rfl (by kernel_rfl) (by kernel_rfl) (by kernel_rfl) (fun _ _ _ h => h) (Or.inl ⟨by rfl, fun w hw => by go_simp⟩) h8 ?_
    simp only [Act.put, List.setIfInBounds_toArray, List.set_cons_zero, List.set_cons_succ]
    refine hd_take 32 (some 61) (.bool true) rfl rfl (by kernel_rfl) (by kernel_rfl) (by kernel_rfl) (fun _ _ _ h => h) (Or.inl ⟨by rfl, fun w hw => by go_simp⟩) h8 ?_
    simp only [Act.put, List.setIfInBounds_toArray, List.set_cons_zero, List.set_cons_succ]
    refine hd_take 33 (some 62) (.bool true) rfl rfl (by kernel_rfl) (by kernel_rfl) (by kernel_rfl) (fun _ _ _ h => h) (Or.inl ⟨by rfl, fun w hw => by go_simp⟩) h8 ?_
    simp only [Act.put, List.setIfInBounds_toArray, List.set_cons_zero, List.set_cons_succ]
    refine hd_take 34 (some 63) (.agg X.cells) rfl rfl (by kernel_rfl) (by kernel_rfl) (by kernel_rfl) (fun _ _ _ h => h) (yieldsIf_load_mid (by rfl) _ _ rfl Gx 0 rfl (cL X) _ (fun _ h => h.2.1) und17 rfl hix) h8 ?_
    simp only [Act.put, List.setIfInBounds_toArray, List.set_cons_zero, List.set_cons_succ]
    refine hd_take 35 (some 64) (.agg X.cells) rfl rfl (by kernel_rfl) (by kernel_rfl) (by kernel_rfl) (fun _ _ _ h => h) (yieldsIf_load_mid (by rfl) _ _ rfl Gy 0 rfl (cL X) _ (fun _ h => h.2.2) und17 rfl hix) h8 ?_
    simp only [Act.put, List.setIfInBounds_toArray, List.set_cons_zero, List.set_cons_succ]
    refine hd_take 36 (some 65) (.bool true) rfl rfl (by kernel_rfl) (by kernel_rfl) (by kernel_rfl) (fun _ _ _ h => h) (Or.inl ⟨by rfl, fun w hw => by go_simp⟩) h8 ?_
    simp only [Act.put, List.setIfInBounds_toArray, List.set_cons_zero, List.set_cons_succ]
    refine hd_take 37 (some 66) (.bool true) rfl rfl (by kernel_rfl) (by kernel_rfl) (by kernel_rfl) (fun _ _ _ h => h) (Or.inl ⟨by rfl, fun w hw => by go_simp⟩) h8 ?_
    simp only [Act.put, List.setIfInBounds_toArray, List.set_cons_zero, List.set_cons_succ]
    refine hd_take 38 (some 67) (.bool true) rfl rfl (by kernel_rfl) (by kernel_rfl) (by kernel_rfl) (fun _ _ _ h => h) (Or.inl ⟨by rfl, fun w hw => by go_simp⟩) h8 ?_
    simp only [Act.put, List.setIfInBounds_toArray, List.set_cons_zero, List.set_cons_succ]
    refine hd_take 39 (some 68) (.bool OK) rfl rfl (by kernel_rfl) (by kernel_rfl) (by kernel_rfl) (fun _ _ _ h => h) (Or.inl ⟨by rfl, fun w hw => by go_simp⟩) h8 ?_
    simp only [Act.put, List.setIfInBounds_toArray, List.set_cons_zero, List.set_cons_succ]
    refine hd_take 40 (some 69) (.bool OK) rfl rfl (by kernel_rfl) (by kernel_rfl) (by kernel_rfl) (fun _ _ _ h => h) (Or.inl ⟨by rfl, fun w hw => by go_simp⟩) h8 ?_
    simp only [Act.put, List.setIfInBounds_toArray, List.set_cons_zero, List.set_cons_succ]
    refine hd_take 41 (some 70) (.bool true) rfl rfl (by kernel_rfl) (by kernel_rfl) (by kernel_rfl) (fun _ _ _ h => h) (Or.inl ⟨by rfl, fun w hw => by go_simp⟩) h8 ?_
    simp only [Act.put, List.setIfInBounds_toArray, List.set_cons_zero, List.set_cons_succ]
    refine hd_take 42 (some 71) (.bool true) rfl rfl (by kernel_rfl) (by kernel_rfl) (by kernel_rfl) (fun _ _ _ h => h) (Or.inl ⟨by rfl, fun w hw => by go_simp⟩) h8 ?_
    simp only [Act.put, List.setIfInBounds_toArray, List.set_cons_zero, List.set_cons_succ]
    refine hd_take 43 (some 8) (.bool true) rfl rfl (by kernel_rfl) (by kernel_rfl) (by kernel_rfl) (fun _ _ _ h => h) (Or.inl ⟨by rfl, fun w hw => by go_simp⟩) h8 ?_
    simp only [Act.put, List.setIfInBounds_toArray, List.set_cons_zero, List.set_cons_succ]
    refine wpAnyH_done (by kernel_rfl) ?_ _
    go_wp2_with fail
    go_ret
    exact ⟨rfl, E8.out.low⟩
end Go.Proofs.YtialcnioeeikpaaGreatDoor.Ad
