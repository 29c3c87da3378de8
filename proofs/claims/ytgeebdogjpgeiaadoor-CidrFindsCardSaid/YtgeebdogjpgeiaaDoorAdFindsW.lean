/-
  'What is found has the address, and no other one in the set that has it has more bits', over this seat's translation: the walk.
-/
import Derived.Test.YtgeebdogjpgeiaaDoorAdSmall
import Derived.Test.YtgeebdogjpgeiaaDoorAdFindsP
import Derived.Test.YtgeebdogjpgeiaaDoorLiftCidrs
namespace Go.Proofs.YtgeebdogjpgeiaaDoor.Ad
open Go.RowKit Go.Maps Go.Proofs.YtgeebdogjpgeiaaDoor.Wd Go.Proofs.YtgeebdogjpgeiaaDoor.Lift

theorem go_bdg {ops : Array Oper} {rest : List Oper} {o : Oper} {a : Act} {w : World} {Q : Exit → Act → World → Prop} (ty : TypeId) (C : Array Value) (hB : Tryd.prog.built ty [] = some C) (hw : Region.wanted o (yielded ops a.tmps) = true) (ho : o.op = .build ty #[])
    (h : wpList Tryd.prog ops Q rest (a.put o.dst (.agg C)) w) : wpList Tryd.prog ops Q (o :: rest) a w := by
  show if Region.wanted o (yielded ops a.tmps) = true then _ else _
  rw [if_pos hw]
  have e : Tryd.prog.built ty ((#[] : Array (Nat × Operand)).map fun (i, x) => (i, a.eval x)).toList = some C := by simpa using hB
  refine .inl (wp_build ty _ ho (by rw [e]; rfl) ?_)
  rw [e]
  exact h
structure S2 (B : Nat) (w0 : World) (bs : List (Nat × Nat × Array Value)) (g off : Nat) (c : C) (w : World) : Prop where
  loc : Loc B w0 w bs
  row : w.rangeAt g off (cL c)
  lt : g < w.heap.size
theorem S2.on {B : Nat} {w0 w w' : World} {bs : List (Nat × Nat × Array Value)} {g off : Nat} {c : C} (h : S2 B w0 bs g off c w) (hb : Below w.heap.size w w') : S2 B w0 bs g off c w' :=
  ⟨h.loc.on hb, fun j v hj => (hb.cell (p := ⟨g, off + j, none⟩) h.lt).trans (h.row j v hj), Nat.lt_of_lt_of_le h.lt hb.size⟩
theorem S2.drew {B : Nat} {w0 w : World} {bs : List (Nat × Nat × Array Value)} {g off : Nat} {c : C} (h : S2 B w0 bs g off c w) : S2 B w0 bs g off c w.drew := h.on (Below.refl _ _).drew
theorem row_n {w : World} {g off : Nat} {c : C} (h : w.rangeAt g off (cL c)) (hc : c.a.length = 16) : w.cell? ⟨g, off + 16, none⟩ = some (.int .i64 c.n) :=
  h 16 (.int .i64 c.n) (by rw [List.getElem?_append_right (by rw [cellsOf_length, hc]; omega), cellsOf_length, hc]; rfl)

set_option linter.unusedSimpArgs false in
set_option maxRecDepth 100000 in
set_option maxHeartbeats 4000000 in
theorem finds_walk (W : World) (A : Option Addr) (n cap : Nat) (l : List C) (hn : l.length = n) (hcap : n ≤ cap) (hmx : cap ≤ maxLen) (hok : ∀ c ∈ l, OkC c) (hA : SrcC W A l) (a : List UInt8) (ha : a.length = 16) (hE : Env W.heap.size W) :
    Calls Tryd.prog 4 #[.slice A n cap, .agg (cA a)] W fun e w' => e = .returned (.bool true) ∧ Below W.heap.size W w' := by
  have E : Loc W.heap.size W W [] := ⟨hE, Below.refl _ _, fun x hx => by cases hx⟩
  have HA := Lib.hid hA
  have HK := Lib.hid hok
  clear hE hA hok
  have hmx2 : n ≤ 9223372036854775807 := by unfold maxLen at hmx; omega
  go_enter Tryd.func4, Tryd.ntmps4
  go_wp2_with fail
  replace E := (E.on ((Below.refl _ _).alloc (Nat.le_refl _) (.cells (cA a) 23))).add (Blk.new W 23 (cA a))
  generalize W.alloc (.cells (cA a) 23) = w1 at *
  generalize hGa : W.heap.size = Ga at *
  have HG := Lib.hid hGa
  clear hGa
  refine (small_any _ E.env).mono ?_
  rintro e w2 ⟨rfl, hb2⟩
  replace E := E.on hb2
  clear hb2 w1
  go_wp2_with fail
  refine (new_any _).mono ?_
  rintro e w3 ⟨rfl, hs, hb⟩
  replace E := LocS.start E hs hb (by rw [HG.out]; exact Nat.le_refl _)
  clear hs hb
  generalize w2.heap.size + 1 = s at *
  generalize w2.heap.size = b at *
  clear w2
  by_cases h60 : 60 < n
  · have hd : decide ((60 : Int) < (n : Int)) = true := decide_eq_true (by omega)
    have HF := Lib.hid E.loc.low
    clear E
    go_wp2_with fail
    go_ret
    rw [HG.out] at *
    exact ⟨rfl, HF.out⟩
  · have hd : decide ((60 : Int) < (n : Int)) = false := decide_eq_false (by omega)
    go_wp2_with fail
    go_loopw [7] (fun i w' => ∃ k : Nat, k ≤ n ∧ i = .int .i64 (k : Int) ∧ LocS Ga W w' [(Ga, 23, cA a)] s b k (setS (l.take k))) (fun i _ => n - (intOf i).toNat)
    case atStart => exact ⟨0, Nat.zero_le _, rfl, E⟩
    case round =>
      obtain ⟨k, hk, rfl, E⟩ := hrel
      by_cases hkn : k < n
      · have hd2 : decide ((k : Int) < (n : Int)) = true := decide_eq_true (by omega)
        obtain ⟨c, hc⟩ : ∃ c, l[k]? = some c := ⟨_, List.getElem?_eq_getElem (by omega)⟩
        have hcm : c ∈ l := List.mem_of_getElem? hc
        have hok := HK.out c hcm
        obtain ⟨g, o, hAe, hgl, hrow⟩ := (HA.out.below E.loc.low (Nat.le_refl _)) (by intro h; rw [h] at hcm; cases hcm)
        have hr := hrow k c hc
        have HX := Lib.hid (setS_next l k c hc)
        clear hrow
        subst hAe
        have hi17 : (Tryd.prog.info? 25).map (·.size) = some (cL c).length := by rw [cL_len c hok.len]; exact info17
        go_wp2_with (refine wpList_load_mid rfl 25 _ rfl g (o + k * 17) (by first | rfl | (go_simp; done)) (cL c) _ hr und17 rfl hi17 ?_)
        obtain ⟨D, hD⟩ := E.set
        show Calls _ _ #[_, .agg c.cells] _ _
        refine (sadd_any c hok _ hD (by unfold maxLen; omega)).mono ?_
        rintro e w4 ⟨rfl, hs, hg⟩
        rw [← HX.out] at hs
        replace E := E.put hs hg
        clear hs hg hD D
        go_wp2_with fail
        go_roundw
        case rel => exact ⟨k + 1, by omega, by go_num, E⟩
        case measure => simp [intOf]; omega
      · have hd2 : decide ((k : Int) < (n : Int)) = false := decide_eq_false (by omega)
        obtain rfl : n = k := by omega
        have ba := E.get Ga 23 (cA a) (by simp)
        have hza : (cA a).size = 16 := by rw [cA_size, ha]
        go_wp2_with (refine go_ld 23 ba und16 rfl info16 hza rfl rfl rfl ?_)
        clear ba
        rw [List.take_of_length_le (by omega)] at E
        obtain ⟨D, hD⟩ := E.set
        have hFi := finds_ok l a ha
        refine (sfind_any a ha _ hD).mono ?_
        rintro e w4 ⟨rfl, hb⟩
        have E2 := E.loc.on hb
        clear hb hD D E
        generalize (findS (setS l) a 129).isSome = is at *
        generalize (findS (setS l) a 129).getD C0 = f at *
        have hfl := hFi.len
        have HFi := Lib.hid hFi
        clear hFi
        have hzf := C_size f hfl
        go_upto_region 10 with (refine go_st 25 (Blk.new _ _ _) info17 rfl hzf (C_one _) rfl rfl rfl rfl ?_)
        replace E2 := E2.new 25 #[Value.int .u8 0, Value.int .u8 0, Value.int .u8 0, Value.int .u8 0, Value.int .u8 0, Value.int .u8 0, Value.int .u8 0, Value.int .u8 0, Value.int .u8 0, Value.int .u8 0, Value.int .u8 0, Value.int .u8 0, Value.int .u8 0, Value.int .u8 0, Value.int .u8 0, Value.int .u8 0, Value.int .i64 0] f.cells
        generalize hGf : w4.heap.size = Gf at *
        generalize (w4.alloc (.cells #[Value.int .u8 0, Value.int .u8 0, Value.int .u8 0, Value.int .u8 0, Value.int .u8 0, Value.int .u8 0, Value.int .u8 0, Value.int .u8 0, Value.int .u8 0, Value.int .u8 0, Value.int .u8 0, Value.int .u8 0, Value.int .u8 0, Value.int .u8 0, Value.int .u8 0, Value.int .u8 0, Value.int .i64 0] 25)).setRow Gf f.cells = w5 at *
        clear hGf w4
        go_wp2_with fail
        go_loopw [10, 11] (fun sn i w' => ∃ k : Nat, k ≤ n ∧ sn = .bool (decide (f ∈ l.take k)) ∧ i = .int .i64 (k : Int) ∧ Loc Ga W w' [(Gf, 25, f.cells), (Ga, 23, cA a)]) (fun _ i _ => n - (intOf i).toNat)
        case atStart => exact ⟨0, Nat.zero_le _, rfl, rfl, E2⟩
        case round =>
          obtain ⟨k, hk, rfl, rfl, E⟩ := hrel
          by_cases hkn : k < n
          · have hd2 : decide ((k : Int) < (n : Int)) = true := decide_eq_true (by omega)
            obtain ⟨c, hc⟩ : ∃ c, l[k]? = some c := ⟨_, List.getElem?_eq_getElem (by omega)⟩
            have hcm : c ∈ l := List.mem_of_getElem? hc
            have hcl := (HK.out c hcm).len
            obtain ⟨g, o, hAe, hgl, hrow⟩ := (HA.out.below E.low (Nat.le_refl _)) (by intro h; rw [h] at hcm; cases hcm)
            have HE := Lib.hid (show S2 Ga W [(Gf, 25, f.cells), (Ga, 23, cA a)] g (o + k * 17) c _ from ⟨E, hrow k c hc, hgl⟩).drew
            have HQ := Lib.hid (seen_next l k c f hc)
            have HM := Lib.hid (HFi.out.most c hcm)
            clear hrow hcm E hgl hc
            subst hAe
            have HI := Lib.hid (show (Tryd.prog.info? 25).map (·.size) = some (cL c).length from by rw [cL_len c hcl]; exact info17)
            have HIf := Lib.hid (show (Tryd.prog.info? 25).map (·.size) = some (cL f).length from by rw [cL_len f hfl]; exact info17)
            have HIa := Lib.hid (show (Tryd.prog.info? 23).map (·.size) = some (cellsOf a).length from by rw [cellsOf_length, ha]; exact info16)
            have heqc := eql17 c f hcl hfl
            cases hR : hasS c a with
            | false =>
              have hr := Lib.hid hR
              clear hR HM
              go_wp2_with fail
              refine wp_region_held_drew (S := S2 Ga W [(Gf, 25, f.cells), (Ga, 23, cA a)] g (o + k * 17) c) (by kernel_rfl) HE.out (fun h0 => ?_)
              refine hd_take 0 (some 50) (.slice (some ⟨g, o, none⟩) n cap) rfl rfl (by kernel_rfl) (by kernel_rfl) (by kernel_rfl) (fun _ _ _ h => h) (Or.inl ⟨by rfl, fun w hw => by go_simp⟩) h0 ?_
              simp only [Act.put, List.setIfInBounds_toArray, List.set_cons_zero, List.set_cons_succ]
              refine hd_take 1 (some 51) (.int .i64 (k : Int)) rfl rfl (by kernel_rfl) (by kernel_rfl) (by kernel_rfl) (fun _ _ _ h => h) (Or.inl ⟨by rfl, fun w hw => by go_simp⟩) h0 ?_
              simp only [Act.put, List.setIfInBounds_toArray, List.set_cons_zero, List.set_cons_succ]
              refine hd_take 2 (some 52) (.pointer (some ⟨g, o + k * 17, none⟩)) rfl rfl (by kernel_rfl) (by kernel_rfl) (by kernel_rfl) (fun _ _ _ h => h) (Or.inl ⟨by rfl, fun w hw => by go_simp⟩) h0 ?_
              simp only [Act.put, List.setIfInBounds_toArray, List.set_cons_zero, List.set_cons_succ]
              refine hd_take 3 (some 53) (.agg c.cells) rfl rfl (by kernel_rfl) (by kernel_rfl) (by kernel_rfl) (fun _ _ _ h => h) (yieldsIf_load_mid (by rfl) _ _ rfl g (o + k * 17) rfl (cL c) _ (fun _ h => h.row) und17 rfl HI.out) h0 ?_
              simp only [Act.put, List.setIfInBounds_toArray, List.set_cons_zero, List.set_cons_succ]
              refine hd_take 4 (some 54) (.agg (cA a)) rfl rfl (by kernel_rfl) (by kernel_rfl) (by kernel_rfl) (fun _ _ _ h => h) (yieldsIf_load_mid (by rfl) _ _ rfl Ga 0 rfl (cellsOf a) _ (fun _ h => rangeA (h.loc.at_ (Ga, 23, cA a) (by simp))) und16 rfl HIa.out) h0 ?_
              simp only [Act.put, List.setIfInBounds_toArray, List.set_cons_zero, List.set_cons_succ]
              refine wpAnyH_ready (rs := [5]) (by kernel_rfl) (by simp) (AllReadyH.cons rfl (fun K hK => ?_) AllReadyH.nil)
              go_simp
              go_wp2_with (go_at_call 14; refine (has_any c hcl a ha _).mono ?_; rintro e x5 ⟨rfl, hb2⟩; rw [hr.out]; have HC := Lib.hid (h0.on hb2); clear hb2)
              refine hK.out _ _ HC.out (fun h2 => ?_)
              clear hK K
              refine hd_take 6 (some 56) (.bool false) rfl rfl (by kernel_rfl) (by kernel_rfl) (by kernel_rfl) (fun _ _ _ h => h) (Or.inl ⟨by rfl, fun w hw => by go_simp⟩) h2 ?_
              simp only [Act.put, List.setIfInBounds_toArray, List.set_cons_zero, List.set_cons_succ]
              refine hd_take 7 (some 57) (undef) rfl rfl (by kernel_rfl) (by kernel_rfl) (by kernel_rfl) (fun _ _ _ h => h) (Or.inr ⟨by rfl, rfl⟩) h2 ?_
              simp only [Act.put, List.setIfInBounds_toArray, List.set_cons_zero, List.set_cons_succ]
              refine hd_take 8 (some 58) (undef) rfl rfl (by kernel_rfl) (by kernel_rfl) (by kernel_rfl) (fun _ _ _ h => h) (Or.inr ⟨by rfl, rfl⟩) h2 ?_
              simp only [Act.put, List.setIfInBounds_toArray, List.set_cons_zero, List.set_cons_succ]
              refine hd_take 9 (some 59) (undef) rfl rfl (by kernel_rfl) (by kernel_rfl) (by kernel_rfl) (fun _ _ _ h => h) (Or.inr ⟨by rfl, rfl⟩) h2 ?_
              simp only [Act.put, List.setIfInBounds_toArray, List.set_cons_zero, List.set_cons_succ]
              refine hd_take 10 (some 60) (undef) rfl rfl (by kernel_rfl) (by kernel_rfl) (by kernel_rfl) (fun _ _ _ h => h) (Or.inr ⟨by rfl, rfl⟩) h2 ?_
              simp only [Act.put, List.setIfInBounds_toArray, List.set_cons_zero, List.set_cons_succ]
              refine hd_take 11 (some 61) (undef) rfl rfl (by kernel_rfl) (by kernel_rfl) (by kernel_rfl) (fun _ _ _ h => h) (Or.inr ⟨by rfl, rfl⟩) h2 ?_
              simp only [Act.put, List.setIfInBounds_toArray, List.set_cons_zero, List.set_cons_succ]
              refine hd_take 12 (some 62) (undef) rfl rfl (by kernel_rfl) (by kernel_rfl) (by kernel_rfl) (fun _ _ _ h => h) (Or.inr ⟨by rfl, rfl⟩) h2 ?_
              simp only [Act.put, List.setIfInBounds_toArray, List.set_cons_zero, List.set_cons_succ]
              refine hd_take 13 (some 63) (undef) rfl rfl (by kernel_rfl) (by kernel_rfl) (by kernel_rfl) (fun _ _ _ h => h) (Or.inr ⟨by rfl, rfl⟩) h2 ?_
              simp only [Act.put, List.setIfInBounds_toArray, List.set_cons_zero, List.set_cons_succ]
              refine hd_take 14 (some 64) (undef) rfl rfl (by kernel_rfl) (by kernel_rfl) (by kernel_rfl) (fun _ _ _ h => h) (Or.inr ⟨by rfl, rfl⟩) h2 ?_
              simp only [Act.put, List.setIfInBounds_toArray, List.set_cons_zero, List.set_cons_succ]
              refine hd_take 15 (some 65) (undef) rfl rfl (by kernel_rfl) (by kernel_rfl) (by kernel_rfl) (fun _ _ _ h => h) (Or.inr ⟨by rfl, rfl⟩) h2 ?_
              simp only [Act.put, List.setIfInBounds_toArray, List.set_cons_zero, List.set_cons_succ]
              refine hd_take 16 (some 66) (undef) rfl rfl (by kernel_rfl) (by kernel_rfl) (by kernel_rfl) (fun _ _ _ h => h) (Or.inr ⟨by rfl, rfl⟩) h2 ?_
              simp only [Act.put, List.setIfInBounds_toArray, List.set_cons_zero, List.set_cons_succ]
              refine hd_take 17 (some 67) (undef) rfl rfl (by kernel_rfl) (by kernel_rfl) (by kernel_rfl) (fun _ _ _ h => h) (Or.inr ⟨by rfl, rfl⟩) h2 ?_
              simp only [Act.put, List.setIfInBounds_toArray, List.set_cons_zero, List.set_cons_succ]
              refine hd_take 18 (some 68) (undef) rfl rfl (by kernel_rfl) (by kernel_rfl) (by kernel_rfl) (fun _ _ _ h => h) (Or.inr ⟨by rfl, rfl⟩) h2 ?_
              simp only [Act.put, List.setIfInBounds_toArray, List.set_cons_zero, List.set_cons_succ]
              refine hd_take 19 (some 69) (.bool false) rfl rfl (by kernel_rfl) (by kernel_rfl) (by kernel_rfl) (fun _ _ _ h => h) (Or.inl ⟨by rfl, fun w hw => by go_simp⟩) h2 ?_
              simp only [Act.put, List.setIfInBounds_toArray, List.set_cons_zero, List.set_cons_succ]
              refine wpAnyH_done (by kernel_rfl) ?_ _
              go_wp2_with fail
              have HD := Lib.hid h2
              clear h0 h2 HC HE
              cases hq : decide (f ∈ l.take k) with
              | true =>
                have HSN := Lib.hid (show decide (f ∈ l.take (k + 1)) = true from by rw [HQ.out, hq]; rfl)
                clear hq
                have HE := Lib.hid HD.out.drew
                refine wp_region_held_drew (S := S2 Ga W [(Gf, 25, f.cells), (Ga, 23, cA a)] g (o + k * 17) c) (by kernel_rfl) HE.out (fun h0 => ?_)
                refine hd_take 0 (some 70) (.bool true) rfl rfl (by kernel_rfl) (by kernel_rfl) (by kernel_rfl) (fun _ _ _ h => h) (Or.inl ⟨by rfl, fun w hw => by go_simp⟩) h0 ?_
                simp only [Act.put, List.setIfInBounds_toArray, List.set_cons_zero, List.set_cons_succ]
                refine hd_take 1 (some 71) (.bool true) rfl rfl (by kernel_rfl) (by kernel_rfl) (by kernel_rfl) (fun _ _ _ h => h) (Or.inl ⟨by rfl, fun w hw => by go_simp⟩) h0 ?_
                simp only [Act.put, List.setIfInBounds_toArray, List.set_cons_zero, List.set_cons_succ]
                refine hd_take 2 (some 72) (undef) rfl rfl (by kernel_rfl) (by kernel_rfl) (by kernel_rfl) (fun _ _ _ h => h) (Or.inr ⟨by rfl, rfl⟩) h0 ?_
                simp only [Act.put, List.setIfInBounds_toArray, List.set_cons_zero, List.set_cons_succ]
                refine hd_take 3 (some 73) (undef) rfl rfl (by kernel_rfl) (by kernel_rfl) (by kernel_rfl) (fun _ _ _ h => h) (Or.inr ⟨by rfl, rfl⟩) h0 ?_
                simp only [Act.put, List.setIfInBounds_toArray, List.set_cons_zero, List.set_cons_succ]
                refine hd_take 4 (some 74) (undef) rfl rfl (by kernel_rfl) (by kernel_rfl) (by kernel_rfl) (fun _ _ _ h => h) (Or.inr ⟨by rfl, rfl⟩) h0 ?_
                simp only [Act.put, List.setIfInBounds_toArray, List.set_cons_zero, List.set_cons_succ]
                refine hd_take 5 (some 75) (undef) rfl rfl (by kernel_rfl) (by kernel_rfl) (by kernel_rfl) (fun _ _ _ h => h) (Or.inr ⟨by rfl, rfl⟩) h0 ?_
                simp only [Act.put, List.setIfInBounds_toArray, List.set_cons_zero, List.set_cons_succ]
                refine hd_take 6 (some 76) (undef) rfl rfl (by kernel_rfl) (by kernel_rfl) (by kernel_rfl) (fun _ _ _ h => h) (Or.inr ⟨by rfl, rfl⟩) h0 ?_
                simp only [Act.put, List.setIfInBounds_toArray, List.set_cons_zero, List.set_cons_succ]
                refine hd_take 7 (some 77) (undef) rfl rfl (by kernel_rfl) (by kernel_rfl) (by kernel_rfl) (fun _ _ _ h => h) (Or.inr ⟨by rfl, rfl⟩) h0 ?_
                simp only [Act.put, List.setIfInBounds_toArray, List.set_cons_zero, List.set_cons_succ]
                refine hd_take 8 (some 78) (.bool true) rfl rfl (by kernel_rfl) (by kernel_rfl) (by kernel_rfl) (fun _ _ _ h => h) (Or.inl ⟨by rfl, fun w hw => by go_simp⟩) h0 ?_
                simp only [Act.put, List.setIfInBounds_toArray, List.set_cons_zero, List.set_cons_succ]
                refine hd_take 9 (some 10) (.bool true) rfl rfl (by kernel_rfl) (by kernel_rfl) (by kernel_rfl) (fun _ _ _ h => h) (Or.inl ⟨by rfl, fun w hw => by go_simp⟩) h0 ?_
                simp only [Act.put, List.setIfInBounds_toArray, List.set_cons_zero, List.set_cons_succ]
                refine wpAnyH_done (by kernel_rfl) ?_ _
                go_wp2_with fail
                go_roundw
                case rel => exact ⟨k + 1, by omega, by rw [HSN.out], by go_num, h0.loc⟩
                case measure => simp [intOf]; omega
              | false =>
                have HSN := Lib.hid (show decide (f ∈ l.take (k + 1)) = (c == f) from by rw [HQ.out, hq]; rfl)
                clear hq
                have HE := Lib.hid HD.out.drew
                refine wp_region_held_drew (S := S2 Ga W [(Gf, 25, f.cells), (Ga, 23, cA a)] g (o + k * 17) c) (by kernel_rfl) HE.out (fun h0 => ?_)
                refine hd_take 0 (some 70) (.bool false) rfl rfl (by kernel_rfl) (by kernel_rfl) (by kernel_rfl) (fun _ _ _ h => h) (Or.inl ⟨by rfl, fun w hw => by go_simp⟩) h0 ?_
                simp only [Act.put, List.setIfInBounds_toArray, List.set_cons_zero, List.set_cons_succ]
                refine hd_take 1 (some 71) (.bool false) rfl rfl (by kernel_rfl) (by kernel_rfl) (by kernel_rfl) (fun _ _ _ h => h) (Or.inl ⟨by rfl, fun w hw => by go_simp⟩) h0 ?_
                simp only [Act.put, List.setIfInBounds_toArray, List.set_cons_zero, List.set_cons_succ]
                refine hd_take 2 (some 72) (.slice (some ⟨g, o, none⟩) n cap) rfl rfl (by kernel_rfl) (by kernel_rfl) (by kernel_rfl) (fun _ _ _ h => h) (Or.inl ⟨by rfl, fun w hw => by go_simp⟩) h0 ?_
                simp only [Act.put, List.setIfInBounds_toArray, List.set_cons_zero, List.set_cons_succ]
                refine hd_take 3 (some 73) (.int .i64 (k : Int)) rfl rfl (by kernel_rfl) (by kernel_rfl) (by kernel_rfl) (fun _ _ _ h => h) (Or.inl ⟨by rfl, fun w hw => by go_simp⟩) h0 ?_
                simp only [Act.put, List.setIfInBounds_toArray, List.set_cons_zero, List.set_cons_succ]
                refine hd_take 4 (some 74) (.pointer (some ⟨g, o + k * 17, none⟩)) rfl rfl (by kernel_rfl) (by kernel_rfl) (by kernel_rfl) (fun _ _ _ h => h) (Or.inl ⟨by rfl, fun w hw => by go_simp⟩) h0 ?_
                simp only [Act.put, List.setIfInBounds_toArray, List.set_cons_zero, List.set_cons_succ]
                refine hd_take 5 (some 75) (.agg c.cells) rfl rfl (by kernel_rfl) (by kernel_rfl) (by kernel_rfl) (fun _ _ _ h => h) (yieldsIf_load_mid (by rfl) _ _ rfl g (o + k * 17) rfl (cL c) _ (fun _ h => h.row) und17 rfl HI.out) h0 ?_
                simp only [Act.put, List.setIfInBounds_toArray, List.set_cons_zero, List.set_cons_succ]
                refine hd_take 6 (some 76) (.agg f.cells) rfl rfl (by kernel_rfl) (by kernel_rfl) (by kernel_rfl) (fun _ _ _ h => h) (yieldsIf_load_mid (by rfl) _ _ rfl Gf 0 rfl (cL f) _ (fun _ h => rangeC (h.loc.at_ (Gf, 25, f.cells) (by simp))) und17 rfl HIf.out) h0 ?_
                simp only [Act.put, List.setIfInBounds_toArray, List.set_cons_zero, List.set_cons_succ]
                refine hd_take 7 (some 77) (.bool (c == f)) rfl rfl (by kernel_rfl) (by kernel_rfl) (by kernel_rfl) (fun _ _ _ h => h) (Or.inl ⟨by rfl, fun w hw => by go_simp⟩) h0 ?_
                simp only [Act.put, List.setIfInBounds_toArray, List.set_cons_zero, List.set_cons_succ]
                refine hd_take 8 (some 78) (.bool (c == f)) rfl rfl (by kernel_rfl) (by kernel_rfl) (by kernel_rfl) (fun _ _ _ h => h) (Or.inl ⟨by rfl, fun w hw => by go_simp⟩) h0 ?_
                simp only [Act.put, List.setIfInBounds_toArray, List.set_cons_zero, List.set_cons_succ]
                refine hd_take 9 (some 10) (.bool (c == f)) rfl rfl (by kernel_rfl) (by kernel_rfl) (by kernel_rfl) (fun _ _ _ h => h) (Or.inl ⟨by rfl, fun w hw => by go_simp⟩) h0 ?_
                simp only [Act.put, List.setIfInBounds_toArray, List.set_cons_zero, List.set_cons_succ]
                refine wpAnyH_done (by kernel_rfl) ?_ _
                go_wp2_with fail
                go_roundw
                case rel => exact ⟨k + 1, by omega, by rw [HSN.out], by go_num, h0.loc⟩
                case measure => simp [intOf]; omega
            | true =>
              have hr := Lib.hid hR
              obtain ⟨rfl, hle⟩ := HM.out hR
              have hd3 : decide (f.n < c.n) = false := decide_eq_false (by omega)
              clear hR HM hle
              go_wp2_with fail
              refine wp_region_held_drew (S := S2 Ga W [(Gf, 25, f.cells), (Ga, 23, cA a)] g (o + k * 17) c) (by kernel_rfl) HE.out (fun h0 => ?_)
              refine hd_take 0 (some 50) (.slice (some ⟨g, o, none⟩) n cap) rfl rfl (by kernel_rfl) (by kernel_rfl) (by kernel_rfl) (fun _ _ _ h => h) (Or.inl ⟨by rfl, fun w hw => by go_simp⟩) h0 ?_
              simp only [Act.put, List.setIfInBounds_toArray, List.set_cons_zero, List.set_cons_succ]
              refine hd_take 1 (some 51) (.int .i64 (k : Int)) rfl rfl (by kernel_rfl) (by kernel_rfl) (by kernel_rfl) (fun _ _ _ h => h) (Or.inl ⟨by rfl, fun w hw => by go_simp⟩) h0 ?_
              simp only [Act.put, List.setIfInBounds_toArray, List.set_cons_zero, List.set_cons_succ]
              refine hd_take 2 (some 52) (.pointer (some ⟨g, o + k * 17, none⟩)) rfl rfl (by kernel_rfl) (by kernel_rfl) (by kernel_rfl) (fun _ _ _ h => h) (Or.inl ⟨by rfl, fun w hw => by go_simp⟩) h0 ?_
              simp only [Act.put, List.setIfInBounds_toArray, List.set_cons_zero, List.set_cons_succ]
              refine hd_take 3 (some 53) (.agg c.cells) rfl rfl (by kernel_rfl) (by kernel_rfl) (by kernel_rfl) (fun _ _ _ h => h) (yieldsIf_load_mid (by rfl) _ _ rfl g (o + k * 17) rfl (cL c) _ (fun _ h => h.row) und17 rfl HI.out) h0 ?_
              simp only [Act.put, List.setIfInBounds_toArray, List.set_cons_zero, List.set_cons_succ]
              refine hd_take 4 (some 54) (.agg (cA a)) rfl rfl (by kernel_rfl) (by kernel_rfl) (by kernel_rfl) (fun _ _ _ h => h) (yieldsIf_load_mid (by rfl) _ _ rfl Ga 0 rfl (cellsOf a) _ (fun _ h => rangeA (h.loc.at_ (Ga, 23, cA a) (by simp))) und16 rfl HIa.out) h0 ?_
              simp only [Act.put, List.setIfInBounds_toArray, List.set_cons_zero, List.set_cons_succ]
              refine wpAnyH_ready (rs := [5]) (by kernel_rfl) (by simp) (AllReadyH.cons rfl (fun K hK => ?_) AllReadyH.nil)
              go_simp
              go_wp2_with (go_at_call 14; refine (has_any c hcl a ha _).mono ?_; rintro e x5 ⟨rfl, hb2⟩; rw [hr.out]; have HC := Lib.hid (h0.on hb2); clear hb2)
              refine hK.out _ _ HC.out (fun h2 => ?_)
              clear hK K
              refine hd_take 6 (some 56) (.bool true) rfl rfl (by kernel_rfl) (by kernel_rfl) (by kernel_rfl) (fun _ _ _ h => h) (Or.inl ⟨by rfl, fun w hw => by go_simp⟩) h2 ?_
              simp only [Act.put, List.setIfInBounds_toArray, List.set_cons_zero, List.set_cons_succ]
              refine hd_take 7 (some 57) (.bool true) rfl rfl (by kernel_rfl) (by kernel_rfl) (by kernel_rfl) (fun _ _ _ h => h) (Or.inl ⟨by rfl, fun w hw => by go_simp⟩) h2 ?_
              simp only [Act.put, List.setIfInBounds_toArray, List.set_cons_zero, List.set_cons_succ]
              refine hd_take 8 (some 58) (.bool false) rfl rfl (by kernel_rfl) (by kernel_rfl) (by kernel_rfl) (fun _ _ _ h => h) (Or.inl ⟨by rfl, fun w hw => by go_simp⟩) h2 ?_
              simp only [Act.put, List.setIfInBounds_toArray, List.set_cons_zero, List.set_cons_succ]
              refine hd_take 9 (some 59) (.bool false) rfl rfl (by kernel_rfl) (by kernel_rfl) (by kernel_rfl) (fun _ _ _ h => h) (Or.inl ⟨by rfl, fun w hw => by go_simp⟩) h2 ?_
              simp only [Act.put, List.setIfInBounds_toArray, List.set_cons_zero, List.set_cons_succ]
              refine hd_take 10 (some 60) (.slice (some ⟨g, o, none⟩) n cap) rfl rfl (by kernel_rfl) (by kernel_rfl) (by kernel_rfl) (fun _ _ _ h => h) (Or.inl ⟨by rfl, fun w hw => by go_simp⟩) h2 ?_
              simp only [Act.put, List.setIfInBounds_toArray, List.set_cons_zero, List.set_cons_succ]
              refine hd_take 11 (some 61) (.int .i64 (k : Int)) rfl rfl (by kernel_rfl) (by kernel_rfl) (by kernel_rfl) (fun _ _ _ h => h) (Or.inl ⟨by rfl, fun w hw => by go_simp⟩) h2 ?_
              simp only [Act.put, List.setIfInBounds_toArray, List.set_cons_zero, List.set_cons_succ]
              refine hd_take 12 (some 62) (.pointer (some ⟨g, o + k * 17, none⟩)) rfl rfl (by kernel_rfl) (by kernel_rfl) (by kernel_rfl) (fun _ _ _ h => h) (Or.inl ⟨by rfl, fun w hw => by go_simp⟩) h2 ?_
              simp only [Act.put, List.setIfInBounds_toArray, List.set_cons_zero, List.set_cons_succ]
              refine hd_take 13 (some 63) (.pointer (some ⟨g, o + k * 17 + 16, none⟩)) rfl rfl (by kernel_rfl) (by kernel_rfl) (by kernel_rfl) (fun _ _ _ h => h) (Or.inl ⟨by rfl, fun w hw => by go_simp⟩) h2 ?_
              simp only [Act.put, List.setIfInBounds_toArray, List.set_cons_zero, List.set_cons_succ]
              refine hd_take 14 (some 64) (.int .i64 c.n) rfl rfl (by kernel_rfl) (by kernel_rfl) (by kernel_rfl) (fun _ _ _ h => h) (Or.inl ⟨by rfl, fun w hw => by have h16 := row_n hw.row hcl; go_simp⟩) h2 ?_
              simp only [Act.put, List.setIfInBounds_toArray, List.set_cons_zero, List.set_cons_succ]
              refine hd_take 15 (some 65) (.pointer (some ⟨Gf, 16, none⟩)) rfl rfl (by kernel_rfl) (by kernel_rfl) (by kernel_rfl) (fun _ _ _ h => h) (Or.inl ⟨by rfl, fun w hw => by go_simp⟩) h2 ?_
              simp only [Act.put, List.setIfInBounds_toArray, List.set_cons_zero, List.set_cons_succ]
              refine hd_take 16 (some 66) (.int .i64 f.n) rfl rfl (by kernel_rfl) (by kernel_rfl) (by kernel_rfl) (fun _ _ _ h => h) (Or.inl ⟨by rfl, fun w hw => by have h16 := range_n (rangeC (hw.loc.at_ (Gf, 25, f.cells) (by simp))) hfl; go_simp⟩) h2 ?_
              simp only [Act.put, List.setIfInBounds_toArray, List.set_cons_zero, List.set_cons_succ]
              refine hd_take 17 (some 67) (.bool false) rfl rfl (by kernel_rfl) (by kernel_rfl) (by kernel_rfl) (fun _ _ _ h => h) (Or.inl ⟨by rfl, fun w hw => by go_simp⟩) h2 ?_
              simp only [Act.put, List.setIfInBounds_toArray, List.set_cons_zero, List.set_cons_succ]
              refine hd_take 18 (some 68) (.bool false) rfl rfl (by kernel_rfl) (by kernel_rfl) (by kernel_rfl) (fun _ _ _ h => h) (Or.inl ⟨by rfl, fun w hw => by go_simp⟩) h2 ?_
              simp only [Act.put, List.setIfInBounds_toArray, List.set_cons_zero, List.set_cons_succ]
              refine hd_take 19 (some 69) (.bool false) rfl rfl (by kernel_rfl) (by kernel_rfl) (by kernel_rfl) (fun _ _ _ h => h) (Or.inl ⟨by rfl, fun w hw => by go_simp⟩) h2 ?_
              simp only [Act.put, List.setIfInBounds_toArray, List.set_cons_zero, List.set_cons_succ]
              refine wpAnyH_done (by kernel_rfl) ?_ _
              go_wp2_with fail
              have HD := Lib.hid h2
              clear h0 h2 HC HE
              cases hq : decide (f ∈ l.take k) with
              | true =>
                have HSN := Lib.hid (show decide (f ∈ l.take (k + 1)) = true from by rw [HQ.out, hq]; rfl)
                clear hq
                have HE := Lib.hid HD.out.drew
                refine wp_region_held_drew (S := S2 Ga W [(Gf, 25, f.cells), (Ga, 23, cA a)] g (o + k * 17) c) (by kernel_rfl) HE.out (fun h0 => ?_)
                refine hd_take 0 (some 70) (.bool true) rfl rfl (by kernel_rfl) (by kernel_rfl) (by kernel_rfl) (fun _ _ _ h => h) (Or.inl ⟨by rfl, fun w hw => by go_simp⟩) h0 ?_
                simp only [Act.put, List.setIfInBounds_toArray, List.set_cons_zero, List.set_cons_succ]
                refine hd_take 1 (some 71) (.bool true) rfl rfl (by kernel_rfl) (by kernel_rfl) (by kernel_rfl) (fun _ _ _ h => h) (Or.inl ⟨by rfl, fun w hw => by go_simp⟩) h0 ?_
                simp only [Act.put, List.setIfInBounds_toArray, List.set_cons_zero, List.set_cons_succ]
                refine hd_take 2 (some 72) (undef) rfl rfl (by kernel_rfl) (by kernel_rfl) (by kernel_rfl) (fun _ _ _ h => h) (Or.inr ⟨by rfl, rfl⟩) h0 ?_
                simp only [Act.put, List.setIfInBounds_toArray, List.set_cons_zero, List.set_cons_succ]
                refine hd_take 3 (some 73) (undef) rfl rfl (by kernel_rfl) (by kernel_rfl) (by kernel_rfl) (fun _ _ _ h => h) (Or.inr ⟨by rfl, rfl⟩) h0 ?_
                simp only [Act.put, List.setIfInBounds_toArray, List.set_cons_zero, List.set_cons_succ]
                refine hd_take 4 (some 74) (undef) rfl rfl (by kernel_rfl) (by kernel_rfl) (by kernel_rfl) (fun _ _ _ h => h) (Or.inr ⟨by rfl, rfl⟩) h0 ?_
                simp only [Act.put, List.setIfInBounds_toArray, List.set_cons_zero, List.set_cons_succ]
                refine hd_take 5 (some 75) (undef) rfl rfl (by kernel_rfl) (by kernel_rfl) (by kernel_rfl) (fun _ _ _ h => h) (Or.inr ⟨by rfl, rfl⟩) h0 ?_
                simp only [Act.put, List.setIfInBounds_toArray, List.set_cons_zero, List.set_cons_succ]
                refine hd_take 6 (some 76) (undef) rfl rfl (by kernel_rfl) (by kernel_rfl) (by kernel_rfl) (fun _ _ _ h => h) (Or.inr ⟨by rfl, rfl⟩) h0 ?_
                simp only [Act.put, List.setIfInBounds_toArray, List.set_cons_zero, List.set_cons_succ]
                refine hd_take 7 (some 77) (undef) rfl rfl (by kernel_rfl) (by kernel_rfl) (by kernel_rfl) (fun _ _ _ h => h) (Or.inr ⟨by rfl, rfl⟩) h0 ?_
                simp only [Act.put, List.setIfInBounds_toArray, List.set_cons_zero, List.set_cons_succ]
                refine hd_take 8 (some 78) (.bool true) rfl rfl (by kernel_rfl) (by kernel_rfl) (by kernel_rfl) (fun _ _ _ h => h) (Or.inl ⟨by rfl, fun w hw => by go_simp⟩) h0 ?_
                simp only [Act.put, List.setIfInBounds_toArray, List.set_cons_zero, List.set_cons_succ]
                refine hd_take 9 (some 10) (.bool true) rfl rfl (by kernel_rfl) (by kernel_rfl) (by kernel_rfl) (fun _ _ _ h => h) (Or.inl ⟨by rfl, fun w hw => by go_simp⟩) h0 ?_
                simp only [Act.put, List.setIfInBounds_toArray, List.set_cons_zero, List.set_cons_succ]
                refine wpAnyH_done (by kernel_rfl) ?_ _
                go_wp2_with fail
                go_roundw
                case rel => exact ⟨k + 1, by omega, by rw [HSN.out], by go_num, h0.loc⟩
                case measure => simp [intOf]; omega
              | false =>
                have HSN := Lib.hid (show decide (f ∈ l.take (k + 1)) = (c == f) from by rw [HQ.out, hq]; rfl)
                clear hq
                have HE := Lib.hid HD.out.drew
                refine wp_region_held_drew (S := S2 Ga W [(Gf, 25, f.cells), (Ga, 23, cA a)] g (o + k * 17) c) (by kernel_rfl) HE.out (fun h0 => ?_)
                refine hd_take 0 (some 70) (.bool false) rfl rfl (by kernel_rfl) (by kernel_rfl) (by kernel_rfl) (fun _ _ _ h => h) (Or.inl ⟨by rfl, fun w hw => by go_simp⟩) h0 ?_
                simp only [Act.put, List.setIfInBounds_toArray, List.set_cons_zero, List.set_cons_succ]
                refine hd_take 1 (some 71) (.bool false) rfl rfl (by kernel_rfl) (by kernel_rfl) (by kernel_rfl) (fun _ _ _ h => h) (Or.inl ⟨by rfl, fun w hw => by go_simp⟩) h0 ?_
                simp only [Act.put, List.setIfInBounds_toArray, List.set_cons_zero, List.set_cons_succ]
                refine hd_take 2 (some 72) (.slice (some ⟨g, o, none⟩) n cap) rfl rfl (by kernel_rfl) (by kernel_rfl) (by kernel_rfl) (fun _ _ _ h => h) (Or.inl ⟨by rfl, fun w hw => by go_simp⟩) h0 ?_
                simp only [Act.put, List.setIfInBounds_toArray, List.set_cons_zero, List.set_cons_succ]
                refine hd_take 3 (some 73) (.int .i64 (k : Int)) rfl rfl (by kernel_rfl) (by kernel_rfl) (by kernel_rfl) (fun _ _ _ h => h) (Or.inl ⟨by rfl, fun w hw => by go_simp⟩) h0 ?_
                simp only [Act.put, List.setIfInBounds_toArray, List.set_cons_zero, List.set_cons_succ]
                refine hd_take 4 (some 74) (.pointer (some ⟨g, o + k * 17, none⟩)) rfl rfl (by kernel_rfl) (by kernel_rfl) (by kernel_rfl) (fun _ _ _ h => h) (Or.inl ⟨by rfl, fun w hw => by go_simp⟩) h0 ?_
                simp only [Act.put, List.setIfInBounds_toArray, List.set_cons_zero, List.set_cons_succ]
                refine hd_take 5 (some 75) (.agg c.cells) rfl rfl (by kernel_rfl) (by kernel_rfl) (by kernel_rfl) (fun _ _ _ h => h) (yieldsIf_load_mid (by rfl) _ _ rfl g (o + k * 17) rfl (cL c) _ (fun _ h => h.row) und17 rfl HI.out) h0 ?_
                simp only [Act.put, List.setIfInBounds_toArray, List.set_cons_zero, List.set_cons_succ]
                refine hd_take 6 (some 76) (.agg f.cells) rfl rfl (by kernel_rfl) (by kernel_rfl) (by kernel_rfl) (fun _ _ _ h => h) (yieldsIf_load_mid (by rfl) _ _ rfl Gf 0 rfl (cL f) _ (fun _ h => rangeC (h.loc.at_ (Gf, 25, f.cells) (by simp))) und17 rfl HIf.out) h0 ?_
                simp only [Act.put, List.setIfInBounds_toArray, List.set_cons_zero, List.set_cons_succ]
                refine hd_take 7 (some 77) (.bool (c == f)) rfl rfl (by kernel_rfl) (by kernel_rfl) (by kernel_rfl) (fun _ _ _ h => h) (Or.inl ⟨by rfl, fun w hw => by go_simp⟩) h0 ?_
                simp only [Act.put, List.setIfInBounds_toArray, List.set_cons_zero, List.set_cons_succ]
                refine hd_take 8 (some 78) (.bool (c == f)) rfl rfl (by kernel_rfl) (by kernel_rfl) (by kernel_rfl) (fun _ _ _ h => h) (Or.inl ⟨by rfl, fun w hw => by go_simp⟩) h0 ?_
                simp only [Act.put, List.setIfInBounds_toArray, List.set_cons_zero, List.set_cons_succ]
                refine hd_take 9 (some 10) (.bool (c == f)) rfl rfl (by kernel_rfl) (by kernel_rfl) (by kernel_rfl) (fun _ _ _ h => h) (Or.inl ⟨by rfl, fun w hw => by go_simp⟩) h0 ?_
                simp only [Act.put, List.setIfInBounds_toArray, List.set_cons_zero, List.set_cons_succ]
                refine wpAnyH_done (by kernel_rfl) ?_ _
                go_wp2_with fail
                go_roundw
                case rel => exact ⟨k + 1, by omega, by rw [HSN.out], by go_num, h0.loc⟩
                case measure => simp [intOf]; omega
          · have hd2 : decide ((k : Int) < (n : Int)) = false := decide_eq_false (by omega)
            obtain rfl : n = k := by omega
            have hT : l.take n = l := List.take_of_length_le (by omega)
            rw [hT]
            have bf := E.at_ (Gf, 25, f.cells) (by simp)
            have ba := E.at_ (Ga, 23, cA a) (by simp)
            have hza : (cA a).size = 16 := by rw [cA_size, ha]
            cases is with
            | true =>
              have hs1 : decide (f ∈ l) = true := decide_eq_true (HFi.out.mem rfl)
              have hh := Lib.hid (HFi.out.has rfl)
              rw [hs1]
              clear hs1
              go_wp2_with (first
                | (refine go_ldg 25 bf und17 rfl info17 hzf (by rfl) rfl rfl ?_)
                | (refine go_ldg 23 ba und16 rfl info16 hza (by rfl) rfl rfl ?_)
                | (go_at_call 14; refine (has_any f hfl a ha _).mono ?_; rintro e w7 ⟨rfl, hb2⟩; rw [hh.out]; have HF := Lib.hid (E.on hb2).low; clear hb2 bf ba E))
              go_ret
              rw [HG.out] at *
              exact ⟨rfl, HF.out⟩
            | false =>
              have hf0 := HFi.out.none rfl
              clear HFi
              subst hf0
              have heq0 : ∀ w : World, (binOp .eql 25 (.agg C0.cells) (.agg C0.cells)).run Tryd.prog w = .ok (.bool true) w := fun w => by
                have h := eql17 C0 C0 rfl rfl w
                rw [show (C0 == C0) = true by simp] at h
                exact h
              have HF := Lib.hid E.low
              clear E ba
              generalize decide (C0 ∈ l) = q
              go_wp2_with (first
                | (refine go_ldg 25 bf und17 rfl info17 hzf (by rfl) rfl rfl ?_)
                | (refine go_bdg 25 C0.cells builtC (by rfl) rfl ?_))
              go_ret
              rw [HG.out] at *
              exact ⟨rfl, HF.out⟩
end Go.Proofs.YtgeebdogjpgeiaaDoor.Ad
