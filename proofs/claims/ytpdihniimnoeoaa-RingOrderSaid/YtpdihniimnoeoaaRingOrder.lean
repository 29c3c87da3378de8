/-
  'What goes is what came, in that order, each byte once' (hagioscopelaw05.RingOrder) holds: whatever the room and the calls, the call returns true and leaves what was there as it was. No condition.
-/
import Derived.Test.YtpdihniimnoeoaaRgFew
import Derived.Test.YtpdihniimnoeoaaRgSmall
import Derived.Deep.RegionHeld
namespace Go.Proofs.Ytpdihniimnoeoaa.ringOrder
open Go.ChangeShapes Go.WideShapes Go.ChangeAt Go.RowKit
open Go.ChangeMaps (open_string shut_string)
open Go.Proofs.Ytpdihniimnoeoaa.Wd Go.Proofs.Ytpdihniimnoeoaa.Rg Go.Proofs.Ytpdihniimnoeoaa.Lift


def lst (s : ByteArray) : List UInt8 := s.data.toList
theorem lst_size (s : ByteArray) : (lst s).length = s.size := rfl
theorem lst_inj {a b : ByteArray} (h : lst a = lst b) : a = b := by
  apply ByteArray.ext
  apply Array.ext'
  exact h
theorem lst_app (a b : ByteArray) : lst (a ++ b) = lst a ++ lst b := by
  unfold lst
  rw [ByteArray.data_append]
  simp
theorem lst_mk (l : List UInt8) : lst ⟨l.toArray⟩ = l := by simp [lst]
theorem lst_extract (s : ByteArray) (k : Nat) : lst (s.extract 0 k) = (lst s).take k := by
  unfold lst
  rw [ByteArray.data_extract]
  simp

theorem walk_out (w : World) (room : Int) (A : Option Addr) (ln cap : Nat) (l : List Cl) (hn : l.length = ln) (hc : ln ≤ 9223372036854775807) (hl : SrcL w A l) (hf : fewB l = false) :
    Calls Try.prog 4 #[.int .i64 room, .slice A ln cap] w fun e w' => e = .returned (.bool true) ∧ Below w.heap.size w w' := by
  have HF := Lib.hid hf
  clear hf
  go_enter Try.func4, Try.ntmps4
  go_wp2_with fail
  refine (small_any w).mono ?_
  rintro e w1 ⟨rfl, hb1⟩
  go_wp2_with fail
  refine (few_any w1 A ln cap l hn hc (hl.below hb1)).mono ?_
  rintro e w2 ⟨rfl, rfl⟩
  rw [HF.out]
  go_wp2_with fail
  refine (new_held room w w1 hb1 hb1.size).mono ?_
  rintro e w2 ⟨g, p, rfl, hr, -⟩
  have HL := Lib.hid hr.bel
  clear hr
  go_wp2_with fail
  go_ret
  exact ⟨rfl, HL.out⟩

set_option maxRecDepth 100000 in
set_option maxHeartbeats 1000000 in
theorem walk_few (w : World) (room : Int) (A : Option Addr) (ln cap : Nat) (l : List Cl) (hn : l.length = ln) (hc : ln ≤ 9223372036854775807) (hl : SrcL w A l) (hf : fewB l = true) :
    Calls Try.prog 4 #[.int .i64 room, .slice A ln cap] w fun e w' => e = .returned (.bool true) ∧ Below w.heap.size w w' := by
  have HF := Lib.hid hf
  have hln := (few_len hf).1
  have hto := (few_len hf).2
  rw [hn] at hln
  have HL := Lib.hid hl
  have HN := Lib.hid hn
  have hR := roomR_le room
  clear hf hl hn
  go_enter Try.func4, Try.ntmps4
  go_wp2_with fail
  refine (small_any w).mono ?_
  rintro e w1 ⟨rfl, hb1⟩
  go_wp2_with fail
  refine (few_any w1 A ln cap l HN.out hc (HL.out.below hb1)).mono ?_
  rintro e w2 ⟨rfl, rfl⟩
  rw [HF.out]
  go_wp2_with fail
  refine (new_held room w w1 hb1 hb1.size).mono ?_
  rintro e w2 ⟨g, p, rfl, hr, -, hg, hp⟩
  have HR := Lib.hid hr
  have hsz := hb1.size
  clear hr hb1
  generalize roomR room = R at *
  go_wp2_with fail
  go_loopw [8, 9, 10] (fun c v i wr => ∃ (k : Nat) (cs ws : ByteArray) (bs : List UInt8), k ≤ ln ∧ i = .int .i64 (k : Int) ∧ c = .string cs ∧ v = .string ws ∧ Hid (lst cs = lst ws ++ bs) ∧ cs.size ≤ total (l.take k) ∧ Hid (Held w.heap.size w wr g p R bs)) (fun _ _ i _ => ln - (intOf i).toNat)
  case atStart => exact ⟨0, _, _, [], Nat.zero_le _, rfl, rfl, rfl, rfl, Nat.zero_le _, HR⟩
  case round =>
    clear HR
    obtain ⟨k, cs, ws, bs, hk, rfl, rfl, rfl, HE, hcs, HR⟩ := hrel
    have htk := total_take l k
    have hws : ws.size ≤ cs.size := by have := congrArg List.length HE.out; rw [List.length_append, lst_size, lst_size] at this; omega
    have hcs4 : cs.size ≤ 4000 := by omega
    by_cases hlt : k < ln
    · have hki : (k : Int) < (ln : Int) := by omega
      obtain ⟨x, ag, ao, hx, hok, rfl, hag, hc0, hc1, hc2⟩ := HL.out.get (by rw [HN.out]; exact hlt) HR.out.bel
      have hsn := total_snoc hx
      have htk1 := total_take l (k + 1)
      have HOK := Lib.hid hok
      have HSn := Lib.hid hsn
      clear hok hx
      have hxn : x.n ≤ 4000 := by omega
      clear hsn
      rcases Bool.eq_false_or_eq_true (x.which.tmod 3 == 0) with hw | hw
      · go_wp2_with fail
        refine (push_held HR.out hR x.A x.n x.c x.b (HOK.out.src.below HR.out.bel) HOK.out.nc (fun h0 y hy => by have := HOK.out.far h0 y hy; omega)).mono ?_
        rintro e w3 ⟨rfl, hr3, hb3⟩
        have hj : roomN R bs.length x.n ≤ x.n := Nat.min_le_left _ _
        have hs3 : Src w3 x.A (roomN R bs.length x.n) (x.b.take (roomN R bs.length x.n)) := (HOK.out.src.below hr3.bel).take hj
        have hd1 : w3.cell? ⟨ag, ao + k * 3 + 1, none⟩ = some (.slice x.A x.n x.c) := (hb3.cell (p := ⟨ag, ao + k * 3 + 1, none⟩) (by show ag < wr.heap.size; have := HR.out.hB; omega) (by simp; omega)).trans hc1
        have k3 := conv8 (c := x.c) hs3
        have hzl : (x.b.take (roomN R bs.length x.n)).length = roomN R bs.length x.n := hs3.1
        have HR3 := Lib.hid hr3
        obtain ⟨s3, hs3e⟩ : ∃ s : ByteArray, (⟨(x.b.take (roomN R bs.length x.n)).toArray⟩ : ByteArray) = s := ⟨_, rfl⟩
        rw [hs3e] at k3
        have HS3 := Lib.hid (show lst s3 = x.b.take (roomN R bs.length x.n) from by rw [← hs3e, lst_mk])
        have hz3 : s3.size ≤ x.n := by rw [← lst_size, HS3.out]; omega
        have hnc := HOK.out.nc
        have hsl := fun w' => slice_to und8s size8 x.A x.n x.c w' (roomN R bs.length x.n) (by omega)
        clear hs3e hs3 hr3 hb3 hc0 hc1 hc2 HR hzl
        generalize hrm : roomN R bs.length x.n = rm at *
        have HRM := Lib.hid hrm
        clear hrm
        have hji : (rm : Int) ≤ (x.n : Int) := by omega
        go_wp2_with fail
        have HE4 := Lib.hid (show lst (cs ++ s3) = lst ws ++ (bs ++ x.b.take rm) from by rw [lst_app, HE.out, HS3.out, List.append_assoc])
        have hz4 : (cs ++ s3).size = cs.size + s3.size := ByteArray.size_append
        have hc4 : (cs ++ s3).size ≤ total (l.take k) + x.n := by omega
        have hc5 : (cs ++ s3).size ≤ 4000 := by have := HSn.out; omega
        have hv4 : ws.size ≤ (cs ++ s3).size := by omega
        have HR4 := HR3
        clear hz4 HR3 HE k3 HS3 hsl hcs hws
        generalize cs ++ s3 = c4 at *
        generalize bs ++ x.b.take rm = bs4 at *
        generalize hvv : ws = v4 at *
        clear hvv
        generalize w3 = w4 at *
        have hsz4 : v4.size + bs4.length = c4.size := by
          have := congrArg List.length HE4.out
          rw [List.length_append, lst_size, lst_size] at this
          omega
        have hex : c4.extract 0 v4.size = v4 := lst_inj (by
          rw [lst_extract, HE4.out, ← lst_size, List.take_left])
        have HEX := Lib.hid hex
        clear hex
        have HLen := fun u (h : Held w.heap.size w u g p R bs4) => len_any g p R bs4 u h.rg
        generalize hm4 : bs4.length = m4 at *
        have HM4 := Lib.hid hm4
        clear hm4
        have hq1 : ((v4.size : Int) + (m4 : Int) == (c4.size : Int)) = true := by rw [beq_iff_eq]; omega
        have hq2 : ((v4.size : Int) + (m4 : Int) != (c4.size : Int)) = false := by rw [bne, hq1]; rfl
        have hm5 : m4 ≤ 4000 := by omega
        have hv5 : v4.size ≤ 4000 := by omega
        clear hsz4
        refine (HLen _ HR4.out).mono ?_
        rintro e w5 ⟨rfl, rfl⟩
        go_wp2_with fail
        refine (HLen _ HR4.out).mono ?_
        rintro e w5 ⟨rfl, rfl⟩
        have hex := HEX.out
        go_wp2_with fail
        clear hex
        go_roundw
        case rel => exact ⟨k + 1, c4, v4, bs4, by omega, by go_num, rfl, rfl, HE4, by rw [HSn.out]; omega, HR4⟩
        case measure => simp [intOf]; omega
      · go_wp2_with fail
        refine (pop_held HR.out hR x.q).mono ?_
        rintro e w4 ⟨o4, rfl, hf4, hr4, -⟩
        have HR4 := Lib.hid hr4
        obtain ⟨T, hT⟩ : ∃ T, T = bs.take (clampN x.q bs.length) := ⟨_, rfl⟩
        rw [← hT] at hf4
        rw [← hT]
        have k4 := conv8 (c := T.length) hf4.src
        obtain ⟨s4, hs4e⟩ : ∃ s : ByteArray, (⟨T.toArray⟩ : ByteArray) = s := ⟨_, rfl⟩
        rw [hs4e] at k4
        have HS4 := Lib.hid (show lst s4 = T from by rw [← hs4e, lst_mk])
        have HT := Lib.hid hT
        have HBD := Lib.hid (show T ++ bs.drop (clampN x.q bs.length) = bs from by rw [hT, List.take_append_drop])
        have hbl : bs.length + ws.size = cs.size := by have := congrArg List.length HE.out; rw [List.length_append, lst_size, lst_size] at this; omega
        have hz4 : s4.size ≤ bs.length := by rw [← lst_size, HS4.out, hT, List.length_take]; omega
        have hz5 : s4.size ≤ 4000 := by omega
        have hwz : ws.size ≤ 4000 := by omega
        clear hs4e hT hf4 hr4 hc0 hc1 hc2 HR
        have HE4 := Lib.hid (show lst cs = lst (ws ++ s4) ++ bs.drop (clampN x.q bs.length) from by rw [lst_app, HS4.out, List.append_assoc, HBD.out, HE.out])
        have hzw : (ws ++ s4).size = ws.size + s4.size := ByteArray.size_append
        have hv4 : (ws ++ s4).size ≤ cs.size := by omega
        have hc5 : cs.size ≤ 4000 := by omega
        have hc4 : cs.size ≤ total (l.take k) + x.n := by omega
        clear HE HS4 HBD HT hbl hzw hcs hws
        generalize bs.drop (clampN x.q bs.length) = bs4 at *
        go_wp2_with fail
        clear k4
        generalize ws ++ s4 = v4 at *
        generalize hcc : cs = c4 at *
        clear hcc
        have hsz4 : v4.size + bs4.length = c4.size := by
          have := congrArg List.length HE4.out
          rw [List.length_append, lst_size, lst_size] at this
          omega
        have hex : c4.extract 0 v4.size = v4 := lst_inj (by
          rw [lst_extract, HE4.out, ← lst_size, List.take_left])
        have HEX := Lib.hid hex
        clear hex
        have HLen := fun u (h : Held w.heap.size w u g p R bs4) => len_any g p R bs4 u h.rg
        generalize hm4 : bs4.length = m4 at *
        have HM4 := Lib.hid hm4
        clear hm4
        have hq1 : ((v4.size : Int) + (m4 : Int) == (c4.size : Int)) = true := by rw [beq_iff_eq]; omega
        have hq2 : ((v4.size : Int) + (m4 : Int) != (c4.size : Int)) = false := by rw [bne, hq1]; rfl
        have hm5 : m4 ≤ 4000 := by omega
        have hv5 : v4.size ≤ 4000 := by omega
        clear hsz4
        refine (HLen _ HR4.out).mono ?_
        rintro e w5 ⟨rfl, rfl⟩
        go_wp2_with fail
        refine (HLen _ HR4.out).mono ?_
        rintro e w5 ⟨rfl, rfl⟩
        have hex := HEX.out
        go_wp2_with fail
        clear hex
        go_roundw
        case rel => exact ⟨k + 1, c4, v4, bs4, by omega, by go_num, rfl, rfl, HE4, by rw [HSn.out]; omega, HR4⟩
        case measure => simp [intOf]; omega
    · obtain rfl : k = ln := by omega
      have hle := HR.out.le
      have hbl : bs.length + ws.size = cs.size := by have := congrArg List.length HE.out; rw [List.length_append, lst_size, lst_size] at this; omega
      go_wp2_with fail
      refine (pop_held HR.out hR 1048576).mono ?_
      rintro e w4 ⟨o4, rfl, hf4, hr4, -⟩
      have hK : clampN 1048576 bs.length = bs.length := by
        unfold clampN withinI
        rw [if_neg (by omega), if_pos (by omega)]
        omega
      have hT : bs.take (clampN 1048576 bs.length) = bs := List.take_of_length_le (by omega)
      have hD : bs.drop (clampN 1048576 bs.length) = [] := List.drop_of_length_le (by omega)
      rw [hT] at hf4
      rw [hD] at hr4
      rw [hT]
      have k4 := conv8 (c := bs.length) hf4.src
      obtain ⟨s4, hs4e⟩ : ∃ s : ByteArray, (⟨bs.toArray⟩ : ByteArray) = s := ⟨_, rfl⟩
      rw [hs4e] at k4
      have hls4 : lst s4 = bs := by rw [← hs4e, lst_mk]
      have HQ := Lib.hid (show ws ++ s4 = cs from lst_inj (by rw [lst_app, hls4, HE.out]))
      have hz4 : s4.size ≤ 4000 := by rw [← lst_size, hls4]; omega
      have hwz : ws.size ≤ 4000 := by omega
      have hq : (ws ++ s4).toList = cs.toList := by rw [HQ.out]
      have HR4 := Lib.hid hr4
      clear hs4e hls4 hK hT hD hf4 hr4 HR hbl
      go_wp2_with fail
      refine (len_any g p R [] w4 HR4.out.rg).mono ?_
      rintro e w5 ⟨rfl, rfl⟩
      rw [show ((([] : List UInt8).length : Nat) : Int) = 0 from rfl]
      go_wp2_with fail
      go_ret
      exact ⟨rfl, HR4.out.bel⟩

theorem walk (W : World) (room : Int) (_ : -9223372036854775808 ≤ room ∧ room ≤ 9223372036854775807) (A : Option Addr) (ln cap : Nat) (l : List Cl) (hle : ln ≤ cap) (hc : cap ≤ maxLen) (hn : l.length = ln) (hl : SrcL W A l) :
    Calls Try.prog 4 #[.int .i64 room, .slice A ln cap] W fun e w' => e = .returned (.bool true) ∧ Below W.heap.size W w' := by
  unfold maxLen at hc
  cases hf : fewB l with
  | true => exact walk_few W room A ln cap l hn (by omega) hl hf
  | false => exact walk_out W room A ln cap l hn (by omega) hl hf

set_option maxRecDepth 100000 in
set_option linter.unusedVariables false in
theorem lifted (os : Os) (started : os.Started) (H : Type) (enc : TypeId × Value → H) :
    ReturnsInHanded {} Try.checked os 4 .any (Rows.ringOrderSpec.pre6 enc Try.prog Try.f4 Rows.ringOrderRow.domain false) (Rows.ringOrderSpec.post enc Try.prog Try.f4 false true false false) := by
  refine returnsInHanded_of_change_sized (C := Try.checked) own started (by kernel_rfl) Try.func4
    (ChangeSpec.witness6 (enc := enc) (C := Try.checked) false ⟨#[], #[.int .i64 0, .slice none 0 0], []⟩ 8 (by kernel_rfl) (by kernel_rfl) (by kernel_rfl) (by kernel_rfl)) ?_
  intro W base args ds gs before hval0 hW hcnd hsz0 _
  have hval : ∀ (j : Nat) t v, Try.f4.params[j]? = some t → args[j]? = some v → Value.okWide Try.prog W .any base t v := hval0
  have hW' := hW
  obtain ⟨p, q, hA0, hV, rfl, hfz, hnd⟩ := hW
  have hA : DataW.TrodAll enc Try.prog W 0 (fun _ => true) true Try.f4.params.toList args.toList ds p := hA0
  have hsz : (DataW.weightsEach Try.prog (Try.f4.params.toList ++ Rows.ringOrderSpec.plain.varTypes Try.prog) (ds ++ gs)).all (· ≤ reachBytes) = true := hsz0
  rw [Try.params4] at hA hval hsz
  obtain ⟨v0, vs0, d0, ds0, p0, q0, hargs, rfl, rfl, h0, r0⟩ := trodAll_cons hA
  obtain ⟨v1, vs1, d1, ds1, p1, q1, rfl, rfl, rfl, h1, r1⟩ := trodAll_cons r0
  obtain ⟨rfl, rfl, rfl⟩ := trodAll_nil r1
  obtain rfl : args = #[v0, v1] := by cases args; simp_all
  obtain ⟨rfl, rfl⟩ := trodVars_none hV
  have k0 := h0
  have lt0 : ∀ x ∈ p0, x.block < W.heap.size := by obtain ⟨m, hm⟩ := k0; exact DataW.trod_lt m _ _ _ hm
  obtain ⟨a0, rfl, rfl, rfl, w0⟩ := open_int Try.underlying3 (hval 0 3 v0 rfl rfl) h0
  have b0 := int_of w0
  have k1 := h1
  have lt1 : ∀ x ∈ p1, x.block < W.heap.size := by obtain ⟨m, hm⟩ := k1; exact DataW.trod_lt m _ _ _ hm
  obtain ⟨A1, n1, cap1, xs1, rfl, le1, mx1, ln1, src1⟩ := open_calls (hval 1 22 v1 rfl rfl) h1 (reach_at hsz (j := 1) (t := 22) rfl rfl)
  clear hA0 hval0 hsz0
  refine (walk W a0 b0 A1 n1 cap1 xs1 le1 mx1 ln1 src1).mono fun e W' ⟨he, bel⟩ => ?_
  subst he
  exact ⟨_, rfl, _, _, _, [], _, [], hW', trodAll_mk1 (shut_bool Try.underlying4 _), (trodAll_cons_mk (Below.trod laidOut (by kernel_rfl) (of_decide_eq_true (by kernel_rfl)) k0 bel lt0) (trodAll_cons_mk (Below.trod laidOut (by kernel_rfl) (of_decide_eq_true (by kernel_rfl)) k1 bel lt1) trodAll_mk0)), rfl, bel.frame _, fun h => by cases h⟩

theorem over : Rows.ringOrderRow.holds Try.pinned (OpenSpec.ofChange Rows.ringOrderSpec) :=
  OpenClaim.holds_of_wide 4 Try.f4 rfl rfl rfl rfl rfl rfl rfl ⟨rfl, rfl, rfl, rfl, rfl⟩ rfl rfl rfl rfl rfl (by kernel_rfl) Try.func4 (by kernel_rfl)
    (of_decide_eq_true (by kernel_rfl)) (by unfold Func.isWrapper; first | (rw [if_pos (by decide +kernel)]; kernel_rfl) | (rw [if_neg (by decide +kernel)]; exact ⟨rfl, rfl⟩))
    (fun os started H enc _ => lifted os started H enc)

theorem proved : Rows.RingOrderSaid := over
#print axioms proved
end Go.Proofs.Ytpdihniimnoeoaa.ringOrder
