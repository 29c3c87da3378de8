/-
  'A deframer, byte by byte' (hagioscopelaw07.RecordTakes) holds: whatever the bytes, the call returns true and leaves what was there as it was. No condition.
-/
import Derived.Test.YtgjgffiogknefaaRcSmall
import Derived.Test.YtgjgffiogknefaaRcRef
import Derived.Test.YtgjgffiogknefaaLift
import Derived.LoopTactic
namespace Go.Proofs.Ytgjgffiogknefaa.recordTakes
open Go.ChangeShapes Go.WideShapes Go.ChangeAt Go.RowKit
open Go.ChangeMaps (open_string shut_string)
open Go.Proofs.Ytgjgffiogknefaa.Wd Go.Proofs.Ytgjgffiogknefaa.Rc Go.Proofs.Ytgjgffiogknefaa.Lift

theorem quietL {P : Program} {f : FuncId} {args : Array Value} {w : World} {n : Nat} {v : Value} (h : Calls P f args (w.drewN n) fun e w' => e = .returned v ∧ w.drewN n = w') :
    Calls P f args (w.drewN n) fun e w'' => e = .returned v ∧ ∃ m, w'' = w.drewN m := h.mono fun _ _ ⟨he, hm⟩ => ⟨he, n, hm.symm⟩

theorem walk_out (w : World) (A : Option Addr) (n cap : Nat) (hc : n ≤ 9223372036854775807) (h : 20000 < n) :
    Calls Try.prog 3 #[.slice A n cap] w fun e w' => e = .returned (.bool true) ∧ Below w.heap.size w w' := by
  have h1 : (20000 : Int) < (n : Int) := by omega
  clear h
  go_enter Try.func3, Try.ntmps3
  go_wp2_with fail
  refine (small_any w).mono ?_
  rintro e w1 ⟨rfl, hb1⟩
  have HB1 := Lib.hid hb1
  clear hb1
  go_wp2_with fail
  refine (new_any w1).mono ?_
  rintro e w2 ⟨rfl, -, hb2⟩
  have HB2 := Lib.hid (HB1.out.trans (hb2.mono HB1.out.size))
  clear hb2
  go_wp2_with fail
  go_ret
  exact ⟨rfl, HB2.out.alloc (by exact HB2.out.size) _⟩

set_option maxRecDepth 100000 in
set_option maxHeartbeats 1000000 in
theorem walk_few (w : World) (A : Option Addr) (n cap : Nat) (xs : List UInt8) (hs : Src w A n xs) (hn : n ≤ 20000) :
    Calls Try.prog 3 #[.slice A n cap] w fun e w' => e = .returned (.bool true) ∧ Below w.heap.size w w' := by
  have HS := Lib.hid hs
  have HL := Lib.hid hs.1
  have hn1 : (n : Int) ≤ 20000 := by omega
  clear hs
  go_enter Try.func3, Try.ntmps3
  go_wp2_with fail
  refine (small_any w).mono ?_
  rintro e w1 ⟨rfl, hb1⟩
  have HB1 := Lib.hid hb1
  clear hb1
  go_wp2_with fail
  refine (new_any w1).mono ?_
  rintro e w2 ⟨rfl, hr2, hb2⟩
  have HB2 := Lib.hid (HB1.out.trans (hb2.mono HB1.out.size))
  have HY := Lib.hid (Rr.new w2)
  have HX := Lib.hid (show Rd (w2.alloc (.cells #[.int .i64 0, .int .i64 0, .int .i64 0, .int .i64 0] 29)) w1.heap.size (D.st 0) from Blk.alloc hr2 _)
  have HB3 := Lib.hid (show Below w.heap.size w (w2.alloc (.cells #[.int .i64 0, .int .i64 0, .int .i64 0, .int .i64 0] 29)) from HB2.out.alloc (by exact HB2.out.size) _)
  have hgy : w1.heap.size < w2.heap.size := Blk.lt hr2
  have hwg : w.heap.size ≤ w1.heap.size := HB1.out.size
  clear hr2 hb2 HB2 HB1
  go_wp2_with fail
  generalize w2.alloc (.cells #[.int .i64 0, .int .i64 0, .int .i64 0, .int .i64 0] 29) = w3 at *
  generalize w2.heap.size = y at *
  generalize w1.heap.size = g at *
  go_loopw [6] (fun i wr => ∃ k : Nat, k ≤ n ∧ i = .int .i64 (k : Int) ∧ Hid (Rd wr g (runD (D.st 0) (xs.take k))) ∧ Hid (Rr wr y (runD (D.st 0) (xs.take k))) ∧ Hid (Below w.heap.size w wr)) (fun i _ => n - (intOf i).toNat)
  case atStart => exact ⟨0, Nat.zero_le _, rfl, HX, HY, HB3⟩
  case round =>
    clear HX HY HB3
    obtain ⟨k, hk, rfl, HX, HY, HB⟩ := hrel
    by_cases hlt : k < n
    · have hki : (k : Int) < (n : Int) := by omega
      obtain ⟨ad, rfl, hadb, hc⟩ := HS.out.2 (by omega)
      obtain ⟨c, hx⟩ : ∃ c, xs[k]? = some c := ⟨_, List.getElem?_eq_getElem (by have := HL.out; omega)⟩
      have HCell := Lib.hid (fun w' (h : Below w.heap.size w w') => show w'.cell? (ad.add k) = some (.int .u8 (c.toNat : Int)) from (h.cell (by rw [block_of_add]; exact hadb)).trans (hc k c hx))
      have hcell := HCell.out wr HB.out
      have HR := Lib.hid (run_one (d := D.st 0) hx)
      have HOk := Lib.hid (runD_ok (OkD.st 0) (xs.take k))
      have HNn := Lib.hid (show (runD (D.st 0) (xs.take k)).n ≤ 4611686018427387904 from by
        have h := runD_n (D.st 0) (xs.take k)
        rw [List.length_take] at h
        have : (D.st 0).n = 0 := rfl
        omega)
      clear hc hx
      generalize runD (D.st 0) (xs.take k) = d at *
      have HOk2 := Lib.hid (stepD_ok HOk.out c)
      go_wp2_with fail
      refine (take_any HX.out HOk.out HNn.out c).mono ?_
      rintro e w4 ⟨rfl, hx4, hb4⟩
      have HX4 := Lib.hid hx4
      have HY4 := Lib.hid (HY.out.but hb4 (by simp; omega))
      have HB4 := Lib.hid (show Below w.heap.size w w4 from HB.out.trans (hb4.below (by simpa using hwg) HB.out.size))
      have hcell4 := HCell.out w4 HB4.out
      clear hx4 hb4 HX HY HB hcell
      go_wp2_with fail
      refine (rtake_any HY4.out HOk.out HNn.out).mono ?_
      rintro e w5 ⟨rfl, hy5, hb5⟩
      have HX5 := Lib.hid (show Rd w5 g _ from Blk.but HX4.out hb5 (by simp; omega))
      have HY5 := Lib.hid hy5
      have HB5 := Lib.hid (show Below w.heap.size w w5 from HB4.out.trans (hb5.below (by simp; omega) HB4.out.size))
      clear hy5 hb5 HX4 HY4 HB4 hcell4 HCell
      rw [← HR.out] at HX5 HY5 HOk2
      rw [← HR.out]
      have HX7 := Lib.hid (fun n => show Rd (w5.drewN n) g _ from HX5.out)
      have HY7 := Lib.hid (fun n => show Rr (w5.drewN n) y _ from HY5.out)
      have HB7 := Lib.hid (fun n => show Below w.heap.size w (w5.drewN n) from HB5.out.trans (((But.refl [] w5).drewN n).below (by simp) HB5.out.size))
      clear HB5
      obtain ⟨d2, hd2⟩ : ∃ d2, runD (D.st 0) (xs.take (k + 1)) = d2 := ⟨_, rfl⟩
      rw [hd2] at HX5 HY5 HOk2
      rw [hd2]
      generalize payD d = pb at *
      obtain ⟨a, l, m, e⟩ := d2
      obtain ⟨A2, S2, hY, -, -, hr⟩ := HY5.out
      have hq0 : w5.cell? ⟨y, 0, none⟩ = some (.int .i64 (A2 : Int)) := by rw [hY.cell]; rfl
      have hq2 : w5.cell? ⟨y, 2, none⟩ = some (.int .i64 (e : Int)) := by rw [hY.cell]; rfl
      have hq3 : w5.cell? ⟨y, 3, none⟩ = some (.int .i64 (m : Int)) := by rw [hY.cell]; rfl
      have HCn := Lib.hid (fun n => quietL (count_any (w := w5.drewN n) (d := ⟨a, l, m, e⟩) (by exact HX5.out)))
      have HOp := Lib.hid (fun n => quietL (open_any (w := w5.drewN n) (d := ⟨a, l, m, e⟩) (by exact HX5.out)))
      have hcs : (e ≠ 0 ∧ decide (e = 0 ∧ a ≠ 0) = false) ∨ (e = 0 ∧ A2 = 0 ∧ decide (e = 0 ∧ a ≠ 0) = false) ∨ (e = 0 ∧ 0 < A2 ∧ decide (e = 0 ∧ a ≠ 0) = true) := by
        by_cases h0 : e = 0
        · subst h0
          obtain ⟨r1, -, r3⟩ := hr rfl
          have ha5 : a ≤ 5 := HOk2.out.1
          simp only at r1 r3
          by_cases ha : a = 0
          · right; left
            refine ⟨rfl, ?_, by simp [ha]⟩
            rw [r1 (by omega), ha]
          · right; right
            refine ⟨rfl, ?_, by simp [ha]⟩
            by_cases h4 : a ≤ 4
            · rw [r1 h4]; omega
            · have := (r3 (by omega)).1; omega
        · left
          exact ⟨h0, by simp [h0]⟩
      clear hY hr HX5 HY5 HOk HOk2 HNn HR hd2
      simp only at HOp HCn
      generalize decide (e = 0 ∧ a ≠ 0) = ob at *
      rcases hcs with ⟨h1, h3⟩ | ⟨h1, h2, h3⟩ | ⟨h1, h2, h3⟩
      · subst h3
        have hei : (e : Int) ≠ 0 := by omega
        have hei2 : ((e : Int) == 0) = false := by rw [beq_eq_false_iff_ne]; exact hei
        cases pb
        all_goals
          go_wp2_with fail
          go_quiet (first | (go_at_call 13; exact HCn.out _) | (go_at_call 14; exact HOp.out _))
          go_wp2_with fail
          go_roundw
          case rel => exact ⟨k + 1, by omega, by go_num, HX7.out _, HY7.out _, HB7.out _⟩
          case measure => simp [intOf]; omega
      · subst h1 h2 h3
        cases pb
        all_goals
          go_wp2_with fail
          go_quiet (first | (go_at_call 13; exact HCn.out _) | (go_at_call 14; exact HOp.out _))
          go_wp2_with fail
          go_roundw
          case rel => exact ⟨k + 1, by omega, by go_num, HX7.out _, HY7.out _, HB7.out _⟩
          case measure => simp [intOf]; omega
      · subst h1 h3
        have hai : (0 : Int) < (A2 : Int) := by omega
        cases pb
        all_goals
          go_wp2_with fail
          go_quiet (first | (go_at_call 13; exact HCn.out _) | (go_at_call 14; exact HOp.out _))
          go_wp2_with fail
          go_roundw
          case rel => exact ⟨k + 1, by omega, by go_num, HX7.out _, HY7.out _, HB7.out _⟩
          case measure => simp [intOf]; omega
    obtain rfl : k = n := by omega
    go_wp2_with fail
    go_ret
    exact ⟨rfl, HB.out⟩

theorem walk (W : World) (A : Option Addr) (n cap : Nat) (xs : List UInt8) (h1 : n ≤ cap) (h2 : cap ≤ maxLen) (hs : Src W A n xs) :
    Calls Try.prog 3 #[.slice A n cap] W fun e w' => e = .returned (.bool true) ∧ Below W.heap.size W w' := by
  unfold maxLen at h2
  by_cases h : 20000 < n
  · exact walk_out W A n cap (by omega) h
  · exact walk_few W A n cap xs hs (by omega)

set_option maxRecDepth 100000 in
set_option linter.unusedVariables false in
theorem lifted (os : Os) (started : os.Started) (H : Type) (enc : TypeId × Value → H) :
    ReturnsInHanded {} Try.checked os 3 .any (Rows.recordTakesSpec.pre6 enc Try.prog Try.f3 Rows.recordTakesRow.domain false) (Rows.recordTakesSpec.post enc Try.prog Try.f3 false true false false) := by
  refine returnsInHanded_of_change (C := Try.checked) own started (by kernel_rfl) Try.func3
    (ChangeSpec.witness6 (enc := enc) (C := Try.checked) false ⟨#[], #[.slice none 0 0], []⟩ 8 (by kernel_rfl) (by kernel_rfl) (by kernel_rfl) (by kernel_rfl)) ?_
  intro W base args ds gs before hval0 hW hcnd _
  have hval : ∀ (j : Nat) t v, Try.f3.params[j]? = some t → args[j]? = some v → Value.okWide Try.prog W .any base t v := hval0
  have hW' := hW
  obtain ⟨p, q, hA0, hV, rfl, hfz, hnd⟩ := hW
  have hA : DataW.TrodAll enc Try.prog W 0 (fun _ => true) true Try.f3.params.toList args.toList ds p := hA0
  rw [Try.params3] at hA hval
  obtain ⟨v0, vs0, d0, ds0, p0, q0, hargs, rfl, rfl, h0, r0⟩ := trodAll_cons hA
  obtain ⟨rfl, rfl, rfl⟩ := trodAll_nil r0
  obtain rfl : args = #[v0] := by cases args; simp_all
  obtain ⟨rfl, rfl⟩ := trodVars_none hV
  have k0 := h0
  have lt0 : ∀ x ∈ p0, x.block < W.heap.size := by obtain ⟨m, hm⟩ := k0; exact DataW.trod_lt m _ _ _ hm
  obtain ⟨A0, n0, cap0, xs0, rfl, le0, mx0, src0⟩ := open_bytes (hval 0 22 v0 rfl rfl) h0
  clear hA0 hval0
  refine (walk W A0 n0 cap0 xs0 le0 mx0 src0).mono fun e W' ⟨he, bel⟩ => ?_
  subst he
  exact ⟨_, rfl, _, _, _, [], _, [], hW', trodAll_mk1 (shut_bool Try.underlying4 _), (trodAll_cons_mk (Below.trod laidOut (by kernel_rfl) (of_decide_eq_true (by kernel_rfl)) k0 bel lt0) trodAll_mk0), rfl, bel.frame _, fun h => by cases h⟩

theorem over : Rows.recordTakesRow.holds Try.pinned (OpenSpec.ofChange Rows.recordTakesSpec) :=
  OpenClaim.holds_of_wide 3 Try.f3 rfl rfl rfl rfl rfl rfl rfl ⟨rfl, rfl, rfl, rfl, rfl⟩ rfl rfl rfl rfl rfl (by kernel_rfl) Try.func3 (by kernel_rfl)
    (of_decide_eq_true (by kernel_rfl)) (by unfold Func.isWrapper; first | (rw [if_pos (by decide +kernel)]; kernel_rfl) | (rw [if_neg (by decide +kernel)]; exact ⟨rfl, rfl⟩))
    (fun os started H enc _ => lifted os started H enc)

theorem proved : Rows.RecordTakesSaid := over
#print axioms proved
end Go.Proofs.Ytgjgffiogknefaa.recordTakes
