/-
  'No message is whole ahead of as many bytes as it wants' (hagioscopelaw08.ShakeWants) holds: whatever the bytes, the call returns true and leaves what was there as it was. No condition.
-/
import Derived.Test.YtjbcdagkjonlfaaShSmall
import Derived.Test.YtjbcdagkjonlfaaLift
namespace Go.Proofs.Ytjbcdagkjonlfaa.shakeWants
open Go.ChangeShapes Go.WideShapes Go.ChangeAt Go.RowKit
open Go.ChangeMaps (open_string shut_string)
open Go.Proofs.Ytjbcdagkjonlfaa.Wd Go.Proofs.Ytjbcdagkjonlfaa.Sh Go.Proofs.Ytjbcdagkjonlfaa.Lift

theorem want_0 (h s : Nat) (b : List UInt8) : wantM ⟨h, s, b, 0⟩ = if h < 4 then 4 - h else s - b.length := by unfold wantM; simp
theorem want_step {m : M} (k : OkM m) (c : UInt8) : (stepM m c).e ≠ 0 ∨ wantM m ≤ wantM (stepM m c) + 1 := by
  by_cases he : m.e = 0
  · by_cases h4 : m.h < 4
    · have hw : wantM m = 4 - m.h := by unfold wantM; rw [if_neg (by omega), if_pos h4]
      rw [hw]
      unfold stepM
      rw [if_neg (by omega)]
      have hno := k.no h4
      repeat' split
      all_goals first
        | (left; simp; done)
        | (right; rw [want_0, if_pos (by decide)]; omega)
        | (right; rw [want_0, if_neg (by decide)]; omega)
        | omega
    · have h4 : m.h = 4 := by have := k.h4; omega
      by_cases hs : m.b.length < m.s
      · right
        rw [stepM_body he h4 hs c]
        unfold wantM
        rw [if_neg (by omega), if_neg (by omega), if_neg (by simp), if_neg (by simp)]
        simp only [List.length_append, List.length_cons, List.length_nil]
        omega
      · right
        rw [stepM_done h4 (by omega) c]
        omega
  · left
    rw [stepM_bad he]
    exact he
theorem want_run {m : M} (k : OkM m) (ys : List UInt8) : (runM m ys).e ≠ 0 ∨ wantM m ≤ wantM (runM m ys) + ys.length := by
  induction ys generalizing m with
  | nil => right; exact Nat.le_refl _
  | cons c cs ih =>
    rw [runM_cons]
    rcases ih (stepM_ok k c) with h | h
    · exact .inl h
    · rcases want_step k c with h2 | h2
      · left
        have : ∀ (m : M) (xs : List UInt8), m.e ≠ 0 → runM m xs = m := by
          intro m xs hm
          induction xs with
          | nil => rfl
          | cons c cs ih => rw [runM_cons, stepM_bad hm, ih]
        rw [this _ _ h2]
        exact h2
      · right
        rw [List.length_cons]
        omega
/-- behind k + 1 more bytes a whole message wanted no more than these -/
theorem wants {m : M} (k : OkM m) (ys : List UInt8) (h : wholeM (runM m ys) = true) : wantM m ≤ ys.length := by
  unfold wholeM at h
  rw [decide_eq_true_iff] at h
  rcases want_run k ys with h1 | h1
  · exact absurd h.1 h1
  · omega

theorem walk_out (w : World) (A : Option Addr) (n cap : Nat) (A2 : Option Addr) (n2 cap2 : Nat) (hc : n ≤ 9223372036854775807) (hc2 : n2 ≤ 9223372036854775807) (h : 2000 < n ∨ 2000 < n2) :
    Calls Try.prog 6 #[.slice A n cap, .slice A2 n2 cap2] w fun e w' => e = .returned (.bool true) ∧ Below w.heap.size w w' := by
  have h' : (2000 : Int) < (n : Int) ∨ ((n : Int) ≤ 2000 ∧ (2000 : Int) < (n2 : Int)) := by omega
  clear h
  rcases h' with h1 | ⟨h1, h2⟩
  all_goals
    go_enter Try.func6, Try.ntmps6
    go_wp2_with fail
    refine (small_any w).mono ?_
    rintro e w1 ⟨rfl, hb1⟩
    go_wp2_with fail
    refine (new_kept w w1 hb1 hb1.size).mono ?_
    rintro e w2 ⟨g, rfl, hk, -, -⟩
    have HB := Lib.hid hk.bel
    clear hk hb1
    go_wp2_with fail
    go_ret
    exact ⟨rfl, HB.out⟩

set_option maxRecDepth 100000 in
set_option maxHeartbeats 2000000 in
theorem walk_few (w : World) (A : Option Addr) (n cap : Nat) (xs : List UInt8) (A2 : Option Addr) (n2 cap2 : Nat) (ys : List UInt8) (hs : Src w A n xs) (hs2 : Src w A2 n2 ys) (hn : n ≤ 2000) (hn2 : n2 ≤ 2000) :
    Calls Try.prog 6 #[.slice A n cap, .slice A2 n2 cap2] w fun e w' => e = .returned (.bool true) ∧ Below w.heap.size w w' := by
  have HS := Lib.hid hs
  have HS2 := Lib.hid hs2
  have HL := Lib.hid hs.1
  have HL2 := Lib.hid hs2.1
  have hn1 : (n : Int) ≤ 2000 := by omega
  have hn3 : (n2 : Int) ≤ 2000 := by omega
  clear hs hs2
  go_enter Try.func6, Try.ntmps6
  go_wp2_with fail
  refine (small_any w).mono ?_
  rintro e w1 ⟨rfl, hb1⟩
  go_wp2_with fail
  refine (new_kept w w1 hb1 hb1.size).mono ?_
  rintro e w2 ⟨g, rfl, hk, -, -⟩
  have HK := Lib.hid hk
  clear hk hb1
  go_wp2_with fail
  go_loopw [7, 8] (fun wh i wr => ∃ (k : Nat) (p : Option Nat), k ≤ n ∧ wh = .bool (wholeM (runM M.st (xs.take k))) ∧ i = .int .i64 (k : Int) ∧ Hid (Kept w.heap.size w wr g p (runM M.st (xs.take k)))) (fun _ i _ => n - (intOf i).toNat)
  case atStart => exact ⟨0, none, Nat.zero_le _, rfl, rfl, HK⟩
  case round =>
    clear HK
    obtain ⟨k, p, hk, rfl, rfl, HK⟩ := hrel
    by_cases hlt : k < n
    · have hki : (k : Int) < (n : Int) := by omega
      obtain ⟨ad, rfl, hadb, hc⟩ := HS.out.2 (by omega)
      obtain ⟨c, hx⟩ : ∃ c, xs[k]? = some c := ⟨_, List.getElem?_eq_getElem (by have := HL.out; omega)⟩
      have hcell : wr.cell? (ad.add k) = some (.int .u8 (c.toNat : Int)) := (HK.out.bel.cell (by rw [block_of_add]; exact hadb)).trans (hc k c hx)
      have HR := Lib.hid (run_one (m := M.st) hx)
      clear hc hx
      generalize wholeM (runM M.st (xs.take k)) = wh at *
      go_wp2_with fail
      refine (take_kept HK.out c).mono ?_
      rintro e w5 ⟨rfl, p5, hk1, -, -⟩
      rw [← HR.out] at hk1
      rw [← HR.out]
      replace HK := Lib.hid hk1
      have HWh := Lib.hid (rfl : wholeM (runM M.st (xs.take (k + 1))) = wholeM (runM M.st (xs.take (k + 1))))
      generalize (runM M.st (xs.take (k + 1))).e = e5 at *
      clear hk1 HR hcell HWh
      go_wp2_with fail
      go_roundw
      case rel => exact ⟨k + 1, p5, by omega, rfl, by go_num, HK⟩
      case measure => simp [intOf]; omega
    · obtain rfl : k = n := by omega
      have HOk := Lib.hid HK.out.ok
      have HW := Lib.hid (show wholeM (runM M.st (xs.take k)) = true → wantM (runM M.st (xs.take k)) = 0 from fun h => by unfold wholeM at h; rw [decide_eq_true_iff] at h; exact h.2)
      have HM := Lib.hid (fun ys => wants (m := runM M.st (xs.take k)) HOk.out ys)
      generalize runM M.st (xs.take k) = m at *
      have hwl : wantM m ≤ 16711680 := by
        unfold wantM
        have := HOk.out.sz
        split
        · omega
        · split <;> omega
      obtain ⟨wh, hwh⟩ : ∃ wh, wholeM m = wh := ⟨_, rfl⟩
      rw [hwh] at HW
      rw [hwh]
      have HWh := Lib.hid hwh
      clear hwh
      go_wp2_with fail
      refine (want_kept HK.out).mono ?_
      rintro e w7 ⟨rfl, j, rfl⟩
      replace HK := Lib.hid (HK.out.drewN j)
      generalize wr.drewN j = w8 at *
      have hcs : (wh = false) ∨ (wh = true ∧ wantM m = 0) := by
        cases wh with
        | false => exact .inl rfl
        | true => exact .inr ⟨rfl, HW.out rfl⟩
      generalize hN : wantM m = N at *
      clear HW hN
      rcases hcs with rfl | ⟨rfl, rfl⟩
      · go_wp2_with fail
        go_loopw [12] (fun i wr => ∃ (j : Nat) (q : Option Nat), j ≤ n2 ∧ i = .int .i64 (j : Int) ∧ Hid (Kept w.heap.size w wr g q (runM m (ys.take j)))) (fun i _ => n2 - (intOf i).toNat)
        case atStart => exact ⟨0, p, Nat.zero_le _, rfl, HK⟩
        case round =>
          clear HK
          obtain ⟨j, q, hj, rfl, HK⟩ := hrel
          by_cases hlt : j < n2
          · have hji : (j : Int) < (n2 : Int) := by omega
            by_cases hlN : j < N
            · have hjN : (j : Int) < (N : Int) := by omega
              obtain ⟨ad, rfl, hadb, hc⟩ := HS2.out.2 (by omega)
              obtain ⟨c, hx⟩ : ∃ c, ys[j]? = some c := ⟨_, List.getElem?_eq_getElem (by have := HL2.out; omega)⟩
              have hcell : wr.cell? (ad.add j) = some (.int .u8 (c.toNat : Int)) := (HK.out.bel.cell (by rw [block_of_add]; exact hadb)).trans (hc j c hx)
              have HR := Lib.hid (run_one (m := m) hx)
              have HX := Lib.hid (show wholeM (runM m (ys.take (j + 1))) = true → decide ((j : Int) < (N : Int) - 1) = false from fun h => decide_eq_false (by
                have h1 := HM.out _ h
                rw [List.length_take] at h1
                omega))
              clear hc hx
              go_wp2_with fail
              refine (take_kept HK.out c).mono ?_
              rintro e w9 ⟨rfl, p9, hk9, -, -⟩
              rw [← HR.out] at hk9
              rw [← HR.out]
              replace HK := Lib.hid hk9
              obtain ⟨x, hx⟩ : ∃ x, wholeM (runM m (ys.take (j + 1))) = x := ⟨_, rfl⟩
              rw [hx] at HX
              rw [hx]
              generalize (runM m (ys.take (j + 1))).e = e5 at *
              clear hk9 HR hcell hx
              cases x with
              | true =>
                have hd := HX.out rfl
                clear HX
                go_wp2_with fail
                go_roundw
                case rel => exact ⟨j + 1, p9, by omega, by go_num, HK⟩
                case measure => simp [intOf]; omega
              | false =>
                clear HX
                go_wp2_with fail
                go_roundw
                case rel => exact ⟨j + 1, p9, by omega, by go_num, HK⟩
                case measure => simp [intOf]; omega
            · have hjN : ¬ (j : Int) < (N : Int) := by omega
              have HB := Lib.hid HK.out.bel
              go_wp2_with fail
              go_ret
              exact ⟨rfl, HB.out⟩
          · obtain rfl : j = n2 := by omega
            have HB := Lib.hid HK.out.bel
            go_wp2_with fail
            go_ret
            exact ⟨rfl, HB.out⟩
      · go_wp2_with fail
        go_loopw [12] (fun i wr => ∃ (j : Nat), j = 0 ∧ i = .int .i64 (j : Int) ∧ Hid (Below w.heap.size w wr)) (fun i _ => n2 - (intOf i).toNat)
        case atStart => exact ⟨0, rfl, rfl, Lib.hid HK.out.bel⟩
        case round =>
          clear HK
          obtain ⟨j, rfl, rfl, HB⟩ := hrel
          by_cases hlt : 0 < n2
          · have hji : (0 : Int) < (n2 : Int) := by omega
            go_wp2_with fail
            go_ret
            exact ⟨rfl, HB.out⟩
          · obtain rfl : n2 = 0 := by omega
            go_wp2_with fail
            go_ret
            exact ⟨rfl, HB.out⟩

theorem walk (W : World) (A : Option Addr) (n cap : Nat) (xs : List UInt8) (h1 : n ≤ cap) (h2 : cap ≤ maxLen) (hs : Src W A n xs)
    (A2 : Option Addr) (n2 cap2 : Nat) (ys : List UInt8) (h3 : n2 ≤ cap2) (h4 : cap2 ≤ maxLen) (hs2 : Src W A2 n2 ys) :
    Calls Try.prog 6 #[.slice A n cap, .slice A2 n2 cap2] W fun e w' => e = .returned (.bool true) ∧ Below W.heap.size W w' := by
  unfold maxLen at h2 h4
  by_cases h : 2000 < n ∨ 2000 < n2
  · exact walk_out W A n cap A2 n2 cap2 (by omega) (by omega) h
  · exact walk_few W A n cap xs A2 n2 cap2 ys hs hs2 (by omega) (by omega)

set_option maxRecDepth 100000 in
set_option linter.unusedVariables false in
theorem lifted (os : Os) (started : os.Started) (H : Type) (enc : TypeId × Value → H) :
    ReturnsInHanded {} Try.checked os 6 .any (Rows.shakeWantsSpec.pre6 enc Try.prog Try.f6 Rows.shakeWantsRow.domain false) (Rows.shakeWantsSpec.post enc Try.prog Try.f6 false true false false) := by
  refine returnsInHanded_of_change (C := Try.checked) own started (by kernel_rfl) Try.func6
    (ChangeSpec.witness6 (enc := enc) (C := Try.checked) false ⟨#[], #[.slice none 0 0, .slice none 0 0], []⟩ 8 (by kernel_rfl) (by kernel_rfl) (by kernel_rfl) (by kernel_rfl)) ?_
  intro W base args ds gs before hval0 hW hcnd _
  have hval : ∀ (j : Nat) t v, Try.f6.params[j]? = some t → args[j]? = some v → Value.okWide Try.prog W .any base t v := hval0
  have hW' := hW
  obtain ⟨p, q, hA0, hV, rfl, hfz, hnd⟩ := hW
  have hA : DataW.TrodAll enc Try.prog W 0 (fun _ => true) true Try.f6.params.toList args.toList ds p := hA0
  rw [Try.params6] at hA hval
  obtain ⟨v0, vs0, d0, ds0, p0, q0, hargs, rfl, rfl, h0, r0⟩ := trodAll_cons hA
  obtain ⟨v1, vs1, d1, ds1, p1, q1, rfl, rfl, rfl, h1, r1⟩ := trodAll_cons r0
  obtain ⟨rfl, rfl, rfl⟩ := trodAll_nil r1
  obtain rfl : args = #[v0, v1] := by cases args; simp_all
  obtain ⟨rfl, rfl⟩ := trodVars_none hV
  have k0 := h0
  have lt0 : ∀ x ∈ p0, x.block < W.heap.size := by obtain ⟨m, hm⟩ := k0; exact DataW.trod_lt m _ _ _ hm
  obtain ⟨A0, n0, cap0, xs0, rfl, le0, mx0, src0⟩ := open_bytes (hval 0 22 v0 rfl rfl) h0
  have k1 := h1
  have lt1 : ∀ x ∈ p1, x.block < W.heap.size := by obtain ⟨m, hm⟩ := k1; exact DataW.trod_lt m _ _ _ hm
  obtain ⟨A1, n1, cap1, xs1, rfl, le1, mx1, src1⟩ := open_bytes (hval 1 22 v1 rfl rfl) h1
  clear hA0 hval0
  refine (walk W A0 n0 cap0 xs0 le0 mx0 src0 A1 n1 cap1 xs1 le1 mx1 src1).mono fun e W' ⟨he, bel⟩ => ?_
  subst he
  exact ⟨_, rfl, _, _, _, [], _, [], hW', trodAll_mk1 (shut_bool Try.underlying4 _), (trodAll_cons_mk (Below.trod laidOut (by kernel_rfl) (of_decide_eq_true (by kernel_rfl)) k0 bel lt0) (trodAll_cons_mk (Below.trod laidOut (by kernel_rfl) (of_decide_eq_true (by kernel_rfl)) k1 bel lt1) trodAll_mk0)), rfl, bel.frame _, fun h => by cases h⟩

theorem over : Rows.shakeWantsRow.holds Try.pinned (OpenSpec.ofChange Rows.shakeWantsSpec) :=
  OpenClaim.holds_of_wide 6 Try.f6 rfl rfl rfl rfl rfl rfl rfl ⟨rfl, rfl, rfl, rfl, rfl⟩ rfl rfl rfl rfl rfl (by kernel_rfl) Try.func6 (by kernel_rfl)
    (of_decide_eq_true (by kernel_rfl)) (by unfold Func.isWrapper; first | (rw [if_pos (by decide +kernel)]; kernel_rfl) | (rw [if_neg (by decide +kernel)]; exact ⟨rfl, rfl⟩))
    (fun os started H enc _ => lifted os started H enc)

theorem proved : Rows.ShakeWantsSaid := over
#print axioms proved
end Go.Proofs.Ytjbcdagkjonlfaa.shakeWants
