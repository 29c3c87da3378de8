/-
  'Bytes go round and round as they came' (hagioscopelaw05.RingTurns) holds: whatever the room, the number and the bytes, the call returns true and leaves what was there as it was. No condition.
-/
import Derived.Test.YtpdihniimnoeoaaRgSmall
import Derived.Test.YtpdihniimnoeoaaLift
import Derived.Deep.RegionHeld
namespace Go.Proofs.Ytpdihniimnoeoaa.ringTurns
open Go.ChangeShapes Go.WideShapes Go.ChangeAt Go.RowKit
open Go.ChangeMaps (open_string shut_string)
open Go.Proofs.Ytpdihniimnoeoaa.Wd Go.Proofs.Ytpdihniimnoeoaa.Rg Go.Proofs.Ytpdihniimnoeoaa.Lift

theorem walk_out (w : World) (room n : Int) (A : Option Addr) (m c : Nat) (hmx : m ≤ 9223372036854775807) (h : n < 0 ∨ 60 < n ∨ 100 < m ∨ room < (m : Int)) :
    Calls Try.prog 8 #[.int .i64 room, .int .i64 n, .slice A m c] w fun e w' => e = .returned (.bool true) ∧ Below w.heap.size w w' := by
  have h' : n < 0 ∨ (0 ≤ n ∧ 60 < n) ∨ (0 ≤ n ∧ n ≤ 60 ∧ (100 : Int) < (m : Int)) ∨ (0 ≤ n ∧ n ≤ 60 ∧ (m : Int) ≤ 100 ∧ room < (m : Int)) := by omega
  clear h
  rcases h' with h1 | ⟨h1, h2⟩ | ⟨h1, h2, h3⟩ | ⟨h1, h2, h3, h4⟩
  all_goals
    go_enter Try.func8, Try.ntmps8
    go_wp2_with fail
    refine (small_any w).mono ?_
    rintro e w1 ⟨rfl, hb1⟩
    go_wp2_with fail
    refine (new_held room w w1 hb1 hb1.size).mono ?_
    rintro e w2 ⟨g, p, rfl, hr, -⟩
    have HL := Lib.hid hr.bel
    clear hr
    go_wp2_with fail
    go_ret
    exact ⟨rfl, HL.out⟩

theorem push_all {B : Nat} {w w1 : World} {g p R : Nat} (h : Held B w w1 g p R []) (hR : R ≤ 65536) (A : Option Addr) (m c : Nat) (b : List UInt8) (hs : Src w1 A m b) (hmc : m ≤ c) (hmR : m ≤ R) (hA : 0 < m → ∀ x, A = some x → x.block ≠ g ∧ x.block ≠ p) :
    Calls Try.prog 13 #[.pointer (some ⟨g, 0, none⟩), .slice A m c] w1 fun e w' => e = .returned (.int .i64 (m : Int)) ∧ Held B w w' g p R b ∧ But [g, p] w1 w' :=
  (push_held h hR A m c b hs hmc hA).mono fun e w' ⟨he, hr, hb⟩ => by
    have e1 : roomN R ([] : List UInt8).length m = m := by unfold roomN; simp; omega
    rw [e1] at he hr
    rw [List.nil_append, List.take_of_length_le (by rw [hs.1]; omega)] at hr
    exact ⟨he, hr, hb⟩
theorem see_all {B : Nat} {w w1 : World} {g p R m : Nat} {b : List UInt8} (h : Held B w w1 g p R b) (hR : R ≤ 65536) (hm : b.length = m) :
    Calls Try.prog 17 #[.pointer (some ⟨g, 0, none⟩), .int .i64 (m : Int)] w1 fun e w' => ∃ o, e = .returned (.slice (some ⟨o, 0, none⟩) m m) ∧ Src w' (some ⟨o, 0, none⟩) m b ∧ Held B w w' g p R b ∧ But [] w1 w' :=
  (see_held h hR (m : Int)).mono fun e w' ⟨o, he, hf, hr, hb⟩ => by
    have e1 : b.take (clampN (m : Int) b.length) = b := List.take_of_length_le (by rw [hm, clampN_len]; omega)
    rw [e1] at he hf
    rw [hm] at he
    refine ⟨o, he, ?_, hr, hb⟩
    have := hf.src
    rwa [hm] at this
theorem pop_all {B : Nat} {w w1 : World} {g p R m : Nat} {b : List UInt8} (h : Held B w w1 g p R b) (hR : R ≤ 65536) (hm : b.length = m) (h1 : m ≤ 1000) :
    Calls Try.prog 15 #[.pointer (some ⟨g, 0, none⟩), .int .i64 1000] w1 fun e w' => ∃ o, e = .returned (.slice (some ⟨o, 0, none⟩) m m) ∧ Src w' (some ⟨o, 0, none⟩) m b ∧ Held B w w' g p R [] ∧ But [g] w1 w' :=
  (pop_held h hR 1000).mono fun e w' ⟨o, he, hf, hr, hb⟩ => by
    have e0 : clampN 1000 b.length = b.length := by
      rw [hm]
      have := clampN_len 1000 m
      rw [show ((1000 : Nat) : Int) = 1000 from rfl] at this
      rw [this]; omega
    have e1 : b.take (clampN 1000 b.length) = b := List.take_of_length_le (by rw [e0]; omega)
    have e2 : b.drop (clampN 1000 b.length) = [] := List.drop_of_length_le (by rw [e0]; omega)
    rw [e1] at he hf
    rw [e2] at hr
    rw [hm] at he
    refine ⟨o, he, ?_, hr, hb⟩
    have := hf.src
    rwa [hm] at this

set_option maxRecDepth 100000 in
set_option maxHeartbeats 1000000 in
theorem walk_in_bounds (w : World) (room n : Int) (A : Option Addr) (m c : Nat) (b : List UInt8) (hs : Src w A m b) (hmc : m ≤ c) (h0 : 0 ≤ n) (h1 : n ≤ 60) (h2 : m ≤ 100) (h3 : (m : Int) ≤ room) :
    Calls Try.prog 8 #[.int .i64 room, .int .i64 n, .slice A m c] w fun e w' => e = .returned (.bool true) ∧ Below w.heap.size w w' := by
  have hR := roomR_le room
  have HS := Lib.hid hs
  have hmR : m ≤ roomR room := by
    unfold roomR clampN withinI
    rw [if_neg (by omega)]
    split <;> omega
  have HBL := Lib.hid hs.1
  have h100 : (m : Int) ≤ 100 := by omega
  clear hs
  obtain ⟨N, rfl⟩ : ∃ N : Nat, n = (N : Int) := ⟨n.toNat, by omega⟩
  go_enter Try.func8, Try.ntmps8
  go_wp2_with fail
  refine (small_any w).mono ?_
  rintro e w1 ⟨rfl, hb1⟩
  go_wp2_with fail
  refine (new_held room w w1 hb1 hb1.size).mono ?_
  rintro e w2 ⟨g, p, rfl, hr, -, hg, hp⟩
  have HR := Lib.hid hr
  have HA := Lib.hid (show 0 < m → ∀ x, A = some x → x.block ≠ g ∧ x.block ≠ p from fun h0 x hx => by
    obtain ⟨ad, e, hlt, _⟩ := HS.out.2 h0
    rw [hx] at e
    injection e with e
    subst e
    have := hb1.size
    omega)
  clear hb1
  generalize roomR room = R at *
  go_wp2_with fail
  have hz0 := hr.hB
  have hsz2 := hr.bel.size
  clear hr
  go_loopw [9] (fun i wr => ∃ k : Nat, k ≤ N ∧ i = .int .i64 (k : Int) ∧ Hid (Held w.heap.size w wr g p R [])) (fun i _ => N - (intOf i).toNat)
  case atStart => exact ⟨0, Nat.zero_le _, rfl, HR⟩
  case round =>
    clear HR
    obtain ⟨k, hk, rfl, HR⟩ := hrel
    by_cases hlt : k < N
    · have hltn : (k : Int) < (N : Int) := by omega
      have hs1 : Src wr A m b := HS.out.below HR.out.bel
      have HS1 := Lib.hid hs1
      have kb := conv8 (w := wr.drew) (c := c) (show Src wr.drew A m b from hs1)
      clear hs1
      go_wp2_with fail
      go_region_held (fun w' => (convert 29 9 (.slice A m c)).run Try.prog w' = .ok (.string ⟨b.toArray⟩) w') (first | exact kb | exact kb2 | exact kb3 | exact kb4)
        (first
          | (go_at_call 13; refine (push_all (HR.out.drewN 1) hR A m c b (by exact HS1.out) hmc hmR HA.out).mono ?_; rintro e w3 ⟨rfl, hr3, hb3⟩; have hs3 : Src w3 A m b := HS.out.below hr3.bel; have kb2 := conv8 (c := c) hs3; have HR3 := Lib.hid hr3; clear hr3 hb3 hs3)
          | (go_at_call 17; refine (see_all HR3.out hR HBL.out).mono ?_; rintro e w4 ⟨o4, rfl, hs4, hr4, hb4⟩; have kb3 := conv8 (c := c) (show Src w4 A m b from HS.out.below hr4.bel); have ko4 := conv8 (c := m) hs4; have HR4 := Lib.hid hr4; clear hs4 hr4 hb4)
          | (go_at_call 15; refine (pop_all HR4.out hR HBL.out (by omega)).mono ?_; rintro e w5 ⟨o5, rfl, hs5, hr5, hb5⟩; have kb4 := conv8 (c := c) (show Src w5 A m b from HS.out.below hr5.bel); have ko5 := conv8 (c := m) hs5; have HR5 := Lib.hid hr5; clear hs5 hr5 hb5)
          | (go_at_call 19; refine (len_any g p R [] _ HR5.out.rg).mono ?_; rintro e w6 ⟨rfl, rfl⟩; rw [show ((([] : List UInt8).length : Nat) : Int) = 0 from rfl]))
      all_goals (
        go_wp2_with fail
        go_roundw
        case rel => exact ⟨k + 1, by omega, by go_num, HR5⟩
        case measure => simp [intOf]; omega)
    · obtain rfl : k = N := by omega
      go_wp2_with fail
      go_ret
      exact ⟨rfl, HR.out.bel⟩

theorem walk (W : World) (room : Int) (_ : -9223372036854775808 ≤ room ∧ room ≤ 9223372036854775807) (n : Int) (_ : -9223372036854775808 ≤ n ∧ n ≤ 9223372036854775807) (A : Option Addr) (m c : Nat) (b : List UInt8) (hmc : m ≤ c) (hc : c ≤ maxLen) (hs : Src W A m b) :
    Calls Try.prog 8 #[.int .i64 room, .int .i64 n, .slice A m c] W fun e w' => e = .returned (.bool true) ∧ Below W.heap.size W w' := by
  unfold maxLen at hc
  by_cases h : n < 0 ∨ 60 < n ∨ 100 < m ∨ room < (m : Int)
  · exact walk_out W room n A m c (by omega) h
  · exact walk_in_bounds W room n A m c b hs hmc (by omega) (by omega) (by omega) (by omega)

set_option maxRecDepth 100000 in
set_option linter.unusedVariables false in
theorem lifted (os : Os) (started : os.Started) (H : Type) (enc : TypeId × Value → H) :
    ReturnsInHanded {} Try.checked os 8 .any (Rows.ringTurnsSpec.pre6 enc Try.prog Try.f8 Rows.ringTurnsRow.domain false) (Rows.ringTurnsSpec.post enc Try.prog Try.f8 false true false false) := by
  refine returnsInHanded_of_change (C := Try.checked) own started (by kernel_rfl) Try.func8
    (ChangeSpec.witness6 (enc := enc) (C := Try.checked) false ⟨#[], #[.int .i64 0, .int .i64 0, .slice none 0 0], []⟩ 8 (by kernel_rfl) (by kernel_rfl) (by kernel_rfl) (by kernel_rfl)) ?_
  intro W base args ds gs before hval0 hW hcnd _
  have hval : ∀ (j : Nat) t v, Try.f8.params[j]? = some t → args[j]? = some v → Value.okWide Try.prog W .any base t v := hval0
  have hW' := hW
  obtain ⟨p, q, hA0, hV, rfl, hfz, hnd⟩ := hW
  have hA : DataW.TrodAll enc Try.prog W 0 (fun _ => true) true Try.f8.params.toList args.toList ds p := hA0
  rw [Try.params8] at hA hval
  obtain ⟨v0, vs0, d0, ds0, p0, q0, hargs, rfl, rfl, h0, r0⟩ := trodAll_cons hA
  obtain ⟨v1, vs1, d1, ds1, p1, q1, rfl, rfl, rfl, h1, r1⟩ := trodAll_cons r0
  obtain ⟨v2, vs2, d2, ds2, p2, q2, rfl, rfl, rfl, h2, r2⟩ := trodAll_cons r1
  obtain ⟨rfl, rfl, rfl⟩ := trodAll_nil r2
  obtain rfl : args = #[v0, v1, v2] := by cases args; simp_all
  obtain ⟨rfl, rfl⟩ := trodVars_none hV
  have k0 := h0
  have lt0 : ∀ x ∈ p0, x.block < W.heap.size := by obtain ⟨m, hm⟩ := k0; exact DataW.trod_lt m _ _ _ hm
  obtain ⟨a0, rfl, rfl, rfl, w0⟩ := open_int Try.underlying3 (hval 0 3 v0 rfl rfl) h0
  have b0 := int_of w0
  have k1 := h1
  have lt1 : ∀ x ∈ p1, x.block < W.heap.size := by obtain ⟨m, hm⟩ := k1; exact DataW.trod_lt m _ _ _ hm
  obtain ⟨a1, rfl, rfl, rfl, w1⟩ := open_int Try.underlying3 (hval 1 3 v1 rfl rfl) h1
  have b1 := int_of w1
  have k2 := h2
  have lt2 : ∀ x ∈ p2, x.block < W.heap.size := by obtain ⟨m, hm⟩ := k2; exact DataW.trod_lt m _ _ _ hm
  obtain ⟨A2, n2, cap2, xs2, rfl, le2, mx2, src2⟩ := open_bytes (hval 2 29 v2 rfl rfl) h2
  clear hA0 hval0
  refine (walk W a0 b0 a1 b1 A2 n2 cap2 xs2 le2 mx2 src2).mono fun e W' ⟨he, bel⟩ => ?_
  subst he
  exact ⟨_, rfl, _, _, _, [], _, [], hW', trodAll_mk1 (shut_bool Try.underlying4 _), (trodAll_cons_mk (Below.trod laidOut (by kernel_rfl) (of_decide_eq_true (by kernel_rfl)) k0 bel lt0) (trodAll_cons_mk (Below.trod laidOut (by kernel_rfl) (of_decide_eq_true (by kernel_rfl)) k1 bel lt1) (trodAll_cons_mk (Below.trod laidOut (by kernel_rfl) (of_decide_eq_true (by kernel_rfl)) k2 bel lt2) trodAll_mk0))), rfl, bel.frame _, fun h => by cases h⟩

theorem over : Rows.ringTurnsRow.holds Try.pinned (OpenSpec.ofChange Rows.ringTurnsSpec) :=
  OpenClaim.holds_of_wide 8 Try.f8 rfl rfl rfl rfl rfl rfl rfl ⟨rfl, rfl, rfl, rfl, rfl⟩ rfl rfl rfl rfl rfl (by kernel_rfl) Try.func8 (by kernel_rfl)
    (of_decide_eq_true (by kernel_rfl)) (by unfold Func.isWrapper; first | (rw [if_pos (by decide +kernel)]; kernel_rfl) | (rw [if_neg (by decide +kernel)]; exact ⟨rfl, rfl⟩))
    (fun os started H enc _ => lifted os started H enc)

theorem proved : Rows.RingTurnsSaid := over
#print axioms proved
end Go.Proofs.Ytpdihniimnoeoaa.ringTurns
