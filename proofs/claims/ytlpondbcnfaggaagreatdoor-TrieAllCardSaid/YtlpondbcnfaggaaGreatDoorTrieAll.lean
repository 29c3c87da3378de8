/-
  TrieAll: a rule for all counts just where no other one of its priority, or a greater one, does; else the small case comes out right. Conditions: none beyond the statement's own.
-/
import Derived.Test.YtlpondbcnfaggaaGreatDoorQ46
import Derived.Test.YtlpondbcnfaggaaGreatDoorQ27
import Derived.Test.YtlpondbcnfaggaaGreatDoorQ38
import Derived.Test.YtlpondbcnfaggaaGreatDoorQ39
import Derived.Test.YtlpondbcnfaggaaGreatDoorCards
import Derived.Test.YtlpondbcnfaggaaGreatDoorTie
set_option maxRecDepth 100000
namespace Go.Proofs.YtlpondbcnfaggaaGreatDoor.trieAll
open Go.ChangeMaps (open_string shut_string)
open Go.ChangeShapes Go.WideShapes Go.ChangeAt Go.RowKit Go.Proofs.YtlpondbcnfaggaaGreatDoor.Wd Go.Proofs.YtlpondbcnfaggaaGreatDoor.Asc Go.Proofs.YtlpondbcnfaggaaGreatDoor.Tx Go.Proofs.YtlpondbcnfaggaaGreatDoor.Tr Go.Proofs.YtlpondbcnfaggaaGreatDoor.Lift

theorem wf_len {l : List Ru} (h : ∀ r ∈ l, WfU r) : ∀ x ∈ l, x.pa.length ≤ 9223372036854775807 ∧ x.ap.length ≤ 9223372036854775807 := fun x hx => by
  have h1 := (h x hx).pa
  have h2 := (h x hx).ap
  unfold maxLen at h1 h2
  exact ⟨h1, h2⟩
theorem walk (W : World) (A0 : Option Addr) (n0 cap0 : Nat) (l0 : List Ru) (le0 : n0 ≤ cap0) (mx0 : cap0 ≤ maxLen) (ln0 : l0.length = n0) (wf0 : ∀ r ∈ l0, WfU r) (src0 : SrcU W A0 l0) (r1 : Ru) (_wf1 : WfU r1) (s2 : ByteArray) (hs2 : s2.size ≤ maxLen) (a3 : Int) (b3 : -9223372036854775808 ≤ a3 ∧ a3 ≤ 9223372036854775807) (hE : Ad.Env W.heap.size W) :
    Calls Tryz.prog 7 #[.slice A0 n0 cap0, .agg (ruC r1), .string s2, .int .i64 a3] W fun e w' => e = .returned (.bool true) ∧ Below W.heap.size W w' :=
  all_walk trC (small_any trC) W A0 n0 cap0 l0 r1 s2 a3 hE (by unfold maxLen at mx0; omega) ln0 (wf_len wf0) src0 (by unfold maxLen at hs2; exact hs2) b3

set_option maxRecDepth 100000 in
set_option linter.unusedVariables false in
theorem lifted (os : Os) (started : os.Started) (H : Type) (enc : TypeId × Value → H) :
    ReturnsInHanded {} Tryz.checked os 7 .any (fun w args => (Rows.trieAllSpec.pre enc Tryz.prog Tryz.f7 [] false w args ∧ laidMetH Tryz.prog laid5 w) ∧ sizedMet enc Tryz.prog Tryz.f7 (OpenSpec.ofChange Rows.trieAllSpec) false w args)
      (Rows.trieAllSpec.post enc Tryz.prog Tryz.f7 false true false false) := by
  refine returns_laid (C := Tryz.checked) (X := fun w _ => laidMetH Tryz.prog laid5 w) (fun _ _ _ hh h => h.of_heap hh) own started (by kernel_rfl) Tryz.func7
    (ChangeSpec.witness_shaped (enc := enc) (C := Tryz.checked) (os := os) (X := fun w _ => laidMetH Tryz.prog laid5 w) false (World.laidAll Tryz.prog os laid5) #[.slice none 0 0, .agg #[.bool false, .int .i64 0, .string .empty, .int .i64 0, .string .empty], .string .empty, .int .i64 0] 8 (World.laidAll_os _ _ _)
      (World.shaped_of_ZipB (by kernel_rfl) (by kernel_rfl)) (by kernel_rfl) (by kernel_rfl) (by kernel_rfl) (door_met5 os _)) ?_
  intro W base args ds gs before hval0 hW hL hshp
  have hE := env_of5 hL hshp
  have hval : ∀ (j : Nat) t v, Tryz.f7.params[j]? = some t → args[j]? = some v → Value.okWide Tryz.prog W .any base t v := hval0
  have hW' := hW
  obtain ⟨p, q, hA0, hV, rfl, hfz, hnd⟩ := hW
  have hA : DataW.TrodAll enc Tryz.prog W 0 (fun _ => true) true Tryz.f7.params.toList args.toList ds p := hA0
  rw [Tryz.params7] at hA hval
  obtain ⟨v0, vs0, d0, ds0, p0, q0, hargs, rfl, rfl, h0, r0⟩ := trodAll_cons hA
  obtain ⟨v1, vs1, d1, ds1, p1, q1, rfl, rfl, rfl, h1, r1⟩ := trodAll_cons r0
  obtain ⟨v2, vs2, d2, ds2, p2, q2, rfl, rfl, rfl, h2, r2⟩ := trodAll_cons r1
  obtain ⟨v3, vs3, d3, ds3, p3, q3, rfl, rfl, rfl, h3, r3⟩ := trodAll_cons r2
  obtain ⟨rfl, rfl, rfl⟩ := trodAll_nil r3
  obtain rfl : args = #[v0, v1, v2, v3] := by cases args; simp_all
  obtain ⟨rfl, rfl⟩ := trodVars_none hV
  have k0 := h0
  have lt0 : ∀ x ∈ p0, x.block < W.heap.size := by obtain ⟨m, hm⟩ := k0; exact DataW.trod_lt m _ _ _ hm
  obtain ⟨A0, n0, cap0, l0, rfl, le0, mx0, ln0, wf0, src0⟩ := open_rules (hval 0 29 v0 rfl rfl) h0
  have k1 := h1
  have lt1 : ∀ x ∈ p1, x.block < W.heap.size := by obtain ⟨m, hm⟩ := k1; exact DataW.trod_lt m _ _ _ hm
  obtain ⟨u1, rfl, wf1⟩ := open_rule (hval 1 23 v1 rfl rfl) h1
  have k2 := h2
  have lt2 : ∀ x ∈ p2, x.block < W.heap.size := by obtain ⟨m, hm⟩ := k2; exact DataW.trod_lt m _ _ _ hm
  obtain ⟨s2, rfl, rfl, rfl, hs2⟩ := open_string Tryz.underlying9 (hval 2 9 v2 rfl rfl) h2
  have k3 := h3
  have lt3 : ∀ x ∈ p3, x.block < W.heap.size := by obtain ⟨m, hm⟩ := k3; exact DataW.trod_lt m _ _ _ hm
  obtain ⟨a3, rfl, rfl, rfl, w3⟩ := open_int Tryz.underlying3 (hval 3 3 v3 rfl rfl) h3
  have b3 := int_of w3
  clear hA0 hval0
  refine (walk W A0 n0 cap0 l0 le0 mx0 ln0 wf0 src0 u1 wf1 s2 hs2 a3 b3 hE).mono fun e W' ⟨he, bel⟩ => ?_
  subst he
  exact ⟨_, rfl, _, _, _, [], _, [], hW', trodAll_mk1 (shut_bool Tryz.underlying4 _), (trodAll_cons_mk (Below.trod Lift.laidOut (by kernel_rfl) (of_decide_eq_true (by kernel_rfl)) k0 bel lt0) (trodAll_cons_mk (Below.trod Lift.laidOut (by kernel_rfl) (of_decide_eq_true (by kernel_rfl)) k1 bel lt1) (trodAll_cons_mk (Below.trod Lift.laidOut (by kernel_rfl) (of_decide_eq_true (by kernel_rfl)) k2 bel lt2) (trodAll_cons_mk (Below.trod Lift.laidOut (by kernel_rfl) (of_decide_eq_true (by kernel_rfl)) k3 bel lt3) trodAll_mk0)))), rfl, bel.frame _, fun h => by cases h⟩

theorem over : Rows.trieAllRow.holds Tryz.pinned (OpenSpec.ofChange Rows.trieAllSpec) :=
  OpenClaim.holds_of_wide 7 Tryz.f7 rfl rfl rfl rfl rfl rfl rfl ⟨rfl, rfl, rfl, rfl, rfl⟩ rfl rfl rfl rfl rfl (by kernel_rfl) Tryz.func7 (by kernel_rfl)
    (of_decide_eq_true (by kernel_rfl)) (by unfold Func.isWrapper; first | (rw [if_pos (by decide +kernel)]; kernel_rfl) | (rw [if_neg (by decide +kernel)]; exact ⟨rfl, rfl⟩))
    (fun os started H enc _ => lifted os started H enc)

theorem proved : Rows.TrieAllCardSaid :=
  Claim7.holds_tied_plain_at .later [] [.data, .data, .data, .data, .pinned] true (true, "c1cbc0602a579291c34d31b7dceaf42e1a65a4606df4e2d9bed64801871bc6af") false
    over (fun _ h => by cases h) (by kernel_rfl) (fun _ h => by cases h) trieAll_row_tie rfl ⟨rfl, rfl⟩ (by kernel_rfl) rfl
    (fun f fn hf hfn => by
      obtain rfl : f = 7 := Option.some.inj ((show Tryz.prog.funcNamed "hagioscope/hagioscopelaw18.TrieAll" = some 7 by kernel_rfl).symm.trans hf) |>.symm
      obtain rfl : fn = Tryz.f7 := (Option.some.inj (Tryz.func7.symm.trans hfn)).symm
      exact ⟨by kernel_rfl, fun j t ht => by
        rw [Tryz.params7] at ht
        have hm : t ∈ [29, 23, 9, 3] := by simpa using Array.mem_of_getElem? ht
        have hall : ([29, 23, 9, 3].all fun u => !Tryz.prog.wantsStandIn u) = true := by kernel_rfl
        exact (show Tryz.prog.wantsStandIn t = false by simpa using List.all_eq_true.1 hall t hm)⟩)
    (by kernel_rfl)
#print axioms proved
end Go.Proofs.YtlpondbcnfaggaaGreatDoor.trieAll
