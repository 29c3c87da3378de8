/-
  FieldTells: of any fields, 50 at most, with names and texts not too long, package field's Print and Find answer as the document's; else the small case comes out right. Conditions: none beyond the statement's own.
-/
import Derived.Test.YtkbankjnfedkdaaFdSmall
import Derived.Test.YtkbankjnfedkdaaLiftFd
set_option maxRecDepth 100000
namespace Go.Proofs.Ytkbankjnfedkdaa.fieldTells
open Go.ChangeMaps (open_string)
open Go.ChangeShapes Go.WideShapes Go.ChangeAt Go.RowKit Go.Proofs.Ytkbankjnfedkdaa.Wd Go.Proofs.Ytkbankjnfedkdaa.Asc Go.Proofs.Ytkbankjnfedkdaa.Tx Go.Proofs.Ytkbankjnfedkdaa.St Go.Proofs.Ytkbankjnfedkdaa.Fd Go.Proofs.Ytkbankjnfedkdaa.Lift

theorem short_next {l : List Fld} {k : Nat} {f : Fld} (h : ∀ g ∈ l.take k, g.text.length ≤ 1000) (hf : l[k]? = some f) (h1 : f.text.length ≤ 1000) : ∀ g ∈ l.take (k + 1), g.text.length ≤ 1000 := fun g hg => by
  rw [take_snoc hf, List.mem_append] at hg
  rcases hg with hg | hg
  · exact h g hg
  · rw [List.mem_singleton] at hg
    rw [hg]; exact h1

set_option linter.unusedSimpArgs false in
set_option maxHeartbeats 8000000 in
theorem walk (W : World) (A : Option Addr) (n cap : Nat) (l : List Fld) (le0 : n ≤ cap) (mx : cap ≤ maxLen) (hln : l.length = n) (hsl : ∀ f ∈ l, ShortF reachBytes f) (hsrc : SrcF W A l) (S : ByteArray) (hS0 : S.size ≤ maxLen) (hE : Env W.heap.size W) :
    Calls Try.prog 4 #[.slice A n cap, .string S] W fun e w' => e = .returned (.bool true) ∧ Below W.heap.size W w' := by
  have sS : S.size ≤ 9223372036854775807 := hS0
  have sn : n ≤ 9223372036854775807 := Nat.le_trans le0 mx
  have HE := Lib.hid hE
  have HS := Lib.hid (fun w hE => small_any (N := W.heap.size) w hE)
  have HSrc := Lib.hid hsrc
  have HN := Lib.hid hln
  have HSh := Lib.hid hsl
  clear hE hS0 hsrc hln hsl le0 mx
  go_enter Try.func4, Try.ntmps4
  go_wp2_with fail
  refine (HS.out W HE.out).mono ?_
  rintro e w1 ⟨rfl, hb⟩
  have HL1 := Lib.hid hb
  clear hb HS
  by_cases h1 : 50 < n
  · have i1 : (50 : Int) < (n : Int) := by omega
    go_wp2_with fail
    go_ret
    exact ⟨rfl, HL1.out⟩
  have i1 : ¬ (50 : Int) < (n : Int) := by omega
  by_cases h2 : 200 < S.size
  · have i2 : (200 : Int) < (S.size : Int) := by omega
    go_wp2_with fail
    go_ret
    exact ⟨rfl, HL1.out⟩
  have i2 : ¬ (200 : Int) < (S.size : Int) := by omega
  have zn : n ≤ 50 := by omega
  have zS : S.size ≤ 200 := by omega
  clear h1 h2 sS sn
  go_wp2_with fail
  go_loopw [6] (fun x wr => ∃ (k : Nat) (ww : World), ww = wr ∧ x = .int .i64 k ∧ k ≤ n ∧ Hid (Below W.heap.size W ww) ∧ Hid (∀ g ∈ l.take k, g.text.length ≤ 1000)) (fun x _ => n - (intOf x).toNat)
  case atStart => exact ⟨0, _, rfl, rfl, Nat.zero_le _, HL1, Lib.hid (by simp)⟩
  case round =>
    obtain ⟨k, ww, rfl, rfl, hk, HL, HT⟩ := hrel
    by_cases hlt : k < n
    · have hki : (k : Int) < (n : Int) := by omega
      obtain ⟨f, g, o, hf, rfl, hgw, c0, c1⟩ := HSrc.out.get (k := k) (by rw [HN.out]; exact hlt) HL.out
      have hsh := HSh.out f (List.mem_of_getElem? hf)
      have HF := Lib.hid hf
      obtain ⟨X, hX⟩ : ∃ X, str f.name = X := ⟨_, rfl⟩
      obtain ⟨Y, hY⟩ : ∃ Y, str f.text = Y := ⟨_, rfl⟩
      have hC : fdC f = #[.string X, .string Y] := by rw [← hX, ← hY]; rfl
      have zX : X.size = f.name.length := by rw [← hX, str_size]
      have zY : Y.size = f.text.length := by rw [← hY, str_size]
      have sX : X.size ≤ 140737488351232 := by rw [zX]; exact hsh.1
      have sY : Y.size ≤ 140737488351232 := by rw [zY]; exact hsh.2
      rw [hX] at c0
      rw [hY] at c1
      clear hf hX hY hsh
      by_cases h3 : 500 < X.size
      · have i3 : (500 : Int) < (X.size : Int) := by omega
        go_wp2_with fail
        go_ret
        exact ⟨rfl, HL.out⟩
      have i3 : ¬ (500 : Int) < (X.size : Int) := by omega
      by_cases h4 : 1000 < Y.size
      · have i4 : (1000 : Int) < (Y.size : Int) := by omega
        go_wp2_with fail
        go_ret
        exact ⟨rfl, HL.out⟩
      have i4 : ¬ (1000 : Int) < (Y.size : Int) := by omega
      have HT2 := Lib.hid (short_next HT.out HF.out (by omega))
      have l1 : f.name.length ≤ 100000 := by omega
      have l2 : f.text.length ≤ 100000 := by omega
      have P1 := Lib.hid (fun w hE => print_any (N := W.heap.size) f w hE l1 l2)
      have P2 := Lib.hid (fun w => rprint_any f w l1 l2)
      rw [hC, opt_str] at P1 P2
      generalize optS (printS f) = Z at *
      generalize (printS f).isSome = ok at *
      have e1 : (Z.toList == Z.toList) = true := by simp
      have e2 : (Z.toList != Z.toList) = false := by simp
      have e3 : (ok != ok) = false := by simp
      have e4 : (ok == ok) = true := by simp
      clear h3 h4 l1 l2 zX zY HT hC
      go_wp2_with fail
      refine (P1.out ww (HE.out.below HL.out)).mono ?_
      rintro e w2 ⟨rfl, hb⟩
      have HL2 := Lib.hid (HL.out.trans (hb.mono HL.out.size))
      have hgl : g < ww.heap.size := Nat.lt_of_lt_of_le hgw HL.out.size
      have d0 := (hb.cell (p := ⟨g, o + k * 2, none⟩) hgl).trans c0
      have d1 := (hb.cell (p := ⟨g, o + k * 2 + 1, none⟩) hgl).trans c1
      clear hb P1 HL c0 c1 hgl
      go_wp2_with fail
      refine (P2.out w2).mono ?_
      rintro e w3 ⟨rfl, hb⟩
      have HL3 := Lib.hid (HL2.out.trans (hb.mono HL2.out.size))
      clear hb P2 HL2 d0 d1
      go_wp2_with fail
      go_roundw
      case rel => exact ⟨k + 1, _, rfl, by go_num, by omega, HL3, HT2⟩
      case measure => simp [intOf]; omega
    · have hki : ¬ (k : Int) < (n : Int) := by omega
      have hTx : ∀ g ∈ l, g.text.length ≤ 140737488355328 := fun g hg => by
        have := HT.out g (by rw [List.take_of_length_le (by rw [HN.out]; omega)]; exact hg)
        omega
      have F1 := Lib.hid (fun w hs => find_any l A n cap S w hs HN.out (by omega) hTx)
      have F2 := Lib.hid (fun w hs => rfind_any l A n cap S w hs HN.out (by omega) (by omega))
      obtain ⟨T, c⟩ := findS ((bs S).map lowB) l
      have e1 : ((str T).toList == (str T).toList) = true := by simp
      have e2 : (((c : Nat) : Int) == ((c : Nat) : Int)) = true := by simp
      clear HT hTx
      go_wp2_with fail
      refine (F1.out ww (HSrc.out.below HL.out)).mono ?_
      rintro e w2 ⟨rfl, hb⟩
      have HL2 := Lib.hid (HL.out.trans (hb.mono HL.out.size))
      clear hb F1 HL
      go_wp2_with fail
      refine (F2.out w2 (HSrc.out.below HL2.out)).mono ?_
      rintro e w3 ⟨rfl, hb⟩
      have HL3 := Lib.hid (HL2.out.trans (hb.mono HL2.out.size))
      clear hb F2 HL2
      go_wp2_with fail
      go_ret
      exact ⟨rfl, HL3.out⟩

set_option maxRecDepth 100000 in
set_option linter.unusedVariables false in
theorem lifted (os : Os) (started : os.Started) (H : Type) (enc : TypeId × Value → H) :
    ReturnsInHanded {} Try.checked os 4 .any (Rows.fieldTellsSpec.pre6 enc Try.prog Try.f4 Rows.fieldTellsRow.domain false) (Rows.fieldTellsSpec.post enc Try.prog Try.f4 false true false false) := by
  refine returnsInHanded_of_change_shaped (C := Try.checked) own started (by kernel_rfl) Try.func4
    (ChangeSpec.witness6 (enc := enc) (C := Try.checked) false ⟨#[], #[.slice none 0 0, .string .empty], []⟩ 8 (by kernel_rfl) (by kernel_rfl) (by kernel_rfl) (by kernel_rfl)) ?_
  intro W base args ds gs before hval0 hW hcnd hsz0 hshp _
  have hE := env_of hshp
  have hval : ∀ (j : Nat) t v, Try.f4.params[j]? = some t → args[j]? = some v → Value.okWide Try.prog W .any base t v := hval0
  have hW' := hW
  obtain ⟨p, q, hA0, hV, rfl, hfz, hnd⟩ := hW
  have hA : DataW.TrodAll enc Try.prog W 0 (fun _ => true) true Try.f4.params.toList args.toList ds p := hA0
  have hsz : (DataW.weightsEach Try.prog (Try.f4.params.toList ++ Rows.fieldTellsSpec.plain.varTypes Try.prog) (ds ++ gs)).all (· ≤ reachBytes) = true := hsz0
  rw [Try.params4] at hA hval hsz
  obtain ⟨v0, vs0, d0, ds0, p0, q0, hargs, rfl, rfl, h0, r0⟩ := trodAll_cons hA
  obtain ⟨v1, vs1, d1, ds1, p1, q1, rfl, rfl, rfl, h1, r1⟩ := trodAll_cons r0
  obtain ⟨rfl, rfl, rfl⟩ := trodAll_nil r1
  obtain rfl : args = #[v0, v1] := by cases args; simp_all
  obtain ⟨rfl, rfl⟩ := trodVars_none hV
  have k0 := h0
  have lt0 : ∀ x ∈ p0, x.block < W.heap.size := by obtain ⟨m, hm⟩ := k0; exact DataW.trod_lt m _ _ _ hm
  obtain ⟨A0, n0, cap0, l0, rfl, le0, mx0, ln0, sl0, src0⟩ := open_fields (hval 0 29 v0 rfl rfl) h0 (reach_at hsz (j := 0) (t := 29) rfl rfl)
  have k1 := h1
  have lt1 : ∀ x ∈ p1, x.block < W.heap.size := by obtain ⟨m, hm⟩ := k1; exact DataW.trod_lt m _ _ _ hm
  obtain ⟨s1, rfl, rfl, rfl, hs1⟩ := open_string Try.underlying9 (hval 1 9 v1 rfl rfl) h1
  clear hA0 hval0 hsz0
  refine (walk W A0 n0 cap0 l0 le0 mx0 ln0 sl0 src0 s1 hs1 hE).mono fun e W' ⟨he, bel⟩ => ?_
  subst he
  exact ⟨_, rfl, _, _, _, [], _, [], hW', trodAll_mk1 (shut_bool Try.underlying4 _), (trodAll_cons_mk (Below.trod laidOut (by kernel_rfl) (of_decide_eq_true (by kernel_rfl)) k0 bel lt0) (trodAll_cons_mk (Below.trod laidOut (by kernel_rfl) (of_decide_eq_true (by kernel_rfl)) k1 bel lt1) trodAll_mk0)), rfl, bel.frame _, fun h => by cases h⟩

theorem over : Rows.fieldTellsRow.holds Try.pinned (OpenSpec.ofChange Rows.fieldTellsSpec) :=
  OpenClaim.holds_of_wide 4 Try.f4 rfl rfl rfl rfl rfl rfl rfl ⟨rfl, rfl, rfl, rfl, rfl⟩ rfl rfl rfl rfl rfl (by kernel_rfl) Try.func4 (by kernel_rfl)
    (of_decide_eq_true (by kernel_rfl)) (by unfold Func.isWrapper; first | (rw [if_pos (by decide +kernel)]; kernel_rfl) | (rw [if_neg (by decide +kernel)]; exact ⟨rfl, rfl⟩))
    (fun os started H enc _ => lifted os started H enc)

theorem proved : Rows.FieldTellsSaid := over
#print axioms proved
end Go.Proofs.Ytkbankjnfedkdaa.fieldTells
