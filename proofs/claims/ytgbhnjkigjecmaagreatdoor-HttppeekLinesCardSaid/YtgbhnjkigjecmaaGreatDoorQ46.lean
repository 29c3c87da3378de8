/-
  The lift of a law whose row lists tables, with the form's own reach at hand. Plain lemma.
-/
import Derived.Test.YtgbhnjkigjecmaaGreatDoorQ32
import Derived.SizedLaws
import Derived.Test.YtgbhnjkigjecmaaGreatDoorQ18
import Derived.Test.YtgbhnjkigjecmaaGreatDoorQ21
import Derived.Lib.ItoaLen
namespace Go.Proofs.YtgbhnjkigjecmaaGreatDoor.Lift
open Go.ChangeShapes Go.WideShapes Go.ChangeAt Go.RowKit Go.Proofs.YtgbhnjkigjecmaaGreatDoor.Wd

theorem returns_laid_sized {H : Type} {enc : TypeId × Value → H} {a : Assume} {C : Checked} {os : Os} {f : FuncId} {fn : Func} {s : ChangeSpec} {conds : List PathCond} {apart fresh handsOn again : Bool} {X : World → Array Value → Prop}
    (hX : ∀ (w w' : World) (args : Array Value), w.heap = w'.heap → X w args → X w' args)
    (own : ownKnob C.prog.godebug = none) (started : os.Started) (noInit : C.prog.inits.idxOf? f = none) (hfn : C.prog.funcs[f]? = some fn)
    (witness : ∃ (w : World) (tape : Tape) (i : Input), w.os = os ∧ (w.forCall tape i).Shaped C.prog ∧ i.vars = [] ∧ Input.okWide C.prog (w.forCall tape i) .any w.heap.size f i ∧
      ((s.pre enc C.prog fn conds apart (w.forCall tape i).memory i.args ∧ X (w.forCall tape i).memory i.args) ∧ sizedMet enc C.prog fn (OpenSpec.ofChange s) apart (w.forCall tape i).memory i.args) ∧ a.holds C.prog (lone (Frame.enter C.prog f i.args .normal) [] (w.forCall tape i)))
    (contract : ∀ (W : World) (base : Nat) (args : Array Value) (ds gs : List (DataW H)) (before : List MemPlace),
      (∀ (j : Nat) t v, fn.params[j]? = some t → args[j]? = some v → Value.okWide C.prog W .any base t v) →
      DataW.Whole enc C.prog fn.params.toList s.vars apart W args.toList ds gs before →
      (DataW.weightsEach C.prog (fn.params.toList ++ s.plain.varTypes C.prog) (ds ++ gs)).all (· ≤ reachBytes) = true → X W args → W.ShapedOpen C.prog →
      Calls C.prog f args W fun e W' => ∃ v, e = .returned v ∧ s.post enc C.prog fn apart fresh handsOn again W args v W') :
    ReturnsInHanded a C os f .any (fun w args => (s.pre enc C.prog fn conds apart w args ∧ X w args) ∧ sizedMet enc C.prog fn (OpenSpec.ofChange s) apart w args) (s.post enc C.prog fn apart fresh handsOn again) := by
  refine returnsInHanded_of_calls own started noInit witness ?_
  intro w tape i _ hsh _ hok hpre _
  obtain ⟨_, _, _, fn', hfn', _, _, _, _, hval⟩ := hok
  have e : fn' = fn := Option.some.inj (hfn'.symm.trans hfn)
  subst e
  obtain ⟨⟨⟨ds, gs, before, hw, _⟩, hx⟩, hz⟩ := hpre
  have hw' := DataW.Whole.of_heap (w' := w.forCall tape i) (by rfl) hw
  refine (contract (w.forCall tape i) w.heap.size i.args ds gs before hval hw' (hz.weights hw) (hX _ _ _ (by rfl) hx) hsh).mono fun e W' ⟨v, he, hp⟩ => ?_
  subst he
  exact ChangeSpec.post_blind hp
end Go.Proofs.YtgbhnjkigjecmaaGreatDoor.Lift

/-
  Contract of package reqline's Print over this seat's translation.
-/
namespace Go.Proofs.YtgbhnjkigjecmaaGreatDoor.Rl
open Go.RowKit Go.Proofs.YtgbhnjkigjecmaaGreatDoor.Wd Go.Proofs.YtgbhnjkigjecmaaGreatDoor.Asc Go.Proofs.YtgbhnjkigjecmaaGreatDoor.Tx Go.Proofs.YtgbhnjkigjecmaaGreatDoor.St

set_option linter.unusedSimpArgs false in
set_option maxRecDepth 100000 in
set_option maxHeartbeats 4000000 in
theorem print_any {N : Nat} (r : Rq) (w : World) (hE : Env N w) (h1 : r.meth.length ≤ 140737488355328) (h2 : r.targ.length ≤ 140737488355328) (h3 : -9223372036854775808 ≤ r.minor ∧ r.minor ≤ 9223372036854775807) :
    Calls Tryz.prog 15 #[.agg (rqC r)] w fun e w' => e = .returned (optT (printS r)) ∧ Below w.heap.size w w' := by
  have HE := Lib.hid hE
  obtain ⟨k, hk⟩ : ∃ k, r.minor = k := ⟨_, rfl⟩
  have hC : rqC r = #[.string (str r.meth), .string (str r.targ), .int .i64 k] := by rw [← hk]; rfl
  obtain ⟨A, hA⟩ : ∃ A, str r.meth = A := ⟨_, rfl⟩
  obtain ⟨B, hB⟩ : ∃ B, str r.targ = B := ⟨_, rfl⟩
  obtain ⟨I, hI⟩ : ∃ I, str (Lib.itoa k) = I := ⟨_, rfl⟩
  obtain ⟨l, hl⟩ : ∃ l, lineT r.meth r.targ (v1 ++ Lib.itoa k) = l := ⟨_, rfl⟩
  have sA : A.size ≤ 140737488355328 := by rw [← hA, str_size]; exact h1
  have sB : B.size ≤ 140737488355328 := by rw [← hB, str_size]; exact h2
  have sI : I.size ≤ 21 := by rw [← hI, str_size]; exact Lib.itoa_length_le k (by omega) (by omega)
  have HT : Hid (A ++ ⟨#[32]⟩ ++ B ++ ⟨#[32]⟩ ++ ⟨#[72, 84, 84, 80, 47, 49, 46]⟩ ++ I = str l) := Lib.hid (by
    rw [← hA, ← hB, ← hI, ← hl]
    apply bs_inj
    simp only [bs_add, bs_str]
    simp [lineT, v1, bs])
  have HL : Hid ((r.minor = 0 ∨ r.minor = 1) → l = lineR r) := Lib.hid (fun _ => by rw [← hl, lineR, hk])
  have HLl : Hid (l.length ≤ 1125899906842624) := Lib.hid (by
    have e : l.length = (str l).size := (str_size l).symm
    rw [e, ← HT.out]
    simp only [ByteArray.size_append]
    have : (⟨#[32]⟩ : ByteArray).size = 1 := rfl
    have : (⟨#[72, 84, 84, 80, 47, 49, 46]⟩ : ByteArray).size = 7 := rfl
    omega)
  have k0 : -9223372036854775808 ≤ k := by omega
  have k1 : k ≤ 9223372036854775807 := by omega
  have HI := Lib.hid (fun w1 hE1 => itoa_any (B := N) k k0 k1 w1 hE1)
  rw [hI] at HI
  have HC := Lib.hid hC
  rw [hA, hB] at hC
  rw [hC]
  have z1 : (A ++ (⟨#[32]⟩ : ByteArray)).size ≤ 140737488355329 := by rw [ByteArray.size_append]; show A.size + 1 ≤ _; omega
  have z2 : (A ++ (⟨#[32]⟩ : ByteArray) ++ B).size ≤ 281474976710657 := by rw [ByteArray.size_append]; omega
  have z3 : (A ++ (⟨#[32]⟩ : ByteArray) ++ B ++ (⟨#[32]⟩ : ByteArray)).size ≤ 281474976710658 := by rw [ByteArray.size_append]; show _ + 1 ≤ _; omega
  have z4 : (A ++ (⟨#[32]⟩ : ByteArray) ++ B ++ (⟨#[32]⟩ : ByteArray) ++ (⟨#[72, 84, 84, 80, 47, 49, 46]⟩ : ByteArray)).size ≤ 281474976710665 := by rw [ByteArray.size_append]; show _ + 7 ≤ _; omega
  have HA := Lib.hid hA
  have HB := Lib.hid hB
  clear hE hA hB hI hl h1 h2 h3 hC hk k0 k1
  go_enter Tryz.func15, Tryz.ntmps15
  go_upto_region 1 with fail
  have b0 := Blk.new w 39 #[.string A, .string B, .int .i64 k]
  have hbel : Below w.heap.size w (w.alloc (.cells #[.string A, .string B, .int .i64 k] 39)) := (Below.refl _ _).alloc (Nat.le_refl _) _
  generalize w.alloc (.cells #[.string A, .string B, .int .i64 k] 39) = w1 at *
  generalize hG : w.heap.size = G at *
  have HG := Lib.hid hG
  have hlt := b0.lt
  have HB0 := Lib.hid b0
  have HBL := Lib.hid hbel
  have HS := Lib.hid (show w1.cell? ⟨G, 0, none⟩ = some (.string A) ∧ w1.cell? ⟨G, 1, none⟩ = some (.string B) ∧ w1.cell? ⟨G, 2, none⟩ = some (.int .i64 k) from ⟨b0.cell 0, b0.cell 1, b0.cell 2⟩)
  clear b0 hbel hG
  refine wp_region_held_drew (S := fun w' => w'.cell? ⟨G, 0, none⟩ = some (.string A) ∧ w'.cell? ⟨G, 1, none⟩ = some (.string B) ∧ w'.cell? ⟨G, 2, none⟩ = some (.int .i64 k)) (by kernel_rfl) HS.out (fun h0 => ?_)
  refine hd_take 0 (some 7) (.pointer (some ⟨G, 0, none⟩)) rfl rfl (by kernel_rfl) (by kernel_rfl) (by kernel_rfl) (fun _ _ _ h => h) (Or.inl ⟨by rfl, fun w hw => by go_simp⟩) h0 ?_
  simp only [Act.put, List.setIfInBounds_toArray, List.set_cons_zero, List.set_cons_succ]
  refine hd_take 1 (some 8) (.string A) rfl rfl (by kernel_rfl) (by kernel_rfl) (by kernel_rfl) (fun _ _ _ h => h) (Or.inl ⟨by rfl, fun w hw => by have h9 := hw.1; go_simp⟩) h0 ?_
  simp only [Act.put, List.setIfInBounds_toArray, List.set_cons_zero, List.set_cons_succ]
  refine hd_take 2 (some 9) (.string (A ++ ⟨#[32]⟩)) rfl rfl (by kernel_rfl) (by kernel_rfl) (by kernel_rfl) (fun _ _ _ h => h) (Or.inl ⟨by rfl, fun w hw => by go_simp <;> omega⟩) h0 ?_
  simp only [Act.put, List.setIfInBounds_toArray, List.set_cons_zero, List.set_cons_succ]
  refine hd_take 3 (some 10) (.pointer (some ⟨G, 1, none⟩)) rfl rfl (by kernel_rfl) (by kernel_rfl) (by kernel_rfl) (fun _ _ _ h => h) (Or.inl ⟨by rfl, fun w hw => by go_simp⟩) h0 ?_
  simp only [Act.put, List.setIfInBounds_toArray, List.set_cons_zero, List.set_cons_succ]
  refine hd_take 4 (some 11) (.string B) rfl rfl (by kernel_rfl) (by kernel_rfl) (by kernel_rfl) (fun _ _ _ h => h) (Or.inl ⟨by rfl, fun w hw => by have h9 := hw.2.1; go_simp⟩) h0 ?_
  simp only [Act.put, List.setIfInBounds_toArray, List.set_cons_zero, List.set_cons_succ]
  refine hd_take 5 (some 12) (.string (A ++ ⟨#[32]⟩ ++ B)) rfl rfl (by kernel_rfl) (by kernel_rfl) (by kernel_rfl) (fun _ _ _ h => h) (Or.inl ⟨by rfl, fun w hw => by go_simp <;> omega⟩) h0 ?_
  simp only [Act.put, List.setIfInBounds_toArray, List.set_cons_zero, List.set_cons_succ]
  refine hd_take 6 (some 13) (.string (A ++ ⟨#[32]⟩ ++ B ++ ⟨#[32]⟩)) rfl rfl (by kernel_rfl) (by kernel_rfl) (by kernel_rfl) (fun _ _ _ h => h) (Or.inl ⟨by rfl, fun w hw => by go_simp <;> omega⟩) h0 ?_
  simp only [Act.put, List.setIfInBounds_toArray, List.set_cons_zero, List.set_cons_succ]
  refine hd_take 7 (some 14) (.string (A ++ ⟨#[32]⟩ ++ B ++ ⟨#[32]⟩ ++ ⟨#[72, 84, 84, 80, 47, 49, 46]⟩)) rfl rfl (by kernel_rfl) (by kernel_rfl) (by kernel_rfl) (fun _ _ _ h => h) (Or.inl ⟨by rfl, fun w hw => by go_simp <;> omega⟩) h0 ?_
  simp only [Act.put, List.setIfInBounds_toArray, List.set_cons_zero, List.set_cons_succ]
  refine hd_take 8 (some 15) (.pointer (some ⟨G, 2, none⟩)) rfl rfl (by kernel_rfl) (by kernel_rfl) (by kernel_rfl) (fun _ _ _ h => h) (Or.inl ⟨by rfl, fun w hw => by go_simp⟩) h0 ?_
  simp only [Act.put, List.setIfInBounds_toArray, List.set_cons_zero, List.set_cons_succ]
  refine hd_take 9 (some 16) (.int .i64 k) rfl rfl (by kernel_rfl) (by kernel_rfl) (by kernel_rfl) (fun _ _ _ h => h) (Or.inl ⟨by rfl, fun w hw => by have h9 := hw.2.2; go_simp⟩) h0 ?_
  simp only [Act.put, List.setIfInBounds_toArray, List.set_cons_zero, List.set_cons_succ]
  refine wpAnyH_ready (rs := [10]) (by kernel_rfl) (by simp) (AllReadyH.cons rfl (fun K hK => ?_) AllReadyH.nil)
  go_simp
  go_wp2_with (go_at_call 25; refine (HI.out _ (HE.out.on (by rw [HG.out]; exact HBL.out.drew))).mono ?_; rintro e w2 ⟨rfl, hb2⟩; have HB2 := Lib.hid hb2; have b2 : Blk w2 G _ _ := Blk.below (w := w1.drew) HB0.out hb2 hlt; have HK2 := Lib.hid b2; clear b2 hb2)
  refine hK.out _ _ ⟨HK2.out.cell 0, HK2.out.cell 1, HK2.out.cell 2⟩ (fun h2 => ?_)
  clear hK K
  refine hd_take 11 (some 18) (.string (A ++ ⟨#[32]⟩ ++ B ++ ⟨#[32]⟩ ++ ⟨#[72, 84, 84, 80, 47, 49, 46]⟩ ++ I)) rfl rfl (by kernel_rfl) (by kernel_rfl) (by kernel_rfl) (fun _ _ _ h => h) (Or.inl ⟨by rfl, fun w hw => by go_simp <;> omega⟩) h2 ?_
  simp only [Act.put, List.setIfInBounds_toArray, List.set_cons_zero, List.set_cons_succ]
  refine hd_take 12 (some 4) (.string (A ++ ⟨#[32]⟩ ++ B ++ ⟨#[32]⟩ ++ ⟨#[72, 84, 84, 80, 47, 49, 46]⟩ ++ I)) rfl rfl (by kernel_rfl) (by kernel_rfl) (by kernel_rfl) (fun _ _ _ h => h) (Or.inl ⟨by rfl, fun w hw => by go_simp <;> omega⟩) h2 ?_
  simp only [Act.put, List.setIfInBounds_toArray, List.set_cons_zero, List.set_cons_succ]
  refine wpAnyH_done (by kernel_rfl) ?_ _
  rw [HT.out]
  clear h0 h2 z1 z2 z3 z4
  have HBL2 := Lib.hid (HBL.out.drew.trans (HB2.out.mono (Nat.le_of_lt hlt)))
  go_wp2_with fail
  refine (parse_any l w2 (HE.out.on (by rw [HG.out]; exact HBL2.out)) HLl.out).mono ?_
  rintro e w3 ⟨rfl, hb3⟩
  obtain ⟨p, hp⟩ : ∃ p, parseS l = p := ⟨_, rfl⟩
  rw [hp]
  have HPp := Lib.hid hp
  obtain ⟨q, E⟩ := p
  have hb3G : G ≤ w2.heap.size := Nat.le_of_lt HK2.out.lt
  have HK3 := Lib.hid (show Blk w3 G 39 (rqC r) by rw [HC.out, HA.out, HB.out]; exact HK2.out.below hb3 HK2.out.lt)
  have HBL3 := Lib.hid (HBL2.out.trans (hb3.mono hb3G))
  have hlt3 : G < w3.heap.size := Nat.lt_of_lt_of_le HK2.out.lt hb3.size
  clear hp hb3 HK2 HBL2 HB2 HB0 HBL HS hlt hb3G HI HE HT
  go_upto_region 3 with (refine go_st 39 (Blk.new _ _ _) infR rfl rfl (rqC_one _) rfl rfl rfl rfl ?_)
  have b4 : Blk ((w3.alloc (.cells #[.string ⟨#[]⟩, .string ⟨#[]⟩, .int .i64 0] 39)).setRow w3.heap.size (rqC q)) w3.heap.size 39 (rqC q) := setRow_blk (Blk.new _ _ _)
  have b3 : Blk ((w3.alloc (.cells #[.string ⟨#[]⟩, .string ⟨#[]⟩, .int .i64 0] 39)).setRow w3.heap.size (rqC q)) G 39 (rqC r) := (setRow_far (by omega) _).trans (HK3.out.alloc _)
  have HF4 := Lib.hid (setRow_below (HBL3.out.alloc (Nat.le_of_lt hlt3) (.cells #[.string ⟨#[]⟩, .string ⟨#[]⟩, .int .i64 0] 39)) (Blk.new _ _ _) (Nat.le_of_lt hlt3) (rqC q))
  generalize (w3.alloc (.cells #[.string ⟨#[]⟩, .string ⟨#[]⟩, .int .i64 0] 39)).setRow w3.heap.size (rqC q) = w4 at *
  generalize w3.heap.size = g4 at *
  have h41 : (rqC q).size = 3 := rfl
  have h31 : (rqC r).size = 3 := rfl
  by_cases hE0 : E = 0
  · subst hE0
    cases hqr : decide (q = r) with
    | false =>
      have HF : Hid (printS r = none) := Lib.hid (print_no HL.out (by rw [HPp.out]; exact .inr (of_decide_eq_false hqr)))
      have HQ := Lib.hid hqr
      clear hqr
      go_wp2_with (first | (refine go_ldg (x := .tmp 5) 39 b4 undR rfl infR h41 (by rfl) rfl rfl ?_) | (refine go_ldg (x := .tmp 1) 39 b3 undR rfl infR h31 (by rfl) rfl rfl ?_; refine Hid.out ?_))
      refine Lib.hid ?_
      refine go_neqR (x := .tmp 27) (y := .tmp 28) (t := 39) q r _ HQ.out rfl (by rfl) rfl rfl ?_
      go_wp2_with fail
      go_ret2
      rw [HF.out]
      exact ⟨rfl, by rw [HG.out]; exact HF4.out⟩
    | true =>
      have HF : Hid (printS r = some l) := Lib.hid (print_yes (by rw [HPp.out]) (by rw [HPp.out]; exact of_decide_eq_true hqr))
      have HQ := Lib.hid hqr
      clear hqr
      go_wp2_with (first | (refine go_ldg (x := .tmp 5) 39 b4 undR rfl infR h41 (by rfl) rfl rfl ?_) | (refine go_ldg (x := .tmp 1) 39 b3 undR rfl infR h31 (by rfl) rfl rfl ?_; refine Hid.out ?_))
      refine Lib.hid ?_
      refine go_neqR (x := .tmp 27) (y := .tmp 28) (t := 39) q r _ HQ.out rfl (by rfl) rfl rfl ?_
      go_wp2_with fail
      go_ret2
      rw [HF.out]
      exact ⟨rfl, by rw [HG.out]; exact HF4.out⟩
  · have HF : Hid (printS r = none) := Lib.hid (print_no HL.out (by rw [HPp.out]; exact .inl hE0))
    have hb : (E != 0) = true := by simp [hE0]
    have hd : decide (E = 0) = false := by simp [hE0]
    clear hE0
    go_wp2_with fail
    go_ret2
    rw [HF.out]
    exact ⟨rfl, by rw [HG.out]; exact HF4.out⟩
end Go.Proofs.YtgbhnjkigjecmaaGreatDoor.Rl
