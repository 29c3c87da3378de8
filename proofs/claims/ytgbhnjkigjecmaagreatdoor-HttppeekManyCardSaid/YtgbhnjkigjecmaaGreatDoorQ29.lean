/-
  Contracts of package httppeek's addRequest, addField, told, endLine and add over this seat's translation: what one byte leaves of a head. No condition beyond what the library's tables hold.
-/
import Derived.Test.YtgbhnjkigjecmaaGreatDoorQ14
import Derived.Test.YtgbhnjkigjecmaaGreatDoorQ18
import Derived.Test.YtgbhnjkigjecmaaGreatDoorQ19
import Derived.Test.YtgbhnjkigjecmaaGreatDoorQ20
import Derived.Test.YtgbhnjkigjecmaaGreatDoorQ25
import Derived.Test.YtgbhnjkigjecmaaGreatDoorQ21
import Derived.Test.YtgbhnjkigjecmaaGreatDoorQ27
import Derived.Test.YtgbhnjkigjecmaaGreatDoorQ28
namespace Go.Proofs.YtgbhnjkigjecmaaGreatDoor.Hp
open Go.RowKit Go.Proofs.YtgbhnjkigjecmaaGreatDoor.Wd Go.Proofs.YtgbhnjkigjecmaaGreatDoor.St

theorem pC_req (z u r : Int) (H : ByteArray) (p : Int) (q q' : Rl.Rq) (fv lv : Value) (b : Bool) : (((pC z u r H p q fv lv b).setIfInBounds 11 (.string (Tx.str q'.meth))).setIfInBounds 12 (.string (Tx.str q'.targ))).setIfInBounds 13 (.int .i64 q'.minor) = pC z u r H p q' fv lv b := by simp [pC]
theorem pC_fs (z u r : Int) (H : ByteArray) (p : Int) (q : Rl.Rq) (fv fv' lv : Value) (b : Bool) : (pC z u r H p q fv lv b).setIfInBounds 14 fv' = pC z u r H p q fv' lv b := by simp [pC]
theorem pC_ln (z u r : Int) (H : ByteArray) (p : Int) (q : Rl.Rq) (fv lv lv' : Value) (b : Bool) : (pC z u r H p q fv lv b).setIfInBounds 15 lv' = pC z u r H p q fv lv' b := by simp [pC]
theorem pC_rt (z u r : Int) (H : ByteArray) (p : Int) (q : Rl.Rq) (fv lv : Value) (b b' : Bool) : (pC z u r H p q fv lv b).setIfInBounds 16 (.bool b') = pC z u r H p q fv lv b' := by simp [pC]
theorem nil8 (w : World) : Own w 0 (.slice none 0 0) [] := ⟨rfl, .inl ⟨rfl, rfl⟩⟩
theorem nilF (w : World) : Fd.OwnF w 0 (.slice none 0 0) [] := ⟨rfl, .inl ⟨rfl, rfl⟩⟩
section
variable {w w' : World} {g : Nat} {u : Int} {q : Rl.Rq} {fs : List Fd.Fld} {l : List UInt8} {b : Bool} {fv lv : Value}
theorem PkO.cells (h : PkO w g u q fs l b fv lv) (i : Nat) : w.cell? ⟨g, i, none⟩ = (pC 0 u 0 ⟨#[]⟩ 0 q fv lv b)[i]? := h.blk.cell i
/-- the request is kept -/
theorem PkO.set_q (h : PkO w g u q fs l b fv lv) (q' : Rl.Rq) : PkO (((w.setCell ⟨g, 11, none⟩ (.string (Tx.str q'.meth))).setCell ⟨g, 12, none⟩ (.string (Tx.str q'.targ))).setCell ⟨g, 13, none⟩ (.int .i64 q'.minor)) g u q' fs l b fv lv ∧ But [g] w (((w.setCell ⟨g, 11, none⟩ (.string (Tx.str q'.meth))).setCell ⟨g, 12, none⟩ (.string (Tx.str q'.targ))).setCell ⟨g, 13, none⟩ (.int .i64 q'.minor)) := by
  have hb := ((h.blk.set_ 11 (.string (Tx.str q'.meth))).set_ 12 (.string (Tx.str q'.targ))).set_ 13 (.int .i64 q'.minor)
  rw [pC_req] at hb
  have k := but_of (only_setCell (p := ⟨g, 13, none⟩) (only_setCell (p := ⟨g, 12, none⟩) (only_setCell (p := ⟨g, 11, none⟩) (only_refl w _) (.inl rfl) (.string (Tx.str q'.meth))) (.inl rfl) (.string (Tx.str q'.targ))) (.inl rfl) (.int .i64 q'.minor))
  exact ⟨⟨hb, owns_but h.fo k (fun i hi hm => owns_ne h.fo h.blk (by decide) (by rw [hi, List.mem_singleton.1 hm])), owns_but h.lo k (fun i hi hm => owns_ne h.lo h.blk (by decide) (by rw [hi, List.mem_singleton.1 hm]))⟩, k⟩
/-- one cell behind the verdict turns -/
theorem PkO.set_one (h : PkO w g u q fs l b fv lv) (i : Nat) (v : Value) {q' : Rl.Rq} {fv' lv' : Value} {b' : Bool} (hc : (pC 0 u 0 ⟨#[]⟩ 0 q fv lv b).setIfInBounds i v = pC 0 u 0 ⟨#[]⟩ 0 q' fv' lv' b') : Blk (w.setCell ⟨g, i, none⟩ v) g 57 (pC 0 u 0 ⟨#[]⟩ 0 q' fv' lv' b') ∧ But [g] w (w.setCell ⟨g, i, none⟩ v) ∧ Fd.OwnF (w.setCell ⟨g, i, none⟩ v) 0 fv fs ∧ Own (w.setCell ⟨g, i, none⟩ v) 0 lv l := by
  have hb := h.blk.set_ i v
  rw [hc] at hb
  have k := but_of (only_p w g i v)
  exact ⟨hb, k, owns_but h.fo k (fun i hi hm => owns_ne h.fo h.blk (by decide) (by rw [hi, List.mem_singleton.1 hm])), owns_but h.lo k (fun i hi hm => owns_ne h.lo h.blk (by decide) (by rw [hi, List.mem_singleton.1 hm]))⟩
theorem PkO.set_r (h : PkO w g u q fs l b fv lv) (b' : Bool) : PkO (w.setCell ⟨g, 16, none⟩ (.bool b')) g u q fs l b' fv lv ∧ But [g] w (w.setCell ⟨g, 16, none⟩ (.bool b')) := by
  obtain ⟨h1, h2, h3, h4⟩ := h.set_one 16 (.bool b') (pC_rt ..)
  exact ⟨⟨h1, h3, h4⟩, h2⟩
theorem PkO.set_n (h : PkO w g u q fs l b fv lv) : PkO (w.setCell ⟨g, 15, none⟩ (.slice none 0 0)) g u q fs [] b fv (.slice none 0 0) ∧ But [g] w (w.setCell ⟨g, 15, none⟩ (.slice none 0 0)) := by
  obtain ⟨h1, h2, h3, _⟩ := h.set_one 15 (.slice none 0 0) (pC_ln ..)
  exact ⟨⟨h1, h3, nil8 _⟩, h2⟩
/-- a field more -/
theorem PkO.app_f {l' : List Fd.Fld} {v : Value} (h : PkO w g u q fs l b fv lv) (ho : Fd.OwnF w' 0 v l') (hb : But fv.ownBlock.toList w w') (hq : v.ownBlock = fv.ownBlock ∨ v.ownBlock = some w.heap.size) :
    w'.cell? ⟨g, 14, none⟩ = some fv ∧ w'.frozen? ⟨g, 14, none⟩ = false ∧ PkO (w'.setCell ⟨g, 14, none⟩ v) g u q l' l b v lv ∧ But (g :: ledS fv lv) w (w'.setCell ⟨g, 14, none⟩ v) ∧ ∀ i ∈ ledS v lv, i ∈ ledS fv lv ∨ w.heap.size ≤ i := by
  have hg := h.blk.but hb (fun hm => owns_ne h.fo h.blk (by decide) (mem_o.1 hm))
  have hl := owns_but h.lo hb (fun i hi hm => owns_apart h.fo h.lo (by decide) i (mem_o.1 hm) hi)
  have h2 : PkO w' g u q l' l b fv lv → True := fun _ => trivial
  have hb2 := hg.set_ 14 v
  rw [pC_fs] at hb2
  have k := but_of (only_p w' g 14 v)
  refine ⟨by rw [hg.cell]; rfl, hg.frozen 14, ⟨hb2, owns_but ho k (fun i hi hm => owns_ne ho hg (by decide) (by rw [hi, List.mem_singleton.1 hm])), owns_but hl k (fun i hi hm => owns_ne hl hg (by decide) (by rw [hi, List.mem_singleton.1 hm]))⟩, ?_, fun i hi => ?_⟩
  · exact (hb.more (fun i hi => List.mem_cons_of_mem _ (List.mem_append.2 (.inl hi)))).trans (k.more (by simp))
  · rcases List.mem_append.1 hi with hi | hi
    · have hv := mem_o.1 hi
      rcases hq with e | e
      · exact .inl (List.mem_append.2 (.inl (mem_o.2 (e ▸ hv))))
      · rw [e] at hv; injection hv with hv; exact .inr (by omega)
    · exact .inl (List.mem_append.2 (.inr hi))
/-- a byte more in the line at hand -/
theorem PkO.app_l {l' : List UInt8} {v : Value} (h : PkO w g u q fs l b fv lv) (ho : Own w' 0 v l') (hb : But lv.ownBlock.toList w w') (hq : v.ownBlock = lv.ownBlock ∨ v.ownBlock = some w.heap.size) :
    w'.cell? ⟨g, 15, none⟩ = some lv ∧ w'.frozen? ⟨g, 15, none⟩ = false ∧ PkO (w'.setCell ⟨g, 15, none⟩ v) g u q fs l' b fv v ∧ But (g :: ledS fv lv) w (w'.setCell ⟨g, 15, none⟩ v) ∧ ∀ i ∈ ledS fv v, i ∈ ledS fv lv ∨ w.heap.size ≤ i := by
  have hg := h.blk.but hb (fun hm => owns_ne h.lo h.blk (by decide) (mem_o.1 hm))
  have hl := owns_but h.fo hb (fun i hi hm => owns_apart h.lo h.fo (by decide) i (mem_o.1 hm) hi)
  have hb2 := hg.set_ 15 v
  rw [pC_ln] at hb2
  have k := but_of (only_p w' g 15 v)
  refine ⟨by rw [hg.cell]; rfl, hg.frozen 15, ⟨hb2, owns_but hl k (fun i hi hm => owns_ne hl hg (by decide) (by rw [hi, List.mem_singleton.1 hm])), owns_but ho k (fun i hi hm => owns_ne ho hg (by decide) (by rw [hi, List.mem_singleton.1 hm]))⟩, ?_, fun i hi => ?_⟩
  · exact (hb.more (fun i hi => List.mem_cons_of_mem _ (List.mem_append.2 (.inr hi)))).trans (k.more (by simp))
  · rcases List.mem_append.1 hi with hi | hi
    · exact .inl (List.mem_append.2 (.inl hi))
    · have hv := mem_o.1 hi
      rcases hq with e | e
      · exact .inl (List.mem_append.2 (.inr (mem_o.2 (e ▸ hv))))
      · rw [e] at hv; injection hv with hv; exact .inr (by omega)
end
theorem range_rq {w : World} {g t : Nat} {z u r p : Int} {H : ByteArray} {q : Rl.Rq} {fv lv : Value} {b : Bool} (h : Blk w g t (pC z u r H p q fv lv b)) : w.rangeAt g 11 (Rl.rqC q).toList := fun j v hv => by
  rw [h.cell]
  rcases j with _ | _ | _ | j
  · simpa [Rl.rqC, pC] using hv
  · simpa [Rl.rqC, pC] using hv
  · simpa [Rl.rqC, pC] using hv
  · simp [Rl.rqC] at hv

set_option maxRecDepth 100000 in
set_option maxHeartbeats 2000000 in
theorem addreq_any {E : Nat} {w : World} {g : Nat} {u : Int} {q : Rl.Rq} {fs : List Fd.Fld} {l : List UInt8} {b : Bool} {fv lv : Value} (hE : Ad.Env E w) (h : PkO w g u q fs l b fv lv) (s : List UInt8) (hs : s.length ≤ 1125899906842624) :
    Calls Tryz.prog 129 #[.pointer (some ⟨g, 11, none⟩), .string (Tx.str s)] w fun e w' => e = .returned (.int .i64 (Rl.parseS s).2) ∧ PkO w' g u (Rl.parseS s).1 fs l b fv lv ∧ But [g] w w' := by
  have HK := Lib.hid h
  have HP := Lib.hid (Rl.parse_any s w (Au.tx_of hE) hs)
  unfold Rl.ParP at HP
  obtain ⟨⟨q', e'⟩, hP⟩ : ∃ P, Rl.parseS s = P := ⟨_, rfl⟩
  rw [hP] at HP ⊢
  simp only at HP ⊢
  obtain ⟨S, hS⟩ : ∃ S, Tx.str s = S := ⟨_, rfl⟩
  rw [hS] at HP ⊢
  clear h hE hP hS hs
  go_enter Tryz.func129, Tryz.ntmps129
  go_wp2_with fail
  refine HP.out.mono ?_
  rintro e w1 ⟨rfl, hb⟩
  have HK1 := Lib.hid (HK.out.below hb)
  have HB1 := Lib.hid (But.of_below hb [g])
  clear hb HP HK
  go_upto_region 2 with (refine St.go_st 39 (Blk.new _ _ _) Rl.infR rfl rfl (Rl.rqC_one _) rfl rfl rfl rfl ?_)
  have k5 : Blk ((w1.alloc (.cells #[Value.string ⟨#[]⟩, .string ⟨#[]⟩, .int .i64 0] 39)).setRow w1.heap.size (Rl.rqC q')) w1.heap.size 39 #[.string (Tx.str q'.meth), .string (Tx.str q'.targ), .int .i64 q'.minor] := St.setRow_blk (Blk.new _ _ _)
  have hb : Below w1.heap.size w1 ((w1.alloc (.cells #[Value.string ⟨#[]⟩, .string ⟨#[]⟩, .int .i64 0] 39)).setRow w1.heap.size (Rl.rqC q')) := St.setRow_below ((Below.refl _ _).alloc (Nat.le_refl _) _) (Blk.new _ _ _) (Nat.le_refl _) _
  have HK2 := Lib.hid (HK1.out.below hb)
  have HB2 := Lib.hid (HB1.out.trans (But.of_below hb [g]))
  clear hb HK1 HB1
  generalize (w1.alloc (.cells #[Value.string ⟨#[]⟩, .string ⟨#[]⟩, .int .i64 0] 39)).setRow w1.heap.size (Rl.rqC q') = w2 at *
  generalize w1.heap.size = G at *
  have c11 : w2.cell? ⟨g, 11, none⟩ = some (.string (Tx.str q.meth)) := HK2.out.cells 11
  have c12 : w2.cell? ⟨g, 12, none⟩ = some (.string (Tx.str q.targ)) := HK2.out.cells 12
  have c13 : w2.cell? ⟨g, 13, none⟩ = some (.int .i64 q.minor) := HK2.out.cells 13
  have f11 := HK2.out.blk.frozen 11
  have f12 := HK2.out.blk.frozen 12
  have f13 := HK2.out.blk.frozen 13
  obtain ⟨hk, hb⟩ := HK2.out.set_q q'
  have HK3 := Lib.hid hk
  have HB3 := Lib.hid (HB2.out.trans hb)
  clear hk hb HK2 HB2
  go_wp2_with (refine St.go_ld 39 k5 Rl.undR rfl Rl.infR rfl rfl rfl rfl ?_)
  go_ret
  exact ⟨rfl, HK3.out, HB3.out⟩

theorem wp_appFk {o : Oper} {a : Act} {w : World} {K : Act → World → Prop} {Q : Exit → Act → World → Prop} (s x : Operand)
    (ho : o.op = .call { callee := .builtin .append, args := #[s, x], argTypes := #[40, 40] })
    (v : Value) (l : List Fd.Fld) (f : Fd.Fld) (hs : a.eval s = v) (hown : Fd.OwnF w 0 v l) (g t c : Nat) (hx : a.eval x = .slice (some ⟨g, 0, none⟩) 1 c) (hsrc : Blk w g t #[.string (Tx.str f.name), .string (Tx.str f.text)])
    (hlen : l.length + 1 ≤ 100000)
    (h : ∀ v' w', Hid (Fd.OwnF w' 0 v' (l ++ [f])) → Hid (But v.ownBlock.toList w w') → Hid (v'.ownBlock = v.ownBlock ∨ v'.ownBlock = some w.heap.size) → K (a.put o.dst v') w') : Oper.wp Tryz.prog o a w K Q := by
  obtain ⟨v', w', hrun, h2, h3, h4⟩ := run_appFk f hown (c := c) hsrc hlen o.type
  unfold Oper.wp execOp
  simp only [ho, resolve, invoke, builtin, Sem.run_bind, Sem.run_pure, Result.andThen_ok, List.map_toArray, List.map_cons, List.map_nil, hs, hx, hrun]
  exact h v' w' (Lib.hid h2) (Lib.hid h3) (Lib.hid h4)
/-- what addField leaves -/
def FldP (w : World) (g : Nat) (u : Int) (q : Rl.Rq) (fs : List Fd.Fld) (l : List UInt8) (b : Bool) (fv lv : Value) (P : Fd.Fld × Int) (e : Ending) (w' : World) : Prop :=
  ∃ fe fs' fv', e = .returned (.int .i64 fe) ∧ PkO w' g u q fs' l b fv' lv ∧ But (g :: ledS fv lv) w w' ∧ (∀ i ∈ ledS fv' lv, i ∈ ledS fv lv ∨ w.heap.size ≤ i) ∧
    ((P.2 ≠ 0 ∧ fe = P.2) ∨ (P.2 = 0 ∧ fs.length = 100 ∧ fe = 2) ∨ (P.2 = 0 ∧ fs.length < 100 ∧ fe = 0 ∧ fs' = fs ++ [P.1]))
set_option linter.unusedSimpArgs false in
set_option maxRecDepth 100000 in
set_option maxHeartbeats 4000000 in
theorem addfld_any {E : Nat} {w : World} {g : Nat} {u : Int} {q : Rl.Rq} {fs : List Fd.Fld} {l : List UInt8} {b : Bool} {fv lv : Value} (hE : Ad.Env E w) (h : PkO w g u q fs l b fv lv) (hf : fs.length ≤ 100) (s : List UInt8) (hs : s.length ≤ 281474976710656) :
    Calls Tryz.prog 130 #[.pointer (some ⟨g, 11, none⟩), .string (Tx.str s)] w (FldP w g u q fs l b fv lv (Fd.parseS s)) := by
  have HK := Lib.hid h
  have HP := Lib.hid (Fd.parse_any s w (Au.tx_of hE) hs)
  unfold Fd.ParP at HP
  obtain ⟨⟨f', e'⟩, hP⟩ : ∃ P, Fd.parseS s = P := ⟨_, rfl⟩
  rw [hP] at HP ⊢
  simp only at HP
  obtain ⟨S, hS⟩ : ∃ S, Tx.str s = S := ⟨_, rfl⟩
  rw [hS] at HP ⊢
  clear h hE hP hS hs
  go_enter Tryz.func130, Tryz.ntmps130
  go_wp2_with fail
  refine HP.out.mono ?_
  rintro e w1 ⟨rfl, hb⟩
  have HK1 := Lib.hid (HK.out.below hb)
  have HB1 := Lib.hid (But.of_below hb (g :: ledS fv lv))
  clear hb HP HK
  go_upto_region 2 with (refine St.go_st 45 (Blk.new _ _ _) Fd.infF rfl rfl (Fd.fdC_one _) rfl rfl rfl rfl ?_)
  have k5 : Blk ((w1.alloc (.cells #[Value.string ⟨#[]⟩, .string ⟨#[]⟩] 45)).setRow w1.heap.size (Fd.fdC f')) w1.heap.size 45 #[.string (Tx.str f'.name), .string (Tx.str f'.text)] := St.setRow_blk (Blk.new _ _ _)
  have hb : Below w1.heap.size w1 ((w1.alloc (.cells #[Value.string ⟨#[]⟩, .string ⟨#[]⟩] 45)).setRow w1.heap.size (Fd.fdC f')) := St.setRow_below ((Below.refl _ _).alloc (Nat.le_refl _) _) (Blk.new _ _ _) (Nat.le_refl _) _
  have HK2 := Lib.hid (HK1.out.below hb)
  have HB2 := Lib.hid (HB1.out.trans (But.of_below hb (g :: ledS fv lv)))
  have HLt0 : Hid (∀ i ∈ ledS fv lv, i < w1.heap.size) := Lib.hid (fun i hi => (HK1.out.led i hi).1)
  clear hb HK1 HB1
  generalize (w1.alloc (.cells #[Value.string ⟨#[]⟩, .string ⟨#[]⟩] 45)).setRow w1.heap.size (Fd.fdC f') = w2 at *
  have HLt := Lib.hid (show ∀ i ∈ ledS fv lv, i < w1.heap.size from HLt0.out)
  clear HLt0
  generalize w1.heap.size = G at *
  have HG := Lib.hid k5
  clear k5
  by_cases he : e' = 0
  case neg =>
    have i1 : (e' != 0) = true := by rw [bne_iff_ne]; exact he
    have HE := Lib.hid he
    clear he
    go_wp2_with fail
    go_ret
    exact ⟨e', fs, fv, rfl, HK2.out, HB2.out, fun i hi => .inl hi, .inl ⟨HE.out, rfl⟩⟩
  have i1 : (e' != 0) = false := by simp [he]
  have HE := Lib.hid he
  clear he
  obtain ⟨A, c, hfv, hc, _⟩ := HK2.out.fo.src
  have c14 : w2.cell? ⟨g, 14, none⟩ = some (.slice A fs.length c) := by rw [← hfv]; exact HK2.out.cells 14
  by_cases hl : fs.length = 100
  · have HL := Lib.hid hl
    rw [hl] at c14 hfv
    clear hl hf hfv hc
    go_wp2_with fail
    go_ret
    exact ⟨2, fs, fv, rfl, HK2.out, HB2.out, fun i hi => .inl hi, .inr (.inl ⟨HE.out, HL.out, rfl⟩)⟩
  have HL : Hid (fs.length < 100) := Lib.hid (by omega)
  have i2 : ((fs.length : Int) == 100) = false := by rw [beq_eq_false_iff_ne]; omega
  clear hl hf hc
  obtain ⟨m, hm⟩ : ∃ m, fs.length = m := ⟨_, rfl⟩
  rw [hm] at c14 i2 hfv
  have HM := Lib.hid hm
  clear hm
  go_upto_region 6 with fail
  clear c14 i2
  clear hfv
  have hwd : Below w2.heap.size w2 w2.drew := (Below.refl _ _).drew
  have HK3 := Lib.hid (HK2.out.below hwd)
  have HB3 := Lib.hid (HB2.out.trans (But.of_below hwd (g :: ledS fv lv)))
  have HG3 := Lib.hid (HG.out.below hwd HG.out.lt)
  clear hwd HK2 HB2 HG
  refine wp_region_held_drew (S := fun w' => w'.cell? ⟨G, 0, none⟩ = some (.string (Tx.str f'.name)) ∧ w'.cell? ⟨G, 1, none⟩ = some (.string (Tx.str f'.text))) (by kernel_rfl) (show w2.drew.cell? ⟨G, 0, none⟩ = _ ∧ w2.drew.cell? ⟨G, 1, none⟩ = _ from ⟨HG3.out.cell 0, HG3.out.cell 1⟩) (fun h0 => ?_)
  refine hd_take 0 (some 23) (.pointer (some ⟨g, 11, none⟩)) rfl rfl (by kernel_rfl) (by kernel_rfl) (by kernel_rfl) (fun _ _ _ h => h) (Or.inl ⟨by rfl, fun w hw => by go_simp⟩) h0 ?_
  simp only [Act.put, List.setIfInBounds_toArray, List.set_cons_zero, List.set_cons_succ]
  refine hd_take 1 (some 24) (.pointer (some ⟨g, 11, none⟩)) rfl rfl (by kernel_rfl) (by kernel_rfl) (by kernel_rfl) (fun _ _ _ h => h) (Or.inl ⟨by rfl, fun w hw => by go_simp⟩) h0 ?_
  simp only [Act.put, List.setIfInBounds_toArray, List.set_cons_zero, List.set_cons_succ]
  refine hd_take 2 (some 25) (.pointer (some ⟨g, 11, none⟩)) rfl rfl (by kernel_rfl) (by kernel_rfl) (by kernel_rfl) (fun _ _ _ h => h) (Or.inl ⟨by rfl, fun w hw => by go_simp⟩) h0 ?_
  simp only [Act.put, List.setIfInBounds_toArray, List.set_cons_zero, List.set_cons_succ]
  refine hd_take 3 (some 26) (.pointer (some ⟨g, 14, none⟩)) rfl rfl (by kernel_rfl) (by kernel_rfl) (by kernel_rfl) (fun _ _ _ h => h) (Or.inl ⟨by rfl, fun w hw => by go_simp⟩) h0 ?_
  simp only [Act.put, List.setIfInBounds_toArray, List.set_cons_zero, List.set_cons_succ]
  refine hd_take 5 (some 28) (.agg #[.string (Tx.str f'.name), .string (Tx.str f'.text)]) rfl rfl (by kernel_rfl) (by kernel_rfl) (by kernel_rfl) (fun _ _ _ h => h) (Or.inl ⟨by rfl, fun w hw => by obtain ⟨y0, y1⟩ := hw; go_simp⟩) h0 ?_
  simp only [Act.put, List.setIfInBounds_toArray, List.set_cons_zero, List.set_cons_succ]
  generalize w2.drew = wd at *
  have hSS : ∀ w, Below wd.heap.size wd w → w.cell? ⟨G, 0, none⟩ = some (.string (Tx.str f'.name)) ∧ w.cell? ⟨G, 1, none⟩ = some (.string (Tx.str f'.text)) := fun w hb => ⟨(HG3.out.below hb HG3.out.lt).cell 0, (HG3.out.below hb HG3.out.lt).cell 1⟩
  have HSS := Lib.hid hSS
  have hba : Below wd.heap.size wd (wd.alloc (.cells #[.string (Tx.str f'.name), .string (Tx.str f'.text)] 45)) := (Below.refl _ _).alloc (Nat.le_refl _) _
  have HKa := Lib.hid (HK3.out.below hba)
  have HNa := Lib.hid (Blk.new wd 45 #[.string (Tx.str f'.name), .string (Tx.str f'.text)])
  have HBa := Lib.hid (HB3.out.trans (But.of_below hba (g :: ledS fv lv)))
  have HGa := Lib.hid (HG3.out.below hba HG3.out.lt)
  have HSa := Lib.hid (HSS.out _ hba)
  have HS3 := Lib.hid (HSS.out _ (Below.refl _ _))
  have k14 : wd.cell? ⟨g, 14, none⟩ = some fv := HK3.out.cells 14
  have k14a : (wd.alloc (.cells #[.string (Tx.str f'.name), .string (Tx.str f'.text)] 45)).cell? ⟨g, 14, none⟩ = some fv := HKa.out.cells 14
  have HTail : Hid (∀ v5 w5, Fd.OwnF w5 0 v5 (fs ++ [f']) → But fv.ownBlock.toList (wd.alloc (.cells #[.string (Tx.str f'.name), .string (Tx.str f'.text)] 45)) w5 → (v5.ownBlock = fv.ownBlock ∨ v5.ownBlock = some (wd.alloc (.cells #[.string (Tx.str f'.name), .string (Tx.str f'.text)] 45)).heap.size) →
      w5.cell? ⟨g, 14, none⟩ = some fv ∧ w5.frozen? ⟨g, 14, none⟩ = false ∧ (w5.cell? ⟨G, 0, none⟩ = some (.string (Tx.str f'.name)) ∧ w5.cell? ⟨G, 1, none⟩ = some (.string (Tx.str f'.text))) ∧ ((w5.setCell ⟨g, 14, none⟩ v5).cell? ⟨G, 0, none⟩ = some (.string (Tx.str f'.name)) ∧ (w5.setCell ⟨g, 14, none⟩ v5).cell? ⟨G, 1, none⟩ = some (.string (Tx.str f'.text))) ∧
      PkO (w5.setCell ⟨g, 14, none⟩ v5) g u q (fs ++ [f']) l b v5 lv ∧ But (g :: ledS fv lv) w (w5.setCell ⟨g, 14, none⟩ v5) ∧ ∀ i ∈ ledS v5 lv, i ∈ ledS fv lv ∨ w.heap.size ≤ i) := Lib.hid (by
    intro v5 w5 ho hb hq
    obtain ⟨h1, h2, h3, h4, h5⟩ := HKa.out.app_f ho hb hq
    have hG5 := HGa.out.but hb (fun hm => by have := HLt.out G (List.mem_append.2 (.inl hm)); omega)
    have hGg : G ≠ g := fun e => HGa.out.ne_ (e ▸ HKa.out.blk) (by decide) rfl
    have hG6 := hG5.but (but_of (only_p w5 g 14 v5)) (by simpa using hGg)
    exact ⟨h1, h2, ⟨hG5.cell 0, hG5.cell 1⟩, ⟨hG6.cell 0, hG6.cell 1⟩, h3, HBa.out.trans h4, fun i hi => (h5 i hi).imp id (fun h => Nat.le_trans HBa.out.size h)⟩)
  have HFl := Lib.hid (show fs.length + 1 ≤ 100000 by have := HL.out; omega)
  clear HK3 HB3 HG3 HGa HBa hba hSS
  refine wpAnyH_ready (rs := [4, 6]) (by kernel_rfl) (by simp) (AllReadyH.cons rfl (fun K hK => ?_) (AllReadyH.cons rfl (fun K hK => ?_) AllReadyH.nil))
  · go_simp
    refine hK.out _ _ HS3.out (fun h1 => ?_)
    clear hK K
    refine wpAnyH_ready (rs := [6]) (by kernel_rfl) (by simp) (AllReadyH.cons rfl (fun K hK => ?_) AllReadyH.nil)
    go_simp
    refine hK.out _ _ HSa.out (fun h1 => ?_)
    clear hK K
    refine wpAnyH_ready (rs := [7]) (by kernel_rfl) (by simp) (AllReadyH.cons rfl (fun K hK => ?_) AllReadyH.nil)
    refine wp_appFk (.tmp 27) (.tmp 29) rfl fv fs f' rfl HKa.out.fo wd.heap.size 45 1 rfl HNa.out HFl.out ?_
    intro v5 w5 ho hb hq
    obtain ⟨c14b, f14b, hs5, hs6, hk, hbt, hi⟩ := HTail.out v5 w5 ho.out hb.out hq.out
    obtain ⟨A5, k5, c5, rfl⟩ : ∃ A k c, v5 = .slice A k c := by obtain ⟨A5, c5, hv, _, _⟩ := ho.out.src; exact ⟨_, _, _, hv⟩
    have HK6 := Lib.hid hk
    have HB6 := Lib.hid hbt
    have HI6 := Lib.hid hi
    have HS6 := Lib.hid hs6
    refine hK.out _ _ hs5 (fun h1 => ?_)
    clear hK K ho hb hq hs5 hs6 hk hbt hi HTail
    refine hd_take 8 (some 31) (.pointer (some ⟨g, 11, none⟩)) rfl rfl (by kernel_rfl) (by kernel_rfl) (by kernel_rfl) (fun _ _ _ h => h) (Or.inl ⟨by rfl, fun w hw => by go_simp⟩) h1 ?_
    simp only [Act.put, List.setIfInBounds_toArray, List.set_cons_zero, List.set_cons_succ]
    refine hd_take 9 (some 32) (.pointer (some ⟨g, 14, none⟩)) rfl rfl (by kernel_rfl) (by kernel_rfl) (by kernel_rfl) (fun _ _ _ h => h) (Or.inl ⟨by rfl, fun w hw => by go_simp⟩) h1 ?_
    simp only [Act.put, List.setIfInBounds_toArray, List.set_cons_zero, List.set_cons_succ]
    refine wpAnyH_ready (rs := [10]) (by kernel_rfl) (by simp) (AllReadyH.cons rfl (fun K hK => ?_) AllReadyH.nil)
    go_simp
    refine hK.out _ _ HS6.out (fun h1 => ?_)
    clear hK K
    refine wpAnyH_done (by kernel_rfl) ?_ _
    clear h1 h0 HS6 HKa HNa HSa HS3 HSS c14b f14b
    generalize w5.setCell ⟨g, 14, none⟩ (.slice A5 k5 c5) = w6 at *
    go_wp2_with fail
    go_ret
    exact ⟨0, fs ++ [f'], _, rfl, HK6.out, HB6.out, HI6.out, .inr (.inr ⟨HE.out, HL.out, rfl, rfl⟩)⟩
  · go_simp
    refine hK.out _ _ HSa.out (fun h1 => ?_)
    clear hK K
    refine wpAnyH_ready (rs := [4]) (by kernel_rfl) (by simp) (AllReadyH.cons rfl (fun K hK => ?_) AllReadyH.nil)
    go_simp
    refine hK.out _ _ HSa.out (fun h1 => ?_)
    clear hK K
    refine wpAnyH_ready (rs := [7]) (by kernel_rfl) (by simp) (AllReadyH.cons rfl (fun K hK => ?_) AllReadyH.nil)
    refine wp_appFk (.tmp 27) (.tmp 29) rfl fv fs f' rfl HKa.out.fo wd.heap.size 45 1 rfl HNa.out HFl.out ?_
    intro v5 w5 ho hb hq
    obtain ⟨c14b, f14b, hs5, hs6, hk, hbt, hi⟩ := HTail.out v5 w5 ho.out hb.out hq.out
    obtain ⟨A5, k5, c5, rfl⟩ : ∃ A k c, v5 = .slice A k c := by obtain ⟨A5, c5, hv, _, _⟩ := ho.out.src; exact ⟨_, _, _, hv⟩
    have HK6 := Lib.hid hk
    have HB6 := Lib.hid hbt
    have HI6 := Lib.hid hi
    have HS6 := Lib.hid hs6
    refine hK.out _ _ hs5 (fun h1 => ?_)
    clear hK K ho hb hq hs5 hs6 hk hbt hi HTail
    refine hd_take 8 (some 31) (.pointer (some ⟨g, 11, none⟩)) rfl rfl (by kernel_rfl) (by kernel_rfl) (by kernel_rfl) (fun _ _ _ h => h) (Or.inl ⟨by rfl, fun w hw => by go_simp⟩) h1 ?_
    simp only [Act.put, List.setIfInBounds_toArray, List.set_cons_zero, List.set_cons_succ]
    refine hd_take 9 (some 32) (.pointer (some ⟨g, 14, none⟩)) rfl rfl (by kernel_rfl) (by kernel_rfl) (by kernel_rfl) (fun _ _ _ h => h) (Or.inl ⟨by rfl, fun w hw => by go_simp⟩) h1 ?_
    simp only [Act.put, List.setIfInBounds_toArray, List.set_cons_zero, List.set_cons_succ]
    refine wpAnyH_ready (rs := [10]) (by kernel_rfl) (by simp) (AllReadyH.cons rfl (fun K hK => ?_) AllReadyH.nil)
    go_simp
    refine hK.out _ _ HS6.out (fun h1 => ?_)
    clear hK K
    refine wpAnyH_done (by kernel_rfl) ?_ _
    clear h1 h0 HS6 HKa HNa HSa HS3 HSS c14b f14b
    generalize w5.setCell ⟨g, 14, none⟩ (.slice A5 k5 c5) = w6 at *
    go_wp2_with fail
    go_ret
    exact ⟨0, fs ++ [f'], _, rfl, HK6.out, HB6.out, HI6.out, .inr (.inr ⟨HE.out, HL.out, rfl, rfl⟩)⟩

set_option linter.unusedSimpArgs false in
set_option maxRecDepth 100000 in
set_option maxHeartbeats 4000000 in
theorem told_any {E : Nat} {w : World} {g : Nat} {u : Int} {q : Rl.Rq} {fs : List Fd.Fld} {l : List UInt8} {b : Bool} {fv lv : Value} (hE : Ad.Env E w) (h : PkO w g u q fs l b fv lv) (hf : fs.length ≤ 100) (ht : q.targ.length ≤ 8000) (hM : ∀ f ∈ fs, f.text.length ≤ 1000000) :
    Calls Tryz.prog 48 #[.pointer (some ⟨g, 11, none⟩)] w fun e w' => e = .returned (.tuple #[.string (Tx.str (judgeS q fs).1), .int .i64 (judgeS q fs).2.1, .int .i64 (judgeS q fs).2.2]) ∧ Below w.heap.size w w' := by
  obtain ⟨A, c, rfl, hc, hs⟩ := h.fo.src
  have HO := Lib.hid (fun w hE hs => Au.of_any (B := E) q fs A fs.length c w hE hs rfl (by omega) (by omega) (find_le fs hM))
  have hol := of_len q fs
  have hfl := find_le fs hM
  unfold Au.ResP Au.resT at HO
  obtain ⟨⟨H, p, er⟩, hJ⟩ : ∃ J, Au.ofS q fs = J := ⟨_, rfl⟩
  obtain ⟨R, hR⟩ : ∃ R, judgeS q fs = R := ⟨_, rfl⟩
  have HJ := Lib.hid (judge_of hJ)
  rw [hR] at HJ ⊢
  rw [hJ] at HO hol
  simp only at HO hol
  clear hR
  have HN := Lib.hid (fun w hE => Nm.norm_any (B := E) (Tx.str H) w hE (by rw [Tx.str_size]; omega))
  unfold Nm.resN at HN
  rw [Tx.bs_str H] at HN
  obtain ⟨⟨nm, ne⟩, hq⟩ : ∃ r, Nm.normalS H = r := ⟨_, rfl⟩
  rw [hq] at HN HJ
  simp only at HN HJ
  obtain ⟨X, hX⟩ : ∃ X, Tx.str H = X := ⟨_, rfl⟩
  rw [hX] at HO HN
  have hrd := range_rq h.blk
  have k14 : w.cell? ⟨g, 14, none⟩ = some (.slice A fs.length c) := h.cells 14
  have hgl := h.blk.lt
  have HIn : Hid ((Tryz.prog.info? 39).map (·.size) = some (Rl.rqC q).toList.length) := Lib.hid Rl.infR
  have hwd : Below w.heap.size w w.drew := (Below.refl _ _).drew
  have HEd := Lib.hid (hE.on hwd)
  have HSd := Lib.hid (hs.below hwd)
  have HR := Lib.hid (fun w' (hb : Below w.heap.size w w') => show w'.rangeAt g 11 (Rl.rqC q).toList ∧ w'.cell? ⟨g, 14, none⟩ = some (.slice A fs.length c) from ⟨fun j v hv => (hb.cell (p := ⟨g, 11 + j, none⟩) hgl).trans (hrd j v hv), (hb.cell (p := ⟨g, 14, none⟩) hgl).trans k14⟩)
  have HEg := Lib.hid (fun w' (hb : Below w.heap.size w w') => hE.on hb)
  clear h hE hs hJ hq hX hM hrd k14 hgl hol hfl ht hc
  obtain ⟨m, hm⟩ : ∃ m, fs.length = m := ⟨_, rfl⟩
  rw [hm] at HO HR hf
  clear hm
  go_enter Tryz.func48, Tryz.ntmps48
  go_upto_region 1 with fail
  have HBd := Lib.hid hwd
  clear hwd
  refine wp_region_held_drew (S := fun w' => w'.rangeAt g 11 (Rl.rqC q).toList ∧ w'.cell? ⟨g, 14, none⟩ = some (.slice A m c)) (by kernel_rfl) (HR.out _ HBd.out) (fun h0 => ?_)
  refine hd_take 0 (some 10) (.pointer (some ⟨g, 11, none⟩)) rfl rfl (by kernel_rfl) (by kernel_rfl) (by kernel_rfl) (fun _ _ _ h => h) (Or.inl ⟨by rfl, fun w hw => by go_simp⟩) h0 ?_
  simp only [Act.put, List.setIfInBounds_toArray, List.set_cons_zero, List.set_cons_succ]
  refine hd_take 1 (some 11) (.pointer (some ⟨g, 11, none⟩)) rfl rfl (by kernel_rfl) (by kernel_rfl) (by kernel_rfl) (fun _ _ _ h => h) (Or.inl ⟨by rfl, fun w hw => by go_simp⟩) h0 ?_
  simp only [Act.put, List.setIfInBounds_toArray, List.set_cons_zero, List.set_cons_succ]
  refine hd_take 2 (some 12) (.pointer (some ⟨g, 11, none⟩)) rfl rfl (by kernel_rfl) (by kernel_rfl) (by kernel_rfl) (fun _ _ _ h => h) (Or.inl ⟨by rfl, fun w hw => by go_simp⟩) h0 ?_
  simp only [Act.put, List.setIfInBounds_toArray, List.set_cons_zero, List.set_cons_succ]
  refine hd_take 3 (some 13) (.agg (Rl.rqC q)) rfl rfl (by kernel_rfl) (by kernel_rfl) (by kernel_rfl) (fun _ _ _ h => h) (yieldsIf_load_mid (by rfl) _ _ rfl g 11 rfl (Rl.rqC q).toList _ (fun _ h => h.1) Rl.undR rfl HIn.out) h0 ?_
  simp only [Act.put, List.setIfInBounds_toArray, List.set_cons_zero, List.set_cons_succ]
  refine hd_take 4 (some 14) (.pointer (some ⟨g, 11, none⟩)) rfl rfl (by kernel_rfl) (by kernel_rfl) (by kernel_rfl) (fun _ _ _ h => h) (Or.inl ⟨by rfl, fun w hw => by go_simp⟩) h0 ?_
  simp only [Act.put, List.setIfInBounds_toArray, List.set_cons_zero, List.set_cons_succ]
  refine hd_take 5 (some 15) (.pointer (some ⟨g, 11, none⟩)) rfl rfl (by kernel_rfl) (by kernel_rfl) (by kernel_rfl) (fun _ _ _ h => h) (Or.inl ⟨by rfl, fun w hw => by go_simp⟩) h0 ?_
  simp only [Act.put, List.setIfInBounds_toArray, List.set_cons_zero, List.set_cons_succ]
  refine hd_take 6 (some 16) (.pointer (some ⟨g, 14, none⟩)) rfl rfl (by kernel_rfl) (by kernel_rfl) (by kernel_rfl) (fun _ _ _ h => h) (Or.inl ⟨by rfl, fun w hw => by go_simp⟩) h0 ?_
  simp only [Act.put, List.setIfInBounds_toArray, List.set_cons_zero, List.set_cons_succ]
  refine hd_take 7 (some 17) (.slice A m c) rfl rfl (by kernel_rfl) (by kernel_rfl) (by kernel_rfl) (fun _ _ _ h => h) (Or.inl ⟨by rfl, fun w hw => by have hx := hw.2; go_simp⟩) h0 ?_
  simp only [Act.put, List.setIfInBounds_toArray, List.set_cons_zero, List.set_cons_succ]
  refine wpAnyH_ready (rs := [8]) (by kernel_rfl) (by simp) (AllReadyH.cons rfl (fun K1 hK => ?_) AllReadyH.nil)
  go_simp
  go_wp2_with (go_at_call 17; refine (HO.out _ HEd.out HSd.out).mono ?_; rintro e w6 ⟨rfl, hb⟩; have HB6 := Lib.hid (HBd.out.trans (hb.mono HBd.out.size)); clear hb)
  refine hK.out _ _ (HR.out _ HB6.out) (fun h1 => ?_)
  clear hK K1
  refine hd_take 9 (some 9) (.tuple #[.string X, .int .i64 p, .int .i64 er]) rfl rfl (by kernel_rfl) (by kernel_rfl) (by kernel_rfl) (fun _ _ _ h => h) (Or.inl ⟨by rfl, fun w hw => by go_simp⟩) h1 ?_
  simp only [Act.put, List.setIfInBounds_toArray, List.set_cons_zero, List.set_cons_succ]
  refine hd_take 10 (some 19) (.string X) rfl rfl (by kernel_rfl) (by kernel_rfl) (by kernel_rfl) (fun _ _ _ h => h) (Or.inl ⟨by rfl, fun w hw => by go_simp⟩) h1 ?_
  simp only [Act.put, List.setIfInBounds_toArray, List.set_cons_zero, List.set_cons_succ]
  refine hd_take 11 (some 20) (.int .i64 p) rfl rfl (by kernel_rfl) (by kernel_rfl) (by kernel_rfl) (fun _ _ _ h => h) (Or.inl ⟨by rfl, fun w hw => by go_simp⟩) h1 ?_
  simp only [Act.put, List.setIfInBounds_toArray, List.set_cons_zero, List.set_cons_succ]
  refine hd_take 12 (some 21) (.int .i64 er) rfl rfl (by kernel_rfl) (by kernel_rfl) (by kernel_rfl) (fun _ _ _ h => h) (Or.inl ⟨by rfl, fun w hw => by go_simp⟩) h1 ?_
  simp only [Act.put, List.setIfInBounds_toArray, List.set_cons_zero, List.set_cons_succ]
  refine hd_take 13 (some 5) (.string X) rfl rfl (by kernel_rfl) (by kernel_rfl) (by kernel_rfl) (fun _ _ _ h => h) (Or.inl ⟨by rfl, fun w hw => by go_simp⟩) h1 ?_
  simp only [Act.put, List.setIfInBounds_toArray, List.set_cons_zero, List.set_cons_succ]
  refine hd_take 14 (some 6) (.int .i64 p) rfl rfl (by kernel_rfl) (by kernel_rfl) (by kernel_rfl) (fun _ _ _ h => h) (Or.inl ⟨by rfl, fun w hw => by go_simp⟩) h1 ?_
  simp only [Act.put, List.setIfInBounds_toArray, List.set_cons_zero, List.set_cons_succ]
  refine hd_take 15 (some 7) (.int .i64 er) rfl rfl (by kernel_rfl) (by kernel_rfl) (by kernel_rfl) (fun _ _ _ h => h) (Or.inl ⟨by rfl, fun w hw => by go_simp⟩) h1 ?_
  simp only [Act.put, List.setIfInBounds_toArray, List.set_cons_zero, List.set_cons_succ]
  refine wpAnyH_done (by kernel_rfl) ?_ _
  clear h0 h1 HO HEd HSd HBd HR
  by_cases h1 : er = 0
  case neg =>
    have i1 : (er != 0) = true := by rw [bne_iff_ne]; exact h1
    have hj := HJ.out
    rw [if_pos h1] at hj
    have HR := Lib.hid hj
    clear h1 hj HJ HN
    go_wp2_with fail
    go_ret3
    exact ⟨by rw [HR.out]; rfl, HB6.out⟩
  have i0 : (er != 0) = false := by simp [h1]
  have HJ1 := HJ.out
  rw [if_neg (by simp [h1])] at HJ1
  clear HJ h1
  have HJ := Lib.hid HJ1
  clear HJ1
  go_wp2_with fail
  refine (HN.out w6 (HEg.out _ HB6.out)).mono ?_
  rintro e w7 ⟨rfl, hb⟩
  have HB7 := Lib.hid (HB6.out.trans (hb.mono HB6.out.size))
  clear hb HN HB6
  by_cases h1 : ne = 0
  case neg =>
    have i1 : (ne != 0) = true := by rw [bne_iff_ne]; exact h1
    have hj := HJ.out
    rw [if_pos h1] at hj
    have HR := Lib.hid hj
    clear h1 hj HJ
    go_wp2_with fail
    go_ret3
    exact ⟨by rw [HR.out]; rfl, HB7.out⟩
  have i1 : (ne != 0) = false := by simp [h1]
  have hj := HJ.out
  rw [if_neg (by simp [h1])] at hj
  have HR := Lib.hid hj
  clear hj HJ h1
  go_wp2_with fail
  go_ret3
  exact ⟨by rw [HR.out]; rfl, HB7.out⟩

/-- what one byte leaves, in memory -/
def AftP (t t' : H) (w : World) (g : Nat) (u : Int) (S0 : List Nat) (e : Ending) (w' : World) : Prop :=
  ∃ wh fe q' fs' l' b' fv' lv', e = .returned (.tuple #[.bool wh, .int .i64 fe]) ∧ PkO w' g u q' fs' l' b' fv' lv' ∧ But (g :: S0) w w' ∧ (∀ i ∈ ledS fv' lv', i ∈ S0 ∨ w.heap.size ≤ i) ∧ Aft t t' wh fe q' fs' l' b'
theorem led_nil {fv lv : Value} : ∀ i ∈ ledS fv (.slice none 0 0), i ∈ ledS fv lv := fun i hi => by
  rcases List.mem_append.1 hi with hi | hi
  · exact List.mem_append.2 (.inl hi)
  · cases hi
set_option maxRecDepth 100000 in
set_option maxHeartbeats 4000000 in
theorem endline_any {E : Nat} {w : World} {g : Nat} {u : Int} {l : List UInt8} {fv lv : Value} {t : H} (hE : Ad.Env E w) (hEg : ∀ i ∈ g :: ledS fv lv, E ≤ i) (h : PkO w g u t.q t.fs l false fv lv) (hn : Nq t) (hf : t.fs.length ≤ 100) (hl : l.length ≤ 281474976710656) :
    Calls Tryz.prog 88 #[.pointer (some ⟨g, 11, none⟩)] w (AftP t (endS t l) w g u (ledS fv lv)) := by
  obtain ⟨A, c, hlv, hc, hs⟩ := h.lo.src
  have hcv := con8 (c := c) hs
  have k15 : w.cell? ⟨g, 15, none⟩ = some (.slice A l.length c) := by rw [← hlv]; exact h.cells 15
  have f15 := h.blk.frozen 15
  obtain ⟨S, hS⟩ : ∃ S, (⟨l.toArray⟩ : ByteArray) = S := ⟨_, rfl⟩
  have HSt := Lib.hid (show Tx.str l = S from hS)
  rw [hS] at hcv
  have HK := Lib.hid h
  have HE := Lib.hid hE
  have HEg := Lib.hid hEg
  have HNq := Lib.hid hn
  have HLe := Lib.hid hl
  obtain ⟨hk, hb⟩ := h.set_n
  have HK1 := Lib.hid hk
  have HB1 := Lib.hid (show But (g :: ledS fv lv) w (w.setCell ⟨g, 15, none⟩ (.slice none 0 0)) from hb.more (by simp))
  clear h hE hEg hn hl hs hc hlv hk hb hS HK
  obtain ⟨m, hm⟩ : ∃ m, l.length = m := ⟨_, rfl⟩
  rw [hm] at hcv k15
  clear hm
  go_enter Tryz.func88, Tryz.ntmps88
  go_upto_region 3 with fail
  clear hcv k15 f15
  have HE1 := Lib.hid (HE.out.below (HB1.out.below HEg.out HE.out.le))
  have hE1 : ∀ i ∈ g :: ledS fv (.slice none 0 0), E ≤ i := fun i hi => by
    rcases List.mem_cons.1 hi with hi | hi
    · exact HEg.out i (by rw [hi]; simp)
    · exact HEg.out i (List.mem_cons_of_mem _ (led_nil i hi))
  have HEg1 := Lib.hid hE1
  clear hE1
  generalize w.setCell ⟨g, 15, none⟩ (.slice none 0 0) = w1 at *
  have HR := Lib.hid (range_rq HK1.out.blk)
  have HIn : Hid ((Tryz.prog.info? 39).map (·.size) = some (Rl.rqC t.q).toList.length) := Lib.hid Rl.infR
  have HZ : Hid (Tryz.prog.built 39 [] = some (Rl.rqC Rl.Rq.zero)) := Lib.hid (by kernel_rfl)
  by_cases h0 : t.n = 0
  · have hq := HNq.out.1 h0
    have HQ : Hid (decide (t.q = Rl.Rq.zero) = true) := Lib.hid (decide_eq_true hq)
    have HAf := Lib.hid (aft_req (t := t) (s := l) h0)
    have HP := Lib.hid (addreq_any HE1.out HK1.out l (by have := HLe.out; omega))
    rw [HSt.out] at HP
    clear h0 hq HNq
    go_wp2_with (refine go_ldM (x := .tmp 16) 39 (Rl.rqC t.q).toList g 11 HR.out Rl.undR rfl HIn.out (by rfl) rfl rfl ?_; refine Hid.out ?_)
    refine Lib.hid ?_
    refine Rl.go_bdR _ Rl.Rq.zero HZ.out (by rfl) rfl (by simp) ?_
    refine Rl.go_eqlR t.q Rl.Rq.zero true HQ.out rfl (by rfl) rfl rfl ?_
    go_wp2_with fail
    refine HP.out.mono ?_
    rintro e w2 ⟨rfl, hk, hb⟩
    have HK2 := Lib.hid hk
    have HB2 := Lib.hid (HB1.out.trans (hb.more (T := g :: ledS fv lv) (by simp)))
    clear hk hb HK1 HB1 HP
    go_wp2_with fail
    go_ret2
    exact ⟨false, _, _, _, _, _, _, _, rfl, HK2.out, HB2.out, fun i hi => .inl (led_nil i hi), HAf.out⟩
  have hq : t.q ≠ Rl.Rq.zero := fun e => h0 (HNq.out.2 e)
  have HQ : Hid (decide (t.q = Rl.Rq.zero) = false) := Lib.hid (decide_eq_false hq)
  clear hq
  by_cases hs0 : l = []
  · subst hs0
    have HAf := Lib.hid (aft_whole h0)
    have i2 : S.toList.isEmpty = true := by rw [← HSt.out, Tx.str, Lib.toList_data]; rfl
    clear h0 HNq
    go_wp2_with (refine go_ldM (x := .tmp 16) 39 (Rl.rqC t.q).toList g 11 HR.out Rl.undR rfl HIn.out (by rfl) rfl rfl ?_; refine Hid.out ?_)
    refine Lib.hid ?_
    refine Rl.go_bdR _ Rl.Rq.zero HZ.out (by rfl) rfl (by simp) ?_
    refine Rl.go_eqlR t.q Rl.Rq.zero false HQ.out rfl (by rfl) rfl rfl ?_
    go_wp2_with fail
    go_ret2
    exact ⟨true, 0, _, _, _, _, _, _, rfl, HK1.out, HB1.out, fun i hi => .inl (led_nil i hi), HAf.out⟩
  have i2 : S.toList.isEmpty = false := by
    rw [← HSt.out]
    cases hs1 : l with
    | nil => exact absurd hs1 hs0
    | cons a b => rw [Tx.str, Lib.toList_data]; rfl
  have HN0 := Lib.hid h0
  have HS0 := Lib.hid hs0
  have HP := Lib.hid (addfld_any HE1.out HK1.out hf l (by have := HLe.out; omega))
  rw [HSt.out] at HP
  clear h0 hs0 HNq hf
  go_wp2_with (refine go_ldM (x := .tmp 16) 39 (Rl.rqC t.q).toList g 11 HR.out Rl.undR rfl HIn.out (by rfl) rfl rfl ?_; refine Hid.out ?_)
  refine Lib.hid ?_
  refine Rl.go_bdR _ Rl.Rq.zero HZ.out (by rfl) rfl (by simp) ?_
  refine Rl.go_eqlR t.q Rl.Rq.zero false HQ.out rfl (by rfl) rfl rfl ?_
  go_wp2_with fail
  refine HP.out.mono ?_
  rintro e w2 ⟨fe, fs', fv', rfl, hk, hb, hi, hor⟩
  have HK2 := Lib.hid hk
  have HB2 := Lib.hid (HB1.out.trans (hb.more (T := g :: ledS fv lv) (fun i hi => by
    rcases List.mem_cons.1 hi with hi | hi
    · rw [hi]; simp
    · exact List.mem_cons_of_mem _ (led_nil i hi))))
  have HI2 := Lib.hid (show ∀ i ∈ ledS fv' (.slice none 0 0), i ∈ ledS fv lv ∨ w.heap.size ≤ i from fun i hm => (hi i hm).imp (led_nil i) (fun h => Nat.le_trans HB1.out.size h))
  have HOr := Lib.hid hor
  clear hk hb hi hor HK1 HB1 HP
  go_wp2_with fail
  go_ret2
  refine ⟨false, fe, t.q, fs', [], false, fv', .slice none 0 0, rfl, HK2.out, HB2.out, HI2.out, ?_⟩
  rcases HOr.out with ⟨h1, h2⟩ | ⟨h1, h2, h3⟩ | ⟨h1, h2, h3, h4⟩
  · rw [h2]; exact aft_wrong HN0.out HS0.out h1 _ _ _ _
  · rw [h3]; exact aft_full HN0.out HS0.out h1 h2 _ _ _ _
  · rw [h3, h4]; exact aft_field HN0.out HS0.out h1 h2

theorem byte_ne {c d : UInt8} (h : c ≠ d) : ((c.toNat : Int) == (d.toNat : Int)) = false := by
  rw [beq_eq_false_iff_ne]
  intro e
  exact h (UInt8.toNat_inj.1 (by omega))
set_option maxRecDepth 100000 in
set_option maxHeartbeats 4000000 in
theorem add_any {E : Nat} {w : World} {g : Nat} {u : Int} {fv lv : Value} {t : H} (hE : Ad.Env E w) (hEg : ∀ i ∈ g :: ledS fv lv, E ≤ i) (h : PkO w g u t.q t.fs (lineH t) (backB t) fv lv) (hz : t.z = 0) (hn : Nq t) (hf : t.fs.length ≤ 100) (hl : (lineH t).length ≤ 1000000000) (c : UInt8) :
    Calls Tryz.prog 47 #[.pointer (some ⟨g, 11, none⟩), .int .u8 (c.toNat : Int)] w (AftP t (stepH t c) w g u (ledS fv lv)) := by
  have k16 : w.cell? ⟨g, 16, none⟩ = some (.bool (backB t)) := h.cells 16
  have f16 := h.blk.frozen 16
  have HK := Lib.hid h
  cases hb : backB t
  · rw [hb] at k16
    by_cases h1 : c = 10
    · have HAf := Lib.hid (aft_form (t := t) (c := c) hz (by rw [hb, h1]; simp) t.q t.fs (lineH t) (backB t))
      have i1 : ((c.toNat : Int) == 10) = true := by rw [h1]; rfl
      generalize c.toNat = v at *
      clear h hb hz h1 hE hEg hn hf hl
      go_enter Tryz.func47, Tryz.ntmps47
      go_wp2_with fail
      go_ret2
      exact ⟨false, 3, _, _, _, _, _, _, rfl, HK.out, But.refl _ _, fun i hi => .inl hi, HAf.out⟩
    have i1 : ((c.toNat : Int) == 10) = false := byte_ne (d := 10) h1
    by_cases h2 : c = 13
    · have HAf := Lib.hid (aft_return hz hb)
      rw [← h2] at HAf
      have i2 : ((c.toNat : Int) == 13) = true := by rw [h2]; rfl
      obtain ⟨hk, hbt⟩ := h.set_r true
      have HK1 := Lib.hid hk
      have HB1 := Lib.hid (show But (g :: ledS fv lv) w (w.setCell ⟨g, 16, none⟩ (.bool true)) from hbt.more (by simp))
      generalize c.toNat = v at *
      clear h hb hz h1 h2 hE hEg hn hf hl hk hbt HK
      go_enter Tryz.func47, Tryz.ntmps47
      go_wp2_with fail
      go_ret2
      exact ⟨false, 0, _, _, _, _, _, _, rfl, HK1.out, HB1.out, fun i hi => .inl hi, HAf.out⟩
    have HAf := Lib.hid (aft_byte hz hb h1 h2)
    have i2 : ((c.toNat : Int) == 13) = false := byte_ne (d := 13) h2
    obtain ⟨A, cp, hlv, hc, hs⟩ := h.lo.src
    have k15 : w.cell? ⟨g, 15, none⟩ = some lv := h.cells 15
    have HS1 := Lib.hid (Src.of_blk (xs := [c]) (off := 0) (Blk.new w 5 #[.int .u8 (c.toNat : Int)]) (fun j d hj => by
      match j, hj with
      | 0, hj => injection hj with hj; rw [← hj]; rfl
      | j + 1, hj => simp at hj))
    have hal : Below w.heap.size w (w.alloc (.cells #[.int .u8 (c.toNat : Int)] 5)) := (Below.refl _ _).alloc (Nat.le_refl _) _
    have HK1 := Lib.hid (HK.out.below hal)
    have HB1 := Lib.hid (But.of_below hal (g :: ledS fv lv))
    have HLl : Hid ((lineH t).length + 1 ≤ 140737488355328) := Lib.hid (by omega)
    rw [hb] at HK1
    clear h hb hz h1 h2 hE hEg hn hf hl HK hal hc hs hlv
    go_enter Tryz.func47, Tryz.ntmps47
    go_wp2_with (at_builtin; refine Hid.out ?_)
    refine Lib.hid ?_
    refine wpList_app8 rfl (.tmp 40) (.tmp 42) rfl lv (lineH t) rfl HK1.out.lo (some ⟨w.heap.size, 0, none⟩) 1 1 [c] rfl HS1.out HLl.out ?_
    intro v5 w5 ho hbt hq
    obtain ⟨c15, f15, hk, hbx, hi⟩ := HK1.out.app_l ho.out hbt.out hq.out
    obtain ⟨A5, k5, c5, rfl⟩ : ∃ A k c, v5 = .slice A k c := by obtain ⟨A5, c5, hv, _, _⟩ := ho.out.src; exact ⟨_, _, _, hv⟩
    have HK5 := Lib.hid hk
    have HB5 := Lib.hid (HB1.out.trans hbx)
    have HI5 := Lib.hid hi
    clear hk hbx hi ho hbt hq
    go_upto_region 10 with fail
    clear c15 f15 k15 k16 f16
    generalize w5.setCell ⟨g, 15, none⟩ (.slice A5 k5 c5) = w6 at *
    go_wp2_with fail
    go_ret2
    exact ⟨false, 0, _, _, _, _, _, _, rfl, HK5.out, HB5.out, fun i hi => (HI5.out i hi).imp id (fun h => Nat.le_trans (by simp) h), HAf.out⟩
  · rw [hb] at k16
    by_cases h1 : c = 10
    · have HSt := Lib.hid (step_end hz hb)
      rw [← h1] at HSt
      have i1 : ((c.toNat : Int) == 10) = true := by rw [h1]; rfl
      obtain ⟨hk, hbt⟩ := h.set_r false
      have HK1 := Lib.hid hk
      have HB1 := Lib.hid (show But (g :: ledS fv lv) w (w.setCell ⟨g, 16, none⟩ (.bool false)) from hbt.more (by simp))
      have HP := Lib.hid (endline_any (hE.below (HB1.out.below hEg hE.le)) hEg hk hn hf (by omega))
      generalize c.toNat = v at *
      clear h hb hz h1 hE hEg hn hf hl hk hbt HK
      go_enter Tryz.func47, Tryz.ntmps47
      go_upto_region 6 with fail
      clear k16 f16
      generalize w.setCell ⟨g, 16, none⟩ (.bool false) = w1 at *
      go_wp2_with fail
      refine HP.out.mono ?_
      rintro e w2 ⟨wh, fe, q', fs', l', b', fv', lv', rfl, hk, hbt, hi, ha⟩
      have HK2 := Lib.hid hk
      have HB2 := Lib.hid (HB1.out.trans hbt)
      have HI2 := Lib.hid (show ∀ i ∈ ledS fv' lv', i ∈ ledS fv lv ∨ w.heap.size ≤ i from fun i hm => (hi i hm).imp id (fun h => Nat.le_trans HB1.out.size h))
      have HA2 := Lib.hid ha
      clear hk hbt hi ha HP HK1 HB1
      go_wp2_with fail
      go_ret2
      exact ⟨wh, fe, q', fs', l', b', fv', lv', rfl, HK2.out, HB2.out, HI2.out, by rw [HSt.out]; exact HA2.out⟩
    · have HAf := Lib.hid (aft_form (t := t) (c := c) hz (by rw [hb, decide_eq_false h1]; simp) t.q t.fs (lineH t) (backB t))
      have i1 : ((c.toNat : Int) == 10) = false := byte_ne (d := 10) h1
      generalize c.toNat = v at *
      clear h hb hz h1 hE hEg hn hf hl
      go_enter Tryz.func47, Tryz.ntmps47
      go_wp2_with fail
      go_ret2
      exact ⟨false, 3, _, _, _, _, _, _, rfl, HK.out, But.refl _ _, fun i hi => .inl hi, HAf.out⟩
end Go.Proofs.YtgbhnjkigjecmaaGreatDoor.Hp
