/-
  Contracts of package httppeek's look, New, Take and All over this seat's translation: one byte is one step. No condition beyond what the library's tables hold.
-/
import Derived.Test.YtgbhnjkigjecmaaGreatDoorQ29
import Derived.Test.YtgbhnjkigjecmaaGreatDoorQ18
namespace Go.Proofs.YtgbhnjkigjecmaaGreatDoor.Hp
open Go.RowKit Go.Proofs.YtgbhnjkigjecmaaGreatDoor.Wd

theorem pC_u (z u v r : Int) (H : ByteArray) (p : Int) (q : Rl.Rq) (fv lv : Value) (b : Bool) : (pC z u r H p q fv lv b).setIfInBounds 2 (.int .i64 v) = pC z v r H p q fv lv b := by simp [pC]
theorem pC_hp (z u r : Int) (H H' : ByteArray) (p p' : Int) (q : Rl.Rq) (fv lv : Value) (b : Bool) : ((pC z u r H p q fv lv b).setIfInBounds 4 (.string H')).setIfInBounds 5 (.int .i64 p') = pC z u r H' p' q fv lv b := by simp [pC]
theorem pC_bad (z u r e : Int) (H : ByteArray) (p : Int) (q : Rl.Rq) (fv lv : Value) (b : Bool) : ((((((((pC z u r H p q fv lv b).setIfInBounds 0 (.int .i64 2)).setIfInBounds 3 (.int .i64 e)).setIfInBounds 11 (.string ⟨#[]⟩)).setIfInBounds 12 (.string ⟨#[]⟩)).setIfInBounds 13 (.int .i64 0)).setIfInBounds 14 (.slice none 0 0)).setIfInBounds 15 (.slice none 0 0)).setIfInBounds 16 (.bool false) = pC 2 u e H p Rl.Rq.zero (.slice none 0 0) (.slice none 0 0) false := by simp [pC, Rl.Rq.zero, Tx.str]
theorem pC_done (z u r : Int) (H : ByteArray) (p : Int) (q : Rl.Rq) (fv lv : Value) (b : Bool) : (((((((pC z u r H p q fv lv b).setIfInBounds 0 (.int .i64 1)).setIfInBounds 11 (.string ⟨#[]⟩)).setIfInBounds 12 (.string ⟨#[]⟩)).setIfInBounds 13 (.int .i64 0)).setIfInBounds 14 (.slice none 0 0)).setIfInBounds 15 (.slice none 0 0)).setIfInBounds 16 (.bool false) = pC 1 u r H p Rl.Rq.zero (.slice none 0 0) (.slice none 0 0) false := by simp [pC, Rl.Rq.zero, Tx.str]
/-- the head is dropped -/
def zeroH (w : World) (g : Nat) : World := (((((w.setCell ⟨g, 11, none⟩ (.string ⟨#[]⟩)).setCell ⟨g, 12, none⟩ (.string ⟨#[]⟩)).setCell ⟨g, 13, none⟩ (.int .i64 0)).setCell ⟨g, 14, none⟩ (.slice none 0 0)).setCell ⟨g, 15, none⟩ (.slice none 0 0)).setCell ⟨g, 16, none⟩ (.bool false)
theorem zeroH_only {a w : World} {g : Nat} (h : a.grownBy w (some g)) : a.grownBy (zeroH w g) (some g) :=
  only_setCell (p := ⟨g, 16, none⟩) (only_setCell (p := ⟨g, 15, none⟩) (only_setCell (p := ⟨g, 14, none⟩) (only_setCell (p := ⟨g, 13, none⟩) (only_setCell (p := ⟨g, 12, none⟩) (only_setCell (p := ⟨g, 11, none⟩) h (.inl rfl) _) (.inl rfl) _) (.inl rfl) _) (.inl rfl) _) (.inl rfl) _) (.inl rfl) _
theorem bad_blk {w : World} {g : Nat} {u e : Int} {H : ByteArray} {p : Int} {q : Rl.Rq} {fv lv : Value} {b : Bool} (h : Blk w g 57 (pC 0 u 0 H p q fv lv b)) :
    Blk (zeroH ((w.setCell ⟨g, 0, none⟩ (.int .i64 2)).setCell ⟨g, 3, none⟩ (.int .i64 e)) g) g 57 (pC 2 u e H p Rl.Rq.zero (.slice none 0 0) (.slice none 0 0) false) ∧ But [g] w (zeroH ((w.setCell ⟨g, 0, none⟩ (.int .i64 2)).setCell ⟨g, 3, none⟩ (.int .i64 e)) g) := by
  have h1 := (((((((h.set_ 0 (.int .i64 2)).set_ 3 (.int .i64 e)).set_ 11 (.string ⟨#[]⟩)).set_ 12 (.string ⟨#[]⟩)).set_ 13 (.int .i64 0)).set_ 14 (.slice none 0 0)).set_ 15 (.slice none 0 0)).set_ 16 (.bool false)
  rw [pC_bad] at h1
  exact ⟨h1, but_of (zeroH_only (only_setCell (p := ⟨g, 3, none⟩) (only_p w g 0 _) (.inl rfl) _))⟩
theorem done_blk {w : World} {g : Nat} {u : Int} {H : ByteArray} {p : Int} {q : Rl.Rq} {fv lv : Value} {b : Bool} (h : Blk w g 57 (pC 0 u 0 H p q fv lv b)) :
    Blk (zeroH (w.setCell ⟨g, 0, none⟩ (.int .i64 1)) g) g 57 (pC 1 u 0 H p Rl.Rq.zero (.slice none 0 0) (.slice none 0 0) false) ∧ But [g] w (zeroH (w.setCell ⟨g, 0, none⟩ (.int .i64 1)) g) := by
  have h1 := ((((((h.set_ 0 (.int .i64 1)).set_ 11 (.string ⟨#[]⟩)).set_ 12 (.string ⟨#[]⟩)).set_ 13 (.int .i64 0)).set_ 14 (.slice none 0 0)).set_ 15 (.slice none 0 0)).set_ 16 (.bool false)
  rw [pC_done] at h1
  exact ⟨h1, but_of (zeroH_only (only_p w g 0 _))⟩
theorem told_blk {w : World} {g : Nat} {u r : Int} {H' : ByteArray} {p' : Int} {q : Rl.Rq} {fv lv : Value} {b : Bool} (h : Blk w g 57 (pC 0 u r ⟨#[]⟩ 0 q fv lv b)) :
    Blk ((w.setCell ⟨g, 4, none⟩ (.string H')).setCell ⟨g, 5, none⟩ (.int .i64 p')) g 57 (pC 0 u r H' p' q fv lv b) ∧ But [g] w ((w.setCell ⟨g, 4, none⟩ (.string H')).setCell ⟨g, 5, none⟩ (.int .i64 p')) := by
  have h1 := (h.set_ 4 (.string H')).set_ 5 (.int .i64 p')
  rw [pC_hp] at h1
  exact ⟨h1, but_of (only_setCell (p := ⟨g, 5, none⟩) (only_p w g 4 _) (.inl rfl) _)⟩
/-- behind what is wrong -/
theorem pk_bad {w : World} {g : Nat} {t : H} {e : Int} (k : OkH t) (n : Nq t) (he : e ≠ 0) (h : Blk w g 57 (pC 2 ((t.u : Int) + 1) e ⟨#[]⟩ 0 Rl.Rq.zero (.slice none 0 0) (.slice none 0 0) false)) : Pk w g [] (t.bad e) :=
  ⟨bad_ok k he, n, .inr ⟨by show ¬ 2 = 0; decide, rfl, h⟩⟩

theorem set_same {cs : Array Value} {i : Nat} {v : Value} (h : cs[i]? = some v) : cs.setIfInBounds i v = cs := by
  apply Array.ext_getElem?
  intro j
  rw [Array.getElem?_setIfInBounds]
  split
  · rename_i e
    subst e
    have hl := (Array.getElem?_eq_some_iff.1 h).1
    rw [if_pos hl, h]
  · rfl
/-- a cell stored as it was: all is as it was -/
theorem cell_same {w : World} {g t i : Nat} {cs : Array Value} {v : Value} (h : Blk w g t cs) (hv : cs[i]? = some v) : w.setCell ⟨g, i, none⟩ v = w := by
  have hh : ∀ f : Obj → Obj, f (.cells cs t (0, 0)) = .cells cs t (0, 0) → w.heap.modify g f = w.heap := by
    intro f hf
    apply Array.ext_getElem?
    intro j
    rw [Array.getElem?_modify]
    split
    · rename_i e
      subst e
      rw [h.heap]
      show some (f _) = _
      rw [hf]
    · rfl
  unfold World.setCell
  rw [hh _ (by show Obj.cells (if (none : Option _).isSome then cs else cs.setIfInBounds i v) t (0, 0) = _; rw [if_neg (by simp), set_same hv])]

set_option linter.unusedSimpArgs false in
set_option maxRecDepth 100000 in
set_option maxHeartbeats 8000000 in
theorem look_any {E : Nat} {w : World} {g : Nat} {S : List Nat} {t : H} (hE : Ad.Env E w) (hEg : ∀ i ∈ g :: S, E ≤ i) (h : Pk w g S t) (hz : t.z = 0) (hu : t.u ≤ 1000000) (c : UInt8) :
    Calls Tryz.prog 23 #[.pointer (some ⟨g, 0, none⟩), .int .u8 (c.toNat : Int)] w fun e w' => e = .returned (.tuple #[]) ∧ ∃ S', Pk w' g S' (stepH t c) ∧ (∀ i ∈ S', i ∈ S ∨ w.heap.size ≤ i) ∧ But (g :: S) w w' := by
  have HE := Lib.hid hE
  have HOk := Lib.hid h.ok
  have HNq := Lib.hid h.nq
  have HSo := Lib.hid (stepH_ok h.ok c)
  have HSn := Lib.hid (stepH_nq h.nq c)
  have HEg := Lib.hid hEg
  have HZ := Lib.hid hz
  obtain ⟨_, fv, lv, hP, hS⟩ := h.at_.resolve_right (fun h1 => h1.1 hz)
  subst hS
  obtain ⟨S, hS⟩ : ∃ S, ledS fv lv = S := ⟨_, rfl⟩
  have HS := Lib.hid hS
  have c2 : w.cell? ⟨g, 2, none⟩ = some (.int .i64 (t.u : Int)) := hP.cells 2
  have f2 := hP.blk.frozen 2
  have hb2 := hP.blk.set_ 2 (.int .i64 ((t.u : Int) + 1))
  rw [pC_u] at hb2
  have k2 := but_of (only_p w g 2 (.int .i64 ((t.u : Int) + 1)))
  have HP1 : Hid (PkO (w.setCell ⟨g, 2, none⟩ (.int .i64 ((t.u : Int) + 1))) g ((t.u : Int) + 1) t.q t.fs (lineH t) (backB t) fv lv) := Lib.hid ⟨hb2, owns_but hP.fo k2 (fun i hi hm => owns_ne hP.fo hP.blk (by decide) (by rw [hi, List.mem_singleton.1 hm])), owns_but hP.lo k2 (fun i hi hm => owns_ne hP.lo hP.blk (by decide) (by rw [hi, List.mem_singleton.1 hm]))⟩
  rw [hS] at HEg h ⊢
  have HB1 : Hid (But (g :: S) w (w.setCell ⟨g, 2, none⟩ (.int .i64 ((t.u : Int) + 1)))) := Lib.hid (k2.more (by simp))
  clear h hz hE hP hS hEg hb2 k2
  go_enter Tryz.func23, Tryz.ntmps23
  go_upto_region 1 with fail
  clear c2 f2
  generalize w.setCell ⟨g, 2, none⟩ (.int .i64 ((t.u : Int) + 1)) = w1 at *
  have HE1 := Lib.hid (HE.out.below (HB1.out.below HEg.out HE.out.le))
  have HA := Lib.hid (add_any HE1.out (by rw [HS.out]; exact HEg.out) HP1.out HZ.out HNq.out HOk.out.fs (by have := lineH_len t; have := HOk.out.cu; omega) c)
  rw [HS.out] at HA
  go_wp2_with fail
  refine HA.out.mono ?_
  rintro e w2 ⟨wh, fe, q', fs', l', b', fv', lv', rfl, hk, hbt, hi, ha⟩
  have HK2 := Lib.hid hk
  have HB2 := Lib.hid (HB1.out.trans hbt)
  have HI2 := Lib.hid (show ∀ i ∈ ledS fv' lv', i ∈ S ∨ w.heap.size ≤ i from fun i hm => (hi i hm).imp id (fun h => Nat.le_trans HB1.out.size h))
  have HE2 := Lib.hid (HE.out.below (HB2.out.below HEg.out HE.out.le))
  have ha' := ha
  clear hk hbt hi ha HA HP1 HB1 HE1 HS
  rcases ha' with ⟨rfl, hfe, hst⟩ | ⟨rfl, rfl, rfl, rfl, hst⟩ | ⟨rfl, rfl, hz', hu', rfl, rfl, rfl, rfl⟩
  · have HSt := Lib.hid hst
    have HFe := Lib.hid hfe
    clear hst hfe
    have f1 : (fe != 0) = true := by rw [bne_iff_ne]; exact HFe.out
    have dk0 : w2.cell? ⟨g, 0, none⟩ = some (.int .i64 0) := HK2.out.cells 0
    have df0 := HK2.out.blk.frozen 0
    have dk3 : w2.cell? ⟨g, 3, none⟩ = some (.int .i64 0) := HK2.out.cells 3
    have df3 := HK2.out.blk.frozen 3
    have dk11 : w2.cell? ⟨g, 11, none⟩ = some (.string (Tx.str q'.meth)) := HK2.out.cells 11
    have df11 := HK2.out.blk.frozen 11
    have dk12 : w2.cell? ⟨g, 12, none⟩ = some (.string (Tx.str q'.targ)) := HK2.out.cells 12
    have df12 := HK2.out.blk.frozen 12
    have dk13 : w2.cell? ⟨g, 13, none⟩ = some (.int .i64 q'.minor) := HK2.out.cells 13
    have df13 := HK2.out.blk.frozen 13
    have dk14 : w2.cell? ⟨g, 14, none⟩ = some (fv') := HK2.out.cells 14
    have df14 := HK2.out.blk.frozen 14
    have dk15 : w2.cell? ⟨g, 15, none⟩ = some (lv') := HK2.out.cells 15
    have df15 := HK2.out.blk.frozen 15
    have dk16 : w2.cell? ⟨g, 16, none⟩ = some (.bool b') := HK2.out.cells 16
    have df16 := HK2.out.blk.frozen 16
    obtain ⟨hbk, hbt⟩ := bad_blk (e := fe) HK2.out.blk
    have HK7 := Lib.hid hbk
    have HB7 := Lib.hid (HB2.out.trans (hbt.more (T := g :: S) (by simp)))
    unfold zeroH at HK7 HB7
    clear hbk hbt HK2 HB2 HE2
    go_wp2_with fail
    go_end0
    rw [HSt.out]
    exact ⟨rfl, [], pk_bad HOk.out HNq.out HFe.out HK7.out, (fun i hi => by cases hi), HB7.out⟩
  · have HSt := Lib.hid hst
    have HT := Lib.hid (told_any HE2.out HK2.out HOk.out.fs HOk.out.qt (fun f hf => by have := (HOk.out.few f hf).2; omega))
    unfold wholeS at HSt
    obtain ⟨⟨H, p, er⟩, hJ⟩ : ∃ J, judgeS t.q t.fs = J := ⟨_, rfl⟩
    have HJb := Lib.hid (judge_bare t.q t.fs)
    rw [hJ] at HSt HT HJb
    simp only at HSt HT HJb
    clear hst hJ
    obtain ⟨X, hX⟩ : ∃ X, Tx.str H = X := ⟨_, rfl⟩
    rw [hX] at HT
    have HX := Lib.hid hX
    clear hX
    go_wp2_with fail
    refine HT.out.mono ?_
    rintro e w3 ⟨rfl, hb⟩
    have HK3 := Lib.hid (HK2.out.below hb)
    have HB3 := Lib.hid (HB2.out.trans (But.of_below hb (g :: S)))
    clear hb HT HK2 HB2 HE2
    have ck4 : w3.cell? ⟨g, 4, none⟩ = some (.string ⟨#[]⟩) := HK3.out.cells 4
    have ck5 : w3.cell? ⟨g, 5, none⟩ = some (.int .i64 0) := HK3.out.cells 5
    have cf4 := HK3.out.blk.frozen 4
    have cf5 := HK3.out.blk.frozen 5
    obtain ⟨hbk, hbt⟩ := told_blk (H' := X) (p' := p) HK3.out.blk
    have HK4 := Lib.hid hbk
    have HB4 := Lib.hid (HB3.out.trans (hbt.more (T := g :: S) (by simp)))
    clear hbk hbt
    go_upto_region 4 with fail
    clear ck4 ck5 cf4 cf5 HK3 HB3
    generalize (w3.setCell ⟨g, 4, none⟩ (.string X)).setCell ⟨g, 5, none⟩ (.int .i64 p) = w4 at *
    have dk0 : w4.cell? ⟨g, 0, none⟩ = some (.int .i64 0) := HK4.out.cell 0
    have df0 := HK4.out.frozen 0
    have dk3 : w4.cell? ⟨g, 3, none⟩ = some (.int .i64 0) := HK4.out.cell 3
    have df3 := HK4.out.frozen 3
    have dk11 : w4.cell? ⟨g, 11, none⟩ = some (.string (Tx.str t.q.meth)) := HK4.out.cell 11
    have df11 := HK4.out.frozen 11
    have dk12 : w4.cell? ⟨g, 12, none⟩ = some (.string (Tx.str t.q.targ)) := HK4.out.cell 12
    have df12 := HK4.out.frozen 12
    have dk13 : w4.cell? ⟨g, 13, none⟩ = some (.int .i64 t.q.minor) := HK4.out.cell 13
    have df13 := HK4.out.frozen 13
    have dk14 : w4.cell? ⟨g, 14, none⟩ = some (fv') := HK4.out.cell 14
    have df14 := HK4.out.frozen 14
    have dk15 : w4.cell? ⟨g, 15, none⟩ = some (lv') := HK4.out.cell 15
    have df15 := HK4.out.frozen 15
    have dk16 : w4.cell? ⟨g, 16, none⟩ = some (.bool b') := HK4.out.cell 16
    have df16 := HK4.out.frozen 16
    by_cases he : er = 0
    · subst he
      rw [if_neg (by simp)] at HSt
      obtain ⟨hbk, hbt⟩ := done_blk HK4.out
      have HK7 := Lib.hid hbk
      have HB7 := Lib.hid (HB4.out.trans (hbt.more (T := g :: S) (by simp)))
      unfold zeroH at HK7 HB7
      clear hbk hbt HK4 HB4 HJb
      go_wp2_with fail
      go_end0
      rw [HSt.out] at HSo HSn ⊢
      exact ⟨rfl, [], ⟨HSo.out, HSn.out, .inr ⟨by show ¬ 1 = 0; decide, rfl, by rw [← HX.out] at HK7; exact HK7.out⟩⟩, (fun i hi => by cases hi), HB7.out⟩
    · rw [if_pos he] at HSt
      obtain ⟨hH, hp⟩ := HJb.out he
      subst hH hp
      have f1 : (er != 0) = true := by rw [bne_iff_ne]; exact he
      have HFe := Lib.hid he
      have hX0 : X = ⟨#[]⟩ := HX.out.symm
      subst hX0
      obtain ⟨hbk, hbt⟩ := bad_blk (e := er) HK4.out
      have HK7 := Lib.hid hbk
      have HB7 := Lib.hid (HB4.out.trans (hbt.more (T := g :: S) (by simp)))
      unfold zeroH at HK7 HB7
      clear hbk hbt HK4 HB4 HJb he
      go_wp2_with fail
      go_end0
      rw [HSt.out]
      exact ⟨rfl, [], pk_bad HOk.out HNq.out HFe.out HK7.out, (fun i hi => by cases hi), HB7.out⟩
  · have HU := Lib.hid hu'
    have HZ' := Lib.hid hz'
    clear hz' hu'
    go_wp2_with fail
    refine bodyPost_ret (results_none rfl _ _ _) rfl ?_
    exact ⟨rfl, _, ⟨HSo.out, HSn.out, .inl ⟨HZ'.out, fv', lv', by rw [HU.out]; exact HK2.out, rfl⟩⟩, HI2.out, HB2.out⟩

set_option maxRecDepth 100000 in
set_option maxHeartbeats 2000000 in
theorem new_any (w : World) : Calls Tryz.prog 13 #[] w fun e w' => ∃ g, e = .returned (.pointer (some ⟨g, 0, none⟩)) ∧ Pk w' g [] H.st ∧ w.heap.size ≤ g ∧ Below w.heap.size w w' := by
  have hb : Blk (w.alloc (.cells (pC 0 0 0 ⟨#[]⟩ 0 Rl.Rq.zero (.slice none 0 0) (.slice none 0 0) false) 57)) w.heap.size 57 (pC 0 0 0 ⟨#[]⟩ 0 Rl.Rq.zero (.slice none 0 0) (.slice none 0 0) false) := Blk.new _ _ _
  have HP : Hid (Pk (w.alloc (.cells (pC 0 0 0 ⟨#[]⟩ 0 Rl.Rq.zero (.slice none 0 0) (.slice none 0 0) false) 57)) w.heap.size [] H.st) := Lib.hid ⟨OkH.st, Nq.st, .inl ⟨rfl, .slice none 0 0, .slice none 0 0, ⟨hb, nilF _, nil8 _⟩, rfl⟩⟩
  have HL : Hid (Below w.heap.size w (w.alloc (.cells (pC 0 0 0 ⟨#[]⟩ 0 Rl.Rq.zero (.slice none 0 0) (.slice none 0 0) false) 57))) := Lib.hid ((Below.refl _ _).alloc (Nat.le_refl _) _)
  clear hb
  unfold pC at HP HL
  go_enter Tryz.func13, Tryz.ntmps13
  go_wp2_with fail
  go_ret
  exact ⟨w.heap.size, rfl, HP.out, Nat.le_refl _, HL.out⟩

/-- behind Take: the verdict, and the peeker -/
def TakeP (w : World) (g : Nat) (S : List Nat) (t : H) (e : Ending) (w' : World) : Prop :=
  ∃ S', e = .returned (.agg (vH t.z 2 t.u t.r (Tx.str t.h) t.p)) ∧ Pk w' g S' t ∧ (∀ i ∈ S', i ∈ S ∨ w.heap.size ≤ i) ∧ But (g :: S) w w'
set_option linter.unusedSimpArgs false in
set_option maxRecDepth 100000 in
set_option maxHeartbeats 8000000 in
theorem take_any {E : Nat} {w : World} {g : Nat} {S : List Nat} {t : H} (hE : Ad.Env E w) (hEg : ∀ i ∈ g :: S, E ≤ i) (h : Pk w g S t) (hu : t.u ≤ 1000000) (c : UInt8) :
    Calls Tryz.prog 14 #[.pointer (some ⟨g, 0, none⟩), .int .u8 (c.toNat : Int)] w (TakeP w g S (stepH t c)) := by
  have hb0 : Below w.heap.size w (w.alloc (.cells #[Value.int .i64 0, .int .i64 0, .int .i64 0, .int .i64 0, .string ⟨#[]⟩, .int .i64 0, .bool false, .string ⟨#[]⟩, .slice none 0 0, .slice none 0 0, .bool false] 31)) := (Below.refl _ _).alloc (Nat.le_refl _) _
  have HP0 := Lib.hid (h.below hb0)
  have HE0 := Lib.hid (hE.on hb0)
  have HV0 := Lib.hid (Blk.new w 31 #[Value.int .i64 0, .int .i64 0, .int .i64 0, .int .i64 0, .string ⟨#[]⟩, .int .i64 0, .bool false, .string ⟨#[]⟩, .slice none 0 0, .slice none 0 0, .bool false])
  have HL0 := Lib.hid (show ∀ i ∈ g :: S, i < w.heap.size from fun i hi => by
    rcases List.mem_cons.1 hi with hi | hi
    · rw [hi]; exact h.lt
    · exact (h.lts i hi).1)
  have HB0 := Lib.hid ((But.refl (g :: S) w).alloc (.cells #[Value.int .i64 0, .int .i64 0, .int .i64 0, .int .i64 0, .string ⟨#[]⟩, .int .i64 0, .bool false, .string ⟨#[]⟩, .slice none 0 0, .slice none 0 0, .bool false] 31))
  have HEg := Lib.hid hEg
  clear h hE hEg hb0
  -- behind what may be looked at
  have tail : ∀ (w2 : World) (S' : List Nat) (t' : H), Pk w2 g S' t' → (∀ i ∈ S', i ∈ S ∨ w.heap.size + 1 ≤ i) → But (g :: S) w w2 → Blk w2 w.heap.size 31 #[Value.int .i64 0, .int .i64 0, .int .i64 0, .int .i64 0, .string ⟨#[]⟩, .int .i64 0, .bool false, .string ⟨#[]⟩, .slice none 0 0, .slice none 0 0, .bool false] →
      w2.rangeAt g 0 (vH t'.z 2 t'.u t'.r (Tx.str t'.h) t'.p).toList ∧ t'.h.length ≤ 255 ∧
      (∀ w5, Below w2.heap.size w2 w5 → Blk w5 w.heap.size 31 #[Value.int .i64 0, .int .i64 0, .int .i64 0, .int .i64 0, .string ⟨#[]⟩, .int .i64 0, .bool false, .string ⟨#[]⟩, .slice none 0 0, .slice none 0 0, .bool false] ∧ TakeP w g S t' (.returned (.agg (vH t'.z 2 t'.u t'.r (Tx.str t'.h) t'.p))) (w5.setRow w.heap.size (vH t'.z 2 t'.u t'.r (Tx.str t'.h) t'.p))) := by
    intro w2 S' t' hP hS hB hV
    refine ⟨hP.told, hP.ok.hl, fun w5 hb => ?_⟩
    have hV5 := hV.below hb hV.lt
    have hgr := St.only_row w5 w.heap.size (vH t'.z 2 t'.u t'.r (Tx.str t'.h) t'.p)
    have hgn : g ≠ w.heap.size := Nat.ne_of_lt (HL0.out g (by simp))
    refine ⟨hV5, S', rfl, (hP.below hb).but (but_of hgr) (by simpa using hgn) (fun i hi => ?_), fun i hi => (hS i hi).imp id (fun h => by omega), ?_⟩
    · have : i ≠ w.heap.size := by
        rcases hS i hi with h | h
        · exact Nat.ne_of_lt (HL0.out i (List.mem_cons_of_mem _ h))
        · omega
      simpa using this
    · exact (hB.trans (But.of_below hb _)).row (.inr (Nat.le_refl _)) _
  have HT := Lib.hid tail
  clear tail
  go_enter Tryz.func14, Tryz.ntmps14
  go_upto_region 1 with fail
  have hsz : (w.alloc (.cells #[Value.int .i64 0, .int .i64 0, .int .i64 0, .int .i64 0, .string ⟨#[]⟩, .int .i64 0, .bool false, .string ⟨#[]⟩, .slice none 0 0, .slice none 0 0, .bool false] 31)).heap.size = w.heap.size + 1 := St.alloc_size _ _
  generalize w.alloc (.cells #[Value.int .i64 0, .int .i64 0, .int .i64 0, .int .i64 0, .string ⟨#[]⟩, .int .i64 0, .bool false, .string ⟨#[]⟩, .slice none 0 0, .slice none 0 0, .bool false] 31) = w1 at *
  have kc := HP0.out.cell
  by_cases hz : t.z = 0
  · have HLk := Lib.hid (look_any HE0.out HEg.out HP0.out hz hu c)
    rw [hz] at kc
    clear hz
    go_wp2_with fail
    refine HLk.out.mono ?_
    rintro e w2 ⟨rfl, S', hP, hS, hB⟩
    rw [hsz] at hS
    obtain ⟨hR, hh, hF⟩ := HT.out w2 S' (stepH t c) hP hS (HB0.out.trans hB) (HV0.out.but hB (fun hi => by have := HL0.out _ hi; omega))
    clear hP hS hB HLk HT HP0 HE0 HV0 HB0 HEg HL0 kc
    generalize stepH t c = t' at *
    have HR := Lib.hid hR
    have HFn := Lib.hid hF
    have HCl := Lib.hid (fun w => Asc.clone_any (Tx.str t'.h) w (by rw [Tx.str_size]; omega))
    have hvl : (vH t'.z 2 t'.u t'.r (Tx.str t'.h) t'.p).toList.length = 11 := rfl
    have HIn : Hid ((Tryz.prog.info? 31).map (·.size) = some (vH t'.z 2 t'.u t'.r (Tx.str t'.h) t'.p).toList.length) := Lib.hid (by rw [hvl]; exact infV)
    clear hR hF hh hvl
    go_upto_region 4 with (first | (refine go_ldM (x := .tmp 17) 31 (vH t'.z 2 t'.u t'.r (Tx.str t'.h) t'.p).toList g 0 HR.out undV rfl HIn.out (by rfl) rfl rfl ?_) | (refine St.go_st 31 (Blk.new _ _ _) infV rfl (vH_size _ _ _ _ _ _) (vH_one _ _ _ _ _ _) rfl rfl rfl rfl ?_))
    obtain ⟨hk, hb⟩ := verd_new w2 (vH (t'.z : Int) 2 (t'.u : Int) t'.r (Tx.str t'.h) t'.p)
    have HB3 := Lib.hid hb
    have HK3 := Lib.hid hk
    clear hk hb HR HIn
    generalize (w2.alloc (.cells #[Value.int .i64 0, .int .i64 0, .int .i64 0, .int .i64 0, .string ⟨#[]⟩, .int .i64 0, .bool false, .string ⟨#[]⟩, .slice none 0 0, .slice none 0 0, .bool false] 31)).setRow w2.heap.size (vH (t'.z : Int) 2 (t'.u : Int) t'.r (Tx.str t'.h) t'.p) = w3 at *
    have hG := HB3.out.size
    generalize w2.heap.size = G at *
    have k4 : w3.cell? ⟨G, 4, none⟩ = some (.string (Tx.str t'.h)) := by rw [HK3.out.cell]; rfl
    go_wp2_with fail
    refine (HCl.out w3).mono ?_
    rintro e w4 ⟨rfl, hb⟩
    have k5 := HK3.out.below hb HK3.out.lt
    have kk4 : w4.cell? ⟨G, 4, none⟩ = some (.string (Tx.str t'.h)) := by rw [k5.cell]; rfl
    have HK5 := Lib.hid k5
    have HB5 := Lib.hid (HB3.out.trans (hb.mono hG))
    have cf4 := k5.frozen 4
    obtain ⟨hV5, hTk⟩ := HFn.out w4 HB5.out
    have HV5 := Lib.hid hV5
    have HTk := Lib.hid hTk
    clear k5 hb hV5 hTk HCl HFn HK3 HB3 HB5 k4 hG
    go_upto_region 5 with fail
    rw [cell_same (i := 4) (v := .string (Tx.str t'.h)) HK5.out rfl]
    clear kk4 cf4
    go_wp2_with (first | (refine St.go_ld 31 HK5.out undV rfl infV (vH_size _ _ _ _ _ _) rfl rfl rfl ?_) | (refine St.go_st 31 HV5.out infV rfl (vH_size _ _ _ _ _ _) (vH_one _ _ _ _ _ _) rfl rfl rfl rfl ?_))
    exact St.ret_one Tryz.results14 (St.setRow_blk HV5.out) undV rfl infV rfl rfl HTk.out rfl
  · have f1 : ((t.z : Int) == 0) = false := by rw [beq_eq_false_iff_ne]; omega
    have HSt := Lib.hid (stepH_stay hz c)
    obtain ⟨hR, hh, hF⟩ := HT.out w1 S t HP0.out (fun i hi => .inl hi) HB0.out HV0.out
    clear HT HP0 HE0 HV0 HB0 HEg HL0 hz
    clear hsz
    have HR := Lib.hid hR
    have HFn := Lib.hid hF
    have HCl := Lib.hid (fun w => Asc.clone_any (Tx.str t.h) w (by rw [Tx.str_size]; omega))
    have hvl : (vH t.z 2 t.u t.r (Tx.str t.h) t.p).toList.length = 11 := rfl
    have HIn : Hid ((Tryz.prog.info? 31).map (·.size) = some (vH t.z 2 t.u t.r (Tx.str t.h) t.p).toList.length) := Lib.hid (by rw [hvl]; exact infV)
    clear hR hF hh hvl
    go_upto_region 4 with (first | (refine go_ldM (x := .tmp 17) 31 (vH t.z 2 t.u t.r (Tx.str t.h) t.p).toList g 0 HR.out undV rfl HIn.out (by rfl) rfl rfl ?_) | (refine St.go_st 31 (Blk.new _ _ _) infV rfl (vH_size _ _ _ _ _ _) (vH_one _ _ _ _ _ _) rfl rfl rfl rfl ?_))
    obtain ⟨hk, hb⟩ := verd_new w1 (vH (t.z : Int) 2 (t.u : Int) t.r (Tx.str t.h) t.p)
    have HB3 := Lib.hid hb
    have HK3 := Lib.hid hk
    clear hk hb HR HIn
    generalize (w1.alloc (.cells #[Value.int .i64 0, .int .i64 0, .int .i64 0, .int .i64 0, .string ⟨#[]⟩, .int .i64 0, .bool false, .string ⟨#[]⟩, .slice none 0 0, .slice none 0 0, .bool false] 31)).setRow w1.heap.size (vH (t.z : Int) 2 (t.u : Int) t.r (Tx.str t.h) t.p) = w3 at *
    have hG := HB3.out.size
    generalize w1.heap.size = G at *
    have k4 : w3.cell? ⟨G, 4, none⟩ = some (.string (Tx.str t.h)) := by rw [HK3.out.cell]; rfl
    go_wp2_with fail
    refine (HCl.out w3).mono ?_
    rintro e w4 ⟨rfl, hb⟩
    have k5 := HK3.out.below hb HK3.out.lt
    have kk4 : w4.cell? ⟨G, 4, none⟩ = some (.string (Tx.str t.h)) := by rw [k5.cell]; rfl
    have HK5 := Lib.hid k5
    have HB5 := Lib.hid (HB3.out.trans (hb.mono hG))
    have cf4 := k5.frozen 4
    obtain ⟨hV5, hTk⟩ := HFn.out w4 HB5.out
    have HV5 := Lib.hid hV5
    have HTk := Lib.hid hTk
    clear k5 hb hV5 hTk HCl HFn HK3 HB3 HB5 k4 hG
    go_upto_region 5 with fail
    rw [cell_same (i := 4) (v := .string (Tx.str t.h)) HK5.out rfl]
    clear kk4 cf4
    go_wp2_with (first | (refine St.go_ld 31 HK5.out undV rfl infV (vH_size _ _ _ _ _ _) rfl rfl rfl ?_) | (refine St.go_st 31 HV5.out infV rfl (vH_size _ _ _ _ _ _) (vH_one _ _ _ _ _ _) rfl rfl rfl rfl ?_))
    exact St.ret_one Tryz.results14 (St.setRow_blk HV5.out) undV rfl infV rfl rfl (by rw [HSt.out]; exact HTk.out) rfl

/-- what All keeps, behind the block G of its result -/
structure AllAt (w : World) (G g : Nat) (S : List Nat) (t : H) (wr : World) : Prop where
  pk : Pk wr g S t
  far : ∀ i ∈ g :: S, G < i
  res : Blk wr G 31 #[Value.int .i64 0, .int .i64 0, .int .i64 0, .int .i64 0, .string ⟨#[]⟩, .int .i64 0, .bool false, .string ⟨#[]⟩, .slice none 0 0, .slice none 0 0, .bool false]
  bel : Below G w wr

set_option linter.unusedSimpArgs false in
set_option maxRecDepth 100000 in
set_option maxHeartbeats 8000000 in
theorem all_any {B : Nat} (A : Option Addr) (n cap : Nat) (xs : List UInt8) (w : World) (hE : Ad.Env B w) (hs : Src w A n xs) (hn : n ≤ 1000000) :
    Calls Tryz.prog 11 #[.slice A n cap] w (AllHP xs w) := by
  have HE := Lib.hid hE
  have HS := Lib.hid hs
  have hnl := hs.1
  have HNL := Lib.hid hnl
  have HV0 := Lib.hid (Blk.new w 31 #[Value.int .i64 0, .int .i64 0, .int .i64 0, .int .i64 0, .string ⟨#[]⟩, .int .i64 0, .bool false, .string ⟨#[]⟩, .slice none 0 0, .slice none 0 0, .bool false])
  have HB0 : Hid (Below w.heap.size w (w.alloc (.cells #[Value.int .i64 0, .int .i64 0, .int .i64 0, .int .i64 0, .string ⟨#[]⟩, .int .i64 0, .bool false, .string ⟨#[]⟩, .slice none 0 0, .slice none 0 0, .bool false] 31))) := Lib.hid ((Below.refl _ _).alloc (Nat.le_refl _) _)
  clear hs hnl hE
  go_enter Tryz.func11, Tryz.ntmps11
  go_upto_region 1 with fail
  have hsz : (w.alloc (.cells #[Value.int .i64 0, .int .i64 0, .int .i64 0, .int .i64 0, .string ⟨#[]⟩, .int .i64 0, .bool false, .string ⟨#[]⟩, .slice none 0 0, .slice none 0 0, .bool false] 31)).heap.size = w.heap.size + 1 := St.alloc_size _ _
  generalize w.alloc (.cells #[Value.int .i64 0, .int .i64 0, .int .i64 0, .int .i64 0, .string ⟨#[]⟩, .int .i64 0, .bool false, .string ⟨#[]⟩, .slice none 0 0, .slice none 0 0, .bool false] 31) = w1 at *
  obtain ⟨G, hG⟩ : ∃ G, w.heap.size = G := ⟨_, rfl⟩
  have HG := Lib.hid hG
  have hBG : B ≤ G := by have := HE.out.le; omega
  rw [hG] at HV0 HB0 hsz ⊢
  clear hG
  go_wp2_with fail
  refine (new_any w1).mono ?_
  rintro e w2 ⟨g, rfl, hP, hfar, hb⟩
  have HA0 : Hid (AllAt w G g [] (allH (xs.take 0)) w2) := Lib.hid ⟨hP, fun i hi => by have := List.mem_singleton.1 hi; omega, HV0.out.below hb HV0.out.lt, HB0.out.trans (hb.mono (by omega))⟩
  clear hP hfar hb HV0 HB0 hsz
  go_wp2_with fail
  go_loopw [10] (fun i wr => ∃ k : Nat, k ≤ n ∧ i = .int .i64 (k : Int) ∧ Hid (∃ S, AllAt w G g S (allH (xs.take k)) wr) ∧ Hid ((allH (xs.take k)).z = 0)) (fun i _ => n - (intOf i).toNat)
  case atStart => exact ⟨0, Nat.zero_le _, rfl, Lib.hid ⟨[], HA0.out⟩, Lib.hid rfl⟩
  case round =>
    clear HA0
    obtain ⟨k, hk, rfl, HA, HZ⟩ := hrel
    obtain ⟨S, hA⟩ := HA.out
    have HA := Lib.hid hA
    clear hA
    by_cases hlt : k < n
    · have hki : (k : Int) < (n : Int) := by omega
      obtain ⟨ad, rfl, hadb, hc⟩ := HS.out.2 (by omega)
      obtain ⟨c, hx⟩ : ∃ c, xs[k]? = some c := ⟨_, List.getElem?_eq_getElem (by have := HNL.out; omega)⟩
      have hcell : wr.cell? (ad.add k) = some (.int .u8 (c.toNat : Int)) := (HA.out.bel.cell (by rw [block_of_add, ← HG.out]; exact hadb)).trans (hc k c hx)
      have HNx := Lib.hid (allH_next hx)
      have hun : (allH (xs.take k)).u ≤ 1000000 := by
        have h := allH_u (xs.take k)
        rw [List.length_take] at h
        omega
      have HAll := Lib.hid (all_end hx)
      have HTk := Lib.hid (take_any (HE.out.on (HA.out.bel.mono (by rw [HG.out]; exact Nat.le_refl _))) (fun i hi => by have := HA.out.far i hi; omega) HA.out.pk hun c)
      rw [← HNx.out] at HTk HAll
      obtain ⟨t, ht⟩ : ∃ t, allH (xs.take (k + 1)) = t := ⟨_, rfl⟩
      have HTt := Lib.hid ht
      rw [ht] at HTk HAll
      clear hc hx hun HZ HNx ht
      go_wp2_with fail
      refine HTk.out.mono ?_
      rintro e w4 ⟨S', rfl, hP, hS, hB⟩
      have hGw : G < wr.heap.size := HA.out.res.lt
      have HN : Hid (AllAt w G g S' t w4) := Lib.hid ⟨hP, fun i hi => by
          rcases List.mem_cons.1 hi with hi | hi
          · rw [hi]; exact HA.out.far g (by simp)
          · rcases hS i hi with h | h
            · exact HA.out.far i (List.mem_cons_of_mem _ h)
            · omega, HA.out.res.but hB (fun hi => Nat.lt_irrefl _ (HA.out.far G hi)), HA.out.bel.trans (hB.below (fun i hi => Nat.le_of_lt (HA.out.far i hi)) (Nat.le_of_lt hGw))⟩
      clear hP hS hB hGw HA HTk hcell
      go_upto_region 6 with (refine St.go_st 31 (Blk.new _ _ _) infV rfl (vH_size _ _ _ _ _ _) (vH_one _ _ _ _ _ _) rfl rfl rfl rfl ?_)
      obtain ⟨hk1, hb⟩ := verd_new w4 (vH (t.z : Int) 2 (t.u : Int) t.r (Tx.str t.h) t.p)
      have HN5 : Hid (AllAt w G g S' t _) := Lib.hid ⟨HN.out.pk.below hb, HN.out.far, HN.out.res.below hb HN.out.res.lt, HN.out.bel.trans (hb.mono (Nat.le_of_lt HN.out.res.lt))⟩
      have HK := Lib.hid hk1
      clear hk1 hb HN
      generalize (w4.alloc (.cells #[Value.int .i64 0, .int .i64 0, .int .i64 0, .int .i64 0, .string ⟨#[]⟩, .int .i64 0, .bool false, .string ⟨#[]⟩, .slice none 0 0, .slice none 0 0, .bool false] 31)).setRow w4.heap.size (vH (t.z : Int) 2 (t.u : Int) t.r (Tx.str t.h) t.p) = w5 at *
      generalize w4.heap.size = G4 at *
      have k0 : w5.cell? ⟨G4, 0, none⟩ = some (.int .i64 (t.z : Int)) := by rw [HK.out.cell]; rfl
      by_cases hz : t.z = 0
      · rw [hz] at k0
        have HZ2 : Hid ((allH (xs.take (k + 1))).z = 0) := Lib.hid (by rw [HTt.out]; exact hz)
        have HN6 : Hid (∃ S, AllAt w G g S (allH (xs.take (k + 1))) w5) := Lib.hid ⟨S', by rw [HTt.out]; exact HN5.out⟩
        clear hz HN5 HAll HTt HK
        go_wp2_with fail
        go_roundw
        case rel => exact ⟨k + 1, hlt, by go_num, HN6, HZ2⟩
        case measure => simp [intOf]; omega
      · have f0 : ((t.z : Int) != 0) = true := by rw [bne_iff_ne]; omega
        have HFin : Hid (∀ w', Below G w w' → AllHP xs w (.returned (.agg (vH (t.z : Int) 2 (t.u : Int) t.r (Tx.str t.h) t.p))) w') := Lib.hid (fun w' h => by
          unfold AllHP
          rw [HAll.out hz]
          exact ⟨rfl, by rw [HG.out]; exact h⟩)
        have hK := HK.out
        have HRs := Lib.hid HN5.out.res
        have HBl := Lib.hid HN5.out.bel
        clear hz HAll HTt HK HN5
        go_wp2_with (first | (refine St.go_ld 31 hK undV rfl infV (vH_size _ _ _ _ _ _) rfl rfl rfl ?_) | (refine St.go_st 31 HRs.out infV rfl (vH_size _ _ _ _ _ _) (vH_one _ _ _ _ _ _) rfl rfl rfl rfl ?_))
        refine St.ret_one Tryz.results11 (St.setRow_blk HRs.out) undV rfl infV rfl rfl ?_ rfl
        exact HFin.out _ (St.setRow_below HBl.out HRs.out (Nat.le_refl _) _)
    · obtain rfl : k = n := by omega
      have ht : xs.take k = xs := List.take_of_length_le (by rw [HNL.out]; exact Nat.le_refl _)
      rw [ht] at HA
      have HR := Lib.hid HA.out.pk.told
      have HFin : Hid (∀ w', Below G w w' → AllHP xs w (.returned (.agg (vH ((allH xs).z : Int) 2 ((allH xs).u : Int) (allH xs).r (Tx.str (allH xs).h) (allH xs).p))) w') := Lib.hid (fun w' h => ⟨rfl, by rw [HG.out]; exact h⟩)
      have HRs := Lib.hid HA.out.res
      have HBl := Lib.hid HA.out.bel
      clear ht HA HZ
      generalize allH xs = t at *
      have hvl : (vH (t.z : Int) 2 (t.u : Int) t.r (Tx.str t.h) t.p).toList.length = 11 := rfl
      have HIn : Hid ((Tryz.prog.info? 31).map (·.size) = some (vH (t.z : Int) 2 (t.u : Int) t.r (Tx.str t.h) t.p).toList.length) := Lib.hid (by rw [hvl]; exact infV)
      clear hvl
      go_wp2_with (first | (refine go_ldM (x := .tmp 24) 31 (vH t.z 2 t.u t.r (Tx.str t.h) t.p).toList g 0 HR.out undV rfl HIn.out (by rfl) rfl rfl ?_) | (refine St.go_st 31 HRs.out infV rfl (vH_size _ _ _ _ _ _) (vH_one _ _ _ _ _ _) rfl rfl rfl rfl ?_))
      refine St.ret_one Tryz.results11 (St.setRow_blk HRs.out) undV rfl infV rfl rfl ?_ rfl
      exact HFin.out _ (St.setRow_below HBl.out HRs.out (Nat.le_refl _) _)
end Go.Proofs.YtgbhnjkigjecmaaGreatDoor.Hp
