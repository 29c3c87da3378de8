/-
 Plain facts on hellos that the layer's laws want: finding by kinds, cutting, a bare hello. No condition.
-/
import Derived.Test.YthfknndjdfofgaaGreatDoorR08
import Derived.Test.YthfknndjdfofgaaGreatDoorR20
import Derived.Deep.RegionHeld
import Derived.Deep.RegionHeldLaw
import Derived.BigQuiet
import Derived.Laws.StructEq
import Derived.Test.YthfknndjdfofgaaGreatDoorR19
namespace Go.Proofs.YthfknndjdfofgaaGreatDoor.He
open Go.RowKit Go.Proofs.YthfknndjdfofgaaGreatDoor.Wd Go.Proofs.YthfknndjdfofgaaGreatDoor.Be

end Go.Proofs.YthfknndjdfofgaaGreatDoor.He

/-
 Contracts of hagioscoperef09's Ints and Same over this seat's translation: are two rows of numbers, two hellos, one and the same?
-/
namespace Go.Proofs.YthfknndjdfofgaaGreatDoor.He
open Go.RowKit Go.Proofs.YthfknndjdfofgaaGreatDoor.Wd Go.Proofs.YthfknndjdfofgaaGreatDoor.Be

theorem drewN_add (w : World) (a b : Nat) : (w.drewN a).drewN b = w.drewN (a + b) := by simp [World.drewN, Nat.add_assoc]
theorem drewN_two {w a : World} (h : ∃ n, a = w.drewN n) (m : Nat) : ∃ n, a.drewN m = w.drewN n := by
 obtain ⟨n, rfl⟩ := h
 exact ⟨_, drewN_add w n m⟩

set_option linter.unusedSimpArgs false in
set_option maxRecDepth 100000 in
set_option maxHeartbeats 1000000 in
theorem ints_any (A B : Option Addr) (l m : List Int) (c d : Nat) (w : World) (h1 : SrcI w A l) (h2 : SrcI w B m) (hl : l.length ≤ 140737488351232) (hm : m.length ≤ 140737488351232) :
   Calls Tryz.prog 42 #[.slice A l.length c, .slice B m.length d] w fun e w' => e = .returned (.bool (decide (l = m))) ∧ ∃ n, w' = w.drewN n := by
 have H1 := Lib.hid h1
 have H2 := Lib.hid h2
 clear h1 h2
 obtain ⟨ln, hln⟩ : ∃ ln, ln = l.length := ⟨_, rfl⟩
 obtain ⟨mn, hmn⟩ : ∃ mn, mn = m.length := ⟨_, rfl⟩
 rw [← hln] at hl ⊢
 rw [← hmn] at hm ⊢
 have HL := Lib.hid hln
 have HM := Lib.hid hmn
 clear hln hmn
 by_cases hlen : ln = mn
 · subst hlen
   obtain ⟨R, hR⟩ : ∃ R, R = decide (l = m) := ⟨_, rfl⟩
   rw [← hR]
   have HR := Lib.hid hR
   clear hR hm
   go_enter Tryz.func42, Tryz.ntmps42
   go_wp2_with fail
   go_loopw [5] (fun i wr => ∃ k, k ≤ ln ∧ i = .int .i64 (k : Int) ∧ Hid (l.take k = m.take k) ∧ Hid (∃ n, wr = w.drewN n)) (fun i _ => ln - (intOf i).toNat)
   case atStart => exact ⟨0, Nat.zero_le _, rfl, rfl, 0, rfl⟩
   case round =>
     obtain ⟨k, hk, rfl, HE, HW⟩ := hrel
     by_cases hlt : k < ln
     · have hki : (k : Int) < (ln : Int) := by omega
       obtain ⟨x, hx⟩ : ∃ x, l[k]? = some x := ⟨_, List.getElem?_eq_getElem (by have := HL.out; omega)⟩
       obtain ⟨y, hy⟩ : ∃ y, m[k]? = some y := ⟨_, List.getElem?_eq_getElem (by have := HM.out; omega)⟩
       obtain ⟨g1, o1, rfl, hg1, hc1⟩ := H1.out k x hx
       obtain ⟨g2, o2, rfl, hg2, hc2⟩ := H2.out k y hy
       have HX := Lib.hid hx
       have HY := Lib.hid hy
       clear hx hy hg1 hg2
       replace hc1 : wr.cell? ⟨g1, o1 + k, none⟩ = some (.int .i64 x) := by obtain ⟨n0, rfl⟩ := HW.out; exact hc1
       replace hc2 : wr.cell? ⟨g2, o2 + k, none⟩ = some (.int .i64 y) := by obtain ⟨n0, rfl⟩ := HW.out; exact hc2
       go_wp2_with fail
       by_cases hxy : x = y
       · subst hxy
         have HE2 := Lib.hid (show l.take (k + 1) = m.take (k + 1) by rw [List.take_add_one, List.take_add_one, HE.out, HX.out, HY.out])
         go_quiet (fail)
         go_wp2_with fail
         go_roundw
         case rel => exact ⟨k + 1, by omega, by go_num, HE2, drewN_two HW.out nq⟩
         case measure => simp [intOf]; omega
       · have hxb : (x == y) = false := by simpa using hxy
         have HF := Lib.hid (show R = false by
           rw [HR.out]
           exact decide_eq_false (fun e => hxy (by have := HX.out; rw [e, HY.out] at this; injection this with this; exact this.symm)))
         go_quiet (fail)
         go_wp2_with fail
         go_ret
         rw [HF.out]
         exact ⟨rfl, drewN_two HW.out nq⟩
     · obtain rfl : k = ln := by omega
       have HF := Lib.hid (show R = true by
         rw [HR.out]
         have := HE.out
         rw [List.take_of_length_le (by have := HL.out; omega), List.take_of_length_le (by have := HM.out; omega)] at this
         exact decide_eq_true this)
       go_wp2_with fail
       go_ret
       rw [HF.out]
       exact ⟨rfl, HW.out⟩
 · have hne : (ln : Int) ≠ (mn : Int) := by omega
   have HF := Lib.hid (show decide (l = m) = false from decide_eq_false (fun e => hlen (by rw [HL.out, HM.out, e])))
   rw [HF.out]
   go_enter Tryz.func42, Tryz.ntmps42
   go_wp2_with fail
   go_ret
   exact ⟨rfl, 0, rfl⟩
-- SAME --
theorem inf32 : (Tryz.prog.info? 65).map (·.size) = some 32 := by kernel_rfl
theorem und32 : Tryz.prog.underlying 65 = some (.array 32 5) := by kernel_rfl
theorem go_ldM {ops : Array Oper} {rest : List Oper} {o : Oper} {a : Act} {w : World} {Q : Exit → Act → World → Prop} {x : Operand} {d : TypeDesc} (ty : TypeId) (cs : List Value) (b i : Nat) (hc : w.rangeAt b i cs) (hu : Tryz.prog.underlying ty = some d)
   (hd : d.isRow = true) (hi : (Tryz.prog.info? ty).map (·.size) = some cs.length) (hw : Region.wanted o (yielded ops a.tmps) = true) (ho : o.op = .load ty x)
   (hx : a.eval x = .pointer (some ⟨b, i, none⟩)) (h : wpList Tryz.prog ops Q rest (a.put o.dst (.agg cs.toArray)) w) : wpList Tryz.prog ops Q (o :: rest) a w := by
 show if Region.wanted o (yielded ops a.tmps) = true then _ else _
 rw [if_pos hw]
 exact .inl (wp_load_mid ty x ho b i hx cs d hc hu hd hi h)
theorem plain8 : Tryz.prog.plainKey 5 = true := by kernel_rfl
theorem cells8 : Tryz.prog.cellsOf 5 = 1 := by kernel_rfl
theorem infE : ∃ i, Tryz.prog.info? 5 = some i := by
 cases h : Tryz.prog.info? 5 with
 | none => have : (Tryz.prog.info? 5).isSome = true := by kernel_rfl
           rw [h] at this; cases this
 | some i => exact ⟨i, rfl⟩
theorem items8 (d : Nat) (c e : List UInt8) (w : World) : ∀ is : List Nat, (∀ i ∈ is, i < c.length ∧ i < e.length) → (Op.eqItems (d + 1) 5 1 (cellsOf c).toArray (cellsOf e).toArray is).run Tryz.prog w = .ok (is.all fun i => c[i]? == e[i]?) w
 | [], _ => rfl
 | i :: is, h => by
   obtain ⟨h1, h2⟩ := h i (by simp)
   have x1 : (cellsOf c).toArray[i]? = some (b8 c[i]) := by simp [cellsOf, h1]
   have x2 : (cellsOf e).toArray[i]? = some (b8 e[i]) := by simp [cellsOf, h2]
   have hq : (Op.equalIn (d + 1) 5 (b8 c[i]) (b8 e[i])).run Tryz.prog w = .ok (c[i] == e[i]) w := by
     have hb : (c[i] == e[i]) = ((c[i].toNat : Int) == (e[i].toNat : Int)) := by
       by_cases hce : c[i] = e[i]
       · rw [hce]; simp
       · have : ¬ c[i].toNat = e[i].toNat := fun k => hce (UInt8.toNat.inj k)
         have hn : ¬ (c[i].toNat : Int) = (e[i].toNat : Int) := by omega
         rw [beq_eq_false_iff_ne.2 hce, beq_eq_false_iff_ne.2 hn]
     rw [hb]
     exact run_equalIn_int w d _ .u8 .u8 _ _ Tryz.underlying5
   simp only [Op.eqItems, Sem.run_bind, Nat.mul_one, run_part_plain w plain8 x1, run_part_plain w plain8 x2, Result.andThen_ok, hq]
   rw [List.all_cons, List.getElem?_eq_getElem h1, List.getElem?_eq_getElem h2]
   cases hce : c[i] == e[i]
   · have : (some c[i] == some e[i]) = false := by simpa using hce
     rw [this]; simp
   · have : (some c[i] == some e[i]) = true := by simpa using hce
     rw [this]
     simpa using items8 d c e w is (fun j hj => h j (by simp [hj]))
theorem all_range {c e : List UInt8} {n : Nat} (hc : c.length = n) (he : e.length = n) : ((List.range n).all fun i => c[i]? == e[i]?) = (c == e) := by
 rw [Bool.eq_iff_iff, List.all_eq_true, beq_iff_eq]
 constructor
 · intro h
   apply List.ext_getElem?
   intro i
   by_cases hi : i < n
   · exact beq_iff_eq.1 (h i (by simpa using hi))
   · rw [List.getElem?_eq_none (by omega), List.getElem?_eq_none (by omega)]
 · rintro rfl i _
   simp
theorem eqIn32 (n : Nat) (h : 2 ≤ n) (c e : List UInt8) (hc : c.length = 32) (he : e.length = 32) (w : World) : (Op.equalIn n 65 (.agg (cellsOf c).toArray) (.agg (cellsOf e).toArray)).run Tryz.prog w = .ok (c == e) w := by
 obtain ⟨d, rfl⟩ : ∃ d, n = d + 2 := ⟨n - 2, by omega⟩
 obtain ⟨i8, hi8⟩ := infE
 rw [run_equalIn_array w (d + 1) _ _ und32 hi8, cells8, items8 d c e w _ (fun i hi => by simp at hi; omega), all_range hc he]
theorem neq32 (c e : List UInt8) (hc : c.length = 32) (he : e.length = 32) (b : Bool) (hb : (c == e) = b) (w : World) : (binOp .neq 65 (.agg (cellsOf c).toArray) (.agg (cellsOf e).toArray)).run Tryz.prog w = .ok (.bool !b) w := by
 rw [run_neq_struct, eqIn32 _ (by omega) c e hc he w, Result.andThen_ok, hb]
theorem grd32 : Tryz.prog.eqGuardType Tryz.prog.depth 65 = false := by kernel_rfl
theorem go_neq32 {ops : Array Oper} {rest : List Oper} {o : Oper} {a : Act} {w : World} {Q : Exit → Act → World → Prop} {x y : Operand} {t : TypeId} (c e : List UInt8) (hc : c.length = 32) (he : e.length = 32) (b : Bool) (hb : (c == e) = b)
   (ho : o.op = .binOp .neq 65 x y t) (hw : Region.wanted o (yielded ops a.tmps) = true) (hx : a.eval x = .agg (cellsOf c).toArray) (hy : a.eval y = .agg (cellsOf e).toArray)
   (h : wpList Tryz.prog ops Q rest (a.put o.dst (.bool !b)) w) : wpList Tryz.prog ops Q (o :: rest) a w := by
 show if Region.wanted o (yielded ops a.tmps) = true then _ else _
 rw [if_pos hw]
 refine .inl ?_
 unfold Oper.wp execOp
 simp only [ho, hx, hy, Sem.run_bind, run_eqGuard_agg w .neq _ _ _ _ _ grd32, Result.andThen_ok, neq32 c e hc he b hb w, Sem.run_pure]
 exact h
theorem str_same (xs ys : List UInt8) : ((⟨xs.toArray⟩ : ByteArray).toList == (⟨ys.toArray⟩ : ByteArray).toList) = decide (xs = ys) := by
 rw [ByteArray.toList_eq, ByteArray.toList_eq, Bool.eq_iff_iff]
 simp
theorem Hel.ext_ {a b : Hel} (h1 : a.ver = b.ver) (h2 : a.rnd = b.rnd) (h3 : a.ses = b.ses) (h4 : a.cph = b.cph) (h5 : a.met = b.met) (h6 : a.has = b.has) (h7 : a.exts = b.exts) : a = b := by
 obtain ⟨a1, a2, a3, a4, a5, a6, a7⟩ := a
 obtain ⟨b1, b2, b3, b4, b5, b6, b7⟩ := b
 simp only at h1 h2 h3 h4 h5 h6 h7
 subst h1 h2 h3 h4 h5 h6 h7
 rfl

set_option linter.unusedSimpArgs false in
set_option maxRecDepth 100000 in
set_option maxHeartbeats 4000000 in
theorem same_any (H K : Hv) (w : World) (hH : H.Ok w) (hK : K.Ok w) :
   Calls Tryz.prog 60 #[.agg H.C, .agg K.C] w fun e w' => ∃ R, e = .returned (.bool R) ∧ (R = true ↔ H.hel = K.hel) ∧ Below w.heap.size w w' := by
 have HH := Lib.hid hH
 have HK := Lib.hid hK
 have r1 := hH.rnd
 have r2 := hK.rnd
 have x1 := hH.x1
 have x2 := hK.x1
 clear hH hK
 go_enter Tryz.func60, Tryz.ntmps60
 go_upto_region 1 with fail
 have B1 := (Blk.new w 68 H.C).alloc (.cells K.C 68)
 have B2 := blk_at (w.alloc (.cells H.C 68)) 68 K.C _ (w.heap.size + 1) (by rw [alloc_size]) rfl
 have HB := Lib.hid (((Below.refl w.heap.size w).alloc (Nat.le_refl _) (.cells H.C 68)).alloc (by simp) (.cells K.C 68))
 generalize (w.alloc (.cells H.C 68)).alloc (.cells K.C 68) = w1 at *
 generalize w.heap.size + 1 = g2 at *
 obtain ⟨g1, hg1⟩ : ∃ g, g = w.heap.size := ⟨_, rfl⟩
 rw [← hg1] at B1 ⊢
 clear hg1
 replace HH := Lib.hid (HH.out.below HB.out)
 replace HK := Lib.hid (HK.out.below HB.out)
 have RA := Lib.hid (show w1.rangeAt g1 1 (cellsOf H.rnd) from fun j v hv => by
   simp only [cellsOf, List.getElem?_map, Option.map_eq_some_iff] at hv
   obtain ⟨c, hc, rfl⟩ := hv
   rw [B1.cell]; exact Hv.atR r1 hc)
 have RB := Lib.hid (show w1.rangeAt g2 1 (cellsOf K.rnd) from fun j v hv => by
   simp only [cellsOf, List.getElem?_map, Option.map_eq_some_iff] at hv
   obtain ⟨c, hc, rfl⟩ := hv
   rw [B2.cell]; exact Hv.atR r2 hc)
 have IA : Hid ((Tryz.prog.info? 65).map (·.size) = some (cellsOf H.rnd).length) := by rw [cellsOf_length, r1]; exact inf32
 have IB : Hid ((Tryz.prog.info? 65).map (·.size) = some (cellsOf K.rnd).length) := by rw [cellsOf_length, r2]; exact inf32
 have EQ := Lib.hid (And.intro r1 r2)
 have cv1 := cell_ver B1
 have cv2 := cell_ver B2
 have cs1 := cell_ses B1 r1
 have cs2 := cell_ses B2 r2
 have cc1 := cell_cph B1 r1
 have cc2 := cell_cph B2 r2
 have cm1 := cell_met B1 r1
 have cm2 := cell_met B2 r2
 have ch1 := cell_has B1 r1
 have ch2 := cell_has B2 r2
 have cx1 := cell_xs B1 r1
 have cx2 := cell_xs B2 r2
 clear B1 B2 r1 r2
 have S1 := Lib.hid (fun j => con8 (c := H.sc) (show Src (w1.drewN j) H.sA H.ses.length H.ses from HH.out.ses))
 have S2 := Lib.hid (fun j => con8 (c := K.sc) (show Src (w1.drewN j) K.sA K.ses.length K.ses from HK.out.ses))
 have M1 := Lib.hid (fun j => con8 (c := H.mc) (show Src (w1.drewN j) H.mA H.met.length H.met from HH.out.met))
 have M2 := Lib.hid (fun j => con8 (c := K.mc) (show Src (w1.drewN j) K.mA K.met.length K.met from HK.out.met))
 have SE := Lib.hid (str_same H.ses K.ses)
 have ME := Lib.hid (str_same H.met K.met)
 generalize (⟨H.ses.toArray⟩ : ByteArray) = sa at *
 generalize (⟨K.ses.toArray⟩ : ByteArray) = sb at *
 generalize (⟨H.met.toArray⟩ : ByteArray) = ma at *
 generalize (⟨K.met.toArray⟩ : ByteArray) = mb at *
 have hdr0 : Below w1.heap.size w1 w1 := Below.refl _ _
 by_cases hv : H.ver = K.ver
 case neg =>
   have hno := hv
   have hb : (H.ver == K.ver) = false := by simpa using hv
   clear hv
   go_wp2_with (fail)
   go_ret
   exact ⟨false, rfl, ⟨(fun h => by cases h), (fun h => absurd (show H.hel.ver = K.hel.ver from congrArg Hel.ver h) hno)⟩, HB.out⟩
 have bv : (H.ver == K.ver) = true := by simpa using hv
 have HV := Lib.hid hv
 clear hv
 by_cases hr : H.rnd = K.rnd
 case neg =>
   have hno := hr
   have HQ := Lib.hid (show (H.rnd == K.rnd) = false by simpa using hr)
   clear hr
   go_wp2_with (first | (refine go_ldM (x := .tmp 12) 65 (cellsOf H.rnd) g1 1 RA.out und32 rfl IA.out (by rfl) rfl rfl ?_) | (refine go_ldM (x := .tmp 14) 65 (cellsOf K.rnd) g2 1 RB.out und32 rfl IB.out (by rfl) rfl rfl ?_; refine Hid.out ?_))
   refine Lib.hid ?_
   refine go_neq32 (x := .tmp 13) (y := .tmp 15) (t := 65) H.rnd K.rnd EQ.out.1 EQ.out.2 _ HQ.out rfl (by rfl) rfl rfl ?_
   go_wp2_with (fail)
   go_ret
   exact ⟨false, rfl, ⟨(fun h => by cases h), (fun h => absurd (show H.hel.rnd = K.hel.rnd from congrArg Hel.rnd h) hno)⟩, HB.out⟩
 have HQ := Lib.hid (show (H.rnd == K.rnd) = true by simpa using hr)
 have HRn := Lib.hid hr
 clear hr
 have s1 := S1.out 0
 have s2 := S2.out 0
 rw [World.drewN_zero] at s1 s2
 by_cases hs : H.ses = K.ses
 case neg =>
   have hno := hs
   have hb := SE.out
   rw [decide_eq_false hs] at hb
   clear hs
   go_wp2_with (first | (refine go_ldM (x := .tmp 12) 65 (cellsOf H.rnd) g1 1 RA.out und32 rfl IA.out (by rfl) rfl rfl ?_) | (refine go_ldM (x := .tmp 14) 65 (cellsOf K.rnd) g2 1 RB.out und32 rfl IB.out (by rfl) rfl rfl ?_; refine Hid.out ?_))
   refine Lib.hid ?_
   refine go_neq32 (x := .tmp 13) (y := .tmp 15) (t := 65) H.rnd K.rnd EQ.out.1 EQ.out.2 _ HQ.out rfl (by rfl) rfl rfl ?_
   go_wp2_with (fail)
   go_ret
   exact ⟨false, rfl, ⟨(fun h => by cases h), (fun h => absurd (show H.hel.ses = K.hel.ses from congrArg Hel.ses h) hno)⟩, HB.out⟩
 have bs := SE.out
 rw [decide_eq_true hs] at bs
 have HSs := Lib.hid hs
 clear hs SE
 by_cases hc : H.cph = K.cph
 case neg =>
   have hno := hc
   have CE := Lib.hid (decide_eq_false hc)
   clear hc
   go_wp2_with (first | (refine go_ldM (x := .tmp 12) 65 (cellsOf H.rnd) g1 1 RA.out und32 rfl IA.out (by rfl) rfl rfl ?_) | (refine go_ldM (x := .tmp 14) 65 (cellsOf K.rnd) g2 1 RB.out und32 rfl IB.out (by rfl) rfl rfl ?_; refine Hid.out ?_))
   refine Lib.hid ?_
   refine go_neq32 (x := .tmp 13) (y := .tmp 15) (t := 65) H.rnd K.rnd EQ.out.1 EQ.out.2 _ HQ.out rfl (by rfl) rfl rfl ?_
   go_wp2_with ((go_at_call 42; refine (ints_any H.cA K.cA H.cph K.cph H.cc K.cc w1 HH.out.cph HK.out.cph HH.out.c1.2 HK.out.c1.2).mono ?_; rintro e w2 ⟨rfl, n2, rfl⟩; rw [CE.out]))
   go_ret
   exact ⟨false, rfl, ⟨(fun h => by cases h), (fun h => absurd (show H.hel.cph = K.hel.cph from congrArg Hel.cph h) hno)⟩, HB.out.trans (((But.refl [] w1).drewN _).below (by simp) HB.out.size)⟩
 have CE := Lib.hid (decide_eq_true hc)
 have HCp := Lib.hid hc
 clear hc
 have m1 := M1.out
 have m2 := M2.out
 by_cases hm : H.met = K.met
 case neg =>
   have hno := hm
   have hb := ME.out
   rw [decide_eq_false hm] at hb
   clear hm
   go_wp2_with (first | (refine go_ldM (x := .tmp 12) 65 (cellsOf H.rnd) g1 1 RA.out und32 rfl IA.out (by rfl) rfl rfl ?_) | (refine go_ldM (x := .tmp 14) 65 (cellsOf K.rnd) g2 1 RB.out und32 rfl IB.out (by rfl) rfl rfl ?_; refine Hid.out ?_))
   refine Lib.hid ?_
   refine go_neq32 (x := .tmp 13) (y := .tmp 15) (t := 65) H.rnd K.rnd EQ.out.1 EQ.out.2 _ HQ.out rfl (by rfl) rfl rfl ?_
   go_wp2_with ((go_at_call 42; refine (ints_any H.cA K.cA H.cph K.cph H.cc K.cc w1 HH.out.cph HK.out.cph HH.out.c1.2 HK.out.c1.2).mono ?_; rintro e w2 ⟨rfl, n2, rfl⟩; rw [CE.out]))
   go_ret
   exact ⟨false, rfl, ⟨(fun h => by cases h), (fun h => absurd (show H.hel.met = K.hel.met from congrArg Hel.met h) hno)⟩, HB.out.trans (((But.refl [] w1).drewN _).below (by simp) HB.out.size)⟩
 have bm := ME.out
 rw [decide_eq_true hm] at bm
 have HMt := Lib.hid hm
 clear hm ME
 by_cases hh : H.has = K.has
 case neg =>
   have hno := hh
   have hb : (H.has == K.has) = false := by simpa using hh
   clear hh
   go_wp2_with (first | (refine go_ldM (x := .tmp 12) 65 (cellsOf H.rnd) g1 1 RA.out und32 rfl IA.out (by rfl) rfl rfl ?_) | (refine go_ldM (x := .tmp 14) 65 (cellsOf K.rnd) g2 1 RB.out und32 rfl IB.out (by rfl) rfl rfl ?_; refine Hid.out ?_))
   refine Lib.hid ?_
   refine go_neq32 (x := .tmp 13) (y := .tmp 15) (t := 65) H.rnd K.rnd EQ.out.1 EQ.out.2 _ HQ.out rfl (by rfl) rfl rfl ?_
   go_wp2_with ((go_at_call 42; refine (ints_any H.cA K.cA H.cph K.cph H.cc K.cc w1 HH.out.cph HK.out.cph HH.out.c1.2 HK.out.c1.2).mono ?_; rintro e w2 ⟨rfl, n2, rfl⟩; rw [CE.out]))
   go_ret
   exact ⟨false, rfl, ⟨(fun h => by cases h), (fun h => absurd (show H.hel.has = K.hel.has from congrArg Hel.has h) hno)⟩, HB.out.trans (((But.refl [] w1).drewN _).below (by simp) HB.out.size)⟩
 have HHs := Lib.hid hh
 rw [hh] at ch1
 clear hh
 by_cases hx : H.xs.length = K.xs.length
 case neg =>
   have hno : ¬ H.hel.exts = K.hel.exts := fun e => hx (by
     have := congrArg List.length e
     simpa [Hv.hel] using this)
   have hb : ((H.xs.length : Int) == (K.xs.length : Int)) = false := by rw [beq_eq_false_iff_ne]; omega
   clear hx
   go_wp2_with (first | (refine go_ldM (x := .tmp 12) 65 (cellsOf H.rnd) g1 1 RA.out und32 rfl IA.out (by rfl) rfl rfl ?_) | (refine go_ldM (x := .tmp 14) 65 (cellsOf K.rnd) g2 1 RB.out und32 rfl IB.out (by rfl) rfl rfl ?_; refine Hid.out ?_))
   refine Lib.hid ?_
   refine go_neq32 (x := .tmp 13) (y := .tmp 15) (t := 65) H.rnd K.rnd EQ.out.1 EQ.out.2 _ HQ.out rfl (by rfl) rfl rfl ?_
   go_wp2_with ((go_at_call 42; refine (ints_any H.cA K.cA H.cph K.cph H.cc K.cc w1 HH.out.cph HK.out.cph HH.out.c1.2 HK.out.c1.2).mono ?_; rintro e w2 ⟨rfl, n2, rfl⟩; rw [CE.out]))
   go_ret
   exact ⟨false, rfl, ⟨(fun h => by cases h), (fun h => absurd (show H.hel.exts = K.hel.exts from congrArg Hel.exts h) hno)⟩, HB.out.trans (((But.refl [] w1).drewN _).below (by simp) HB.out.size)⟩
 obtain ⟨n, hn⟩ : ∃ n, n = H.xs.length := ⟨_, rfl⟩
 rw [← hx] at cx2
 rw [← hn] at cx1 cx2 x1
 have HN := Lib.hid hn
 have HM := Lib.hid (hn.trans hx)
 clear hn hx x2
 have HNo := Lib.hid (fun (h : H.xs.map ext ≠ K.xs.map ext) (e : H.hel = K.hel) => h (congrArg Hel.exts e))
 have HYe := Lib.hid (fun (h : H.xs.map ext = K.xs.map ext) => (show H.hel = K.hel from Hel.ext_ HV.out HRn.out HSs.out HCp.out HMt.out HHs.out h))
 go_wp2_with (first | (refine go_ldM (x := .tmp 12) 65 (cellsOf H.rnd) g1 1 RA.out und32 rfl IA.out (by rfl) rfl rfl ?_) | (refine go_ldM (x := .tmp 14) 65 (cellsOf K.rnd) g2 1 RB.out und32 rfl IB.out (by rfl) rfl rfl ?_; refine Hid.out ?_))
 refine Lib.hid ?_
 refine go_neq32 (x := .tmp 13) (y := .tmp 15) (t := 65) H.rnd K.rnd EQ.out.1 EQ.out.2 _ HQ.out rfl (by rfl) rfl rfl ?_
 go_wp2_with ((go_at_call 42; refine (ints_any H.cA K.cA H.cph K.cph H.cc K.cc w1 HH.out.cph HK.out.cph HH.out.c1.2 HK.out.c1.2).mono ?_; rintro e w2 ⟨rfl, n2, rfl⟩; rw [CE.out]))
 clear s1 s2 m1 m2 bs bm cv1 cv2 cs1 cs2 cc1 cc2 cm1 cm2 ch1 ch2 HQ CE bv HV HRn HSs HCp HMt HHs S1 S2 M1 M2 RA RB IA IB EQ
 have CX1 := Lib.hid cx1
 have CX2 := Lib.hid cx2
 clear cx1 cx2
 go_loopw [5] (fun i wr => ∃ k, k ≤ n ∧ i = .int .i64 (k : Int) ∧ Hid ((H.xs.map ext).take k = (K.xs.map ext).take k) ∧ Hid (∃ j, wr = w1.drewN j)) (fun i _ => n - (intOf i).toNat)
 case atStart => exact ⟨0, Nat.zero_le _, rfl, rfl, Lib.hid ⟨_, rfl⟩⟩
 case round =>
   obtain ⟨k, hk, rfl, HE, HW⟩ := hrel
   have HBw := Lib.hid (show Below w.heap.size w wr by obtain ⟨j, rfl⟩ := HW.out; exact HB.out.trans (((But.refl [] w1).drewN _).below (by simp) HB.out.size))
   have cx1 : wr.cell? ⟨g1, 37, none⟩ = some (.slice H.xA n H.xc) := by obtain ⟨j, rfl⟩ := HW.out; exact CX1.out
   have cx2 : wr.cell? ⟨g2, 37, none⟩ = some (.slice K.xA n K.xc) := by obtain ⟨j, rfl⟩ := HW.out; exact CX2.out
   by_cases hlt : k < n
   · have hki : (k : Int) < (n : Int) := by omega
     obtain ⟨x, hx⟩ : ∃ x, H.xs[k]? = some x := ⟨_, List.getElem?_eq_getElem (by have := HN.out; omega)⟩
     obtain ⟨y, hy⟩ : ∃ y, K.xs[k]? = some y := ⟨_, List.getElem?_eq_getElem (by have := HM.out; omega)⟩
     obtain ⟨okx, gx, ox, hXA, -, h0x, h1x⟩ := HH.out.xs k x hx
     obtain ⟨oky, gy, oy, hYA, -, h0y, h1y⟩ := HK.out.xs k y hy
     rw [hXA] at cx1
     rw [hYA] at cx2
     replace h0x : wr.cell? ⟨gx, ox + k * 2, none⟩ = some (.int .i64 x.kind) := by obtain ⟨j, rfl⟩ := HW.out; exact h0x
     replace h1x : wr.cell? ⟨gx, ox + k * 2 + 1, none⟩ = some (.slice x.A x.n x.c) := by obtain ⟨j, rfl⟩ := HW.out; exact h1x
     replace h0y : wr.cell? ⟨gy, oy + k * 2, none⟩ = some (.int .i64 y.kind) := by obtain ⟨j, rfl⟩ := HW.out; exact h0y
     replace h1y : wr.cell? ⟨gy, oy + k * 2 + 1, none⟩ = some (.slice y.A y.n y.c) := by obtain ⟨j, rfl⟩ := HW.out; exact h1y
     have hsx : Src wr x.A x.n x.b := by obtain ⟨j, rfl⟩ := HW.out; exact okx.src
     have hsy : Src wr y.A y.n y.b := by obtain ⟨j, rfl⟩ := HW.out; exact oky.src
     have kx := fun j => con8 (c := x.c) (show Src (wr.drewN j) x.A x.n x.b from hsx)
     have ky := fun j => con8 (c := y.c) (show Src (wr.drewN j) y.A y.n y.b from hsy)
     have DE := Lib.hid (str_same x.b y.b)
     have h1 : (H.xs.map ext)[k]? = some (ext x) := by rw [List.getElem?_map, hx]; rfl
     have h2 : (K.xs.map ext)[k]? = some (ext y) := by rw [List.getElem?_map, hy]; rfl
     have HNx := Lib.hid (fun (h : ext x ≠ ext y) (e : H.hel = K.hel) => HNo.out (fun e => h (by rw [e, h2] at h1; injection h1 with h1; exact h1.symm)) e)
     have HGo := Lib.hid (fun (h : ext x = ext y) => (show (H.xs.map ext).take (k + 1) = (K.xs.map ext).take (k + 1) by rw [List.take_add_one, List.take_add_one, HE.out, h1, h2, h]))
     generalize (⟨x.b.toArray⟩ : ByteArray) = sx at *
     generalize (⟨y.b.toArray⟩ : ByteArray) = sy at *
     clear h1 h2 hx hy okx oky hsx hsy hXA hYA HNo
     by_cases hkd : x.kind = y.kind
     · have bk : (x.kind == y.kind) = true := by simpa using hkd
       have bk2 : (x.kind != y.kind) = false := by simpa using hkd
       have bk3 : decide (x.kind = y.kind) = true := by simpa using hkd
       by_cases hdt : x.b = y.b
       · have bd := DE.out
         rw [decide_eq_true hdt] at bd
         have HG2 := Lib.hid (HGo.out (by show (x.kind, x.b) = (y.kind, y.b); rw [hkd, hdt]))
         clear hkd hdt DE HGo HNx
         go_upto_region 6 with fail
         have kx0 := kx 0
         have ky0 := ky 0
         go_quiet (fail)
         go_wp2_with fail
         go_roundw
         case rel => exact ⟨k + 1, by omega, by go_num, HG2, Lib.hid (drewN_two HW.out nq)⟩
         case measure => simp [intOf]; omega
       · have bd := DE.out
         rw [decide_eq_false hdt] at bd
         have HF := Lib.hid (HNx.out (fun e => hdt (congrArg Prod.snd e)))
         clear hkd hdt DE HGo HNx
         go_upto_region 6 with fail
         have kx0 := kx 0
         have ky0 := ky 0
         go_quiet (fail)
         go_wp2_with fail
         go_ret
         exact ⟨false, rfl, ⟨(fun h => by cases h), fun h => absurd h HF.out⟩, HBw.out.trans (((But.refl [] wr).drewN _).below (by simp) HBw.out.size)⟩
     · have bk : (x.kind == y.kind) = false := by simpa using hkd
       have bk2 : (x.kind != y.kind) = true := by simpa using hkd
       have bk3 : decide (x.kind = y.kind) = false := by simpa using hkd
       have HF := Lib.hid (HNx.out (fun e => hkd (congrArg Prod.fst e)))
       clear hkd DE HGo HNx
       go_upto_region 6 with fail
       have kx0 := kx 0
       have ky0 := ky 0
       go_quiet (fail)
       go_wp2_with fail
       go_ret
       exact ⟨false, rfl, ⟨(fun h => by cases h), fun h => absurd h HF.out⟩, HBw.out.trans (((But.refl [] wr).drewN _).below (by simp) HBw.out.size)⟩
   · obtain rfl : k = n := by omega
     have HF := Lib.hid (HYe.out (by
       have h := HE.out
       rw [List.take_of_length_le (by rw [List.length_map]; have := HN.out; omega), List.take_of_length_le (by rw [List.length_map]; have := HM.out; omega)] at h
       exact h))
     go_wp2_with fail
     go_ret
     exact ⟨true, rfl, ⟨fun _ => HF.out, fun _ => rfl⟩, HBw.out⟩
end Go.Proofs.YthfknndjdfofgaaGreatDoor.He

/-
 Contract of hagioscoperef09's ext over this seat's translation.
-/
namespace Go.Proofs.YthfknndjdfofgaaGreatDoor.He
open Go.RowKit Go.Proofs.YthfknndjdfofgaaGreatDoor.Wd Go.Proofs.YthfknndjdfofgaaGreatDoor.Be

def leftAt (w : World) (y : Nat) : Nat := match w.cell? ⟨y, 0, none⟩, w.cell? ⟨y, 1, none⟩, w.cell? ⟨y, 2, none⟩ with
 | some (.slice _ n _), some (.int _ a), some (.bool false) => n - a.toNat
 | _, _, _ => 0
theorem Rq.leftAt {B y : Nat} {w : World} {st : Option (List UInt8)} (h : Rq B w y st) : He.leftAt w y = leftS st := by
 obtain ⟨A, n, c, xs, ⟨a, off, hk, ha, rfl⟩, _, _, _, h2, _⟩ := h
 unfold He.leftAt
 rw [hk.cell 0, hk.cell 1, hk.cell 2]
 cases off with
 | true => rfl
 | false =>
   show n - (a : Int).toNat = (xs.drop a).length
   rw [List.length_drop, h2.1, Int.toNat_natCast]
theorem drewN_below (w : World) (k : Nat) : Below w.heap.size w (w.drewN k) := ((But.refl [] w).drewN k).below (by simp) (Nat.le_refl _)

structure ExtQ (w : World) (y : Nat) (xs : List UInt8) (v : Value) (st : Option (List UInt8)) (wr : World) : Prop where
 rd : Rq w.heap.size wr y st
 ok : st.isNone = false
 all : ∃ l f, OwnXq wr (w.heap.size + 1) v l ∧ leftS st < f ∧ extsS xs = (l.map ext ++ (extsF f st).1, (extsF f st).2) ∧ l.length + leftS st ≤ 65535
 bel : Below w.heap.size w wr
def RExtPost (w : World) (xs : List UInt8) (e : Ending) (w' : World) : Prop :=
 ∃ v l, e = .returned (.tuple #[v, .bool (extsS xs).2]) ∧ OwnXq w' (w.heap.size + 1) v l ∧ ((extsS xs).2 = true → l.map ext = (extsS xs).1) ∧ l.length ≤ 65535 ∧ Below w.heap.size w w'

set_option linter.unusedSimpArgs false in
set_option maxRecDepth 100000 in
set_option maxHeartbeats 1000000 in
theorem rext_any (A : Option Addr) (n c : Nat) (xs : List UInt8) (w : World) (hs : Src w A n xs) (hn : n ≤ 65535) (hnc : n ≤ c) (hc : c ≤ 9223372036854775807) :
   Calls Tryz.prog 137 #[.slice A n c] w (RExtPost w xs) := by
 have H0 : Hid (ExtQ w w.heap.size xs (.slice none 0 0) (some xs) (w.alloc (.cells #[.slice A n c, .int .i64 0, .bool false] 160))) :=
   ⟨Rq.new hs (by omega) hnc hc rfl, rfl, ⟨[], xs.length + 1, OwnXq.nil _ _, by show xs.length < _; omega, rfl, by show 0 + xs.length ≤ _; rw [hs.1]; omega⟩, (Below.refl _ _).alloc (Nat.le_refl _) _⟩
 clear hs hnc hc
 go_enter Tryz.func137, Tryz.ntmps137
 go_wp2_with fail
 generalize (w.alloc (.cells #[.slice A n c, .int .i64 0, .bool false] 160)) = w1 at *
 obtain ⟨y, hy⟩ : ∃ y, y = w.heap.size := ⟨_, rfl⟩
 have HY := Lib.hid hy
 rw [← hy] at H0 ⊢
 clear hy
 go_loopw [5] (fun v wr => ∃ st, Hid (ExtQ w y xs v st wr)) (fun _ wr => leftAt wr y)
 case atStart => exact ⟨_, H0⟩
 case round =>
   clear H0
   obtain ⟨st, HN⟩ := hrel
   go_wp2_with fail
   refine (qleft_any HN.out.rd).mono ?_
   rintro e w2 ⟨rfl, j, rfl⟩
   have HBd := Lib.hid (drewN_below wr j)
   have HRd0 := Lib.hid (HN.out.rd.below HBd.out)
   by_cases h0 : 0 < leftS st
   · have h0' : (0 : Int) < (leftS st : Int) := by omega
     have HL := Lib.hid h0
     have hk := Lib.hid (Rq.leftAt HN.out.rd)
     have hsm := num_small st
     generalize hq : leftS st = q at *
     have HQ := Lib.hid hq
     clear hq
     go_wp2_with fail
     refine (qnum_any HRd0.out 2).mono ?_
     rintro e w2 ⟨rfl, hrd2, hg2⟩
     have HRd2 := Lib.hid hrd2
     have hvs := vec_small (numS st 2).2
     have hle2 := num_less st (by rw [HQ.out]; exact HL.out)
     have HK2 := Lib.hid (show leftS (vecS (numS st 2).2 2).2 < q from by have := vec_less (numS st 2).2 2; have := HQ.out; omega)
     obtain ⟨l, f, hOw, hf, hall, hlen⟩ := HN.out.all
     obtain ⟨cs, hblk⟩ := HRd0.out.blk
     have HOw := Lib.hid (OwnXq.off (OwnXq.off hOw (only_of_below HBd.out none) (OffT.none _ _)) hg2 (OffT.of_blk hblk (by unfold TX; decide)))
     obtain ⟨f', rfl⟩ : ∃ f', f = f' + 1 := ⟨f - 1, by omega⟩
     have HA : ∀ z : Xt, ext z = (((numS st 2).1 : Int), (vecS (numS st 2).2 2).1) → Hid (extsS xs = ((l ++ [z]).map ext ++ (extsF f' (vecS (numS st 2).2 2).2).1, (extsF f' (vecS (numS st 2).2 2).2).2)) := fun z hz => by
       rw [hall, extsF_step (by rw [HQ.out]; exact HL.out), List.map_append, List.append_assoc, List.map_cons, hz]; rfl
     have HAh := Lib.hid HA
     have HNo := Lib.hid (show (vecS (numS st 2).2 2).2 = none → (extsS xs).2 = false from fun e => by
       rw [hall, extsF_step (by rw [HQ.out]; exact HL.out), e, extsF_end rfl]
       rfl)
     have hlen' : l.length ≤ 65535 := by omega
     have HF := Lib.hid (show leftS (vecS (numS st 2).2 2).2 < f' by have := HK2.out; have := HQ.out; omega)
     have HLn := Lib.hid (show l.length + 1 + leftS (vecS (numS st 2).2 2).2 ≤ 65535 by have := HK2.out; have := HQ.out; omega)
     have HB2 := Lib.hid ((HN.out.bel.trans (HBd.out.mono HN.out.bel.size)).grown hg2 (by exact HN.out.bel.size) (fun j hj => by injection hj with hj; have := HY.out; omega))
     clear HA hrd2 hg2 hOw hf hall hlen hblk h0 h0' hle2
     have hsz := HB2.out.size
     clear HN HQ HL HRd0 HBd
     generalize numS st 2 = p at *
     go_wp2_with fail
     refine (qvec_any HRd2.out 2).mono ?_
     rintro e w3 ⟨v3, rfl, hsl, hrd3, hg3⟩
     generalize vecS p.2 2 = q3 at *
     obtain ⟨A3, c3, hv3⟩ := Sq.form hsl
     obtain ⟨cs, hblk⟩ := HRd2.out.blk
     have HOw3 := Lib.hid (OwnXq.off HOw.out hg3 (OffT.of_blk hblk (by unfold TX; decide)))
     have HB3 := Lib.hid (HB2.out.grown hg3 hsz (fun j hj => by injection hj with hj; have := HY.out; omega))
     have hsz3 := HB3.out.size
     have HRd3 := Lib.hid hrd3
     have HSl := Lib.hid hsl
     have hbad := hrd3.bad
     have hltw := HRd3.out.blk
     rw [hv3]
     have HMine := Lib.hid (show (Xt.mk (p.1 : Int) A3 q3.1.length c3 q3.1).MineQ w3 from ⟨by show Sq w3 (.slice A3 q3.1.length c3) q3.1; rw [← hv3]; exact HSl.out, rfl, hvs, by show (0 : Int) ≤ (p.1 : Int); omega, by show (p.1 : Int) < 65536; omega⟩)
     have HMz := Lib.hid (HAh.out (Xt.mk (p.1 : Int) A3 q3.1.length c3 q3.1) rfl)
     clear hsl hrd3 hg3 hblk HOw HB2 HAh HRd2 HSl hv3
     cases hst : q3.2.isNone with
     | true =>
       rw [hst] at hbad
       have HNe := Lib.hid (HNo.out (Option.isNone_iff_eq_none.1 hst))
       clear hltw HMz HMine HRd3 HK2 HF HLn
       go_wp2_with fail
       go_ret2
       exact ⟨_, [], by rw [HNe.out]; rfl, OwnXq.nil _ _, (fun h => by rw [HNe.out] at h; cases h), Nat.zero_le _, HB3.out⟩
     | false =>
       rw [hst] at hbad
       have HOk := Lib.hid hst
       have hyl : y < w3.heap.size := by obtain ⟨cs, hb⟩ := hltw; exact hb.lt
       clear hst hltw HNo
       have HOa := Lib.hid (HOw3.out.alloc (.cells #[Value.int .i64 (p.1 : Int), .slice A3 q3.1.length c3] 70))
       have hzb := Blk.new w3 70 #[Value.int .i64 (p.1 : Int), .slice A3 q3.1.length c3]
       have Hc0 := Lib.hid (show (w3.alloc (.cells #[Value.int .i64 (p.1 : Int), .slice A3 q3.1.length c3] 70)).cell? ⟨w3.heap.size, 0, none⟩ = some (.int .i64 (p.1 : Int)) by rw [hzb.cell]; rfl)
       have Hc1 := Lib.hid (show (w3.alloc (.cells #[Value.int .i64 (p.1 : Int), .slice A3 q3.1.length c3] 70)).cell? ⟨w3.heap.size, 1, none⟩ = some (.slice A3 q3.1.length c3) by rw [hzb.cell]; rfl)
       clear hzb
       have HGe := Lib.hid (OwnXq.ge HOa.out)
       have HMa := Lib.hid (HMine.out.below ((Below.refl _ _).alloc (Nat.le_refl _) (.cells #[Value.int .i64 (p.1 : Int), .slice A3 q3.1.length c3] 70)))
       have HBa := Lib.hid (HB3.out.alloc hsz3 (.cells #[Value.int .i64 (p.1 : Int), .slice A3 q3.1.length c3] 70))
       have HRa := Lib.hid (HRd3.out.below (Below.refl w3.heap.size w3 |>.alloc (Nat.le_refl _) (.cells #[Value.int .i64 (p.1 : Int), .slice A3 q3.1.length c3] 70)))
       have hBy : w.heap.size + 1 ≤ (w3.alloc (.cells #[Value.int .i64 (p.1 : Int), .slice A3 q3.1.length c3] 70)).heap.size := by rw [alloc_size]; omega
       have HBy := Lib.hid hBy
       clear HB3 HRd3 HMine HOw3 hBy
       go_wp2_with (at_builtin; refine wpList_appXq rfl _ _ rfl (w.heap.size + 1) _ l rfl (by exact HOa.out) _ 1 (Xt.mk (p.1 : Int) A3 q3.1.length c3 q3.1) rfl (by exact HMa.out) (by exact Hc0.out) (by exact Hc1.out) (by omega) (by exact HBy.out) ?_; intro v4 w4 ho4 hg4)
       have HB4 := Lib.hid (HBa.out.grown hg4.out (by have := HBy.out; omega) (fun j hj => by have := HGe.out j hj; omega))
       have HRd4 := Lib.hid (Rq.off HRa.out hg4.out (fun g hg => by have := HGe.out g hg; have := HY.out; exact ⟨by omega, by omega⟩))
       clear hg4 HBa HRa HGe Hc0 Hc1
       go_roundw
       case rel => exact ⟨q3.2, Lib.hid ⟨HRd4.out, HOk.out, ⟨_, f', ho4.out, HF.out, HMz.out, by have := HLn.out; rw [List.length_append]; simpa using this⟩, HB4.out⟩⟩
       case measure => rw [Rq.leftAt HRd4.out, hk.out]; exact HK2.out
   · have hz : leftS st = 0 := by omega
     have HZ := Lib.hid hz
     have h0' : ¬ (0 : Int) < (leftS st : Int) := by omega
     obtain ⟨l, f, hOw, hf, hall, hlen⟩ := HN.out.all
     have hdn : doneS st = true := by
       have := HN.out.ok
       cases st with
       | none => cases this
       | some rest =>
         have : rest = [] := List.eq_nil_of_length_eq_zero hz
         subst this
         rfl
     have HE := Lib.hid (show extsS xs = (l.map ext, true) by rw [hall, extsF_end hz, List.append_nil, hdn])
     have HOw := Lib.hid (OwnXq.off hOw (only_of_below HBd.out none) (OffT.none _ _))
     have HLn := Lib.hid hlen
     have HB5 := Lib.hid (HN.out.bel.trans (HBd.out.mono HN.out.bel.size))
     clear hOw hall hlen hf hdn hz
     generalize leftS st = q at *
     go_wp2_with fail
     go_ret2
     exact ⟨_, l, by rw [HE.out]; rfl, HOw.out, fun _ => by rw [HE.out], by have := HLn.out; omega, HB5.out⟩
end Go.Proofs.YthfknndjdfofgaaGreatDoor.He

/-
 What the document's own laid asks, in plain words, and where it is in memory. No condition.
-/
namespace Go.Proofs.YthfknndjdfofgaaGreatDoor.He
open Go.RowKit Go.Proofs.YthfknndjdfofgaaGreatDoor.Wd Go.Proofs.YthfknndjdfofgaaGreatDoor.Be

set_option linter.unusedSimpArgs false
theorem two_of (a b : UInt8) : two ((a.toNat : Int) * 256 + (b.toNat : Int)) = [a, b] := by
 have h1 : two ((a.toNat : Int) * 256 + (b.toNat : Int)) = [Go.Proofs.YthfknndjdfofgaaGreatDoor.Be.byteOf (((a.toNat : Int) * 256 + (b.toNat : Int)) / 256), Go.Proofs.YthfknndjdfofgaaGreatDoor.Be.byteOf ((a.toNat : Int) * 256 + (b.toNat : Int))] := rfl
 have ha := a.toNat_lt
 have hb := b.toNat_lt
 rw [h1]
 unfold Go.Proofs.YthfknndjdfofgaaGreatDoor.Be.byteOf
 rw [show (((a.toNat : Int) * 256 + (b.toNat : Int)) / 256 % 256).toNat = a.toNat by omega, show (((a.toNat : Int) * 256 + (b.toNat : Int)) % 256).toNat = b.toNat by omega]
 rw [UInt8.ofNat_toNat, UInt8.ofNat_toNat]
theorem pairs : ∀ (c : List UInt8), c.length % 2 = 0 → ∃ l : List Int, c = numsB l ∧ (∀ n ∈ l, In2 n) ∧ c.length = 2 * l.length ∧ ∀ (k : Nat) (a b : UInt8), c[2 * k]? = some a → c[2 * k + 1]? = some b → l[k]? = some ((a.toNat : Int) * 256 + (b.toNat : Int))
 | [], _ => ⟨[], rfl, fun _ h => absurd h List.not_mem_nil, rfl, fun k a b h => by simp at h⟩
 | [a], h => by simp at h
 | a :: b :: r, h => by
   obtain ⟨l, h1, h2, h3, h4⟩ := pairs r (by simp only [List.length_cons] at h; omega)
   refine ⟨((a.toNat : Int) * 256 + (b.toNat : Int)) :: l, ?_, fun n hn => ?_, by simp only [List.length_cons, h3]; omega, fun k x y hx hy => ?_⟩
   · rw [show numsB (((a.toNat : Int) * 256 + (b.toNat : Int)) :: l) = two ((a.toNat : Int) * 256 + (b.toNat : Int)) ++ numsB l by simp [numsB], two_of, ← h1]
     rfl
   · rcases List.mem_cons.1 hn with rfl | hn
     · have ha := a.toNat_lt
       have hb := b.toNat_lt
       unfold In2
       omega
     · exact h2 n hn
   · match k with
     | 0 =>
       have e1 : a = x := by simpa using hx
       have e2 : b = y := by simpa using hy
       rw [e1, e2]
       rfl
     | k + 1 =>
       rw [List.getElem?_cons_succ]
       refine h4 k x y ?_ ?_
       · rw [show 2 * (k + 1) = 2 * k + 1 + 1 by omega, List.getElem?_cons_succ, List.getElem?_cons_succ] at hx; exact hx
       · rw [show 2 * (k + 1) + 1 = 2 * k + 1 + 1 + 1 by omega, List.getElem?_cons_succ, List.getElem?_cons_succ] at hy; exact hy
theorem nums_even {c : List UInt8} (h : (numsS c).2 = true) : c.length = 2 * (numsS c).1.length := by
 have := congrArg List.length (numsS_inv h).1
 rwa [numsB_len] at this
def go1 (xs : List UInt8) : Bool := !(sM xs).2.isNone && (decide (2 ≤ (sC xs).1.length) && (decide ((sC xs).1.length % 2 = 0) && decide (0 < (sM xs).1.length)))
theorem ok_go1 {xs : List UInt8} (h : go1 xs = false) : okS xs = false := by
 refine Bool.eq_false_iff.2 (fun hk => ?_)
 unfold okS at hk
 simp only [Bool.and_eq_true, decide_eq_true_iff] at hk
 obtain ⟨⟨⟨h1, h2⟩, h3⟩, h4, h5⟩ := hk
 have he := nums_even h2
 have hn : (sM xs).2.isNone = false := by
   cases hm : (sM xs).2 with
   | some r => rfl
   | none =>
     have hh : hasS xs = false := by unfold hasS; rw [hm]; rfl
     unfold sX at h1
     rw [hh, hm] at h1
     cases h1
 unfold go1 at h
 rw [hn, decide_eq_true (show 2 ≤ (sC xs).1.length by omega), decide_eq_true (show (sC xs).1.length % 2 = 0 by omega), decide_eq_true h5] at h
 cases h
theorem go1_is {xs : List UInt8} (h : go1 xs = true) : (sM xs).2.isNone = false ∧ 2 ≤ (sC xs).1.length ∧ (sC xs).1.length % 2 = 0 ∧ 0 < (sM xs).1.length := by
 unfold go1 at h
 simpa using h
theorem done_iff {st : Option (List UInt8)} : doneS st = true ↔ st.isNone = false ∧ leftS st = 0 := by
 cases st with
 | none => exact ⟨(fun h => by cases h), (fun h => by cases h.1)⟩
 | some r =>
   cases r with
   | nil => exact ⟨fun _ => ⟨rfl, rfl⟩, fun _ => rfl⟩
   | cons a r => exact ⟨(fun h => by cases h), (fun h => by cases h.2)⟩
theorem go1_nums {xs : List UInt8} (h : go1 xs = true) : ∃ l : List Int, numsS (sC xs).1 = (l, true) ∧ (∀ n ∈ l, In2 n) ∧ (sC xs).1.length = 2 * l.length ∧ 0 < l.length ∧ ∀ (k : Nat) (a b : UInt8), (sC xs).1[2 * k]? = some a → (sC xs).1[2 * k + 1]? = some b → l[k]? = some ((a.toNat : Int) * 256 + (b.toNat : Int)) := by
 obtain ⟨h1, h2, h3, h4⟩ := go1_is h
 obtain ⟨l, e1, e2, e3, e4⟩ := pairs _ h3
 refine ⟨l, ?_, e2, e3, by omega, e4⟩
 rw [e1]
 exact numsS_in l e2
theorem ok_bare {xs : List UInt8} (h : go1 xs = true) (hl : leftS (sM xs).2 = 0) : okS xs = true ∧ hasS xs = false ∧ (eS xs).1 = [] := by
 obtain ⟨l, e1, _, _, e4, _⟩ := go1_nums h
 obtain ⟨h1, h2, h3, h4⟩ := go1_is h
 have hh : hasS xs = false := by unfold hasS; rw [hl]; rfl
 have hd : doneS (sM xs).2 = true := done_iff.2 ⟨h1, hl⟩
 refine ⟨?_, hh, by unfold eS; rw [hh]; rfl⟩
 unfold okS sX eS
 rw [hh, e1]
 simp only [Bool.false_eq_true, if_false, hd, Bool.and_self, Bool.and_true, Bool.true_and, decide_eq_true e4, decide_eq_true h4]
theorem ok_more {xs : List UInt8} (h : go1 xs = true) (hl : 0 < leftS (sM xs).2) : hasS xs = true ∧ sX xs = vecS (sM xs).2 2 ∧ eS xs = extsS (vecS (sM xs).2 2).1 ∧
   (okS xs = true ↔ (vecS (sM xs).2 2).2.isNone = false ∧ leftS (vecS (sM xs).2 2).2 = 0 ∧ (extsS (vecS (sM xs).2 2).1).2 = true) := by
 obtain ⟨l, e1, _, _, e4, _⟩ := go1_nums h
 obtain ⟨h1, h2, h3, h4⟩ := go1_is h
 have hh : hasS xs = true := by unfold hasS; exact decide_eq_true hl
 have hx : sX xs = vecS (sM xs).2 2 := by unfold sX; rw [hh, if_pos rfl]
 have he : eS xs = extsS (vecS (sM xs).2 2).1 := by unfold eS; rw [hh, if_pos rfl, hx]
 refine ⟨hh, hx, he, ?_⟩
 unfold okS
 rw [hx, he, e1, decide_eq_true e4, decide_eq_true h4]
 simp only [Bool.and_true, Bool.and_eq_true, done_iff]
 constructor
 · rintro ⟨⟨a, b⟩, c⟩; exact ⟨a, b, c⟩
 · rintro ⟨a, b, c⟩; exact ⟨⟨a, b⟩, c⟩

structure LdAt (w0 : World) (g y : Nat) (H : Hv) (st : Option (List UInt8)) (w : World) : Prop where
 at_ : HAq w g H
 rd : Rq (w0.heap.size + 1) w y st
 res : Blk w w0.heap.size 68 Hv.zero.C
 bel : Below w0.heap.size w0 w
 gB : w0.heap.size + 1 < g
 ne : y < g
section
variable {w0 w w' : World} {g y : Nat} {H H' : Hv} {st st' : Option (List UInt8)}
theorem LdAt.read (h : LdAt w0 g y H st w) (hr : Rq (w0.heap.size + 1) w' y st') (hg : w.grownBy w' (some y)) : LdAt w0 g y H st' w' := by
 obtain ⟨cs, hb⟩ := h.rd.blk
 have := h.rd.far
 exact ⟨h.at_.off hg (OffT.of_blk hb (by unfold TA TW; decide)), hr, h.res.grown hg (fun e => by injection e with e; omega), h.bel.grown hg h.bel.size (fun j hj => by injection hj with hj; omega), h.gB, h.ne⟩
theorem LdAt.more (h : LdAt w0 g y H st w) (hb : Below w.heap.size w w') : LdAt w0 g y H st w' :=
 ⟨h.at_.below hb, h.rd.below hb, h.res.below hb h.res.lt, h.bel.trans (hb.mono h.bel.size), h.gB, h.ne⟩
theorem LdAt.turn (h : LdAt w0 g y H st w) (hh : HAq w' g H') (hg : w.grownBy w' (some g)) : LdAt w0 g y H' st w' :=
 ⟨hh, h.rd.off hg (fun j hj => by injection hj with hj; have := h.gB; have := h.ne; exact ⟨by omega, by omega⟩), h.res.grown hg (fun e => by injection e with e; have := h.gB; omega), h.bel.grown hg h.bel.size (fun j hj => by injection hj with hj; have := h.gB; omega), h.gB, h.ne⟩
theorem LdAt.set_ (h : LdAt w0 g y H st w) (i : Nat) (u : Value) (hh : HAq (w.setCell ⟨g, i, none⟩ u) g H') : LdAt w0 g y H' st (w.setCell ⟨g, i, none⟩ u) :=
 h.turn hh (only_setCell (p := ⟨g, i, none⟩) (only_refl w (some g)) (.inl rfl) u)
theorem LdAt.drew (h : LdAt w0 g y H st w) : LdAt w0 g y H st w.drew := h.more (Below.refl _ _).drew
end
theorem wp_appI {o : Oper} {a : Act} {w : World} {K : Act → World → Prop} {Q : Exit → Act → World → Prop} (s x : Operand)
   (ho : o.op = .call { callee := .builtin .append, args := #[s, x], argTypes := #[27, 27] })
   (B : Nat) (v : Value) (l : List Int) (hs : a.eval s = v) (hown : OwnI w B v l) (g c : Nat) (z : Int) (hx : a.eval x = .slice (some ⟨g, 0, none⟩) 1 c) (hsrc : w.cell? ⟨g, 0, none⟩ = some (.int .i64 z))
   (hlen : l.length + 1 ≤ 4294967296) (hB : B ≤ w.heap.size)
   (h : ∀ v' w', Hid (OwnI w' B v' (l ++ [z])) → Hid (w.grownBy w' v.ownBlock) → K (a.put o.dst v') w') : Oper.wp Tryz.prog o a w K Q := by
 obtain ⟨i0, hi, hz0, hz1, hz2⟩ := info_parts infI
 obtain ⟨v', w', hrun, h2, h3, _, _⟩ := run_append_own_at (P := Tryz.prog) w B 27 o.type 3 i0 (.int .i64 0) 1 8 Tryz.underlying27 hi hz0 hz1 hz2 rfl (by omega) v l.length (l.map (.int .i64)) hown ⟨g, 0, none⟩ 1 c [.int .i64 z] rfl
   (fun j u hu => by
     cases j with
     | zero => simp at hu; subst hu; exact hsrc
     | succ j => simp at hu) (by simp [Value.oneCell']) (by unfold maxLen; omega) (by omega) hB
 have e1 : OwnI w' B v' (l ++ [z]) := by
   unfold OwnI
   rw [List.length_append, List.map_append]
   exact h2
 unfold Oper.wp execOp
 simp only [ho, resolve, invoke, builtin, Sem.run_bind, Sem.run_pure, Result.andThen_ok, List.map_toArray, List.map_cons, List.map_nil, hs, hx, hrun]
 exact h v' w' (Lib.hid e1) (Lib.hid h3)
end Go.Proofs.YthfknndjdfofgaaGreatDoor.He

/-
 Where the document's own laid is while it reads the ciphers. No condition.
-/
namespace Go.Proofs.YthfknndjdfofgaaGreatDoor.He
open Go.RowKit Go.Proofs.YthfknndjdfofgaaGreatDoor.Wd Go.Proofs.YthfknndjdfofgaaGreatDoor.Be

theorem HOwq.off0 {w w' : World} {H : Hv} {row : Option Nat} (h : HOwq w H) (h0 : H.cph = []) (hA : H.cA = none) (hc : H.cc = 0) (hb : w.grownBy w' row) (hr : OffT w row TX) : HOwq w' H :=
 ⟨h.rnd, h.ver, Sq.off h.ses hb hr (.inr rfl), h.s1, by rw [h0, hA, hc]; exact OwnI.nil w' 0, h.c1, h.c2, Sq.off h.met hb hr (.inr rfl), h.m1, h.xs.off hb hr, h.x1⟩
def bare (H : Hv) : Prop := H.cph = [] ∧ H.cA = none ∧ H.cc = 0
structure LcAt (w0 : World) (g y : Nat) (H : Hv) (st : Option (List UInt8)) (A8 : Option Addr) (n8 c8 : Nat) (cs : List UInt8) (A : Option Addr) (c : Nat) (m : List Int) (w : World) : Prop where
 own : HOwq w H
 bare : bare H
 cph : OwnI w (w0.heap.size + 1) (.slice A m.length c) m
 blk : Blk w g 68 ({ H with cA := A, cc := c, cph := m } : Hv).C
 rd : Rq (w0.heap.size + 1) w y st
 res : Blk w w0.heap.size 68 Hv.zero.C
 bel : Below w0.heap.size w0 w
 gB : w0.heap.size + 1 < g
 ne : y < g
 sq : Sq w (.slice A8 n8 c8) cs
section
variable {w0 w w' : World} {g y : Nat} {H : Hv} {st : Option (List UInt8)} {A8 : Option Addr} {n8 c8 : Nat} {cs : List UInt8} {A : Option Addr} {c : Nat} {m : List Int}
theorem LdAt.start (h : LdAt w0 g y H st w) (hb : bare H) (hs : Sq w (.slice A8 n8 c8) cs) : LcAt w0 g y H st A8 n8 c8 cs none 0 [] w := by
 refine ⟨h.at_.own, hb, OwnI.nil _ _, ?_, h.rd, h.res, h.bel, h.gB, h.ne, hs⟩
 have e : ({ H with cA := none, cc := 0, cph := [] } : Hv) = H := by
   obtain ⟨h1, h2, h3⟩ := hb
   rw [← h1, ← h2, ← h3]
 rw [e]
 exact h.at_.blk
theorem LcAt.below (h : LcAt w0 g y H st A8 n8 c8 cs A c m w) (hb : Below w.heap.size w w') : LcAt w0 g y H st A8 n8 c8 cs A c m w' :=
 ⟨h.own.below hb, h.bare, h.cph.off (only_of_below hb none) (OffT.none _ _), h.blk.below hb h.blk.lt, h.rd.below hb, h.res.below hb h.res.lt, h.bel.trans (hb.mono h.bel.size), h.gB, h.ne, h.sq.below hb⟩
theorem LcAt.row {A' : Option Addr} {c' : Nat} {m' : List Int} (h : LcAt w0 g y H st A8 n8 c8 cs A c m w) (hg : w.grownBy w' (Value.slice A m.length c).ownBlock) (_ho : OwnI w' (w0.heap.size + 1) (.slice A' m'.length c') m') :
   HOwq w' H ∧ Blk w' g 68 ({ H with cA := A, cc := c, cph := m } : Hv).C ∧ Rq (w0.heap.size + 1) w' y st ∧ Blk w' w0.heap.size 68 Hv.zero.C ∧ Below w0.heap.size w0 w' ∧ Sq w' (.slice A8 n8 c8) cs := by
 have hge := OwnI.ge h.cph
 have h1 := h.cph.block (T := TX) (by unfold TX; decide)
 have h2 := h.cph.block (T := (· = 68)) (by decide)
 have h3 := h.cph.block (T := (· = 160)) (by decide)
 obtain ⟨cr, hk⟩ := h.rd.blk
 exact ⟨h.own.off0 h.bare.1 h.bare.2.1 h.bare.2.2 hg h1, h.blk.grown hg (h2.far h.blk rfl), h.rd.off hg (fun j hj => ⟨hge j hj, fun e => h3.far hk rfl (by rw [e, hj])⟩), h.res.grown hg (h2.far h.res rfl),
   h.bel.grown hg h.bel.size (fun j hj => by have := hge j hj; omega), Sq.off h.sq hg h1 (.inr rfl)⟩
theorem LcAt.push {A' : Option Addr} {c' : Nat} {m' : List Int} (h : LcAt w0 g y H st A8 n8 c8 cs A c m w) (hg : w.grownBy w' (Value.slice A m.length c).ownBlock) (ho : OwnI w' (w0.heap.size + 1) (.slice A' m'.length c') m') :
   LcAt w0 g y H st A8 n8 c8 cs A' c' m' (w'.setCell ⟨g, 34, none⟩ (.slice A' m'.length c')) := by
 obtain ⟨k1, k2, k3, k4, k5, k6⟩ := h.row hg ho
 have hs := only_setCell (p := ⟨g, 34, none⟩) (only_refl w' (some g)) (.inl rfl) (.slice A' m'.length c')
 have hB := h.gB
 have hN := h.ne
 refine ⟨k1.off hs (OffT.of_blk k2 (by unfold TW; decide)), h.bare, ho.off hs (OffT.of_blk k2 (by decide)), ?_, k3.off hs (fun j hj => by injection hj with hj; exact ⟨by omega, by omega⟩), k4.grown hs (fun e => by injection e with e; omega),
   k5.grown hs k5.size (fun j hj => by injection hj with hj; omega), hB, hN, Sq.off (T := (· = 5)) k6 hs (OffT.of_blk k2 (by decide)) rfl⟩
 have := k2.set_ 34 (.slice A' m'.length c')
 rw [C_set, show (34 : Nat) = 33 + 1 from rfl, L_set (H := { H with cA := A, cc := c, cph := m }) h.own.rnd] at this
 exact this
theorem LcAt.done (h : LcAt w0 g y H st A8 n8 c8 cs A c m w) (hl : m.length < 65536) (h2 : ∀ n ∈ m, In2 n) : LdAt w0 g y { H with cA := A, cc := c, cph := m } st w :=
 ⟨⟨h.blk, ⟨h.own.rnd, h.own.ver, h.own.ses, h.own.s1, h.cph.lower (Nat.zero_le _), hl, h2, h.own.met, h.own.m1, h.own.xs, h.own.x1⟩⟩, h.rd, h.res, h.bel, h.gB, h.ne⟩
end
end Go.Proofs.YthfknndjdfofgaaGreatDoor.He
