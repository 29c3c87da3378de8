/-
 Contract of package exts' See over this seat's translation.
-/
import Derived.Test.YthfknndjdfofgaaGreatDoorQ09
import Derived.Test.YthfknndjdfofgaaGreatDoorQ01
import Derived.RegionTactic
import Derived.ChangeAlike
import Derived.Deep.MidRow
import Derived.BigQuiet
import Derived.DeepKeys
import Derived.ChangeKeysEq
import Derived.Deep.QuietTactic
import Derived.Laws.CopyOwn
namespace Go.Proofs.YthfknndjdfofgaaGreatDoor.Ex
open Go.RowKit Go.Proofs.YthfknndjdfofgaaGreatDoor.Wd Go.Proofs.YthfknndjdfofgaaGreatDoor.Be Go.Proofs.YthfknndjdfofgaaGreatDoor.He Go.Proofs.YthfknndjdfofgaaGreatDoor.Ro

structure Sn where
 has : Bool
 name : List UInt8
 alpn : List (List UInt8)
 vers : List Int
 ech : Bool
def Sn.zero : Sn := ⟨false, [], [], [], false⟩
def errS (L : List (Int × List UInt8)) : List Int := [(fdS nameS (findL L 0)).2, (fdS protoS (findL L 16)).2, (fdS verS (findL L 43)).2]
def seeS (L : List (Int × List UInt8)) : Sn × Int :=
 if orL (errS L) = 0 then (⟨(findL L 0).2, (fdS nameS (findL L 0)).1, (fdS protoS (findL L 16)).1, (fdS verS (findL L 43)).1, (findL L 65037).2⟩, 0) else (Sn.zero, orL (errS L))
def snC (s : Sn) (va vv : Value) : Array Value := #[.bool s.has, .string (str8 s.name), va, vv, .bool s.ech]
def SeeP (p : Sn × Int) (w : World) (e : Ending) (w' : World) : Prop :=
 ∃ va vv, e = .returned (.tuple #[.agg (snC p.1 va vv), .int .i64 p.2]) ∧ RelP w' w.heap.size va p.1.alpn ∧ RelV w' w.heap.size vv p.1.vers ∧ Below w.heap.size w w'
theorem undS : Tryz.prog.underlying 29 = some (.struct (Tryz.prog.fieldsOf 29)) := by kernel_rfl
theorem infS : (Tryz.prog.info? 29).map (·.size) = some 5 := by kernel_rfl
theorem RelP.below {w w' : World} {B : Nat} {v : Value} {l : List (List UInt8)} (h : RelP w B v l) (hb : Below w.heap.size w w') : RelP w' B v l := ⟨h.1.below hb, h.2⟩
theorem RelV.below {w w' : World} {B : Nat} {v : Value} {l : List Int} (h : RelV w B v l) (hb : Below w.heap.size w w') : RelV w' B v l := ⟨h.1.below hb, h.2⟩
theorem RelP.lower {w : World} {B B' : Nat} {v : Value} {l : List (List UInt8)} (h : RelP w B v l) (hB : B' ≤ B) : RelP w B' v l := ⟨h.1.lower hB, h.2⟩
theorem RelV.lower {w : World} {B B' : Nat} {v : Value} {l : List Int} (h : RelV w B v l) (hB : B' ≤ B) : RelV w B' v l := ⟨h.1.lower hB, h.2⟩
theorem RelP.off {w w' : World} {B : Nat} {v : Value} {l : List (List UInt8)} {row : Option Nat} (h : RelP w B v l) (hb : w.grownBy w' row) (hr : OffT w row (· = 9)) : RelP w' B v l := ⟨h.1.off hb hr, h.2⟩
theorem RelV.off {w w' : World} {B : Nat} {v : Value} {l : List Int} {row : Option Nat} (h : RelV w B v l) (hb : w.grownBy w' row) (hr : OffT w row (· = 3)) : RelV w' B v l := ⟨h.1.off hb hr, h.2⟩
theorem set5 (a b c d e x0 x1 x2 x3 x4 : Value) : (((((#[a, b, c, d, e] : Array Value).setIfInBounds 0 x0).setIfInBounds 1 x1).setIfInBounds 2 x2).setIfInBounds 3 x3).setIfInBounds 4 x4 = #[x0, x1, x2, x3, x4] := by simp
theorem five (w : World) (g : Nat) (t : TypeId) (a b c d e x0 x1 x2 x3 x4 : Value) (h : Blk w g t #[a, b, c, d, e]) :
   Blk (((((w.setCell ⟨g, 0, none⟩ x0).setCell ⟨g, 1, none⟩ x1).setCell ⟨g, 2, none⟩ x2).setCell ⟨g, 3, none⟩ x3).setCell ⟨g, 4, none⟩ x4) g t #[x0, x1, x2, x3, x4] ∧
   w.grownBy (((((w.setCell ⟨g, 0, none⟩ x0).setCell ⟨g, 1, none⟩ x1).setCell ⟨g, 2, none⟩ x2).setCell ⟨g, 3, none⟩ x3).setCell ⟨g, 4, none⟩ x4) (some g) := by
 constructor
 · have := ((((h.set_ 0 x0).set_ 1 x1).set_ 2 x2).set_ 3 x3).set_ 4 x4
   rwa [set5] at this
 · exact only_setCell (p := ⟨g, 4, none⟩) (only_setCell (p := ⟨g, 3, none⟩) (only_setCell (p := ⟨g, 2, none⟩) (only_setCell (p := ⟨g, 1, none⟩) (only_setCell (p := ⟨g, 0, none⟩) (only_refl w _) (.inl rfl) _) (.inl rfl) _) (.inl rfl) _) (.inl rfl) _) (.inl rfl) _

set_option maxRecDepth 100000 in
set_option maxHeartbeats 2000000 in
theorem see_any (H : Hv) (w : World) (hH : H.Ok w) :
   Calls Tryz.prog 78 #[.agg H.C] w (SeeP (seeS H.hel.exts) w) := by
 have hr := hH.rnd
 have HH := Lib.hid hH
 have hR : seeS H.hel.exts = if orL (errS H.hel.exts) = 0 then (⟨(findL H.hel.exts 0).2, (fdS nameS (findL H.hel.exts 0)).1, (fdS protoS (findL H.hel.exts 16)).1, (fdS verS (findL H.hel.exts 43)).1, (findL H.hel.exts 65037).2⟩, 0) else (Sn.zero, orL (errS H.hel.exts)) := rfl
 have hE : errS H.hel.exts = [(fdS nameS (findL H.hel.exts 0)).2, (fdS protoS (findL H.hel.exts 16)).2, (fdS verS (findL H.hel.exts 43)).2] := rfl
 rw [hE] at hR
 obtain ⟨q, hq⟩ : ∃ q, seeS H.hel.exts = q := ⟨_, rfl⟩
 rw [hq] at hR ⊢
 obtain ⟨a1, a2, a3, ha1, ha2, ha3⟩ : ∃ a b c, (findL H.hel.exts 0).2 = a ∧ (fdS nameS (findL H.hel.exts 0)).1 = b ∧ (fdS nameS (findL H.hel.exts 0)).2 = c := ⟨_, _, _, rfl, rfl, rfl⟩
 obtain ⟨b1, b2, b3, hB1, hB2, hB3⟩ : ∃ a b c, (findL H.hel.exts 16).2 = a ∧ (fdS protoS (findL H.hel.exts 16)).1 = b ∧ (fdS protoS (findL H.hel.exts 16)).2 = c := ⟨_, _, _, rfl, rfl, rfl⟩
 obtain ⟨c1, c2, c3, hC1, hC2, hC3⟩ : ∃ a b c, (findL H.hel.exts 43).2 = a ∧ (fdS verS (findL H.hel.exts 43)).1 = b ∧ (fdS verS (findL H.hel.exts 43)).2 = c := ⟨_, _, _, rfl, rfl, rfl⟩
 obtain ⟨d1, hD1⟩ : ∃ a, (findL H.hel.exts 65037).2 = a := ⟨_, rfl⟩
 rw [ha1, ha2, ha3, hB2, hB3, hC2, hC3, hD1] at hR
 have FA := fun w h => fdN_any H 0 w h
 have FB := fun w h => fdP_any H 16 w h
 have FC := fun w h => fdV_any H 43 w h
 rw [ha1, ha2, ha3] at FA
 rw [hB1, hB2, hB3] at FB
 rw [hC1, hC2, hC3] at FC
 have GA := Lib.hid FA
 have GB := Lib.hid FB
 have GC := Lib.hid FC
 have HR := Lib.hid hR
 have HD1 := Lib.hid hD1
 clear hH FA FB FC hR hE hq ha1 ha2 ha3 hB1 hB2 hB3 hC1 hC2 hC3 hD1
 go_enter Tryz.func78, Tryz.ntmps78
 go_upto_region 1 with fail
 have hb0 := (Blk.new w 68 H.C).alloc (.cells #[.bool false, .string ⟨#[]⟩, .slice none 0 0, .slice none 0 0, .bool false] 29)
 have HS0 := Lib.hid (blk_at (w.alloc (.cells H.C 68)) 29 #[.bool false, .string ⟨#[]⟩, .slice none 0 0, .slice none 0 0, .bool false] _ (w.heap.size + 1) (by rw [alloc_size]) rfl)
 have HB0 := Lib.hid (((Below.refl w.heap.size w).alloc (Nat.le_refl _) (.cells H.C 68)).alloc (by simp) (.cells #[.bool false, .string ⟨#[]⟩, .slice none 0 0, .slice none 0 0, .bool false] 29))
 generalize (w.alloc (.cells H.C 68)).alloc (.cells #[.bool false, .string ⟨#[]⟩, .slice none 0 0, .slice none 0 0, .bool false] 29) = w0 at *
 go_wp2_with (refine go_ld 68 hb0 undH rfl infH (Hv.size hr) rfl rfl rfl ?_)
 refine (GA.out w0 (HH.out.below HB0.out)).mono ?_
 rintro e w1 ⟨v1, rfl, hv1, hbl⟩
 unfold RelN at hv1
 subst hv1
 have hb1 := hb0.below hbl hb0.lt
 have HS1 := Lib.hid (HS0.out.below hbl HS0.out.lt)
 have HB1 := Lib.hid (HB0.out.trans (hbl.mono HB0.out.size))
 clear hb0 hbl HS0 HB0 GA
 go_wp2_with (refine go_ld 68 hb1 undH rfl infH (Hv.size hr) rfl rfl rfl ?_)
 refine (GB.out w1 (HH.out.below HB1.out)).mono ?_
 rintro e w2 ⟨v2, rfl, hv2, hbl⟩
 have HV2 := Lib.hid (RelP.lower hv2 HB1.out.size)
 have hb2 := hb1.below hbl hb1.lt
 have HS2 := Lib.hid (HS1.out.below hbl HS1.out.lt)
 have HB2 := Lib.hid (HB1.out.trans (hbl.mono HB1.out.size))
 clear hb1 hbl HS1 HB1 GB hv2
 go_wp2_with (refine go_ld 68 hb2 undH rfl infH (Hv.size hr) rfl rfl rfl ?_)
 refine (GC.out w2 (HH.out.below HB2.out)).mono ?_
 rintro e w3 ⟨v3, rfl, hv3, hbl⟩
 have HV2' := Lib.hid (HV2.out.below hbl)
 have HV3 := Lib.hid (RelV.lower hv3 HB2.out.size)
 have hb3 := hb2.below hbl hb2.lt
 have HS3 := Lib.hid (HS2.out.below hbl HS2.out.lt)
 have HB3 := Lib.hid (HB2.out.trans (hbl.mono HB2.out.size))
 clear hb2 hbl HS2 HB2 GC hv3 HV2
 have HK := Lib.hid (show ∀ (k : Nat) (x : Int), [a3, b3, c3][k]? = some x → (w3.alloc (.cells #[.int .i64 a3, .int .i64 b3, .int .i64 c3] 25)).cell? ⟨w3.heap.size, k, none⟩ = some (.int .i64 x) from fun k x hx => by
   rw [(Blk.new w3 25 #[.int .i64 a3, .int .i64 b3, .int .i64 c3]).cell]
   match k, hx with
   | 0, hx => injection hx with hx; subst hx; rfl
   | 1, hx => injection hx with hx; subst hx; rfl
   | 2, hx => injection hx with hx; subst hx; rfl
   | k + 3, hx => simp at hx)
 have HA3 := Lib.hid ((Below.refl w3.heap.size w3).alloc (Nat.le_refl _) (.cells #[.int .i64 a3, .int .i64 b3, .int .i64 c3] 25))
 go_wp2_with fail
 refine (or_any [a3, b3, c3] w3.heap.size 3 3 _ rfl (by omega) HK.out).mono ?_
 rintro e w4 ⟨rfl, hbl⟩
 have hbl := HA3.out.trans (hbl.out.mono HA3.out.size)
 have HV2 := Lib.hid (HV2'.out.below hbl)
 have HV3' := Lib.hid (HV3.out.below hbl)
 have hb4 := hb3.below hbl hb3.lt
 have HS4 := Lib.hid (HS3.out.below hbl HS3.out.lt)
 have HB4 := Lib.hid (HB3.out.trans (hbl.mono HB3.out.size))
 clear hb3 hbl HS3 HB3 HK HA3 HV2' HV3
 obtain ⟨E, hE⟩ : ∃ E, orL [a3, b3, c3] = E := ⟨_, rfl⟩
 rw [hE] at HR ⊢
 clear hE
 by_cases h0 : E = 0
 · have HF := Lib.hid (show q = (⟨a1, a2, b2, c2, d1⟩, 0) by rw [HR.out, if_pos h0])
   have hb : (E != 0) = false := by simp [h0]
   have hdz : decide (E = 0) = true := by simp [h0]
   clear h0 HR
   go_wp2_with (refine go_ld 68 hb4 undH rfl infH (Hv.size hr) rfl rfl rfl ?_)
   refine (find_any H 65037 w4 (HH.out.below HB4.out)).mono ?_
   rintro e w5 ⟨v5, rfl, _, hbl⟩
   rw [HD1.out]
   have HV2' := Lib.hid (HV2.out.below hbl)
   have HV3 := Lib.hid (HV3'.out.below hbl)
   have HS5 := Lib.hid (HS4.out.below hbl HS4.out.lt)
   have HB5 := Lib.hid (HB4.out.trans (hbl.mono HB4.out.size))
   clear hb4 hbl HS4 HB4 HV2 HV3'
   obtain ⟨Al, cl, rfl⟩ := OwnE.form HV2'.out.1
   obtain ⟨Av, cv, rfl⟩ := OwnE.form HV3.out.1
   have hk0 := HS5.out.cell 0
   have hk1 := HS5.out.cell 1
   have hk2 := HS5.out.cell 2
   have hk3 := HS5.out.cell 3
   have hk4 := HS5.out.cell 4
   have hf0 := HS5.out.frozen 0
   have hf1 := HS5.out.frozen 1
   have hf2 := HS5.out.frozen 2
   have hf3 := HS5.out.frozen 3
   have hf4 := HS5.out.frozen 4
   go_wp2_with fail
   obtain ⟨hbk, hgr⟩ := five w5 (w.heap.size + 1) 29 _ _ _ _ _ (.bool a1) (.string (str8 a2)) (.slice Al b2.length cl) (.slice Av c2.length cv) (.bool d1) HS5.out
   refine ret_two Tryz.results78 hbk undS rfl infS rfl rfl rfl ?_ rfl
   rw [HF.out]
   exact ⟨_, _, rfl, HV2'.out.off hgr (OffT.of_blk HS5.out (by decide)), HV3.out.off hgr (OffT.of_blk HS5.out (by decide)), HB5.out.grown hgr HB5.out.size (fun j hj => by injection hj with hj; omega)⟩
 · have HF := Lib.hid (show q = (Sn.zero, E) by rw [HR.out, if_neg h0])
   have hb : (E != 0) = true := by simp [h0]
   have hdz : decide (E = 0) = false := by simp [h0]
   clear h0 HR hb4 HV2 HV3'
   have hk0 := HS4.out.cell 0
   have hk1 := HS4.out.cell 1
   have hk2 := HS4.out.cell 2
   have hk3 := HS4.out.cell 3
   have hk4 := HS4.out.cell 4
   have hf0 := HS4.out.frozen 0
   have hf1 := HS4.out.frozen 1
   have hf2 := HS4.out.frozen 2
   have hf3 := HS4.out.frozen 3
   have hf4 := HS4.out.frozen 4
   go_wp2_with fail
   obtain ⟨hbk, hgr⟩ := five w4 (w.heap.size + 1) 29 _ _ _ _ _ (.bool false) (.string ⟨#[]⟩) (.slice none 0 0) (.slice none 0 0) (.bool false) HS4.out
   refine ret_two Tryz.results78 hbk undS rfl infS rfl rfl rfl ?_ rfl
   rw [HF.out]
   exact ⟨_, _, rfl, ⟨OwnE.nil _ _ _, Nat.zero_le _⟩, ⟨OwnE.nil _ _ _, Nat.zero_le _⟩, HB4.out.grown hgr HB4.out.size (fun j hj => by injection hj with hj; omega)⟩
end Go.Proofs.YthfknndjdfofgaaGreatDoor.Ex

/-
 Plain facts on addresses and Cidrs, used by the contracts of packages addr and cidr. No condition.
-/
namespace Go.Proofs.YthfknndjdfofgaaGreatDoor.Ad
open Go Go.Proofs.YthfknndjdfofgaaGreatDoor.Wd

abbrev cA (l : List UInt8) : Array Value := (cellsOf l).toArray
theorem cA_set (l : List UInt8) (k : Nat) (v : UInt8) : (cA l).setIfInBounds k (Value.int .u8 (v.toNat : Int)) = cA (l.set k v) := by
 apply Array.ext'
 simp [cellsOf, List.map_set, b8]
theorem set_mid {α : Type} (l : List α) (k n : Nat) (z v : α) (hk : l.length = k) (hn : 0 < n) : (l ++ List.replicate n z).set k v = l ++ v :: List.replicate (n - 1) z := by
 subst hk
 rw [List.set_append_right _ _ (Nat.le_refl _), Nat.sub_self]
 cases n with
 | zero => omega
 | succ n => simp [List.replicate_succ]
structure C where
 a : List UInt8
 n : Int
deriving DecidableEq
def C.cells (c : C) : Array Value := (cellsOf c.a ++ [Value.int .i64 c.n]).toArray
end Go.Proofs.YthfknndjdfofgaaGreatDoor.Ad

/-
 Contracts of limit.Within and of package addr's Mask over this seat's translation.
-/
namespace Go.Proofs.YthfknndjdfofgaaGreatDoor.Ad
open Go.RowKit Go.Proofs.YthfknndjdfofgaaGreatDoor.Wd


theorem info16 : (Tryz.prog.info? 75).map (·.size) = some 16 := by kernel_rfl
theorem und16 : Tryz.prog.underlying 75 = some (.array 16 5) := by kernel_rfl
theorem cA_size (l : List UInt8) : (cA l).size = l.length := by simp [cellsOf_length]
theorem cA_one (l : List UInt8) : (cA l).all (·.oneCell') = true := all_oneCell_toArray (cellsOf_one l)
theorem go_ld {ops : Array Oper} {rest : List Oper} {o : Oper} {a : Act} {w : World} {Q : Exit → Act → World → Prop} {x : Operand} {g t n : Nat} {C : Array Value} {d : TypeDesc} (ty : TypeId) (hb : Blk w g t C) (hu : Tryz.prog.underlying ty = some d)
   (hd : d.isRow = true) (hi : (Tryz.prog.info? ty).map (·.size) = some n) (hn : C.size = n) (hgd : o.guard = none) (ho : o.op = .load ty x)
   (hx : a.eval x = .pointer (some ⟨g, 0, none⟩)) (h : wpList Tryz.prog ops Q rest (a.put o.dst (.agg C)) w) : wpList Tryz.prog ops Q (o :: rest) a w :=
 wpList_load_row hgd ty x ho g hx t C (0, 0) d hb hu (by cases d <;> first | rfl | cases hd) (by rw [hi, hn]) h
theorem go_st {ops : Array Oper} {rest : List Oper} {o : Oper} {a : Act} {w : World} {Q : Exit → Act → World → Prop} {x y : Operand} {g t n : Nat} {C D : Array Value} (ty : TypeId) (hb : Blk w g t C)
   (hi : (Tryz.prog.info? ty).map (·.size) = some n) (hn : C.size = n) (hm : D.size = n) (h1 : D.all (·.oneCell') = true) (hgd : o.guard = none) (ho : o.op = .store ty x y)
   (hx : a.eval x = .pointer (some ⟨g, 0, none⟩)) (hy : a.eval y = .agg D) (h : wpList Tryz.prog ops Q rest (a.put o.dst undef) (w.setRow g D)) : wpList Tryz.prog ops Q (o :: rest) a w :=
 wpList_store_row hgd ty x y ho g D hx hy t C hb (by rw [hi, hm]) (by rw [hn, hm]) h1 h
theorem setRow_blk {w : World} {g : Nat} {t : TypeId} {old new : Array Value} (h : Blk w g t old) : Blk (w.setRow g new) g t new := by
 have h' : w.heap[g]? = some (.cells old t (0, 0)) := h
 have hg := h.lt
 unfold Blk
 simp only [World.setRow]
 rw [Array.getElem?_modify]
 simp [h']
theorem setRow_far {w : World} {g k : Nat} (hk : k ≠ g) (new : Array Value) : (w.setRow g new).heap[k]? = w.heap[k]? := by
 simp only [World.setRow]
 rw [Array.getElem?_modify, if_neg (fun e => hk e.symm)]
theorem setRow_below {B g : Nat} {a w : World} {t : TypeId} {old : Array Value} (h : Below B a w) (_hb : Blk w g t old) (hg : B ≤ g) (new : Array Value) : Below B a (w.setRow g new) := by
 refine ⟨h.os, h.tape, h.output, ?_, fun i hi => ?_⟩
 · have := h.size
   simpa [World.setRow] using this
 · rw [setRow_far (by omega)]
   exact h.block i hi

theorem ret_row {fn : Func} {p : Tmp} {ty t : TypeId} {a : Act} {w : World} {g n : Nat} {old C : Array Value} {d : TypeDesc} {R : Ending → World → Prop} (hf : fn.results = #[.cell p ty]) (hb : Blk w g t old) (hu : Tryz.prog.underlying ty = some d)
   (hd : d.isRow = true) (hi : (Tryz.prog.info? ty).map (·.size) = some n) (hn : C.size = n) (hp : a.tmps.getD p undef = .pointer (some ⟨g, 0, none⟩)) (h : R (.returned (.agg C)) (w.setRow g C)) (hdf : a.defers = []) : bodyPost Tryz.prog fn R .ret a (w.setRow g C) :=
 bodyPost_ret (results_cell_row hf _ _ g t C (0, 0) d hp (setRow_blk hb) hu (by cases d <;> first | rfl | cases hd) (by rw [hi, hn])) hdf h
theorem blk_at (w : World) (t : TypeId) (cs cs' : Array Value) (g : Nat) (hg : g = w.heap.size) (hc : cs = cs') : Blk (w.alloc (.cells cs t)) g t cs' := by
 subst hg hc
 exact Blk.new w t cs
theorem alloc_size (w : World) (o : Obj) : (w.alloc o).heap.size = w.heap.size + 1 := by simp

theorem cell_a {w : World} {g : Nat} {t : TypeId} {l : List UInt8} (h : Blk w g t (cA l)) (k : Nat) : w.cell? ⟨g, k, none⟩ = (l[k]?).map fun c => Value.int .u8 (c.toNat : Int) := by
 rw [h.cell]; simp [cellsOf]; rfl

end Go.Proofs.YthfknndjdfofgaaGreatDoor.Ad

/-
 Contracts of package cidr's Of, Right and Has over this seat's translation.
-/
namespace Go.Proofs.YthfknndjdfofgaaGreatDoor.Ad
open Go.RowKit Go.Proofs.YthfknndjdfofgaaGreatDoor.Wd

theorem C_size (c : C) (h : c.a.length = 16) : c.cells.size = 17 := by simp [C.cells, cellsOf_length, h]
theorem C_one (c : C) : c.cells.all (·.oneCell') = true := all_oneCell_toArray (fun v hv => by
 rcases List.mem_append.1 hv with h | h
 · exact cellsOf_one _ v h
 · simp at h; subst h; rfl)

theorem plain8 : Tryz.prog.plainKey 5 = true := by kernel_rfl
theorem cells8 : Tryz.prog.cellsOf 5 = 1 := by kernel_rfl
theorem items8 (d : Nat) (c e : List UInt8) (w : World) : ∀ is : List Nat, (∀ i ∈ is, i < c.length ∧ i < e.length) → (Op.eqItems (d + 1) 5 1 (cA c) (cA e) is).run Tryz.prog w = .ok (is.all fun i => c[i]? == e[i]?) w
 | [], _ => rfl
 | i :: is, h => by
   obtain ⟨h1, h2⟩ := h i (by simp)
   have x1 : (cA c)[i]? = some (b8 c[i]) := by simp [cellsOf, h1]
   have x2 : (cA e)[i]? = some (b8 e[i]) := by simp [cellsOf, h2]
   have hq : (Op.equalIn (d + 1) 5 (b8 c[i]) (b8 e[i])).run Tryz.prog w = .ok (c[i] == e[i]) w := by
     have hb : (c[i] == e[i]) = ((c[i].toNat : Int) == (e[i].toNat : Int)) := by
       by_cases hce : c[i] = e[i]
       · rw [hce]; simp
       · have : ¬ c[i].toNat = e[i].toNat := fun k => hce (UInt8.toNat.inj k)
         have hn : ¬ (c[i].toNat : Int) = (e[i].toNat : Int) := by omega
         rw [beq_eq_false_iff_ne.2 hce, beq_eq_false_iff_ne.2 hn]
     rw [hb]
     exact run_equalIn_int w d _ .u8 .u8 _ _ Tryz.underlying5
   simp only [Op.eqItems, Sem.run_bind, Nat.mul_one, run_part_plain w plain8 x1, run_part_plain w plain8 x2, Result.andThen_ok, hq]
   rw [List.all_cons, List.getElem?_eq_getElem h1, List.getElem?_eq_getElem h2]
   cases hce : c[i] == e[i]
   · have : (some c[i] == some e[i]) = false := by simpa using hce
     rw [this]; simp
   · have : (some c[i] == some e[i]) = true := by simpa using hce
     rw [this]
     simpa using items8 d c e w is (fun j hj => h j (by simp [hj]))
theorem all_range {c e : List UInt8} {n : Nat} (hc : c.length = n) (he : e.length = n) : ((List.range n).all fun i => c[i]? == e[i]?) = (c == e) := by
 rw [Bool.eq_iff_iff, List.all_eq_true, beq_iff_eq]
 constructor
 · intro h
   apply List.ext_getElem?
   intro i
   by_cases hi : i < n
   · exact beq_iff_eq.1 (h i (by simpa using hi))
   · rw [List.getElem?_eq_none (by omega), List.getElem?_eq_none (by omega)]
 · rintro rfl i _
   simp
theorem info8 : ∃ i, Tryz.prog.info? 5 = some i := by
 cases h : Tryz.prog.info? 5 with
 | none => have : (Tryz.prog.info? 5).isSome = true := by kernel_rfl
           rw [h] at this; cases this
 | some i => exact ⟨i, rfl⟩
theorem eqIn16 (d : Nat) (c e : List UInt8) (hc : c.length = 16) (he : e.length = 16) (w : World) : (Op.equalIn (d + 2) 75 (.agg (cA c)) (.agg (cA e))).run Tryz.prog w = .ok (c == e) w := by
 obtain ⟨i8, hi8⟩ := info8
 rw [run_equalIn_array w (d + 1) (cA c) (cA e) und16 hi8, cells8, items8 d c e w _ (fun i hi => by simp at hi; omega), all_range hc he]
theorem eql16 (c e : List UInt8) (hc : c.length = 16) (he : e.length = 16) (w : World) : (binOp .eql 75 (.agg (cA c)) (.agg (cA e))).run Tryz.prog w = .ok (.bool (c == e)) w := by
 rw [run_eql_struct, eqIn16 9998 c e hc he w]; rfl
end Go.Proofs.YthfknndjdfofgaaGreatDoor.Ad

/-
 Contracts of package addr's lastOf, Of4 and Four over this seat's translation; copy as a step of a region.
-/
namespace Go.Proofs.YthfknndjdfofgaaGreatDoor.Ad
open Go.RowKit Go.Proofs.YthfknndjdfofgaaGreatDoor.Wd

theorem info4 : (Tryz.prog.info? 102).map (·.size) = some 4 := by kernel_rfl
theorem und4 : Tryz.prog.underlying 102 = some (.array 4 5) := by kernel_rfl
theorem size8 : (Tryz.prog.info? 5).map (·.size) = some 1 := by kernel_rfl
def lastS (a : List UInt8) : List UInt8 := a.drop 12
def of4S (b : List UInt8) : List UInt8 := [0, 0, 0, 0, 0, 0, 0, 0, 0, 0, 255, 255] ++ b
def fourS (a : List UInt8) : Bool := a == of4S (lastS a)

def splB (l : List UInt8) (off : Nat) (ys : List UInt8) : List UInt8 := l.take off ++ (ys ++ l.drop (off + ys.length))
theorem splB_length (l : List UInt8) (off : Nat) (ys : List UInt8) (h : off + ys.length ≤ l.length) : (splB l off ys).length = l.length := by simp [splB]; omega
theorem splB_cells (l : List UInt8) (off : Nat) (ys : List UInt8) : cellsOf (splB l off ys) = splice (cellsOf l) off (cellsOf ys) := by
 simp [splB, splice, cellsOf]

theorem step_cp {ops : Array Oper} {o : Oper} {a : Act} {w : World} {K : Act → World → Prop} {Q : Exit → Act → World → Prop} {E : Prop} {d s : Operand} {dp sp : Option Addr} {dLen dCap sLen sCap : Nat} (g off : Nat) {t : TypeId} {cur ys : List UInt8}
   (hb : Blk w g t (cA cur)) (hsrc : Src w sp sLen ys) (hgd : o.guard = none)
   (ho : o.op = .call { callee := .builtin .copy, args := #[d, s], argTypes := #[22, 22] }) (hd : a.eval d = .slice dp dLen dCap) (hs : a.eval s = .slice sp sLen sCap) (hle : sLen ≤ dLen)
   (hdp : 0 < sLen → dp = some ⟨g, off, none⟩) (hfit : off + sLen ≤ cur.length)
   (h : ∀ w', RowKit.Hid (Blk w' g t (cA (splB cur off ys))) → RowKit.Hid (RowKit.Below g w w') → K (a.put o.dst (goInt sLen)) w') :
   if Region.wanted o (yielded ops a.tmps) = true then Oper.wp Tryz.prog o a w K Q else E := by
 have hl := hsrc.1
 refine step_copy_splice hgd d s 22 22 ho 5 Tryz.underlying22 size8 dp sp dLen dCap sLen sCap hd hs g off (cellsOf cur) t hb (cellsOf ys)
   (by rw [cellsOf_length, hl]; exact (Nat.min_eq_left hle).symm) ?_ (by rw [cellsOf_length, cellsOf_length, hl]; exact hfit) (cellsOf_one ys) g w (Below.refl _ _) (Nat.le_refl _) ?_
 · intro h0
   rw [cellsOf_length, hl] at h0
   obtain ⟨ad, e, hlt, hc⟩ := hsrc.2 h0
   refine ⟨hdp h0, ad, e, fun j v hv => ?_⟩
   simp only [cellsOf, List.getElem?_map, Option.map_eq_some_iff] at hv
   obtain ⟨x, hx, rfl⟩ := hv
   exact hc j x hx
 · intro w' hg' hb'
   rw [cellsOf_length, hl]
   exact h w' (by have := hg'.out; rw [← splB_cells] at this; exact this) hb'

theorem lastS_len {a : List UInt8} (ha : a.length = 16) : (lastS a).length = 4 := by simp [lastS, ha]
theorem src_last {w : World} {g t : Nat} {a : List UInt8} (h : Blk w g t (cA a)) (ha : a.length = 16) : Src w (some ⟨g, 12, none⟩) 4 (lastS a) := by
 have := Src.of_blk (off := 12) (xs := lastS a) h (fun j c hj => by
   simp only [lastS, List.getElem?_drop] at hj
   simp only [List.getElem?_toArray, cellsOf, List.getElem?_map, hj, Option.map_some])
 rwa [lastS_len ha] at this

theorem lastOf_any (a : List UInt8) (ha : a.length = 16) (w : World) :
   Calls Tryz.prog 66 #[.agg (cA a)] w fun e w' => e = .returned (.agg (cA (lastS a))) ∧ Below w.heap.size w w' := by
 have hl4 := lastS_len ha
 go_enter Tryz.func66, Tryz.ntmps66
 go_wp2_with fail
 have b0 : Blk (((w.alloc (.cells (cA a) 75)).alloc (.cells (cA (List.replicate 4 0)) 102)).alloc (.cells (cA (List.replicate 4 0)) 102)) w.heap.size 75 (cA a) := ((Blk.new _ _ _).alloc _).alloc _
 have b1 : Blk (((w.alloc (.cells (cA a) 75)).alloc (.cells (cA (List.replicate 4 0)) 102)).alloc (.cells (cA (List.replicate 4 0)) 102)) (w.heap.size + 1) 102 (cA (List.replicate 4 0)) := (blk_at _ _ _ _ _ (by rw [alloc_size]) rfl).alloc _
 have b2 : Blk (((w.alloc (.cells (cA a) 75)).alloc (.cells (cA (List.replicate 4 0)) 102)).alloc (.cells (cA (List.replicate 4 0)) 102)) (w.heap.size + 1 + 1) 102 (cA (List.replicate 4 0)) := blk_at _ _ _ _ _ (by rw [alloc_size, alloc_size]) rfl
 have hbel : Below w.heap.size w (((w.alloc (.cells (cA a) 75)).alloc (.cells (cA (List.replicate 4 0)) 102)).alloc (.cells (cA (List.replicate 4 0)) 102)) := ((((Below.refl _ _).alloc (Nat.le_refl _) _).alloc (by simp) _).alloc (by simp; omega) _)
 rw [show #[Value.int .u8 0, .int .u8 0, .int .u8 0, .int .u8 0] = cA (List.replicate 4 0) from rfl]
 generalize (((w.alloc (.cells (cA a) 75)).alloc (.cells (cA (List.replicate 4 0)) 102)).alloc (.cells (cA (List.replicate 4 0)) 102)) = w1 at *
 have hs := src_last (w := w1.drew) b0 ha
 have HS := Lib.hid hs
 have HB1 := Lib.hid b1
 have HB2 := Lib.hid b2
 have HL := Lib.hid hbel
 clear b0 b1 b2 hbel hs
 go_region_law (refine step_cp (w.heap.size + 1 + 1) 0 (by exact HB2.out) HS.out rfl rfl rfl rfl (by omega) (fun _ => rfl) (by simp) ?_; intro w4 hg4 hb4)
 have e4 : splB (List.replicate 4 0) 0 (lastS a) = lastS a := by simp [splB, hl4]
 have b2 := hg4.out
 rw [e4] at b2
 have hb := hb4.out
 have b1 := Blk.below (w := w1.drew) HB1.out hb (by omega)
 have hbel : Below w.heap.size w w4 := HL.out.trans ((Below.refl _ _).drew.trans (hb.mono (by omega)))
 clear hg4 hb4 HS hb e4
 go_wp2_with (first
   | (refine go_ld 102 b2 und4 rfl info4 (by rw [cA_size, hl4]) rfl rfl rfl ?_)
   | (refine go_st 102 b1 info4 rfl (by rw [cA_size, hl4]) (cA_one _) rfl rfl rfl rfl ?_))
 exact ret_row Tryz.results66 b1 und4 rfl info4 (by rw [cA_size, hl4]) rfl ⟨rfl, setRow_below hbel b1 (by omega) _⟩ rfl

theorem of4S_len {b : List UInt8} (hb : b.length = 4) : (of4S b).length = 16 := by simp [of4S, hb]
def ffS : List UInt8 := [0, 0, 0, 0, 0, 0, 0, 0, 0, 0, 255, 255, 0, 0, 0, 0]
theorem src_all {w : World} {g t : Nat} {a : List UInt8} (h : Blk w g t (cA a)) : Src w (some ⟨g, 0, none⟩) a.length a := 
 Src.of_blk (off := 0) (xs := a) h (fun j c hj => by
   simp only [Nat.zero_add, List.getElem?_toArray, cellsOf, List.getElem?_map, hj, Option.map_some])

theorem of4_any (b : List UInt8) (hb : b.length = 4) (w : World) :
   Calls Tryz.prog 64 #[.agg (cA b)] w fun e w' => e = .returned (.agg (cA (of4S b))) ∧ Below w.heap.size w w' := by
 have hl16 := of4S_len hb
 go_enter Tryz.func64, Tryz.ntmps64
 go_wp2_with fail
 rw [show #[Value.int .u8 0, .int .u8 0, .int .u8 0, .int .u8 0, .int .u8 0, .int .u8 0, .int .u8 0, .int .u8 0, .int .u8 0, .int .u8 0, .int .u8 0, .int .u8 0, .int .u8 0, .int .u8 0, .int .u8 0, .int .u8 0] = cA (List.replicate 16 0) from rfl,
   show #[Value.int .u8 0, .int .u8 0, .int .u8 0, .int .u8 0, .int .u8 0, .int .u8 0, .int .u8 0, .int .u8 0, .int .u8 0, .int .u8 0, .int .u8 255, .int .u8 255, .int .u8 0, .int .u8 0, .int .u8 0, .int .u8 0] = cA ffS from rfl]
 have b0 : Blk (((w.alloc (.cells (cA b) 102)).alloc (.cells (cA (List.replicate 16 0)) 75)).alloc (.cells (cA ffS) 75)) w.heap.size 102 (cA b) := ((Blk.new _ _ _).alloc _).alloc _
 have b1 : Blk (((w.alloc (.cells (cA b) 102)).alloc (.cells (cA (List.replicate 16 0)) 75)).alloc (.cells (cA ffS) 75)) (w.heap.size + 1) 75 (cA (List.replicate 16 0)) := (blk_at _ _ _ _ _ (by rw [alloc_size]) rfl).alloc _
 have b2 : Blk (((w.alloc (.cells (cA b) 102)).alloc (.cells (cA (List.replicate 16 0)) 75)).alloc (.cells (cA ffS) 75)) (w.heap.size + 1 + 1) 75 (cA ffS) := blk_at _ _ _ _ _ (by rw [alloc_size, alloc_size]) rfl
 have hbel : Below w.heap.size w (((w.alloc (.cells (cA b) 102)).alloc (.cells (cA (List.replicate 16 0)) 75)).alloc (.cells (cA ffS) 75)) := ((((Below.refl _ _).alloc (Nat.le_refl _) _).alloc (by simp) _).alloc (by simp; omega) _)
 generalize (((w.alloc (.cells (cA b) 102)).alloc (.cells (cA (List.replicate 16 0)) 75)).alloc (.cells (cA ffS) 75)) = w1 at *
 have hs := src_all (w := w1.drew) b0
 rw [hb] at hs
 have HS := Lib.hid hs
 have HB1 := Lib.hid b1
 have HB2 := Lib.hid b2
 have HL := Lib.hid hbel
 clear b0 b1 b2 hbel hs
 go_region_law (refine step_cp (w.heap.size + 1 + 1) 12 (by exact HB2.out) HS.out rfl rfl rfl rfl (by omega) (fun _ => rfl) (by decide) ?_; intro w4 hg4 hb4)
 have e4 : splB ffS 12 b = of4S b := by simp [splB, ffS, of4S, hb]
 have b2 := hg4.out
 rw [e4] at b2
 have hbb := hb4.out
 have b1 := Blk.below (w := w1.drew) HB1.out hbb (by omega)
 have hbel : Below w.heap.size w w4 := HL.out.trans ((Below.refl _ _).drew.trans (hbb.mono (by omega)))
 clear hg4 hb4 HS hbb e4
 go_wp2_with (first
   | (refine go_ld 75 b2 und16 rfl info16 (by rw [cA_size, hl16]) rfl rfl rfl ?_)
   | (refine go_st 75 b1 info16 rfl (by rw [cA_size, hl16]) (cA_one _) rfl rfl rfl rfl ?_))
 exact ret_row Tryz.results64 b1 und16 rfl info16 (by rw [cA_size, hl16]) rfl ⟨rfl, setRow_below hbel b1 (by omega) _⟩ rfl

end Go.Proofs.YthfknndjdfofgaaGreatDoor.Ad
