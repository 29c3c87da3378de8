/-
 Contract of the document's own All of layer 15 (hagioscoperef15) over this seat's translation: it answers what allT says.
-/
import Derived.Test.YthfknndjdfofgaaGreatDoorR40
import Derived.Test.YthfknndjdfofgaaGreatDoorR41
import Derived.Test.YthfknndjdfofgaaGreatDoorR16
namespace Go.Proofs.YthfknndjdfofgaaGreatDoor.Tp
open Go.RowKit Go.Proofs.YthfknndjdfofgaaGreatDoor.Wd Go.Proofs.YthfknndjdfofgaaGreatDoor.Rc Go.Proofs.YthfknndjdfofgaaGreatDoor.Sh

def AllP (xs : List UInt8) (w : World) (e : Ending) (w' : World) : Prop :=
 ∃ va vv, e = .returned (.agg (vC (allT xs).z 1 (allT xs).u (allT xs).r (str8 (allT xs).h) (allT xs).s va vv)) ∧ Ex.RelP w' w.heap.size va (allT xs).s.alpn ∧ Ex.RelV w' w.heap.size vv (allT xs).s.vers ∧ Below w.heap.size w w'
structure RAt (w : World) (G : Nat) (t : T) (wr : World) : Prop where
 vb : Blk wr G 31 #[Value.int .i64 0, .int .i64 0, .int .i64 0, .int .i64 0, .string ⟨#[]⟩, .int .i64 0, .bool false, .string ⟨#[]⟩, .slice none 0 0, .slice none 0 0, .bool false]
 rd : Rr wr (G + 1) t.d
 rm : ∃ q s, Rb wr (G + 1 + 1) q s ∧ Rel s t.m ∧ ∀ b, q = some b → G + 1 + 1 < b
 bel : Below G w wr
theorem verd_new (w : World) (C : Array Value) : Blk ((w.alloc (.cells #[Value.int .i64 0, .int .i64 0, .int .i64 0, .int .i64 0, .string ⟨#[]⟩, .int .i64 0, .bool false, .string ⟨#[]⟩, .slice none 0 0, .slice none 0 0, .bool false] 31)).setRow w.heap.size C) w.heap.size 31 C ∧ Below w.heap.size w ((w.alloc (.cells #[Value.int .i64 0, .int .i64 0, .int .i64 0, .int .i64 0, .string ⟨#[]⟩, .int .i64 0, .bool false, .string ⟨#[]⟩, .slice none 0 0, .slice none 0 0, .bool false] 31)).setRow w.heap.size C) :=
 ⟨He.setRow_blk (Blk.new _ _ _), He.setRow_below ((Below.refl _ _).alloc (Nat.le_refl _) _) (Nat.le_refl _) _⟩
theorem look_bare (b : List UInt8) : (lookS b).2.2 ≠ 0 → (lookS b).1 = [] ∧ (lookS b).2.1 = Ex.Sn.zero := by
 unfold lookS
 repeat' split
 all_goals first
   | exact fun _ => ⟨rfl, rfl⟩
   | exact fun h => absurd rfl h
end Go.Proofs.YthfknndjdfofgaaGreatDoor.Tp

/-
 Package tlspeek's peeker over this seat's translation: as it lies in memory; contracts of known, step and look: one byte is one step. No condition beyond what the library's tables hold.
-/
namespace Go.Proofs.YthfknndjdfofgaaGreatDoor.Tp
open Go.RowKit Go.Proofs.YthfknndjdfofgaaGreatDoor.Wd Go.Proofs.YthfknndjdfofgaaGreatDoor.Rc Go.Proofs.YthfknndjdfofgaaGreatDoor.Sh

def pC (rp mp : Value) (z u r : Int) (H : ByteArray) (s : Ex.Sn) (va vv : Value) : Array Value := #[rp, mp, .int .i64 z, .int .i64 1, .int .i64 u, .int .i64 r, .string H, .int .i64 0, .bool s.has, .string (str8 s.name), va, vv, .bool s.ech]
def pO (gr gm : Nat) (u : Int) : Array Value := #[.pointer (some ⟨gr, 0, none⟩), .pointer (some ⟨gm, 0, none⟩), .int .i64 0, .int .i64 1, .int .i64 u, .int .i64 0, .string ⟨#[]⟩, .int .i64 0, .bool false, .string ⟨#[]⟩, .slice none 0 0, .slice none 0 0, .bool false]
theorem pO_u (gr gm : Nat) (u v : Int) : (pO gr gm u).setIfInBounds 4 (.int .i64 v) = pO gr gm v := by simp [pO]
theorem pO_bad (gr gm : Nat) (u e : Int) : ((((pO gr gm u).setIfInBounds 2 (.int .i64 2)).setIfInBounds 5 (.int .i64 e)).setIfInBounds 0 (.pointer none)).setIfInBounds 1 (.pointer none) = pC (.pointer none) (.pointer none) 2 u e ⟨#[]⟩ Ex.Sn.zero (.slice none 0 0) (.slice none 0 0) := by simp [pO, pC, Ex.Sn.zero, str8]
theorem pO_seen (gr gm : Nat) (u : Int) (H : ByteArray) (s : Ex.Sn) (va vv : Value) : ((((((pO gr gm u).setIfInBounds 8 (.bool s.has)).setIfInBounds 9 (.string (str8 s.name))).setIfInBounds 10 va).setIfInBounds 11 vv).setIfInBounds 12 (.bool s.ech)).setIfInBounds 6 (.string H) = pC (.pointer (some ⟨gr, 0, none⟩)) (.pointer (some ⟨gm, 0, none⟩)) 0 u 0 H s va vv := by simp [pO, pC]
theorem pC_bad (rp mp : Value) (z u r e : Int) (H : ByteArray) (s : Ex.Sn) (va vv : Value) : ((((pC rp mp z u r H s va vv).setIfInBounds 2 (.int .i64 2)).setIfInBounds 5 (.int .i64 e)).setIfInBounds 0 (.pointer none)).setIfInBounds 1 (.pointer none) = pC (.pointer none) (.pointer none) 2 u e H s va vv := by simp [pC]
theorem pC_done (rp mp : Value) (z u r : Int) (H : ByteArray) (s : Ex.Sn) (va vv : Value) : (((pC rp mp z u r H s va vv).setIfInBounds 2 (.int .i64 1)).setIfInBounds 0 (.pointer none)).setIfInBounds 1 (.pointer none) = pC (.pointer none) (.pointer none) 1 u r H s va vv := by simp [pC]
structure PkO (w : World) (g gr gm : Nat) (p : Option Nat) (u : Int) (d : D) (m : M) : Prop where
 blk : Blk w g 51 (pO gr gm u)
 rd : Rc.Rd w gr d
 rm : Sh.Rd w gm p m
section
variable {w w' : World} {g gr gm : Nat} {p : Option Nat} {u : Int} {d : D} {m : M}
theorem PkO.g_r (h : PkO w g gr gm p u d m) : g ≠ gr := h.blk.ne_ h.rd (by decide)
theorem PkO.g_m (h : PkO w g gr gm p u d m) : g ≠ gm := by
 obtain ⟨c, h1, h2⟩ := h.rm
 exact h.blk.ne_ h1 (by decide)
theorem PkO.r_m (h : PkO w g gr gm p u d m) : gr ≠ gm := by
 obtain ⟨c, h1, h2⟩ := h.rm
 exact Blk.ne_ h.rd h1 (by decide)
theorem PkO.p_g (h : PkO w g gr gm p u d m) : p ≠ some g := by
 obtain ⟨c, h1, h2⟩ := h.rm
 exact h2.ne h.blk (by decide)
theorem PkO.p_r (h : PkO w g gr gm p u d m) : p ≠ some gr := by
 obtain ⟨c, h1, h2⟩ := h.rm
 exact h2.ne h.rd (by decide)
theorem mem_p {i : Nat} : i ∈ p.toList ↔ p = some i := Option.mem_toList
end
theorem but_of {w w' : World} {g : Nat} (h : w.grownBy w' (some g)) : But [g] w w' :=
 ⟨h.os, h.tape, h.output, h.size, fun i hi hn => h.block i hi (fun e => hn (by injection e with e; simp [e]))⟩
theorem ownE_but {α : Type} {e : Ro.El α} {S : List Nat} {w w' : World} {B : Nat} {v : Value} {l : List α} (h : Ro.OwnE w e B v l) (k : But S w w') (hv : ∀ b, v.ownBlock = some b → b ∉ S) : Ro.OwnE w' e B v l := by
 obtain ⟨hl, h0 | ⟨g, cap, cur, rfl, hg, hh, r⟩⟩ := h
 · exact ⟨hl, .inl h0⟩
 · have hbk : Blk w g e.ty cur := hh
   exact ⟨hl, .inr ⟨g, cap, cur, rfl, hg, hbk.but k (hv g rfl), r⟩⟩
theorem ownE_up {α : Type} {e : Ro.El α} {w : World} {B B' : Nat} {v : Value} {l : List α} (h : Ro.OwnE w e B v l) (hv : ∀ b, v.ownBlock = some b → B' ≤ b) : Ro.OwnE w e B' v l := by
 obtain ⟨hl, h0 | ⟨g, cap, cur, rfl, hg, r⟩⟩ := h
 · exact ⟨hl, .inl h0⟩
 · exact ⟨hl, .inr ⟨g, cap, cur, rfl, hv g rfl, r⟩⟩
theorem ownE_lt {α : Type} {e : Ro.El α} {w : World} {B : Nat} {v : Value} {l : List α} (h : Ro.OwnE w e B v l) (b : Nat) (hb : v.ownBlock = some b) : b < w.heap.size := by
 obtain ⟨hl, ⟨rfl, h0⟩ | ⟨g, cap, cur, rfl, hg, hh, r⟩⟩ := h
 · cases hb
 · have hbk : Blk w g e.ty cur := hh
   have e' : g = b := Option.some.inj hb
   rw [← e']
   exact hbk.lt
structure Pk (w : World) (g : Nat) (S : List Nat) (t : T) : Prop where
 ok : OkT t
 few : Few t.h t.s
 lts : ∀ i ∈ S, i < w.heap.size
 at_ : (t.z = 0 ∧ ∃ gr gm p, PkO w g gr gm p (t.u : Int) t.d t.m ∧ S = gr :: gm :: p.toList) ∨
   (t.z ≠ 0 ∧ ∃ va vv, Blk w g 51 (pC (.pointer none) (.pointer none) t.z t.u t.r (str8 t.h) t.s va vv) ∧ Ex.RelP w 0 va t.s.alpn ∧ Ex.RelV w 0 vv t.s.vers ∧ (∀ b, va.ownBlock = some b → b ∈ S) ∧ (∀ b, vv.ownBlock = some b → b ∈ S))
theorem Pk.but {w w' : World} {g : Nat} {S S' : List Nat} {t : T} (h : Pk w g S t) (k : But S' w w') (hg : g ∉ S') (hS : ∀ i ∈ S, i ∉ S') : Pk w' g S t :=
 ⟨h.ok, h.few, fun i hi => Nat.lt_of_lt_of_le (h.lts i hi) k.size, by
   rcases h.at_ with ⟨hz, gr, gm, p, h1, rfl⟩ | ⟨hz, va, vv, h1, h2, h3, h4, h5⟩
   · exact .inl ⟨hz, gr, gm, p, ⟨h1.blk.but k hg, Blk.but h1.rd k (hS gr (by simp)), h1.rm.but k (hS gm (by simp)) (fun b hb => hS b (by simp [hb]))⟩, rfl⟩
   · exact .inr ⟨hz, va, vv, h1.but k hg, ⟨ownE_but h2.1 k (fun b hb => hS b (h4 b hb)), h2.2⟩, ⟨ownE_but h3.1 k (fun b hb => hS b (h5 b hb)), h3.2⟩, h4, h5⟩⟩
theorem Pk.below {w w' : World} {g : Nat} {S : List Nat} {t : T} (h : Pk w g S t) (hb : Below w.heap.size w w') : Pk w' g S t := h.but (But.of_below hb []) (by simp) (by simp)
theorem Pk.lt {w : World} {g : Nat} {S : List Nat} {t : T} (h : Pk w g S t) : g < w.heap.size := by
 rcases h.at_ with ⟨hz, gr, gm, p, h1, _⟩ | ⟨hz, va, vv, h1, _⟩
 · exact h1.blk.lt
 · exact h1.lt
theorem Pk.cell {w : World} {g : Nat} {S : List Nat} {t : T} (h : Pk w g S t) : w.cell? ⟨g, 2, none⟩ = some (.int .i64 (t.z : Int)) := by
 rcases h.at_ with ⟨hz, gr, gm, p, h1, _⟩ | ⟨hz, va, vv, h1, _⟩
 · rw [h1.blk.cell, hz]; rfl
 · rw [h1.cell]; rfl

theorem known_any (w : World) (g z : Nat) (hc : w.cell? ⟨g, 2, none⟩ = some (.int .i64 (z : Int))) :
   Calls Tryz.prog 20 #[.pointer (some ⟨g, 0, none⟩)] w fun e w' => e = .returned (.bool (decide (z ≠ 0))) ∧ w = w' := by
 by_cases hz : z = 0
 · subst hz
   go_enter Tryz.func20, Tryz.ntmps20
   go_wp2_with fail
   go_ret
   exact ⟨rfl, rfl⟩
 · have f1 : ((z : Int) != 0) = true := by rw [bne_iff_ne]; omega
   have H := Lib.hid (show decide (z ≠ 0) = true from decide_eq_true hz)
   clear hz
   go_enter Tryz.func20, Tryz.ntmps20
   go_wp2_with fail
   go_ret
   rw [H.out]
   exact ⟨rfl, rfl⟩

def StepP (w : World) (g gr gm : Nat) (p : Option Nat) (u : Int) (t : T) (c : UInt8) (e : Ending) (w' : World) : Prop :=
 ∃ p' m' wh fe, e = .returned (.tuple #[.bool wh, .int .i64 fe]) ∧ PkO w' g gr gm p' u (stepD t.d c) m' ∧ (∀ b, p' = some b → p = some b ∨ w.heap.size ≤ b) ∧ But (gr :: gm :: p.toList) w w' ∧
   stepT t c = afterT t (stepD t.d c) m' wh fe ∧ (wh = true → fe = 0 ∧ wholeM m' = true) ∧ OkM m'
set_option maxRecDepth 100000 in
set_option maxHeartbeats 2000000 in
theorem step_any {w : World} {g gr gm : Nat} {p : Option Nat} {u : Int} {t : T} (h : PkO w g gr gm p u t.d t.m) (hz : t.z = 0) (hd : OkD t.d) (hm : OkM t.m) (hn : t.d.n ≤ 4611686018427387904) (c : UInt8) :
   Calls Tryz.prog 43 #[.pointer (some ⟨g, 0, none⟩), .int .u8 (c.toNat : Int)] w (StepP w g gr gm p u t c) := by
 have HK := Lib.hid h
 have HZ := Lib.hid hz
 have HM := Lib.hid hm
 have HT := Lib.hid (Rc.take_any h.rd hd hn c)
 have hc0 : w.cell? ⟨g, 0, none⟩ = some (.pointer (some ⟨gr, 0, none⟩)) := by rw [h.blk.cell]; rfl
 clear h hz hm hd
 go_enter Tryz.func43, Tryz.ntmps43
 go_wp2_with fail
 refine HT.out.mono ?_
 rintro e w1 ⟨rfl, hr, hb⟩
 have HP1 := Lib.hid (show PkO w1 g gr gm p u (stepD t.d c) t.m from ⟨HK.out.blk.but hb (by simpa using HK.out.g_r), hr, HK.out.rm.but hb (by simpa using HK.out.r_m.symm) (fun b e hm => HK.out.p_r (e.trans (congrArg some (by simpa using hm : b = gr))))⟩)
 have HB1 := Lib.hid hb
 have HAf := Lib.hid (fun hp => after_head (c := c) HZ.out hp)
 have HAp := Lib.hid (fun hp => after_pay (c := c) HZ.out hp)
 clear hb hr hc0 HT
 cases hp : payD t.d
 · have HAf := Lib.hid (HAf.out hp)
   clear hp HAp
   go_wp2_with fail
   go_ret2
   exact ⟨p, t.m, false, _, rfl, HP1.out, fun b hb => .inl hb, HB1.out.more (by simp), HAf.out, (fun h => by cases h), HM.out⟩
 · have HAp := Lib.hid (HAp.out hp)
   have hc1 : w1.cell? ⟨g, 1, none⟩ = some (.pointer (some ⟨gm, 0, none⟩)) := by rw [HP1.out.blk.cell]; rfl
   clear hp HAf
   go_wp2_with fail
   refine (Sh.take_any HP1.out.rm HM.out c).mono ?_
   rintro e w2 ⟨rfl, p', hr2, hp', hb2⟩
   have hgn : g ∉ gm :: p.toList := by
     intro hi
     rcases List.mem_cons.1 hi with hi | hi
     · exact HP1.out.g_m hi
     · exact HP1.out.p_g (mem_p.1 hi)
   have hrn : gr ∉ gm :: p.toList := by
     intro hi
     rcases List.mem_cons.1 hi with hi | hi
     · exact HP1.out.r_m hi
     · exact HP1.out.p_r (mem_p.1 hi)
   have HP2 := Lib.hid (show PkO w2 g gr gm p' u (stepD t.d c) (stepM t.m c) from ⟨HP1.out.blk.but hb2 hgn, Blk.but HP1.out.rd hb2 hrn, hr2⟩)
   have HB2 := Lib.hid (show But (gr :: gm :: p.toList) w w2 from (HB1.out.more (by simp)).trans (hb2.more (fun i hi => List.mem_cons_of_mem _ hi)))
   have HQ := Lib.hid (show ∀ b, p' = some b → p = some b ∨ w.heap.size ≤ b from fun b hb => (hp' b hb).imp id (fun h => Nat.le_trans HB1.out.size h))
   have HO := Lib.hid (stepM_ok HM.out c)
   have HW := Lib.hid (show wholeM (stepM t.m c) = true → ((stepM t.m c).e : Int) = 0 ∧ wholeM (stepM t.m c) = true from fun h => by
     refine ⟨?_, h⟩
     by_cases he : (stepM t.m c).e = 0
     · omega
     · rw [whole_bad he] at h; cases h)
   clear hr2 hp' hb2 hgn hrn hc1 HP1 HB1 HM HK
   generalize stepM t.m c = m' at *
   go_wp2_with fail
   go_ret2
   exact ⟨p', m', _, _, rfl, HP2.out, HQ.out, HB2.out, HAp.out, HW.out, HO.out⟩

theorem pk_known {w : World} {K g : Nat} {t : T} (ok : OkT t) (few : Few t.h t.s) (hz : t.z ≠ 0) {va vv : Value} (hb : Blk w g 51 (pC (.pointer none) (.pointer none) t.z t.u t.r (str8 t.h) t.s va vv)) (hva : Ex.RelP w K va t.s.alpn) (hvv : Ex.RelV w K vv t.s.vers) :
   ∃ S, Pk w g S t ∧ ∀ i ∈ S, K ≤ i := by
 refine ⟨va.ownBlock.toList ++ vv.ownBlock.toList, ⟨ok, few, fun i hi => ?_, .inr ⟨hz, va, vv, hb, hva.lower (Nat.zero_le _), hvv.lower (Nat.zero_le _), fun b hb => by simp [hb], fun b hb => by simp [hb]⟩⟩, fun i hi => ?_⟩
 · rcases List.mem_append.1 hi with hi | hi
   · exact ownE_lt hva.1 i (mem_p.1 hi)
   · exact ownE_lt hvv.1 i (mem_p.1 hi)
 · rcases List.mem_append.1 hi with hi | hi
   · exact hva.1.ge i (mem_p.1 hi)
   · exact hvv.1.ge i (mem_p.1 hi)
theorem pk_bad {w : World} {K g : Nat} {t : T} {d : D} {m : M} {e : Int} (hd : OkD d) (hm : OkM m) (he : e ≠ 0) {va vv : Value} (hb : Blk w g 51 (pC (.pointer none) (.pointer none) 2 ((t.u : Int) + 1) e ⟨#[]⟩ Ex.Sn.zero va vv)) (hva : Ex.RelP w K va []) (hvv : Ex.RelV w K vv []) :
   ∃ S, Pk w g S (t.bad d m e) ∧ ∀ i ∈ S, K ≤ i :=
 pk_known (bad_ok hd hm he) Few.none (by show ¬ 2 = 0; decide) hb hva hvv
end Go.Proofs.YthfknndjdfofgaaGreatDoor.Tp

/-
 Contract of package tlspeek's look over this seat's translation: one byte is one step.
-/
namespace Go.Proofs.YthfknndjdfofgaaGreatDoor.Tp
open Go.RowKit Go.Proofs.YthfknndjdfofgaaGreatDoor.Wd Go.Proofs.YthfknndjdfofgaaGreatDoor.Rc Go.Proofs.YthfknndjdfofgaaGreatDoor.Sh

set_option linter.unusedSimpArgs false in
set_option maxRecDepth 100000 in
set_option maxHeartbeats 8000000 in
theorem look_any {E : Nat} {w : World} {g : Nat} {S : List Nat} {t : T} (hE : Ad.Env E w) (hEg : ∀ i ∈ g :: S, E ≤ i) (h : Pk w g S t) (hz : t.z = 0) (hn : t.d.n ≤ 4611686018427387904) (hu : t.u ≤ 4611686018427387904) (c : UInt8) :
   Calls Tryz.prog 21 #[.pointer (some ⟨g, 0, none⟩), .int .u8 (c.toNat : Int)] w fun e w' => e = .returned (.tuple #[]) ∧ ∃ S', Pk w' g S' (stepT t c) ∧ (∀ i ∈ S', i ∈ S ∨ w.heap.size ≤ i) ∧ But (g :: S) w w' := by
 have HE := Lib.hid hE
 have HOk := Lib.hid h.ok
 have HF := Lib.hid (stepT_few h.few c)
 have HSo := Lib.hid (stepT_ok h.ok c)
 have HEg := Lib.hid hEg
 have HZ := Lib.hid hz
 obtain ⟨_, gr, gm, p, hP, hS⟩ := h.at_.resolve_right (fun h1 => h1.1 hz)
 have HS := Lib.hid hS
 have HLt := Lib.hid h.lts
 have HP := Lib.hid hP
 have c4 : w.cell? ⟨g, 4, none⟩ = some (.int .i64 (t.u : Int)) := by rw [hP.blk.cell]; rfl
 have f4 := hP.blk.frozen 4
 clear h hz hE hP hS hEg
 go_enter Tryz.func21, Tryz.ntmps21
 go_upto_region 1 with fail
 have hbk := HP.out.blk.set_ 4 (.int .i64 ((t.u : Int) + 1))
 rw [pO_u] at hbk
 have hbt : But [g] w (w.setCell ⟨g, 4, none⟩ (.int .i64 ((t.u : Int) + 1))) := (But.refl _ _).set_ (p := ⟨g, 4, none⟩) (.inl (by simp)) _
 have HP1 : Hid (PkO (w.setCell ⟨g, 4, none⟩ (.int .i64 ((t.u : Int) + 1))) g gr gm p ((t.u : Int) + 1) t.d t.m) := Lib.hid ⟨hbk, Blk.but HP.out.rd hbt (by simpa using HP.out.g_r.symm), HP.out.rm.but hbt (by simpa using HP.out.g_m.symm) (fun b e hm => HP.out.p_g (e.trans (congrArg some (by simpa using hm : b = g))))⟩
 have HB1 : Hid (But (g :: S) w (w.setCell ⟨g, 4, none⟩ (.int .i64 ((t.u : Int) + 1)))) := Lib.hid (hbt.more (by simp))
 clear hbk hbt c4 f4 HP
 generalize w.setCell ⟨g, 4, none⟩ (.int .i64 ((t.u : Int) + 1)) = w1 at *
 go_wp2_with fail
 refine (step_any HP1.out HZ.out HOk.out.d HOk.out.m hn c).mono ?_
 rintro e w2 ⟨p', m', wh, fe, rfl, hp2, hpp, hbut, hst, hwh, hm'⟩
 have HP2 := Lib.hid hp2
 have HB2 := Lib.hid (HB1.out.trans (hbut.more (T := g :: S) (fun i hi => by rw [HS.out]; exact List.mem_cons_of_mem _ hi)))
 have HQ := Lib.hid (show ∀ i ∈ gr :: gm :: p'.toList, i ∈ S ∨ w.heap.size ≤ i from fun i hi => by
   rw [HS.out]
   rcases List.mem_cons.1 hi with hi | hi
   · exact .inl (by rw [hi]; simp)
   rcases List.mem_cons.1 hi with hi | hi
   · exact .inl (by rw [hi]; simp)
   · rcases hpp i (mem_p.1 hi) with h | h
     · exact .inl (by simp [h])
     · exact .inr (Nat.le_trans HB1.out.size h))
 have HL2 := Lib.hid (show ∀ i ∈ gr :: gm :: p'.toList, i < w2.heap.size from fun i hi => by
   rcases List.mem_cons.1 hi with hi | hi
   · rw [hi]; exact Blk.lt hp2.rd
   rcases List.mem_cons.1 hi with hi | hi
   · rw [hi]; exact hp2.rm.lt
   · exact hp2.rm.plt (mem_p.1 hi))
 have HSt := Lib.hid hst
 have HM' := Lib.hid hm'
 have HD' := Lib.hid (stepD_ok HOk.out.d c)
 clear hp2 hpp hbut hst hm' HP1 HB1 hn
 cases wh
 · clear hwh
   by_cases hf : fe = 0
   · subst hf
     rw [after_open] at HSt
     have ck2 : w2.cell? ⟨g, 2, none⟩ = some (.int .i64 0) := by rw [HP2.out.blk.cell]; rfl
     go_wp2_with fail
     refine (known_any w2 g 0 ck2).mono ?_
     rintro e w3 ⟨rfl, rfl⟩
     go_wp2_with fail
     go_end0
     rw [HSt.out] at HF HSo ⊢
     exact ⟨rfl, _, ⟨HSo.out, HF.out, HL2.out, .inl ⟨rfl, gr, gm, p', by simpa using HP2.out, rfl⟩⟩, HQ.out, HB2.out⟩
   · rw [after_bad _ _ _ _ hf] at HSt
     have HFe := Lib.hid hf
     have f1 : (fe != 0) = true := by rw [bne_iff_ne]; exact hf
     clear hf
     have ck0 : w2.cell? ⟨g, 0, none⟩ = some (.pointer (some ⟨gr, 0, none⟩)) := by rw [HP2.out.blk.cell]; rfl
     have cf0 := HP2.out.blk.frozen 0
     have ck1 : w2.cell? ⟨g, 1, none⟩ = some (.pointer (some ⟨gm, 0, none⟩)) := by rw [HP2.out.blk.cell]; rfl
     have cf1 := HP2.out.blk.frozen 1
     have ck2 : w2.cell? ⟨g, 2, none⟩ = some (.int .i64 0) := by rw [HP2.out.blk.cell]; rfl
     have cf2 := HP2.out.blk.frozen 2
     have ck5 : w2.cell? ⟨g, 5, none⟩ = some (.int .i64 0) := by rw [HP2.out.blk.cell]; rfl
     have cf5 := HP2.out.blk.frozen 5
     go_wp2_with fail
     have hb4 : Blk ((w2.setCell ⟨g, 2, none⟩ (.int .i64 2)).setCell ⟨g, 5, none⟩ (.int .i64 fe)) g 51 _ := ((HP2.out.blk.set_ 2 (.int .i64 2)).set_ 5 (.int .i64 fe))
     refine (known_any ((w2.setCell ⟨g, 2, none⟩ (.int .i64 2)).setCell ⟨g, 5, none⟩ (.int .i64 fe)) g 2 (by rw [hb4.cell]; rfl)).mono ?_
     rintro e w4 ⟨rfl, rfl⟩
     have d0 : ((w2.setCell ⟨g, 2, none⟩ (.int .i64 2)).setCell ⟨g, 5, none⟩ (.int .i64 fe)).cell? ⟨g, 0, none⟩ = some (.pointer (some ⟨gr, 0, none⟩)) := by rw [hb4.cell]; rfl
     have d1 : ((w2.setCell ⟨g, 2, none⟩ (.int .i64 2)).setCell ⟨g, 5, none⟩ (.int .i64 fe)).cell? ⟨g, 1, none⟩ = some (.pointer (some ⟨gm, 0, none⟩)) := by rw [hb4.cell]; rfl
     have e0 := hb4.frozen 0
     have e1 := hb4.frozen 1
     have hb6 := (hb4.set_ 0 (.pointer none)).set_ 1 (.pointer none)
     rw [pO_bad] at hb6
     have hgr : w2.grownBy ((((w2.setCell ⟨g, 2, none⟩ (.int .i64 2)).setCell ⟨g, 5, none⟩ (.int .i64 fe)).setCell ⟨g, 0, none⟩ (.pointer none)).setCell ⟨g, 1, none⟩ (.pointer none)) (some g) := (only_setCell (p := ⟨g, 1, none⟩) (only_setCell (p := ⟨g, 0, none⟩) (only_setCell (p := ⟨g, 5, none⟩) (only_setCell (p := ⟨g, 2, none⟩) (only_refl w2 _) (.inl rfl) (.int .i64 2)) (.inl rfl) (.int .i64 fe)) (.inl rfl) (.pointer none)) (.inl rfl) (.pointer none))
     have HK6 := Lib.hid hb6
     have HB6 := Lib.hid (HB2.out.trans ((but_of hgr).more (T := g :: S) (by simp)))
     clear hb4 hb6 hgr
     go_wp2_with fail
     go_end0
     rw [HSt.out]
     obtain ⟨S', h1, h2⟩ := pk_bad HD'.out HM'.out HFe.out HK6.out (relP_nil _ w.heap.size) (relV_nil _ _)
     exact ⟨rfl, S', h1, fun i hi => .inr (h2 i hi), HB6.out⟩
 · obtain ⟨rfl, hw⟩ := hwh rfl
   clear hwh
   rw [after_whole] at HSt
   have hbd : bodyM m' = m'.b := by unfold bodyM; rw [if_pos hw]
   have hbl := HM'.out.bl
   have HBy := Lib.hid (Sh.body_any HP2.out.rm HM'.out)
   rw [hbd] at HBy
   obtain ⟨b, hb0⟩ : ∃ b, m'.b = b := ⟨_, rfl⟩
   rw [hb0] at HBy HSt hbl
   have ck1 : w2.cell? ⟨g, 1, none⟩ = some (.pointer (some ⟨gm, 0, none⟩)) := by rw [HP2.out.blk.cell]; rfl
   clear hw hbd hb0
   go_wp2_with fail
   refine HBy.out.mono ?_
   rintro e w3 ⟨v, rfl, ho, hb⟩
   obtain ⟨A3, c3, rfl, hc3, hs3⟩ := Own.src ho
   have HK3 := Lib.hid (HP2.out.blk.below hb HP2.out.blk.lt)
   have HB3 := Lib.hid (HB2.out.trans (But.of_below hb (g :: S)))
   have HS3 := Lib.hid hs3
   clear hb ho hs3 HBy ck1 HP2 HB2 HQ HL2
   go_wp2_with fail
   refine (told_any (B := E) A3 b.length c3 b w3 HS3.out (by omega) (HE.out.below (HB3.out.below HEg.out HE.out.le))).mono ?_
   rintro e w4 ⟨va, vv, rfl, hA, hV, hb⟩
   have HK4 := Lib.hid (HK3.out.below hb HK3.out.lt)
   have HB4 := Lib.hid (HB3.out.trans (But.of_below hb (g :: S)))
   have HA4 := Lib.hid (hA.lower HB3.out.size)
   have HV4 := Lib.hid (hV.lower HB3.out.size)
   clear hb hA hV HK3 HB3 HS3 hc3 hbl
   obtain ⟨Av, cv, rfl⟩ := Ro.OwnE.form HA4.out.1
   obtain ⟨Aw, cw, rfl⟩ := Ro.OwnE.form HV4.out.1
   have HBare := Lib.hid (look_bare b)
   obtain ⟨L, hL⟩ : ∃ L, lookS b = L := ⟨_, rfl⟩
   rw [hL] at HSt HA4 HV4 HBare ⊢
   obtain ⟨hh, sn, er⟩ := L
   simp only at HSt HA4 HV4 HBare ⊢
   unfold Ex.snC
   clear hL
   have hne : 51 ≠ 9 := by decide
   have hni : 51 ≠ 3 := by decide
   have ck6 : w4.cell? ⟨g, 6, none⟩ = some (.string ⟨#[]⟩) := by rw [HK4.out.cell]; rfl
   have cf6 := HK4.out.frozen 6
   have ck8 : w4.cell? ⟨g, 8, none⟩ = some (.bool false) := by rw [HK4.out.cell]; rfl
   have cf8 := HK4.out.frozen 8
   have ck9 : w4.cell? ⟨g, 9, none⟩ = some (.string ⟨#[]⟩) := by rw [HK4.out.cell]; rfl
   have cf9 := HK4.out.frozen 9
   have ck10 : w4.cell? ⟨g, 10, none⟩ = some (.slice none 0 0) := by rw [HK4.out.cell]; rfl
   have cf10 := HK4.out.frozen 10
   have ck11 : w4.cell? ⟨g, 11, none⟩ = some (.slice none 0 0) := by rw [HK4.out.cell]; rfl
   have cf11 := HK4.out.frozen 11
   have ck12 : w4.cell? ⟨g, 12, none⟩ = some (.bool false) := by rw [HK4.out.cell]; rfl
   have cf12 := HK4.out.frozen 12
   go_upto_region 4 with fail
   have hb5 := ((((((HK4.out.set_ 8 (.bool sn.has)).set_ 9 (.string (str8 sn.name))).set_ 10 (.slice Av sn.alpn.length cv)).set_ 11 (.slice Aw sn.vers.length cw)).set_ 12 (.bool sn.ech)).set_ 6 (.string (str8 hh)))
   rw [pO_seen] at hb5
   have hgr : w4.grownBy ((((((w4.setCell ⟨g, 8, none⟩ (.bool sn.has)).setCell ⟨g, 9, none⟩ (.string (str8 sn.name))).setCell ⟨g, 10, none⟩ (.slice Av sn.alpn.length cv)).setCell ⟨g, 11, none⟩ (.slice Aw sn.vers.length cw)).setCell ⟨g, 12, none⟩ (.bool sn.ech)).setCell ⟨g, 6, none⟩ (.string (str8 hh))) (some g) := (only_setCell (p := ⟨g, 6, none⟩) (only_setCell (p := ⟨g, 12, none⟩) (only_setCell (p := ⟨g, 11, none⟩) (only_setCell (p := ⟨g, 10, none⟩) (only_setCell (p := ⟨g, 9, none⟩) (only_setCell (p := ⟨g, 8, none⟩) (only_refl w4 _) (.inl rfl) (.bool sn.has)) (.inl rfl) (.string (str8 sn.name))) (.inl rfl) (.slice Av sn.alpn.length cv)) (.inl rfl) (.slice Aw sn.vers.length cw)) (.inl rfl) (.bool sn.ech)) (.inl rfl) (.string (str8 hh)))
   have HK5 := Lib.hid hb5
   have HB5 := Lib.hid (HB4.out.trans ((but_of hgr).more (T := g :: S) (by simp)))
   have HA5 := Lib.hid (HA4.out.off hgr (He.OffT.of_blk HK4.out (fun e => hne e)))
   have HV5 := Lib.hid (HV4.out.off hgr (He.OffT.of_blk HK4.out (fun e => hni e)))
   clear ck6 ck8 ck9 ck10 ck11 ck12 cf6 cf8 cf9 cf10 cf11 cf12 hb5 hgr HK4 HB4 HA4 HV4
   generalize ((((((w4.setCell ⟨g, 8, none⟩ (.bool sn.has)).setCell ⟨g, 9, none⟩ (.string (str8 sn.name))).setCell ⟨g, 10, none⟩ (.slice Av sn.alpn.length cv)).setCell ⟨g, 11, none⟩ (.slice Aw sn.vers.length cw)).setCell ⟨g, 12, none⟩ (.bool sn.ech)).setCell ⟨g, 6, none⟩ (.string (str8 hh))) = w5 at *
   have ck0 : w5.cell? ⟨g, 0, none⟩ = some (.pointer (some ⟨gr, 0, none⟩)) := by rw [HK5.out.cell]; rfl
   have cf0 := HK5.out.frozen 0
   have ck1 : w5.cell? ⟨g, 1, none⟩ = some (.pointer (some ⟨gm, 0, none⟩)) := by rw [HK5.out.cell]; rfl
   have cf1 := HK5.out.frozen 1
   have ck2 : w5.cell? ⟨g, 2, none⟩ = some (.int .i64 0) := by rw [HK5.out.cell]; rfl
   have cf2 := HK5.out.frozen 2
   have ck5 : w5.cell? ⟨g, 5, none⟩ = some (.int .i64 0) := by rw [HK5.out.cell]; rfl
   have cf5 := HK5.out.frozen 5
   by_cases hf : er = 0
   · rw [if_neg (by simpa using hf)] at HSt
     subst hf
     go_wp2_with fail
     have hb6 : Blk (w5.setCell ⟨g, 2, none⟩ (.int .i64 1)) g 51 _ := (HK5.out.set_ 2 (.int .i64 1))
     refine (known_any (w5.setCell ⟨g, 2, none⟩ (.int .i64 1)) g 1 (by rw [hb6.cell]; rfl)).mono ?_
     rintro e w6 ⟨rfl, rfl⟩
     have d0 : (w5.setCell ⟨g, 2, none⟩ (.int .i64 1)).cell? ⟨g, 0, none⟩ = some (.pointer (some ⟨gr, 0, none⟩)) := by rw [hb6.cell]; rfl
     have d1 : (w5.setCell ⟨g, 2, none⟩ (.int .i64 1)).cell? ⟨g, 1, none⟩ = some (.pointer (some ⟨gm, 0, none⟩)) := by rw [hb6.cell]; rfl
     have e0 := hb6.frozen 0
     have e1 := hb6.frozen 1
     have hb7 := (hb6.set_ 0 (.pointer none)).set_ 1 (.pointer none)
     rw [pC_done] at hb7
     have hgr : w5.grownBy (((w5.setCell ⟨g, 2, none⟩ (.int .i64 1)).setCell ⟨g, 0, none⟩ (.pointer none)).setCell ⟨g, 1, none⟩ (.pointer none)) (some g) := (only_setCell (p := ⟨g, 1, none⟩) (only_setCell (p := ⟨g, 0, none⟩) (only_setCell (p := ⟨g, 2, none⟩) (only_refl w5 _) (.inl rfl) (.int .i64 1)) (.inl rfl) (.pointer none)) (.inl rfl) (.pointer none))
     have HK7 := Lib.hid hb7
     have HB7 := Lib.hid (HB5.out.trans ((but_of hgr).more (T := g :: S) (by simp)))
     have HA7 := Lib.hid (HA5.out.off hgr (He.OffT.of_blk HK5.out (fun e => hne e)))
     have HV7 := Lib.hid (HV5.out.off hgr (He.OffT.of_blk HK5.out (fun e => hni e)))
     clear hb6 hb7 hgr
     go_wp2_with fail
     go_end0
     rw [HSt.out] at HSo HF ⊢
     obtain ⟨S', h1, h2⟩ := pk_known HSo.out HF.out (by show ¬ 1 = 0; decide) HK7.out HA7.out HV7.out
     exact ⟨rfl, S', h1, fun i hi => .inr (h2 i hi), HB7.out⟩
   · rw [if_pos hf] at HSt
     have f1 : (er != 0) = true := by rw [bne_iff_ne]; exact hf
     have HEr := Lib.hid hf
     clear hf
     go_wp2_with fail
     have hb6 : Blk ((w5.setCell ⟨g, 2, none⟩ (.int .i64 2)).setCell ⟨g, 5, none⟩ (.int .i64 er)) g 51 _ := ((HK5.out.set_ 2 (.int .i64 2)).set_ 5 (.int .i64 er))
     refine (known_any ((w5.setCell ⟨g, 2, none⟩ (.int .i64 2)).setCell ⟨g, 5, none⟩ (.int .i64 er)) g 2 (by rw [hb6.cell]; rfl)).mono ?_
     rintro e w6 ⟨rfl, rfl⟩
     have d0 : ((w5.setCell ⟨g, 2, none⟩ (.int .i64 2)).setCell ⟨g, 5, none⟩ (.int .i64 er)).cell? ⟨g, 0, none⟩ = some (.pointer (some ⟨gr, 0, none⟩)) := by rw [hb6.cell]; rfl
     have d1 : ((w5.setCell ⟨g, 2, none⟩ (.int .i64 2)).setCell ⟨g, 5, none⟩ (.int .i64 er)).cell? ⟨g, 1, none⟩ = some (.pointer (some ⟨gm, 0, none⟩)) := by rw [hb6.cell]; rfl
     have e0 := hb6.frozen 0
     have e1 := hb6.frozen 1
     have hb7 := (hb6.set_ 0 (.pointer none)).set_ 1 (.pointer none)
     rw [pC_bad] at hb7
     have hgr : w5.grownBy ((((w5.setCell ⟨g, 2, none⟩ (.int .i64 2)).setCell ⟨g, 5, none⟩ (.int .i64 er)).setCell ⟨g, 0, none⟩ (.pointer none)).setCell ⟨g, 1, none⟩ (.pointer none)) (some g) := (only_setCell (p := ⟨g, 1, none⟩) (only_setCell (p := ⟨g, 0, none⟩) (only_setCell (p := ⟨g, 5, none⟩) (only_setCell (p := ⟨g, 2, none⟩) (only_refl w5 _) (.inl rfl) (.int .i64 2)) (.inl rfl) (.int .i64 er)) (.inl rfl) (.pointer none)) (.inl rfl) (.pointer none))
     have HK7 := Lib.hid hb7
     have HB7 := Lib.hid (HB5.out.trans ((but_of hgr).more (T := g :: S) (by simp)))
     have HA7 := Lib.hid (HA5.out.off hgr (He.OffT.of_blk HK5.out (fun e => hne e)))
     have HV7 := Lib.hid (HV5.out.off hgr (He.OffT.of_blk HK5.out (fun e => hni e)))
     clear hb6 hb7 hgr
     go_wp2_with fail
     go_end0
     rw [HSt.out]
     obtain ⟨rfl, rfl⟩ := HBare.out HEr.out
     obtain ⟨S', h1, h2⟩ := pk_bad HD'.out HM'.out HEr.out HK7.out HA7.out HV7.out
     exact ⟨rfl, S', h1, fun i hi => .inr (h2 i hi), HB7.out⟩
end Go.Proofs.YthfknndjdfofgaaGreatDoor.Tp
