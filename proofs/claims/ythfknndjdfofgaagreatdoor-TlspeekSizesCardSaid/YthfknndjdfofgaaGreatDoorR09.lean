/-
 Plain facts on addresses and Cidrs, used by the contracts of packages addr and cidr. No condition.
-/
import Derived.Test.YthfknndjdfofgaaGreatDoorR01
import Derived.RegionTactic
import Derived.ChangeAlike
import Derived.Deep.MidRow
import Derived.BigQuiet
import Derived.DeepKeys
import Derived.ChangeKeysEq
import Derived.Deep.QuietTactic
import Derived.Laws.CopyOwn
namespace Go.Proofs.YthfknndjdfofgaaGreatDoor.Ad
open Go Go.Proofs.YthfknndjdfofgaaGreatDoor.Wd

abbrev cA (l : List UInt8) : Array Value := (cellsOf l).toArray
theorem cA_set (l : List UInt8) (k : Nat) (v : UInt8) : (cA l).setIfInBounds k (Value.int .u8 (v.toNat : Int)) = cA (l.set k v) := by
 apply Array.ext'
 simp [cellsOf, List.map_set, b8]
theorem set_mid {α : Type} (l : List α) (k n : Nat) (z v : α) (hk : l.length = k) (hn : 0 < n) : (l ++ List.replicate n z).set k v = l ++ v :: List.replicate (n - 1) z := by
 subst hk
 rw [List.set_append_right _ _ (Nat.le_refl _), Nat.sub_self]
 cases n with
 | zero => omega
 | succ n => simp [List.replicate_succ]
structure C where
 a : List UInt8
 n : Int
deriving DecidableEq
def C.cells (c : C) : Array Value := (cellsOf c.a ++ [Value.int .i64 c.n]).toArray
end Go.Proofs.YthfknndjdfofgaaGreatDoor.Ad

/-
 Contracts of limit.Within and of package addr's Mask over this seat's translation.
-/
namespace Go.Proofs.YthfknndjdfofgaaGreatDoor.Ad
open Go.RowKit Go.Proofs.YthfknndjdfofgaaGreatDoor.Wd


theorem info16 : (Tryz.prog.info? 75).map (·.size) = some 16 := by kernel_rfl
theorem und16 : Tryz.prog.underlying 75 = some (.array 16 5) := by kernel_rfl
theorem cA_size (l : List UInt8) : (cA l).size = l.length := by simp [cellsOf_length]
theorem cA_one (l : List UInt8) : (cA l).all (·.oneCell') = true := all_oneCell_toArray (cellsOf_one l)
theorem go_ld {ops : Array Oper} {rest : List Oper} {o : Oper} {a : Act} {w : World} {Q : Exit → Act → World → Prop} {x : Operand} {g t n : Nat} {C : Array Value} {d : TypeDesc} (ty : TypeId) (hb : Blk w g t C) (hu : Tryz.prog.underlying ty = some d)
   (hd : d.isRow = true) (hi : (Tryz.prog.info? ty).map (·.size) = some n) (hn : C.size = n) (hgd : o.guard = none) (ho : o.op = .load ty x)
   (hx : a.eval x = .pointer (some ⟨g, 0, none⟩)) (h : wpList Tryz.prog ops Q rest (a.put o.dst (.agg C)) w) : wpList Tryz.prog ops Q (o :: rest) a w :=
 wpList_load_row hgd ty x ho g hx t C (0, 0) d hb hu (by cases d <;> first | rfl | cases hd) (by rw [hi, hn]) h
theorem go_st {ops : Array Oper} {rest : List Oper} {o : Oper} {a : Act} {w : World} {Q : Exit → Act → World → Prop} {x y : Operand} {g t n : Nat} {C D : Array Value} (ty : TypeId) (hb : Blk w g t C)
   (hi : (Tryz.prog.info? ty).map (·.size) = some n) (hn : C.size = n) (hm : D.size = n) (h1 : D.all (·.oneCell') = true) (hgd : o.guard = none) (ho : o.op = .store ty x y)
   (hx : a.eval x = .pointer (some ⟨g, 0, none⟩)) (hy : a.eval y = .agg D) (h : wpList Tryz.prog ops Q rest (a.put o.dst undef) (w.setRow g D)) : wpList Tryz.prog ops Q (o :: rest) a w :=
 wpList_store_row hgd ty x y ho g D hx hy t C hb (by rw [hi, hm]) (by rw [hn, hm]) h1 h
theorem setRow_blk {w : World} {g : Nat} {t : TypeId} {old new : Array Value} (h : Blk w g t old) : Blk (w.setRow g new) g t new := by
 have h' : w.heap[g]? = some (.cells old t (0, 0)) := h
 have hg := h.lt
 unfold Blk
 simp only [World.setRow]
 rw [Array.getElem?_modify]
 simp [h']
theorem setRow_far {w : World} {g k : Nat} (hk : k ≠ g) (new : Array Value) : (w.setRow g new).heap[k]? = w.heap[k]? := by
 simp only [World.setRow]
 rw [Array.getElem?_modify, if_neg (fun e => hk e.symm)]
theorem setRow_below {B g : Nat} {a w : World} {t : TypeId} {old : Array Value} (h : Below B a w) (_hb : Blk w g t old) (hg : B ≤ g) (new : Array Value) : Below B a (w.setRow g new) := by
 refine ⟨h.os, h.tape, h.output, ?_, fun i hi => ?_⟩
 · have := h.size
   simpa [World.setRow] using this
 · rw [setRow_far (by omega)]
   exact h.block i hi

theorem ret_row {fn : Func} {p : Tmp} {ty t : TypeId} {a : Act} {w : World} {g n : Nat} {old C : Array Value} {d : TypeDesc} {R : Ending → World → Prop} (hf : fn.results = #[.cell p ty]) (hb : Blk w g t old) (hu : Tryz.prog.underlying ty = some d)
   (hd : d.isRow = true) (hi : (Tryz.prog.info? ty).map (·.size) = some n) (hn : C.size = n) (hp : a.tmps.getD p undef = .pointer (some ⟨g, 0, none⟩)) (h : R (.returned (.agg C)) (w.setRow g C)) (hdf : a.defers = []) : bodyPost Tryz.prog fn R .ret a (w.setRow g C) :=
 bodyPost_ret (results_cell_row hf _ _ g t C (0, 0) d hp (setRow_blk hb) hu (by cases d <;> first | rfl | cases hd) (by rw [hi, hn])) hdf h
theorem blk_at (w : World) (t : TypeId) (cs cs' : Array Value) (g : Nat) (hg : g = w.heap.size) (hc : cs = cs') : Blk (w.alloc (.cells cs t)) g t cs' := by
 subst hg hc
 exact Blk.new w t cs
theorem alloc_size (w : World) (o : Obj) : (w.alloc o).heap.size = w.heap.size + 1 := by simp

theorem cell_a {w : World} {g : Nat} {t : TypeId} {l : List UInt8} (h : Blk w g t (cA l)) (k : Nat) : w.cell? ⟨g, k, none⟩ = (l[k]?).map fun c => Value.int .u8 (c.toNat : Int) := by
 rw [h.cell]; simp [cellsOf]; rfl

end Go.Proofs.YthfknndjdfofgaaGreatDoor.Ad

/-
 Contracts of package cidr's Of, Right and Has over this seat's translation.
-/
namespace Go.Proofs.YthfknndjdfofgaaGreatDoor.Ad
open Go.RowKit Go.Proofs.YthfknndjdfofgaaGreatDoor.Wd

theorem C_size (c : C) (h : c.a.length = 16) : c.cells.size = 17 := by simp [C.cells, cellsOf_length, h]
theorem C_one (c : C) : c.cells.all (·.oneCell') = true := all_oneCell_toArray (fun v hv => by
 rcases List.mem_append.1 hv with h | h
 · exact cellsOf_one _ v h
 · simp at h; subst h; rfl)

theorem plain8 : Tryz.prog.plainKey 5 = true := by kernel_rfl
theorem cells8 : Tryz.prog.cellsOf 5 = 1 := by kernel_rfl
theorem items8 (d : Nat) (c e : List UInt8) (w : World) : ∀ is : List Nat, (∀ i ∈ is, i < c.length ∧ i < e.length) → (Op.eqItems (d + 1) 5 1 (cA c) (cA e) is).run Tryz.prog w = .ok (is.all fun i => c[i]? == e[i]?) w
 | [], _ => rfl
 | i :: is, h => by
   obtain ⟨h1, h2⟩ := h i (by simp)
   have x1 : (cA c)[i]? = some (b8 c[i]) := by simp [cellsOf, h1]
   have x2 : (cA e)[i]? = some (b8 e[i]) := by simp [cellsOf, h2]
   have hq : (Op.equalIn (d + 1) 5 (b8 c[i]) (b8 e[i])).run Tryz.prog w = .ok (c[i] == e[i]) w := by
     have hb : (c[i] == e[i]) = ((c[i].toNat : Int) == (e[i].toNat : Int)) := by
       by_cases hce : c[i] = e[i]
       · rw [hce]; simp
       · have : ¬ c[i].toNat = e[i].toNat := fun k => hce (UInt8.toNat.inj k)
         have hn : ¬ (c[i].toNat : Int) = (e[i].toNat : Int) := by omega
         rw [beq_eq_false_iff_ne.2 hce, beq_eq_false_iff_ne.2 hn]
     rw [hb]
     exact run_equalIn_int w d _ .u8 .u8 _ _ Tryz.underlying5
   simp only [Op.eqItems, Sem.run_bind, Nat.mul_one, run_part_plain w plain8 x1, run_part_plain w plain8 x2, Result.andThen_ok, hq]
   rw [List.all_cons, List.getElem?_eq_getElem h1, List.getElem?_eq_getElem h2]
   cases hce : c[i] == e[i]
   · have : (some c[i] == some e[i]) = false := by simpa using hce
     rw [this]; simp
   · have : (some c[i] == some e[i]) = true := by simpa using hce
     rw [this]
     simpa using items8 d c e w is (fun j hj => h j (by simp [hj]))
theorem all_range {c e : List UInt8} {n : Nat} (hc : c.length = n) (he : e.length = n) : ((List.range n).all fun i => c[i]? == e[i]?) = (c == e) := by
 rw [Bool.eq_iff_iff, List.all_eq_true, beq_iff_eq]
 constructor
 · intro h
   apply List.ext_getElem?
   intro i
   by_cases hi : i < n
   · exact beq_iff_eq.1 (h i (by simpa using hi))
   · rw [List.getElem?_eq_none (by omega), List.getElem?_eq_none (by omega)]
 · rintro rfl i _
   simp
theorem info8 : ∃ i, Tryz.prog.info? 5 = some i := by
 cases h : Tryz.prog.info? 5 with
 | none => have : (Tryz.prog.info? 5).isSome = true := by kernel_rfl
           rw [h] at this; cases this
 | some i => exact ⟨i, rfl⟩
theorem eqIn16 (d : Nat) (c e : List UInt8) (hc : c.length = 16) (he : e.length = 16) (w : World) : (Op.equalIn (d + 2) 75 (.agg (cA c)) (.agg (cA e))).run Tryz.prog w = .ok (c == e) w := by
 obtain ⟨i8, hi8⟩ := info8
 rw [run_equalIn_array w (d + 1) (cA c) (cA e) und16 hi8, cells8, items8 d c e w _ (fun i hi => by simp at hi; omega), all_range hc he]
theorem eql16 (c e : List UInt8) (hc : c.length = 16) (he : e.length = 16) (w : World) : (binOp .eql 75 (.agg (cA c)) (.agg (cA e))).run Tryz.prog w = .ok (.bool (c == e)) w := by
 rw [run_eql_struct, eqIn16 9998 c e hc he w]; rfl
end Go.Proofs.YthfknndjdfofgaaGreatDoor.Ad

/-
 Contracts of package addr's lastOf, Of4 and Four over this seat's translation; copy as a step of a region.
-/
namespace Go.Proofs.YthfknndjdfofgaaGreatDoor.Ad
open Go.RowKit Go.Proofs.YthfknndjdfofgaaGreatDoor.Wd

theorem info4 : (Tryz.prog.info? 102).map (·.size) = some 4 := by kernel_rfl
theorem und4 : Tryz.prog.underlying 102 = some (.array 4 5) := by kernel_rfl
theorem size8 : (Tryz.prog.info? 5).map (·.size) = some 1 := by kernel_rfl
def lastS (a : List UInt8) : List UInt8 := a.drop 12
def of4S (b : List UInt8) : List UInt8 := [0, 0, 0, 0, 0, 0, 0, 0, 0, 0, 255, 255] ++ b
def fourS (a : List UInt8) : Bool := a == of4S (lastS a)

def splB (l : List UInt8) (off : Nat) (ys : List UInt8) : List UInt8 := l.take off ++ (ys ++ l.drop (off + ys.length))
theorem splB_length (l : List UInt8) (off : Nat) (ys : List UInt8) (h : off + ys.length ≤ l.length) : (splB l off ys).length = l.length := by simp [splB]; omega
theorem splB_cells (l : List UInt8) (off : Nat) (ys : List UInt8) : cellsOf (splB l off ys) = splice (cellsOf l) off (cellsOf ys) := by
 simp [splB, splice, cellsOf]

theorem step_cp {ops : Array Oper} {o : Oper} {a : Act} {w : World} {K : Act → World → Prop} {Q : Exit → Act → World → Prop} {E : Prop} {d s : Operand} {dp sp : Option Addr} {dLen dCap sLen sCap : Nat} (g off : Nat) {t : TypeId} {cur ys : List UInt8}
   (hb : Blk w g t (cA cur)) (hsrc : Src w sp sLen ys) (hgd : o.guard = none)
   (ho : o.op = .call { callee := .builtin .copy, args := #[d, s], argTypes := #[22, 22] }) (hd : a.eval d = .slice dp dLen dCap) (hs : a.eval s = .slice sp sLen sCap) (hle : sLen ≤ dLen)
   (hdp : 0 < sLen → dp = some ⟨g, off, none⟩) (hfit : off + sLen ≤ cur.length)
   (h : ∀ w', RowKit.Hid (Blk w' g t (cA (splB cur off ys))) → RowKit.Hid (RowKit.Below g w w') → K (a.put o.dst (goInt sLen)) w') :
   if Region.wanted o (yielded ops a.tmps) = true then Oper.wp Tryz.prog o a w K Q else E := by
 have hl := hsrc.1
 refine step_copy_splice hgd d s 22 22 ho 5 Tryz.underlying22 size8 dp sp dLen dCap sLen sCap hd hs g off (cellsOf cur) t hb (cellsOf ys)
   (by rw [cellsOf_length, hl]; exact (Nat.min_eq_left hle).symm) ?_ (by rw [cellsOf_length, cellsOf_length, hl]; exact hfit) (cellsOf_one ys) g w (Below.refl _ _) (Nat.le_refl _) ?_
 · intro h0
   rw [cellsOf_length, hl] at h0
   obtain ⟨ad, e, hlt, hc⟩ := hsrc.2 h0
   refine ⟨hdp h0, ad, e, fun j v hv => ?_⟩
   simp only [cellsOf, List.getElem?_map, Option.map_eq_some_iff] at hv
   obtain ⟨x, hx, rfl⟩ := hv
   exact hc j x hx
 · intro w' hg' hb'
   rw [cellsOf_length, hl]
   exact h w' (by have := hg'.out; rw [← splB_cells] at this; exact this) hb'

theorem lastS_len {a : List UInt8} (ha : a.length = 16) : (lastS a).length = 4 := by simp [lastS, ha]
theorem src_last {w : World} {g t : Nat} {a : List UInt8} (h : Blk w g t (cA a)) (ha : a.length = 16) : Src w (some ⟨g, 12, none⟩) 4 (lastS a) := by
 have := Src.of_blk (off := 12) (xs := lastS a) h (fun j c hj => by
   simp only [lastS, List.getElem?_drop] at hj
   simp only [List.getElem?_toArray, cellsOf, List.getElem?_map, hj, Option.map_some])
 rwa [lastS_len ha] at this

theorem lastOf_any (a : List UInt8) (ha : a.length = 16) (w : World) :
   Calls Tryz.prog 66 #[.agg (cA a)] w fun e w' => e = .returned (.agg (cA (lastS a))) ∧ Below w.heap.size w w' := by
 have hl4 := lastS_len ha
 go_enter Tryz.func66, Tryz.ntmps66
 go_wp2_with fail
 have b0 : Blk (((w.alloc (.cells (cA a) 75)).alloc (.cells (cA (List.replicate 4 0)) 102)).alloc (.cells (cA (List.replicate 4 0)) 102)) w.heap.size 75 (cA a) := ((Blk.new _ _ _).alloc _).alloc _
 have b1 : Blk (((w.alloc (.cells (cA a) 75)).alloc (.cells (cA (List.replicate 4 0)) 102)).alloc (.cells (cA (List.replicate 4 0)) 102)) (w.heap.size + 1) 102 (cA (List.replicate 4 0)) := (blk_at _ _ _ _ _ (by rw [alloc_size]) rfl).alloc _
 have b2 : Blk (((w.alloc (.cells (cA a) 75)).alloc (.cells (cA (List.replicate 4 0)) 102)).alloc (.cells (cA (List.replicate 4 0)) 102)) (w.heap.size + 1 + 1) 102 (cA (List.replicate 4 0)) := blk_at _ _ _ _ _ (by rw [alloc_size, alloc_size]) rfl
 have hbel : Below w.heap.size w (((w.alloc (.cells (cA a) 75)).alloc (.cells (cA (List.replicate 4 0)) 102)).alloc (.cells (cA (List.replicate 4 0)) 102)) := ((((Below.refl _ _).alloc (Nat.le_refl _) _).alloc (by simp) _).alloc (by simp; omega) _)
 rw [show #[Value.int .u8 0, .int .u8 0, .int .u8 0, .int .u8 0] = cA (List.replicate 4 0) from rfl]
 generalize (((w.alloc (.cells (cA a) 75)).alloc (.cells (cA (List.replicate 4 0)) 102)).alloc (.cells (cA (List.replicate 4 0)) 102)) = w1 at *
 have hs := src_last (w := w1.drew) b0 ha
 have HS := Lib.hid hs
 have HB1 := Lib.hid b1
 have HB2 := Lib.hid b2
 have HL := Lib.hid hbel
 clear b0 b1 b2 hbel hs
 go_region_law (refine step_cp (w.heap.size + 1 + 1) 0 (by exact HB2.out) HS.out rfl rfl rfl rfl (by omega) (fun _ => rfl) (by simp) ?_; intro w4 hg4 hb4)
 have e4 : splB (List.replicate 4 0) 0 (lastS a) = lastS a := by simp [splB, hl4]
 have b2 := hg4.out
 rw [e4] at b2
 have hb := hb4.out
 have b1 := Blk.below (w := w1.drew) HB1.out hb (by omega)
 have hbel : Below w.heap.size w w4 := HL.out.trans ((Below.refl _ _).drew.trans (hb.mono (by omega)))
 clear hg4 hb4 HS hb e4
 go_wp2_with (first
   | (refine go_ld 102 b2 und4 rfl info4 (by rw [cA_size, hl4]) rfl rfl rfl ?_)
   | (refine go_st 102 b1 info4 rfl (by rw [cA_size, hl4]) (cA_one _) rfl rfl rfl rfl ?_))
 exact ret_row Tryz.results66 b1 und4 rfl info4 (by rw [cA_size, hl4]) rfl ⟨rfl, setRow_below hbel b1 (by omega) _⟩ rfl

theorem of4S_len {b : List UInt8} (hb : b.length = 4) : (of4S b).length = 16 := by simp [of4S, hb]
def ffS : List UInt8 := [0, 0, 0, 0, 0, 0, 0, 0, 0, 0, 255, 255, 0, 0, 0, 0]
theorem src_all {w : World} {g t : Nat} {a : List UInt8} (h : Blk w g t (cA a)) : Src w (some ⟨g, 0, none⟩) a.length a := 
 Src.of_blk (off := 0) (xs := a) h (fun j c hj => by
   simp only [Nat.zero_add, List.getElem?_toArray, cellsOf, List.getElem?_map, hj, Option.map_some])

theorem of4_any (b : List UInt8) (hb : b.length = 4) (w : World) :
   Calls Tryz.prog 64 #[.agg (cA b)] w fun e w' => e = .returned (.agg (cA (of4S b))) ∧ Below w.heap.size w w' := by
 have hl16 := of4S_len hb
 go_enter Tryz.func64, Tryz.ntmps64
 go_wp2_with fail
 rw [show #[Value.int .u8 0, .int .u8 0, .int .u8 0, .int .u8 0, .int .u8 0, .int .u8 0, .int .u8 0, .int .u8 0, .int .u8 0, .int .u8 0, .int .u8 0, .int .u8 0, .int .u8 0, .int .u8 0, .int .u8 0, .int .u8 0] = cA (List.replicate 16 0) from rfl,
   show #[Value.int .u8 0, .int .u8 0, .int .u8 0, .int .u8 0, .int .u8 0, .int .u8 0, .int .u8 0, .int .u8 0, .int .u8 0, .int .u8 0, .int .u8 255, .int .u8 255, .int .u8 0, .int .u8 0, .int .u8 0, .int .u8 0] = cA ffS from rfl]
 have b0 : Blk (((w.alloc (.cells (cA b) 102)).alloc (.cells (cA (List.replicate 16 0)) 75)).alloc (.cells (cA ffS) 75)) w.heap.size 102 (cA b) := ((Blk.new _ _ _).alloc _).alloc _
 have b1 : Blk (((w.alloc (.cells (cA b) 102)).alloc (.cells (cA (List.replicate 16 0)) 75)).alloc (.cells (cA ffS) 75)) (w.heap.size + 1) 75 (cA (List.replicate 16 0)) := (blk_at _ _ _ _ _ (by rw [alloc_size]) rfl).alloc _
 have b2 : Blk (((w.alloc (.cells (cA b) 102)).alloc (.cells (cA (List.replicate 16 0)) 75)).alloc (.cells (cA ffS) 75)) (w.heap.size + 1 + 1) 75 (cA ffS) := blk_at _ _ _ _ _ (by rw [alloc_size, alloc_size]) rfl
 have hbel : Below w.heap.size w (((w.alloc (.cells (cA b) 102)).alloc (.cells (cA (List.replicate 16 0)) 75)).alloc (.cells (cA ffS) 75)) := ((((Below.refl _ _).alloc (Nat.le_refl _) _).alloc (by simp) _).alloc (by simp; omega) _)
 generalize (((w.alloc (.cells (cA b) 102)).alloc (.cells (cA (List.replicate 16 0)) 75)).alloc (.cells (cA ffS) 75)) = w1 at *
 have hs := src_all (w := w1.drew) b0
 rw [hb] at hs
 have HS := Lib.hid hs
 have HB1 := Lib.hid b1
 have HB2 := Lib.hid b2
 have HL := Lib.hid hbel
 clear b0 b1 b2 hbel hs
 go_region_law (refine step_cp (w.heap.size + 1 + 1) 12 (by exact HB2.out) HS.out rfl rfl rfl rfl (by omega) (fun _ => rfl) (by decide) ?_; intro w4 hg4 hb4)
 have e4 : splB ffS 12 b = of4S b := by simp [splB, ffS, of4S, hb]
 have b2 := hg4.out
 rw [e4] at b2
 have hbb := hb4.out
 have b1 := Blk.below (w := w1.drew) HB1.out hbb (by omega)
 have hbel : Below w.heap.size w w4 := HL.out.trans ((Below.refl _ _).drew.trans (hbb.mono (by omega)))
 clear hg4 hb4 HS hbb e4
 go_wp2_with (first
   | (refine go_ld 75 b2 und16 rfl info16 (by rw [cA_size, hl16]) rfl rfl rfl ?_)
   | (refine go_st 75 b1 info16 rfl (by rw [cA_size, hl16]) (cA_one _) rfl rfl rfl rfl ?_))
 exact ret_row Tryz.results64 b1 und16 rfl info16 (by rw [cA_size, hl16]) rfl ⟨rfl, setRow_below hbel b1 (by omega) _⟩ rfl

end Go.Proofs.YthfknndjdfofgaaGreatDoor.Ad
