/-
 A hello as it lies in memory: a row of numbers, a row of extensions, a struct of 38 cells; structs loaded and stored whole; bytes.IndexByte. Plain lemmas, no condition.
-/
import Derived.Test.YthfknndjdfofgaaGreatDoorQ03
import Derived.Lib.BytesEntry
import Derived.Deep.MidRow
import Derived.Maps.OwnSet
import Derived.Maps.Views
import Derived.Deep.Cut
namespace Go.Proofs.YthfknndjdfofgaaGreatDoor.He
open Go.RowKit Go.Proofs.YthfknndjdfofgaaGreatDoor.Wd Go.Proofs.YthfknndjdfofgaaGreatDoor.Be

theorem infH : (Tryz.prog.info? 68).map (·.size) = some 38 := by kernel_rfl
theorem undH : Tryz.prog.underlying 68 = some (.struct (Tryz.prog.fieldsOf 68)) := by kernel_rfl
theorem go_ld {ops : Array Oper} {rest : List Oper} {o : Oper} {a : Act} {w : World} {Q : Exit → Act → World → Prop} {x : Operand} {g t n : Nat} {C : Array Value} {d : TypeDesc} (ty : TypeId) (hb : Blk w g t C) (hu : Tryz.prog.underlying ty = some d)
   (hd : d.isRow = true) (hi : (Tryz.prog.info? ty).map (·.size) = some n) (hn : C.size = n) (hw : Region.wanted o (yielded ops a.tmps) = true) (ho : o.op = .load ty x)
   (hx : a.eval x = .pointer (some ⟨g, 0, none⟩)) (h : wpList Tryz.prog ops Q rest (a.put o.dst (.agg C)) w) : wpList Tryz.prog ops Q (o :: rest) a w := by
 show if Region.wanted o (yielded ops a.tmps) = true then _ else _
 rw [if_pos hw]
 exact .inl (wp_load_row ty x ho g hx t C (0, 0) d hb hu (by cases d <;> first | rfl | cases hd) (by rw [hi, hn]) h)
theorem go_st {ops : Array Oper} {rest : List Oper} {o : Oper} {a : Act} {w : World} {Q : Exit → Act → World → Prop} {x y : Operand} {g t n : Nat} {C D : Array Value} (ty : TypeId) (hb : Blk w g t C)
   (hi : (Tryz.prog.info? ty).map (·.size) = some n) (hn : C.size = n) (hm : D.size = n) (h1 : D.all (·.oneCell') = true) (hgd : o.guard = none) (ho : o.op = .store ty x y)
   (hx : a.eval x = .pointer (some ⟨g, 0, none⟩)) (hy : a.eval y = .agg D) (h : wpList Tryz.prog ops Q rest (a.put o.dst undef) (w.setRow g D)) : wpList Tryz.prog ops Q (o :: rest) a w :=
 wpList_store_row hgd ty x y ho g D hx hy t C hb (by rw [hi, hm]) (by rw [hn, hm]) h1 h
theorem setRow_blk {w : World} {g : Nat} {t : TypeId} {old new : Array Value} (h : Blk w g t old) : Blk (w.setRow g new) g t new := by
 have h' : w.heap[g]? = some (.cells old t (0, 0)) := h
 have hg := h.lt
 unfold Blk
 simp only [World.setRow]
 rw [Array.getElem?_modify]
 simp [h']
theorem setRow_far {w : World} {g k : Nat} (hk : k ≠ g) (new : Array Value) : (w.setRow g new).heap[k]? = w.heap[k]? := by
 simp only [World.setRow]
 rw [Array.getElem?_modify, if_neg (fun e => hk e.symm)]
theorem setRow_below {B g : Nat} {a w : World} (h : Below B a w) (hg : B ≤ g) (new : Array Value) : Below B a (w.setRow g new) := by
 refine ⟨h.os, h.tape, h.output, ?_, fun i hi => ?_⟩
 · have := h.size
   simpa [World.setRow] using this
 · rw [setRow_far (by omega)]
   exact h.block i hi
theorem Blk.row_far {w : World} {g g' t : Nat} {cs : Array Value} (h : Blk w g t cs) (hne : g ≠ g') (new : Array Value) : Blk (w.setRow g' new) g t cs := (setRow_far hne new).trans h
theorem blk_at (w : World) (t : TypeId) (cs cs' : Array Value) (g : Nat) (hg : g = w.heap.size) (hc : cs = cs') : Blk (w.alloc (.cells cs t)) g t cs' := by
 subst hg hc
 exact Blk.new w t cs
theorem alloc_size (w : World) (o : Obj) : (w.alloc o).heap.size = w.heap.size + 1 := by simp

def SrcI (w : World) (A : Option Addr) (l : List Int) : Prop :=
 ∀ (k : Nat) (x : Int), l[k]? = some x → ∃ g o, A = some ⟨g, o, none⟩ ∧ g < w.heap.size ∧ w.cell? ⟨g, o + k, none⟩ = some (.int .i64 x)
theorem SrcI.below {w w' : World} {A : Option Addr} {l : List Int} (h : SrcI w A l) (hb : Below w.heap.size w w') : SrcI w' A l := fun k x hx => by
 obtain ⟨g, o, hA, hg, hc⟩ := h k x hx
 exact ⟨g, o, hA, Nat.lt_of_lt_of_le hg hb.size, (hb.cell (p := ⟨g, _, none⟩) hg).trans hc⟩
theorem SrcI.nil (w : World) (A : Option Addr) : SrcI w A [] := fun k x h => by cases k <;> cases h
structure Xt where
 kind : Int
 A : Option Addr
 n : Nat
 c : Nat
 b : List UInt8
instance : Inhabited Xt := ⟨⟨0, none, 0, 0, []⟩⟩
structure Xt.Ok (w : World) (x : Xt) : Prop where
 k1 : -9223372036854775808 ≤ x.kind ∧ x.kind ≤ 9223372036854775807
 nc : x.n ≤ x.c
 src : Src w x.A x.n x.b
 small : x.n ≤ 140737488351232
def SrcX (w : World) (A : Option Addr) (l : List Xt) : Prop :=
 ∀ (i : Nat) (x : Xt), l[i]? = some x → x.Ok w ∧ ∃ g o, A = some ⟨g, o, none⟩ ∧ g < w.heap.size ∧ w.cell? ⟨g, o + i * 2, none⟩ = some (.int .i64 x.kind) ∧ w.cell? ⟨g, o + i * 2 + 1, none⟩ = some (.slice x.A x.n x.c)
theorem Xt.Ok.below {w w' : World} {x : Xt} (h : x.Ok w) (hb : Below w.heap.size w w') : x.Ok w' := ⟨h.k1, h.nc, h.src.below hb, h.small⟩
theorem SrcX.below {w w' : World} {A : Option Addr} {l : List Xt} (h : SrcX w A l) (hb : Below w.heap.size w w') : SrcX w' A l := fun i x hx => by
 obtain ⟨hok, g, o, hA, hg, h0, h1⟩ := h i x hx
 exact ⟨hok.below hb, g, o, hA, Nat.lt_of_lt_of_le hg hb.size, (hb.cell (p := ⟨g, _, none⟩) hg).trans h0, (hb.cell (p := ⟨g, _, none⟩) hg).trans h1⟩
theorem SrcX.nil (w : World) (A : Option Addr) : SrcX w A [] := fun k x h => by cases k <;> cases h

structure Hv where
 ver : Int
 rnd : List UInt8
 sA : Option Addr
 sc : Nat
 ses : List UInt8
 cA : Option Addr
 cc : Nat
 cph : List Int
 mA : Option Addr
 mc : Nat
 met : List UInt8
 has : Bool
 xA : Option Addr
 xc : Nat
 xs : List Xt
def Hv.L (H : Hv) : List Value := .int .i64 H.ver :: (cellsOf H.rnd ++ [.slice H.sA H.ses.length H.sc, .slice H.cA H.cph.length H.cc, .slice H.mA H.met.length H.mc, .bool H.has, .slice H.xA H.xs.length H.xc])
def Hv.C (H : Hv) : Array Value := H.L.toArray
def ext (x : Xt) : Int × List UInt8 := (x.kind, x.b)
def Hv.hel (H : Hv) : Hel := ⟨H.ver, H.rnd, H.ses, H.cph, H.met, H.has, H.xs.map ext⟩
structure Hv.Ok (w : World) (H : Hv) : Prop where
 ver : -9223372036854775808 ≤ H.ver ∧ H.ver ≤ 9223372036854775807
 rnd : H.rnd.length = 32
 s1 : H.ses.length ≤ H.sc ∧ H.ses.length ≤ 140737488351232
 ses : Src w H.sA H.ses.length H.ses
 c1 : H.cph.length ≤ H.cc ∧ H.cph.length ≤ 140737488351232
 c2 : ∀ n ∈ H.cph, -9223372036854775808 ≤ n ∧ n ≤ 9223372036854775807
 cph : SrcI w H.cA H.cph
 m1 : H.met.length ≤ H.mc ∧ H.met.length ≤ 140737488351232
 met : Src w H.mA H.met.length H.met
 x1 : H.xs.length ≤ H.xc ∧ H.xs.length ≤ 140737488351232
 xs : SrcX w H.xA H.xs
theorem Hv.Ok.below {w w' : World} {H : Hv} (h : H.Ok w) (hb : Below w.heap.size w w') : H.Ok w' :=
 ⟨h.ver, h.rnd, h.s1, h.ses.below hb, h.c1, h.c2, h.cph.below hb, h.m1, h.met.below hb, h.x1, h.xs.below hb⟩
theorem Hv.size {H : Hv} (h : H.rnd.length = 32) : H.C.size = 38 := by simp [Hv.C, Hv.L, cellsOf_length, h]
theorem Hv.one (H : Hv) : H.C.all (·.oneCell') = true := by
 simp only [Hv.C, List.all_toArray', List.all_eq_true]
 intro v hv
 rcases List.mem_cons.1 hv with rfl | hv
 · rfl
 · rcases List.mem_append.1 hv with hv | hv
   · exact cellsOf_one _ v hv
   · simp at hv
     rcases hv with rfl | rfl | rfl | rfl | rfl <;> rfl
theorem Hv.at_ {H : Hv} (h : H.rnd.length = 32) (j : Nat) : H.C[33 + j]? = [Value.slice H.sA H.ses.length H.sc, .slice H.cA H.cph.length H.cc, .slice H.mA H.met.length H.mc, .bool H.has, .slice H.xA H.xs.length H.xc][j]? := by
 have e : H.C[33 + j]? = H.L[33 + j]? := by simp [Hv.C]
 rw [e, Hv.L, show 33 + j = (32 + j) + 1 by omega, List.getElem?_cons_succ, List.getElem?_append_right (by rw [cellsOf_length]; omega), cellsOf_length, h, show 32 + j - 32 = j by omega]
theorem Hv.at0 (H : Hv) : H.C[0]? = some (.int .i64 H.ver) := by simp [Hv.C, Hv.L]
theorem Hv.atR {H : Hv} (_h : H.rnd.length = 32) {j : Nat} {c : UInt8} (hj : H.rnd[j]? = some c) : H.C[1 + j]? = some (b8 c) := by
 have hl := (List.getElem?_eq_some_iff.1 hj).1
 have e : H.C[1 + j]? = H.L[1 + j]? := by simp [Hv.C]
 rw [e, Hv.L, show 1 + j = j + 1 by omega, List.getElem?_cons_succ, List.getElem?_append_left (by rw [cellsOf_length]; omega)]
 exact cellsOf_get hj
section
variable {w : World} {g t : Nat} {H : Hv}
theorem cell_ver (h : Blk w g t H.C) : w.cell? ⟨g, 0, none⟩ = some (.int .i64 H.ver) := by rw [h.cell]; exact H.at0
theorem cell_ses (h : Blk w g t H.C) (hr : H.rnd.length = 32) : w.cell? ⟨g, 33, none⟩ = some (.slice H.sA H.ses.length H.sc) := by rw [h.cell]; exact Hv.at_ hr 0
theorem cell_cph (h : Blk w g t H.C) (hr : H.rnd.length = 32) : w.cell? ⟨g, 34, none⟩ = some (.slice H.cA H.cph.length H.cc) := by rw [h.cell]; exact Hv.at_ hr 1
theorem cell_met (h : Blk w g t H.C) (hr : H.rnd.length = 32) : w.cell? ⟨g, 35, none⟩ = some (.slice H.mA H.met.length H.mc) := by rw [h.cell]; exact Hv.at_ hr 2
theorem cell_has (h : Blk w g t H.C) (hr : H.rnd.length = 32) : w.cell? ⟨g, 36, none⟩ = some (.bool H.has) := by rw [h.cell]; exact Hv.at_ hr 3
theorem cell_xs (h : Blk w g t H.C) (hr : H.rnd.length = 32) : w.cell? ⟨g, 37, none⟩ = some (.slice H.xA H.xs.length H.xc) := by rw [h.cell]; exact Hv.at_ hr 4
theorem src_rnd (h : Blk w g t H.C) (hr : H.rnd.length = 32) : Src w (some ⟨g, 1, none⟩) 32 H.rnd := by
 have := Src.of_blk (xs := H.rnd) (off := 1) h (fun j c hj => Hv.atR hr hj)
 rwa [hr] at this
end
def Hv.zero : Hv := ⟨0, List.replicate 32 0, none, 0, [], none, 0, [], none, 0, [], false, none, 0, []⟩
theorem add_flat (g o k : Nat) : (⟨g, o, none⟩ : Addr).add k = ⟨g, o + k, none⟩ := by
 unfold Addr.add
 split <;> simp_all

theorem run_index {P : Program} {w : World} {A : Option Addr} {n c : Nat} {xs : List UInt8} (h : Src w A n xs) (cv : Int) :
   (Extern.BytealgIndexByte.indexByte #[.slice A n c, .int .u8 cv]).run P w = .ok (.int .i64 (Lib.indexByte xs cv.toNat.toUInt8)) w := by
 obtain ⟨hl, hc⟩ := h
 cases A with
 | none =>
   have : xs = [] := by
     rcases Nat.eq_zero_or_pos n with h0 | h0
     · exact List.eq_nil_of_length_eq_zero (by omega)
     · obtain ⟨ad, e, _⟩ := hc h0; cases e
   subst this
   exact Lib.run_indexByteNil w n c cv
 | some ad =>
   have hcell : ∀ j x, (xs.map fun c => (c.toNat : Int))[j]? = some x → w.cell? (ad.add j) = some (.int .u8 x) := by
     intro j x hj
     rw [List.getElem?_map, Option.map_eq_some_iff] at hj
     obtain ⟨y, hy, rfl⟩ := hj
     have hp := (List.getElem?_eq_some_iff.1 hy).1
     obtain ⟨ad', e, _, hc'⟩ := hc (by omega)
     injection e with e
     subst e
     exact hc' j y hy
   have hl2 := Lib.run_loadBytesX (P := P) w (xs.map fun c => (c.toNat : Int)) ad .empty hcell
   have hb : Lib.bytesOf (xs.map fun c => (c.toNat : Int)) = xs := by
     simp [Lib.bytesOf, List.map_map, Function.comp_def]
   rw [List.length_map, hl, hb] at hl2
   have hs := Lib.run_indexByteString (P := P) ⟨xs.toArray⟩ cv w
   have he : (⟨ByteArray.empty.data ++ xs.toArray⟩ : ByteArray) = ⟨xs.toArray⟩ := by
     apply ByteArray.ext
     show (#[] : Array UInt8) ++ xs.toArray = xs.toArray
     simp
   rw [he] at hl2
   change Sem.run P (do
     let b ← Extern.Bytes.bytesOf (.slice (some ad) n c)
     let c ← Extern.Bytes.asByte (.int .u8 cv)
     match (List.range b.size).find? fun i => b[i]! == c with
     | some i => pure (goInt i)
     | none => pure (goInt (-1))) w = _
   change Sem.run P (do
     let b ← Extern.Bytes.bytesOf (.string ⟨xs.toArray⟩)
     let c ← Extern.Bytes.asByte (.int .u8 cv)
     match (List.range b.size).find? fun i => b[i]! == c with
     | some i => pure (goInt i)
     | none => pure (goInt (-1))) w = _ at hs
   simp only [Extern.Bytes.bytesOf, Sem.run_bind, Sem.run_pure, hl2, Result.andThen] at hs ⊢
   exact hs

set_option maxHeartbeats 1000000 in
set_option maxRecDepth 100000 in
theorem index_any (A : Option Addr) (n c : Nat) (xs : List UInt8) (cv : Int) (w : World) (hs : Src w A n xs) :
   Calls Tryz.prog 167 #[.slice A n c, .int .u8 cv] w fun e w' => e = .returned (.int .i64 (Lib.indexByte xs cv.toNat.toUInt8)) ∧ w = w' := by
 go_enter Tryz.func167, Tryz.ntmps167
 go_wp2
 rw [run_callFunc_extern Tryz.func194 (by kernel_rfl) (by kernel_rfl) (by kernel_rfl) (e := Extern.BytealgIndexByte.indexByte) (by kernel_rfl), run_index hs cv]
 simp only [Result.andThen]
 rw [Oper.upon_value]
 go_wp2
 go_ret
 exact ⟨rfl, rfl⟩
theorem index_neg (xs : List UInt8) (c : UInt8) : (Lib.indexByte xs c < 0) ↔ c ∉ xs := by
 induction xs with
 | nil => simp [Lib.indexByte]
 | cons b l ih =>
   have hg := Lib.indexByte_ge l c
   unfold Lib.indexByte
   by_cases hb : b = c
   · subst hb; simp
   · have hb' : (b == c) = false := by simpa using hb
     have hb2 : ¬ c = b := fun e => hb e.symm
     rw [hb']
     simp only [Bool.false_eq_true, if_false, List.mem_cons, not_or]
     by_cases h1 : Lib.indexByte l c = -1
     · rw [h1]
       simp only [beq_self_eq_true, if_true]
       exact ⟨fun _ => ⟨hb2, ih.1 (by omega)⟩, fun _ => by omega⟩
     · have h2 : (Lib.indexByte l c == -1) = false := by simpa using h1
       rw [h2]
       simp only [Bool.false_eq_true, if_false]
       exact ⟨fun h => by omega, fun h => by have := ih.2 h.2; omega⟩
end Go.Proofs.YthfknndjdfofgaaGreatDoor.He

/-
 Contracts of package hello's twice, wrong, Find over this seat's translation.
-/
namespace Go.Proofs.YthfknndjdfofgaaGreatDoor.He
open Go.RowKit Go.Proofs.YthfknndjdfofgaaGreatDoor.Wd Go.Proofs.YthfknndjdfofgaaGreatDoor.Be Go.Maps

theorem keyed : Keyed Tryz.prog 3 := int_keyed Tryz.underlying3
theorem undM : Tryz.prog.underlying 206 = some (.map 3 207) := by kernel_rfl
theorem zeroU (w : World) : (zeroValue 207).run Tryz.prog w = .ok (.agg #[]) w := by kernel_rfl
theorem key_int (n : Int) (h : -9223372036854775808 ≤ n ∧ n ≤ 9223372036854775807) : keyOf Tryz.prog 3 (.int .i64 n) = some (.int .i64 n) :=
 keyOf_int_mk Tryz.underlying3 (WalkArith.wf_i64 h)
theorem owns_on {w w' : World} {b n : Nat} {D : DataW Unit} (h : w.ownsMap Tryz.prog 3 (unitElem (H := Unit)) b n D) (hb : w'.heap[b]? = w.heap[b]?) : w'.ownsMap Tryz.prog 3 (unitElem (H := Unit)) b n D := by
 obtain ⟨es, clock, hh, r⟩ := h
 exact ⟨es, clock, hb.trans hh, r⟩

def kinds (l : List Xt) : List Int := l.map (·.kind)
theorem kinds_snoc {l : List Xt} {k : Nat} {x : Xt} (h : l[k]? = some x) : kinds (l.take (k + 1)) = kinds (l.take k) ++ [x.kind] := by
 unfold kinds
 rw [List.take_add_one, h]
 simp
def twiceB (l : List Xt) : Bool := !decide (kinds l).Nodup
structure Seen (w : World) (b k : Nat) (D : DataW Unit) (l : List Xt) : Prop where
 own : w.ownsMap Tryz.prog 3 (unitElem (H := Unit)) b k D
 has : ∀ z : Int, Maps.has D (.int .i64 z) = decide (z ∈ kinds (l.take k))
 nodup : (kinds (l.take k)).Nodup

set_option maxRecDepth 100000 in
set_option maxHeartbeats 1000000 in
theorem twice_any (A : Option Addr) (n c : Nat) (l : List Xt) (w : World) (hn : l.length = n) (hm : n ≤ 140737488351232) (hs : SrcX w A l) :
   Calls Tryz.prog 168 #[.slice A n c] w fun e w' => e = .returned (.bool (twiceB l)) ∧ Below w.heap.size w w' := by
 have hmm := @run_makeMap Tryz.prog
 have HS := Lib.hid hs
 have HN := Lib.hid hn
 clear hs hn
 go_enter Tryz.func168, Tryz.ntmps168
 go_wp2
 go_loopw [11] (fun i wr => ∃ k D, k ≤ n ∧ i = .int .i64 (k : Int) ∧ Hid (Seen wr w.heap.size k D l) ∧ Hid (Below w.heap.size w wr)) (fun i _ => n - (intOf i).toNat)
 case atStart =>
   refine ⟨0, .map [], Nat.zero_le _, rfl, Lib.hid ⟨World.ownsMap_made _ _ _ _, fun z => ?_, ?_⟩, Lib.hid ((Below.refl _ _).alloc (Nat.le_refl _) _)⟩
   · simp [Maps.has, kinds]
   · simp [kinds]
 case round =>
   obtain ⟨k, D, hk, rfl, HM, HB⟩ := hrel
   by_cases hlt : k < n
   · have hki : (k : Int) < (n : Int) := by omega
     obtain ⟨x, hx⟩ : ∃ x, l[k]? = some x := ⟨_, List.getElem?_eq_getElem (by have := HN.out; omega)⟩
     obtain ⟨hok, g, o, rfl, hgw, h0, h1⟩ := HS.out k x hx
     have hk1 := hok.k1
     have hc0 := (HB.out.cell (p := ⟨g, _, none⟩) hgw).trans h0
     have hc1 := (HB.out.cell (p := ⟨g, _, none⟩) hgw).trans h1
     clear h0 h1
     have hkey := Lib.hid (key_int x.kind hk1)
     have hsz := HB.out.size
     go_upto_region 5 with fail
     have hb := Blk.new wr 70 #[Value.int .i64 x.kind, .slice x.A x.n x.c]
     have HB1 := Lib.hid (HB.out.alloc (by omega) (.cells #[Value.int .i64 x.kind, .slice x.A x.n x.c] 70))
     have HO1 := Lib.hid (owns_on (HM.out.own) (Below.heap_alloc wr (.cells #[Value.int .i64 x.kind, .slice x.A x.n x.c] 70) w.heap.size HM.out.own.lt))
     have hlt1 := hb.lt
     have hlt2 := HM.out.own.lt
     have hne : w.heap.size ≠ wr.heap.size := by omega
     generalize hW1 : wr.alloc (.cells #[Value.int .i64 x.kind, .slice x.A x.n x.c] 70) = w1 at *
     have hs1 : w1.heap.size = wr.heap.size + 1 := by rw [← hW1]; exact alloc_size _ _
     clear hW1 hc0 hc1
     generalize hr : wr.heap.size = r at *
     have hc0 : w1.cell? ⟨r, 0, none⟩ = some (.int .i64 x.kind) := by rw [hb.cell]; rfl
     have HBk := Lib.hid hb
     clear hb
     by_cases hmem : x.kind ∈ kinds (l.take k)
     · have hh := Lib.hid ((HM.out.has x.kind).trans (decide_eq_true hmem))
       have HT : Hid (twiceB l = true) := by
         unfold twiceB
         rw [decide_eq_false]
         · rfl
         intro hnd
         have h1 : kinds (l.take (k + 1)) = kinds (l.take k) ++ [x.kind] := kinds_snoc hx
         have h2 : (kinds (l.take (k + 1))).Nodup := by
           unfold kinds at *
           exact (hnd.sublist ((List.take_sublist _ _).map _))
         rw [h1, List.nodup_append] at h2
         exact absurd rfl (h2.2.2 _ hmem _ (by simp))
       clear hmem
       go_wp2_with (at_lookup; refine wpList_lookup_own_unit _ rfl _ _ 206 rfl 3 207 keyed undM (zeroU _) w.heap.size k D rfl (by exact HO1.out) _ _ rfl hkey.out ?_; rw [hh.out])
       go_ret
       rw [HT.out]
       exact ⟨rfl, HB1.out.alloc (by omega) _⟩
     · have hh := Lib.hid ((HM.out.has x.kind).trans (decide_eq_false hmem))
       have HNM := Lib.hid hmem
       clear hmem
       go_upto_region 8 with (at_lookup; refine wpList_lookup_own_unit _ rfl _ _ 206 rfl 3 207 keyed undM (zeroU _) w.heap.size k D rfl (by exact HO1.out) _ _ rfl hkey.out ?_; rw [hh.out])
       have hne1 : w.heap.size ≠ w1.heap.size := by omega
       have HO2 := Lib.hid (owns_on HO1.out (Below.heap_alloc w1 (.cells #[] 207) w.heap.size (by omega)))
       have HB2 := Lib.hid (HB1.out.alloc (by omega) (.cells #[] 207))
       have hs2 : (w1.alloc (.cells #[] 207)).heap.size = w1.heap.size + 1 := alloc_size _ _
       go_wp2_with (at_mapUpdate; refine wpList_mapUpdate_own _ rfl _ _ _ 206 rfl 3 207 keyed undM (unitElem (H := Unit)) w.heap.size k D rfl (by exact HO2.out) (by unfold maxLen; omega) _ _ _ rfl rfl hkey.out _ [] unitElem_mk ?_; intro w3 hown3 hgrow3)
       have HO3 := Lib.hid hown3
       have HB3 := Lib.hid (HB2.out.grown hgrow3 (by omega) (fun j hj => by cases hj; exact Nat.le_refl _))
       clear hown3 hgrow3
       go_roundw
       case rel =>
         have hks := kinds_snoc hx
         refine ⟨k + 1, _, by omega, by go_num, Lib.hid ⟨HO3.out, fun z => ?_, ?_⟩, HB3⟩
         · rw [hks]
           by_cases hz : z = x.kind
           · subst hz
             rw [Maps.has_put_same HO2.out.isMap (keyed.key hkey.out)]
             simp
           · rw [Maps.has_put_other (fun e => hz (by injection e)), HM.out.has]
             simp [hz]
         · rw [hks, List.nodup_append]
           exact ⟨HM.out.nodup, by simp, fun a ha b hb' e => HNM.out (by simp at hb'; subst hb' e; exact ha)⟩
       case measure => simp [intOf]; omega
   · obtain rfl : k = n := by omega
     have HT : Hid (twiceB l = false) := by
       unfold twiceB
       have := HM.out.nodup
       rw [List.take_of_length_le (by have := HN.out; omega)] at this
       rw [decide_eq_true this]
       rfl
     go_wp2
     go_ret
     rw [HT.out]
     exact ⟨rfl, HB.out⟩

theorem wS5 {h : Hel} (h3 : ¬ h.ver.tdiv 256 = 3) : wrongS h = 5 := by unfold wrongS; rw [if_pos h3]
theorem wS6 {h : Hel} (h3 : h.ver.tdiv 256 = 3) (hs : 32 < h.ses.length) : wrongS h = 6 := by unfold wrongS; rw [if_neg (by simpa using h3), if_pos hs]
theorem wS8 {h : Hel} (h3 : h.ver.tdiv 256 = 3) (hs : ¬ 32 < h.ses.length) (hm : (0 : UInt8) ∉ h.met) : wrongS h = 8 := by unfold wrongS; rw [if_neg (by simpa using h3), if_neg hs, if_pos hm]
theorem wS7 {h : Hel} (h3 : h.ver.tdiv 256 = 3) (hs : ¬ 32 < h.ses.length) (hm : (0 : UInt8) ∈ h.met) (ht : ¬ (h.exts.map (·.1)).Nodup) : wrongS h = 7 := by
 unfold wrongS; rw [if_neg (by simpa using h3), if_neg hs, if_neg (by simpa using hm), if_pos ht]
theorem wS0 {h : Hel} (h3 : h.ver.tdiv 256 = 3) (hs : ¬ 32 < h.ses.length) (hm : (0 : UInt8) ∈ h.met) (ht : (h.exts.map (·.1)).Nodup) : wrongS h = 0 := by
 unfold wrongS; rw [if_neg (by simpa using h3), if_neg hs, if_neg (by simpa using hm), if_neg (by simpa using ht)]
theorem twice_hel {l : List Xt} : twiceB l = !decide ((l.map ext).map (·.1)).Nodup := by
 unfold twiceB kinds
 rw [List.map_map]
 rfl

set_option maxRecDepth 100000 in
set_option maxHeartbeats 1000000 in
theorem wrong_any (H : Hv) (w : World) (hH : H.Ok w) :
   Calls Tryz.prog 123 #[.agg H.C] w fun e w' => e = .returned (.int .i64 (wrongS H.hel)) ∧ Below w.heap.size w w' := by
 have HE : Hid (∀ i : Int, wrongS H.hel = i → Ending.returned (.int .i64 i) = .returned (.int .i64 (wrongS H.hel))) := fun i h => by rw [h]
 have hr := hH.rnd
 go_enter Tryz.func123, Tryz.ntmps123
 go_upto_region 1 with fail
 have hb := Blk.new w 68 H.C
 have HB1 := Lib.hid ((Below.refl w.heap.size w).alloc (Nat.le_refl _) (.cells H.C 68))
 have hlt := hb.lt
 have hok := hH.below HB1.out
 generalize w.alloc (.cells H.C 68) = w1 at *
 have HK := Lib.hid hok
 have hv := hok.ver
 have hs1 := hok.s1
 have hm1 := hok.m1
 have hx1 := hok.x1
 have c0 := cell_ver hb
 have c2 := cell_ses hb hr
 have c4 := cell_met hb hr
 have c6 := cell_xs hb hr
 have HBk := Lib.hid hb
 clear hb hok hH
 have hz : H.xs.length ≤ 140737488351232 := hx1.2
 by_cases h3 : H.ver.tdiv 256 = 3
 · have hv3 := ver_in h3
   by_cases hs : 32 < H.ses.length
   · have HW := Lib.hid (wS6 (h := H.hel) h3 hs)
     go_wp2_with fail
     go_ret
     exact ⟨HE.out _ HW.out, HB1.out⟩
   · have hs' : ¬ (32 : Int) < (H.ses.length : Int) := by omega
     have HN : Hid ((Lib.indexByte H.met (0 : Int).toNat.toUInt8 < 0) ↔ (0 : UInt8) ∉ H.met) := index_neg H.met 0
     by_cases hmem : (0 : UInt8) ∈ H.met
     · have hge := Lib.hid (show ¬ (Lib.indexByte H.met (0 : Int).toNat.toUInt8 < 0) from fun h => (HN.out.1 h) hmem)
       by_cases ht : (H.hel.exts.map (·.1)).Nodup
       · have HW := Lib.hid (wS0 (h := H.hel) h3 hs hmem ht)
         have HT : Hid (twiceB H.xs = false) := by rw [twice_hel]; show (!decide (H.hel.exts.map (·.1)).Nodup) = false; rw [decide_eq_true ht]; rfl
         clear ht hmem h3
         go_wp2_with fail
         refine (index_any _ _ _ H.met _ _ HK.out.met).mono ?_
         rintro e w2 ⟨rfl, rfl⟩
         have hx2 := hge.out
         generalize Lib.indexByte H.met (0 : Int).toNat.toUInt8 = I at *
         go_wp2_with fail
         refine (twice_any _ _ _ H.xs _ rfl hz HK.out.xs).mono ?_
         rintro e w2 ⟨rfl, hb2⟩
         have HB2 := Lib.hid (HB1.out.trans (hb2.mono HB1.out.size))
         rw [HT.out]
         clear hb2
         go_wp2_with fail
         go_ret
         exact ⟨HE.out _ HW.out, HB2.out⟩
       · have HW := Lib.hid (wS7 (h := H.hel) h3 hs hmem ht)
         have HT : Hid (twiceB H.xs = true) := by rw [twice_hel]; show (!decide (H.hel.exts.map (·.1)).Nodup) = true; rw [decide_eq_false ht]; rfl
         clear ht hmem h3
         go_wp2_with fail
         refine (index_any _ _ _ H.met _ _ HK.out.met).mono ?_
         rintro e w2 ⟨rfl, rfl⟩
         have hx2 := hge.out
         generalize Lib.indexByte H.met (0 : Int).toNat.toUInt8 = I at *
         go_wp2_with fail
         refine (twice_any _ _ _ H.xs _ rfl hz HK.out.xs).mono ?_
         rintro e w2 ⟨rfl, hb2⟩
         have HB2 := Lib.hid (HB1.out.trans (hb2.mono HB1.out.size))
         rw [HT.out]
         clear hb2
         go_wp2_with fail
         go_ret
         exact ⟨HE.out _ HW.out, HB2.out⟩
     · have HW := Lib.hid (wS8 (h := H.hel) h3 hs hmem)
       have hge := Lib.hid (HN.out.2 hmem)
       clear hmem h3
       go_wp2_with fail
       refine (index_any _ _ _ H.met _ _ HK.out.met).mono ?_
       rintro e w2 ⟨rfl, rfl⟩
       have hx2 := hge.out
       generalize Lib.indexByte H.met (0 : Int).toNat.toUInt8 = I at *
       go_wp2_with fail
       go_ret
       exact ⟨HE.out _ HW.out, HB1.out⟩
 · have HW := Lib.hid (wS5 (h := H.hel) h3)
   go_wp2_with fail
   go_ret
   exact ⟨HE.out _ HW.out, HB1.out⟩
end Go.Proofs.YthfknndjdfofgaaGreatDoor.He
