/-
  Words for memory in which some blocks turn: what is kept beside them; copy, from whatever bytes, into a row of bytes that is known whole. Plain lemmas, no condition.
-/
import Derived.Test.YtgbhnjkigjecmaaGreatDoorQ04
import Derived.Deep.RegionHeldLaw
import Derived.Deep.QuietTactic
import Derived.BigQuiet
import Derived.RegionTactic
import Derived.ChangeAlike
import Derived.Deep.MidRow
import Derived.Deep.RegionHeld3
import Derived.Test.YtgbhnjkigjecmaaGreatDoorQ11
import Derived.Test.YtgbhnjkigjecmaaGreatDoorQ01
import Derived.Lib.Strings
namespace Go.Proofs.YtgbhnjkigjecmaaGreatDoor.Wd
open Go.RowKit

/-- all that was there is as it was, but for the blocks of S -/
structure But (S : List Nat) (w w' : World) : Prop where
  os : w'.os = w.os
  tape : w'.tape = w.tape
  output : w'.output = w.output
  size : w.heap.size ≤ w'.heap.size
  block : ∀ i, i < w.heap.size → i ∉ S → w'.heap[i]? = w.heap[i]?
section
variable {S T : List Nat} {a b c w w' : World}
theorem But.refl (S : List Nat) (w : World) : But S w w := ⟨rfl, rfl, rfl, Nat.le_refl _, fun _ _ _ => rfl⟩
theorem But.trans (h : But S a b) (k : But S b c) : But S a c :=
  ⟨k.os.trans h.os, k.tape.trans h.tape, k.output.trans h.output, Nat.le_trans h.size k.size, fun i hi hn => (k.block i (Nat.lt_of_lt_of_le hi h.size) hn).trans (h.block i hi hn)⟩
theorem But.more (h : But S a b) (hS : ∀ i ∈ S, i ∈ T) : But T a b := ⟨h.os, h.tape, h.output, h.size, fun i hi hn => h.block i hi (fun hm => hn (hS i hm))⟩
theorem But.none (h : But [] a b) (T : List Nat) : But T a b := h.more (fun _ h => by cases h)
theorem But.of_below (h : Below w.heap.size w w') (S : List Nat) : But S w w' := ⟨h.os, h.tape, h.output, h.size, fun i hi _ => h.block i hi⟩
theorem But.below {B : Nat} (h : But S w w') (hS : ∀ i ∈ S, B ≤ i) (hB : B ≤ w.heap.size) : Below B w w' :=
  ⟨h.os, h.tape, h.output, h.size, fun i hi => h.block i (Nat.lt_of_lt_of_le hi hB) (fun hm => by have := hS i hm; omega)⟩
/-- what turned lies beyond all that was there -/
theorem But.fresh (h : But S a b) (hS : ∀ i ∈ S, a.heap.size ≤ i) : But [] a b :=
  ⟨h.os, h.tape, h.output, h.size, fun i hi _ => h.block i hi (fun hm => by have := hS i hm; omega)⟩
theorem But.drew (h : But S a w) : But S a w.drew := ⟨h.os, h.tape, h.output, h.size, h.block⟩
theorem But.drewN (h : But S a w) (k : Nat) : But S a (w.drewN k) := ⟨h.os, h.tape, h.output, h.size, h.block⟩
theorem But.alloc (h : But S a w) (o : Obj) : But S a (w.alloc o) :=
  ⟨h.os, h.tape, h.output, Nat.le_trans h.size (by simp), fun i hi hn => (Below.heap_alloc w o i (Nat.lt_of_lt_of_le hi h.size)).trans (h.block i hi hn)⟩
theorem But.set_ (h : But S a w) {p : Addr} (hp : p.block ∈ S ∨ a.heap.size ≤ p.block) (u : Value) : But S a (w.setCell p u) :=
  ⟨h.os, h.tape, h.output, by simpa [World.setCell] using h.size, fun i hi hn => (Below.heap_setCell w p u i (by
    rintro rfl
    rcases hp with hp | hp
    · exact hn hp
    · omega)).trans (h.block i hi hn)⟩
theorem But.row (h : But S a w) {g : Nat} (hp : g ∈ S ∨ a.heap.size ≤ g) (cs : Array Value) : But S a (w.setRow g cs) :=
  ⟨h.os, h.tape, h.output, by simpa [World.setRow] using h.size, fun i hi hn => by
    have hne : i ≠ g := by
      rintro rfl
      rcases hp with hp | hp
      · exact hn hp
      · omega
    have : (w.setRow g cs).heap[i]? = w.heap[i]? := by
      simp only [World.setRow]
      rw [Array.getElem?_modify, if_neg (fun e => hne e.symm)]
    exact this.trans (h.block i hi hn)⟩
theorem Blk.but {g t : Nat} {cs : Array Value} (h : Blk w g t cs) (k : But S w w') (hg : g ∉ S) : Blk w' g t cs := (k.block g h.lt hg).trans h
theorem But.cell (k : But S w w') {p : Addr} (hp : p.block < w.heap.size) (hS : p.block ∉ S) : w'.cell? p = w.cell? p := World.cell?_of_block (k.block p.block hp hS)
theorem But.cell_none (k : But [] w w') {p : Addr} {v : Value} (h : w.cell? p = some v) : w'.cell? p = some v := by
  rw [← h]
  exact k.cell (World.block_lt_of_cell? w p h) (by simp)
theorem Src.but {A : Option Addr} {n : Nat} {xs : List UInt8} (h : Src w A n xs) (k : But S w w') (hA : 0 < n → ∀ x, A = some x → x.block ∉ S) : Src w' A n xs :=
  ⟨h.1, fun hn => by
    obtain ⟨ad, e, hlt, hc⟩ := h.2 hn
    exact ⟨ad, e, Nat.lt_of_lt_of_le hlt k.size, fun j c hj => (k.cell (by rw [block_of_add]; exact hlt) (by rw [block_of_add]; exact hA hn ad e)).trans (hc j c hj)⟩⟩
theorem Src.same {A : Option Addr} {n : Nat} {xs : List UInt8} (h : Src w A n xs) (k : But [] w w') : Src w' A n xs := h.but k (fun _ _ _ => by simp)
/-- bytes in a block below B -/
theorem Src.put {A : Option Addr} {n : Nat} {xs : List UInt8} {B : Nat} (h : Src w A n xs) (k : Below B w w') (hB : w.heap.size ≤ B) : Src w' A n xs := h.below (k.mono hB)
end

/-- the address of a cut -/
def slid (A : Option Addr) (m l : Nat) : Option Addr := if m = l then A else A.map (·.add l)
theorem slid_zero (A : Option Addr) (m : Nat) : slid A m 0 = A := by
  unfold slid
  split
  · rfl
  · cases A <;> simp [Addr.add]
theorem slid_at (g R t : Nat) (h : t ≠ R) : slid (some ⟨g, 0, none⟩) R t = some ⟨g, t, none⟩ := by
  unfold slid
  rw [if_neg (fun e => h e.symm)]
  simp [Addr.add]
  omega
theorem slid_block {A : Option Addr} {m l : Nat} {x : Addr} (h : slid A m l = some x) : ∃ y, A = some y ∧ y.block = x.block := by
  unfold slid at h
  split at h
  · exact ⟨x, h, rfl⟩
  · cases A with
    | none => cases h
    | some y => injection h with h; subst h; exact ⟨y, rfl, (block_of_add y l).symm⟩
/-- what a cut leads to: from l up to hi of what it led to -/
theorem Src.cut {w : World} {A : Option Addr} {n m l hi : Nat} {xs : List UInt8} (h : Src w A n xs) (h1 : l ≤ hi) (h2 : hi ≤ n) (hm : n ≤ m) : Src w (slid A m l) (hi - l) ((xs.take hi).drop l) := by
  refine ⟨by rw [List.length_drop, List.length_take, h.1]; omega, fun hp => ?_⟩
  obtain ⟨ad, rfl, hlt, hc⟩ := h.2 (by omega)
  refine ⟨ad.add l, by unfold slid; rw [if_neg (by omega)]; rfl, by rw [block_of_add]; exact hlt, fun j c hj => ?_⟩
  rw [add_of_add]
  refine hc _ _ ?_
  rw [List.getElem?_drop, List.getElem?_take] at hj
  split at hj
  · exact hj
  · cases hj
/-- what a longer slice leads to, its first ones -/
theorem Src.take {w : World} {A : Option Addr} {n k : Nat} {xs : List UInt8} (h : Src w A n xs) (hk : k ≤ n) : Src w A k (xs.take k) := by
  have := h.cut (m := n) (l := 0) (hi := k) (Nat.zero_le _) hk (Nat.le_refl _)
  rwa [slid_zero, Nat.sub_zero, List.drop_zero] at this
section
variable {P : Program} {t e : TypeId} (ht : P.underlying t = some (.slice e)) (hs : (P.info? e).map (·.size) = some 1) (A : Option Addr) (n c : Nat) (w : World)
include ht hs
omit ht in
theorem size_one : (sizeOf e).run P w = .ok 1 w := by
  cases hq : P.info? e with
  | none => simp [hq] at hs
  | some i =>
    have hi : i.size = 1 := by simpa [hq] using hs
    simp [sizeOf, typeInfo, hq, hi]
theorem slice_from (l : Nat) (hl : l ≤ n) : (Instr.sliceAt t (.slice A n c) (some (.int .i64 (l : Int))) none none).run P w = .ok (.slice (slid A c l) (n - l) (c - l)) w := by
  have h1 := size_one (w := w) hs
  simp [Instr.sliceAt, Instr.slice, run_underlying ht, Instr.sliceBounds, run_sliceBound, h1, slid, (by omega : (l : Int) ≤ (n : Int))]
theorem slice_to (h : Nat) (hh : h ≤ c) : (Instr.sliceAt t (.slice A n c) none (some (.int .i64 (h : Int))) none).run P w = .ok (.slice A h c) w := by
  have h1 := size_one (w := w) hs
  simp [Instr.sliceAt, Instr.slice, run_underlying ht, Instr.sliceBounds, run_sliceBound, h1, (by omega : (h : Int) ≤ (c : Int)), Addr.add]
theorem slice_mid (l h : Nat) (hl : l ≤ h) (hh : h ≤ c) : (Instr.sliceAt t (.slice A n c) (some (.int .i64 (l : Int))) (some (.int .i64 (h : Int))) none).run P w = .ok (.slice (slid A c l) (h - l) (c - l)) w := by
  have h1 := size_one (w := w) hs
  simp [Instr.sliceAt, Instr.slice, run_underlying ht, Instr.sliceBounds, run_sliceBound, h1, slid, (by omega : (h : Int) ≤ (c : Int)), (by omega : (l : Int) ≤ (h : Int))]
end

theorem cellsOf_splice (L : List UInt8) (off : Nat) (cs : List UInt8) : cellsOf (splice L off cs) = splice (cellsOf L) off (cellsOf cs) := by
  simp [splice, cellsOf, List.map_take, List.map_drop]
theorem splice_get {α : Type} (L : List α) (off : Nat) (cs : List α) (h : off + cs.length ≤ L.length) (j : Nat) :
    (splice L off cs)[j]? = if off ≤ j ∧ j < off + cs.length then cs[j - off]? else L[j]? := by
  unfold splice
  by_cases h1 : j < off
  · rw [List.getElem?_append_left (by rw [List.length_take]; omega), List.getElem?_take, if_pos h1, if_neg (by omega)]
  · have e : (L.take off).length = off := by rw [List.length_take]; omega
    rw [List.getElem?_append_right (by omega), e]
    by_cases h2 : j < off + cs.length
    · rw [List.getElem?_append_left (by omega), if_pos ⟨by omega, h2⟩]
    · rw [List.getElem?_append_right (by omega), List.getElem?_drop, if_neg (by omega)]
      congr 1
      omega

section
variable {P : Program} {w : World}
theorem run_copy_b {dT sT ty : TypeId} (hu : P.underlying dT = some (.slice 5)) (hz : (P.info? 5).map (·.size) = some 1) {p off dLen dCap sLen sCap : Nat} {dp A : Option Addr} {ps xs : List UInt8}
    (hb : Blk w p 5 (cellsOf ps).toArray) (hs : Src w A sLen xs) (hdp : 0 < dLen → dp = some ⟨p, off, none⟩) (hfit : off + min sLen dLen ≤ ps.length) :
    ∃ w', (Builtin.copy_ #[dT, sT] ty #[.slice dp dLen dCap, .slice A sLen sCap]).run P w = .ok (.int .i64 ((min sLen dLen : Nat) : Int)) w' ∧ Blk w' p 5 (cellsOf (splice ps off (xs.take dLen))).toArray ∧ But [p] w w' := by
  have hl := hs.1
  by_cases h0 : min sLen dLen = 0
  · refine ⟨w, ?_, ?_, But.refl _ _⟩
    · rw [run_copy_none w dT sT ty 5 dp A dLen dCap sLen sCap hu hz h0, h0]; rfl
    · have : xs.take dLen = [] := List.eq_nil_of_length_eq_zero (by rw [List.length_take, hl]; omega)
      rw [this, show splice ps off [] = ps by simp [splice]]
      exact hb
  · obtain rfl := hdp (by omega)
    obtain ⟨ad, rfl, _, hc⟩ := hs.2 (by omega)
    have hlen : (cellsOf (xs.take dLen)).length = min sLen dLen := by rw [cellsOf_length, List.length_take, hl, Nat.min_comm]
    refine ⟨w.setRow p ((cellsOf ps).toArray.toList.take off ++ cellsOf (xs.take dLen) ++ (cellsOf ps).toArray.toList.drop (off + (cellsOf (xs.take dLen)).length)).toArray, ?_, ?_, (But.refl [p] w).row (g := p) (.inl (List.mem_singleton.2 rfl)) _⟩
    · rw [run_copy_row (P := P) w dT sT ty 5 p off dLen dCap ad sLen sCap (cellsOf ps).toArray 5 (cellsOf (xs.take dLen)) hu hz hb hlen ?_ (by rw [hlen]; simpa [cellsOf_length] using hfit) (cellsOf_one _), hlen]
      · rfl
      · intro j v hj
        simp only [cellsOf, List.getElem?_map, Option.map_eq_some_iff] at hj
        obtain ⟨x, hx, rfl⟩ := hj
        rw [List.getElem?_take] at hx
        split at hx
        · exact hc j x hx
        · cases hx
    · have := setRow_heap w p (cellsOf ps).toArray (((cellsOf ps).toArray.toList.take off ++ cellsOf (xs.take dLen) ++ (cellsOf ps).toArray.toList.drop (off + (cellsOf (xs.take dLen)).length)).toArray) 5 (0, 0) hb
      unfold Blk
      rw [cellsOf_splice]
      unfold splice
      rw [← List.append_assoc]
      simpa using this

theorem step_copy_b {ops : Array Oper} {o : Oper} {a : Act} {K : Act → World → Prop} {Q : Exit → Act → World → Prop} {E : Prop} (dst : Option Tmp) (hdst : o.dst = dst) (hgd : o.guard = none) (d s : Operand) (dT sT : TypeId)
    (ho : o.op = .call { callee := .builtin .copy, args := #[d, s], argTypes := #[dT, sT] }) (hu : P.underlying dT = some (.slice 5)) (hz : (P.info? 5).map (·.size) = some 1)
    (p off dLen dCap sLen sCap : Nat) (dp A : Option Addr) (ps xs : List UInt8) (hd : a.eval d = .slice dp dLen dCap) (hx : a.eval s = .slice A sLen sCap)
    (hb : Blk w p 5 (cellsOf ps).toArray) (hs : Src w A sLen xs) (hdp : 0 < dLen → dp = some ⟨p, off, none⟩) (hfit : off + min sLen dLen ≤ ps.length)
    (h : ∀ w', Hid (Blk w' p 5 (cellsOf (splice ps off (xs.take dLen))).toArray) → But [p] w w' → K (a.put dst (.int .i64 ((min sLen dLen : Nat) : Int))) w') :
    if Region.wanted o (yielded ops a.tmps) = true then Oper.wp P o a w K Q else E := by
  subst hdst
  have hw : Region.wanted o (yielded ops a.tmps) = true := by simp [Region.wanted, hgd]
  rw [if_pos hw]
  obtain ⟨w', hrun, h2, h3⟩ := run_copy_b (dT := dT) (sT := sT) (ty := o.type) (dCap := dCap) (sCap := sCap) hu hz hb hs hdp hfit
  unfold Oper.wp execOp
  simp only [ho, resolve, invoke, builtin, Sem.run_bind, Sem.run_pure, Result.andThen_ok, List.map_toArray, List.map_cons, List.map_nil, hd, hx, hrun]
  exact h w' h2 h3
end

section
variable {P : Program} {w : World}
/-- min and max of two numbers, the answer under one name -/
theorem wpList_min2 {ops : Array Oper} {rest : List Oper} {o : Oper} {a : Act} {Q : Exit → Act → World → Prop} (dst : Option Tmp) (hdst : o.dst = dst) (hgd : o.guard = none) (s x : Operand) (ts : Array TypeId)
    (ho : o.op = .call { callee := .builtin .min, args := #[s, x], argTypes := ts }) (y z M : Int) (hs : a.eval s = .int .i64 y) (hx : a.eval x = .int .i64 z) (hM : M = if z < y then z else y)
    (h : wpList P ops Q rest (a.put dst (.int .i64 M)) w) : wpList P ops Q (o :: rest) a w := by
  subst hdst hM
  refine wpList_plain hgd fun K hK => ?_
  unfold Oper.wp execOp
  simp only [ho, resolve, invoke, builtin, Sem.run_bind, Sem.run_pure, Result.andThen_ok, List.map_toArray, List.map_cons, List.map_nil, hs, hx, run_min_int2]
  exact hK _ _ h
theorem wpList_max2 {ops : Array Oper} {rest : List Oper} {o : Oper} {a : Act} {Q : Exit → Act → World → Prop} (dst : Option Tmp) (hdst : o.dst = dst) (hgd : o.guard = none) (s x : Operand) (ts : Array TypeId)
    (ho : o.op = .call { callee := .builtin .max, args := #[s, x], argTypes := ts }) (y z M : Int) (hs : a.eval s = .int .i64 y) (hx : a.eval x = .int .i64 z) (hM : M = if y < z then z else y)
    (h : wpList P ops Q rest (a.put dst (.int .i64 M)) w) : wpList P ops Q (o :: rest) a w := by
  subst hdst hM
  refine wpList_plain hgd fun K hK => ?_
  unfold Oper.wp execOp
  simp only [ho, resolve, invoke, builtin, Sem.run_bind, Sem.run_pure, Result.andThen_ok, List.map_toArray, List.map_cons, List.map_nil, hs, hx, run_max_int2]
  exact hK _ _ h
theorem step_min2 {ops : Array Oper} {o : Oper} {a : Act} {K : Act → World → Prop} {Q : Exit → Act → World → Prop} {E : Prop} (dst : Option Tmp) (hdst : o.dst = dst) (hgd : o.guard = none) (s x : Operand) (ts : Array TypeId)
    (ho : o.op = .call { callee := .builtin .min, args := #[s, x], argTypes := ts }) (y z M : Int) (hs : a.eval s = .int .i64 y) (hx : a.eval x = .int .i64 z) (hM : M = if z < y then z else y)
    (h : K (a.put dst (.int .i64 M)) w) : if Region.wanted o (yielded ops a.tmps) = true then Oper.wp P o a w K Q else E := by
  subst hdst hM
  have hw : Region.wanted o (yielded ops a.tmps) = true := by simp [Region.wanted, hgd]
  rw [if_pos hw]
  unfold Oper.wp execOp
  simp only [ho, resolve, invoke, builtin, Sem.run_bind, Sem.run_pure, Result.andThen_ok, List.map_toArray, List.map_cons, List.map_nil, hs, hx, run_min_int2]
  exact h
theorem step_max2 {ops : Array Oper} {o : Oper} {a : Act} {K : Act → World → Prop} {Q : Exit → Act → World → Prop} {E : Prop} (dst : Option Tmp) (hdst : o.dst = dst) (hgd : o.guard = none) (s x : Operand) (ts : Array TypeId)
    (ho : o.op = .call { callee := .builtin .max, args := #[s, x], argTypes := ts }) (y z M : Int) (hs : a.eval s = .int .i64 y) (hx : a.eval x = .int .i64 z) (hM : M = if y < z then z else y)
    (h : K (a.put dst (.int .i64 M)) w) : if Region.wanted o (yielded ops a.tmps) = true then Oper.wp P o a w K Q else E := by
  subst hdst hM
  have hw : Region.wanted o (yielded ops a.tmps) = true := by simp [Region.wanted, hgd]
  rw [if_pos hw]
  unfold Oper.wp execOp
  simp only [ho, resolve, invoke, builtin, Sem.run_bind, Sem.run_pure, Result.andThen_ok, List.map_toArray, List.map_cons, List.map_nil, hs, hx, run_max_int2]
  exact h
end
end Go.Proofs.YtgbhnjkigjecmaaGreatDoor.Wd

/-
  Structs in blocks: loaded and stored whole, handed back out of a block; one operation of a region that draws, taken by hand. Plain lemmas, no condition (XAdFns' and XRet's, for seats without packages addr and hello).
-/
namespace Go.Proofs.YtgbhnjkigjecmaaGreatDoor.St
open Go.RowKit Go.Proofs.YtgbhnjkigjecmaaGreatDoor.Wd

/-- a variable of n cells is loaded whole -/
theorem go_ld {ops : Array Oper} {rest : List Oper} {o : Oper} {a : Act} {w : World} {Q : Exit → Act → World → Prop} {x : Operand} {g t n : Nat} {C : Array Value} {d : TypeDesc} (ty : TypeId) (hb : Blk w g t C) (hu : Tryz.prog.underlying ty = some d)
    (hd : d.isRow = true) (hi : (Tryz.prog.info? ty).map (·.size) = some n) (hn : C.size = n) (hgd : o.guard = none) (ho : o.op = .load ty x)
    (hx : a.eval x = .pointer (some ⟨g, 0, none⟩)) (h : wpList Tryz.prog ops Q rest (a.put o.dst (.agg C)) w) : wpList Tryz.prog ops Q (o :: rest) a w :=
  wpList_load_row hgd ty x ho g hx t C (0, 0) d hb hu (by cases d <;> first | rfl | cases hd) (by rw [hi, hn]) h
/-- a variable of n cells is stored whole -/
theorem go_st {ops : Array Oper} {rest : List Oper} {o : Oper} {a : Act} {w : World} {Q : Exit → Act → World → Prop} {x y : Operand} {g t n : Nat} {C D : Array Value} (ty : TypeId) (hb : Blk w g t C)
    (hi : (Tryz.prog.info? ty).map (·.size) = some n) (hn : C.size = n) (hm : D.size = n) (h1 : D.all (·.oneCell') = true) (hgd : o.guard = none) (ho : o.op = .store ty x y)
    (hx : a.eval x = .pointer (some ⟨g, 0, none⟩)) (hy : a.eval y = .agg D) (h : wpList Tryz.prog ops Q rest (a.put o.dst undef) (w.setRow g D)) : wpList Tryz.prog ops Q (o :: rest) a w :=
  wpList_store_row hgd ty x y ho g D hx hy t C hb (by rw [hi, hm]) (by rw [hn, hm]) h1 h
theorem setRow_blk {w : World} {g : Nat} {t : TypeId} {old new : Array Value} (h : Blk w g t old) : Blk (w.setRow g new) g t new := by
  have h' : w.heap[g]? = some (.cells old t (0, 0)) := h
  have hg := h.lt
  unfold Blk
  simp only [World.setRow]
  rw [Array.getElem?_modify]
  simp [h']
theorem setRow_far {w : World} {g k : Nat} (hk : k ≠ g) (new : Array Value) : (w.setRow g new).heap[k]? = w.heap[k]? := by
  simp only [World.setRow]
  rw [Array.getElem?_modify, if_neg (fun e => hk e.symm)]
theorem setRow_below {B g : Nat} {a w : World} {t : TypeId} {old : Array Value} (h : Below B a w) (_hb : Blk w g t old) (hg : B ≤ g) (new : Array Value) : Below B a (w.setRow g new) := by
  refine ⟨h.os, h.tape, h.output, ?_, fun i hi => ?_⟩
  · have := h.size
    simpa [World.setRow] using this
  · rw [setRow_far (by omega)]
    exact h.block i hi

/-- the one result lies in a block that was stored whole -/
theorem ret_row {fn : Func} {p : Tmp} {ty t : TypeId} {a : Act} {w : World} {g n : Nat} {old C : Array Value} {d : TypeDesc} {R : Ending → World → Prop} (hf : fn.results = #[.cell p ty]) (hb : Blk w g t old) (hu : Tryz.prog.underlying ty = some d)
    (hd : d.isRow = true) (hi : (Tryz.prog.info? ty).map (·.size) = some n) (hn : C.size = n) (hp : a.tmps.getD p undef = .pointer (some ⟨g, 0, none⟩)) (h : R (.returned (.agg C)) (w.setRow g C)) (hdf : a.defers = []) : bodyPost Tryz.prog fn R .ret a (w.setRow g C) :=
  bodyPost_ret (results_cell_row hf _ _ g t C (0, 0) d hp (setRow_blk hb) hu (by cases d <;> first | rfl | cases hd) (by rw [hi, hn])) hdf h
theorem blk_at (w : World) (t : TypeId) (cs cs' : Array Value) (g : Nat) (hg : g = w.heap.size) (hc : cs = cs') : Blk (w.alloc (.cells cs t)) g t cs' := by
  subst hg hc
  exact Blk.new w t cs
theorem alloc_size (w : World) (o : Obj) : (w.alloc o).heap.size = w.heap.size + 1 := by simp

/-- one result, in a block -/
theorem ret_one {fn : Func} {p : Tmp} {ty t : TypeId} {a : Act} {w : World} {g n : Nat} {C : Array Value} {d : TypeDesc} {R : Ending → World → Prop} (hf : fn.results = #[.cell p ty]) (hb : Blk w g t C) (hu : Tryz.prog.underlying ty = some d)
    (hd : d.isRow = true) (hi : (Tryz.prog.info? ty).map (·.size) = some n) (hn : C.size = n) (hp : a.tmps.getD p undef = .pointer (some ⟨g, 0, none⟩)) (h : R (.returned (.agg C)) w) (hdf : a.defers = []) : bodyPost Tryz.prog fn R .ret a w :=
  bodyPost_ret (results_cell_row hf _ _ g t C (0, 0) d hp hb hu (by cases d <;> first | rfl | cases hd) (by rw [hi, hn])) hdf h
/-- two results, the first one in a block -/
theorem ret_two {fn : Func} {p q : Tmp} {ty t : TypeId} {a : Act} {w : World} {g n : Nat} {C : Array Value} {v : Value} {d : TypeDesc} {R : Ending → World → Prop} (hf : fn.results = #[.cell p ty, .tmp q]) (hb : Blk w g t C) (hu : Tryz.prog.underlying ty = some d)
    (hd : d.isRow = true) (hi : (Tryz.prog.info? ty).map (·.size) = some n) (hn : C.size = n) (hp : a.tmps.getD p undef = .pointer (some ⟨g, 0, none⟩)) (hq : a.tmps.getD q undef = v) (h : R (.returned (.tuple #[.agg C, v])) w) (hdf : a.defers = []) : bodyPost Tryz.prog fn R .ret a w := by
  have hp' : a.tmps[p]?.getD undef = .pointer (some ⟨g, 0, none⟩) := by simpa using hp
  have hq' : a.tmps[q]?.getD undef = v := by simpa using hq
  have hl := run_loadVar_row w g t ty C (0, 0) d hb hu (by cases d <;> first | rfl | cases hd) (by rw [hi, hn])
  exact bodyPost_ret (v := .tuple #[.agg C, v]) (by simp [results, hf, hp', hq', asAddr, hl]) hdf h
/-- one operation of a drawn region taken first, its place given -/
theorem hd_take {P : Program} {ops : Array Oper} {Q : Exit → Act → World → Prop} {md : Region.Mode} {S : World → Prop} (i : Nat) (dst : Option Tmp) (v : Value) {oi : Oper} {fuel : Nat} {listed : Array Bool} {a : Act} {w : World} (hi : ops[i]? = some oi) (hd : oi.dst = dst)
    (hs : Region.noSelect ops = true) (hf : Region.free md ops listed i = true) (hr : (Region.ready md ops listed).contains i = true)
    (hQ : ∀ c a w, Q (.panic c) (a.put oi.dst v) w → Q (.panic c) a w) (hy : YieldsIf P ops S oi v a) (hS : S w)
    (h : wpAnyH P md ops Q S fuel (listed.setIfInBounds i true) (a.put dst v) w) : wpAnyH P md ops Q S (fuel + 1) listed a w := by
  subst hd
  exact wpAnyH_take hi hs hf hr hQ hy hS h
theorem only_row (w : World) (g : Nat) (C : Array Value) : w.grownBy (w.setRow g C) (some g) := by
  have hB := (But.refl [g] w).row (g := g) (.inl (List.mem_singleton.2 rfl)) C
  exact ⟨hB.os, hB.tape, hB.output, hB.size, fun i hi hn => hB.block i hi (fun hm => hn (by rw [List.mem_singleton.1 hm]))⟩
/-- what turned lies beyond what was there: only row stays named -/
theorem only_new {a w w' : World} {row : Option Nat} {g : Nat} (h : a.grownBy w row) (hb : w.grownBy w' (some g)) (hg : a.heap.size ≤ g) : a.grownBy w' row :=
  ⟨hb.os.trans h.os, hb.tape.trans h.tape, hb.output.trans h.output, Nat.le_trans h.size hb.size, fun i hi hne => (hb.block i (Nat.lt_of_lt_of_le hi h.size) (fun e => by injection e with e; omega)).trans (h.block i hi hne)⟩
/-- a variable of n cells is loaded whole, under a guard that wants it -/
theorem go_ldg {ops : Array Oper} {rest : List Oper} {o : Oper} {a : Act} {w : World} {Q : Exit → Act → World → Prop} {x : Operand} {g t n : Nat} {C : Array Value} {d : TypeDesc} (ty : TypeId) (hb : Blk w g t C) (hu : Tryz.prog.underlying ty = some d)
    (hd : d.isRow = true) (hi : (Tryz.prog.info? ty).map (·.size) = some n) (hn : C.size = n) (hw : Region.wanted o (yielded ops a.tmps) = true) (ho : o.op = .load ty x)
    (hx : a.eval x = .pointer (some ⟨g, 0, none⟩)) (h : wpList Tryz.prog ops Q rest (a.put o.dst (.agg C)) w) : wpList Tryz.prog ops Q (o :: rest) a w := by
  show if Region.wanted o (yielded ops a.tmps) = true then _ else _
  rw [if_pos hw]
  exact .inl (wp_load_row ty x ho g hx t C (0, 0) d hb hu (by cases d <;> first | rfl | cases hd) (by rw [hi, hn]) h)
end Go.Proofs.YtgbhnjkigjecmaaGreatDoor.St

/-
  Verdicts of layer 16 as they lie in memory: stored and loaded whole; the document's own Same of two. Plain lemmas, and a contract; no condition.
-/
namespace Go.Proofs.YtgbhnjkigjecmaaGreatDoor.Hp
open Go.RowKit Go.Proofs.YtgbhnjkigjecmaaGreatDoor.Wd

theorem undV : Tryz.prog.underlying 31 = some (.struct (Tryz.prog.fieldsOf 31)) := by kernel_rfl
theorem infV : (Tryz.prog.info? 31).map (·.size) = some 11 := by kernel_rfl
theorem undS : Tryz.prog.underlying 29 = some (.struct (Tryz.prog.fieldsOf 29)) := by kernel_rfl
theorem infS : (Tryz.prog.info? 29).map (·.size) = some 5 := by kernel_rfl
/-- a verdict as it lies in memory: nothing is seen in it -/
def vH (z o u r : Int) (H : ByteArray) (p : Int) : Array Value := #[.int .i64 z, .int .i64 o, .int .i64 u, .int .i64 r, .string H, .int .i64 p, .bool false, .string ⟨#[]⟩, .slice none 0 0, .slice none 0 0, .bool false]
theorem vH_size (z o u r : Int) (H : ByteArray) (p : Int) : (vH z o u r H p).size = 11 := rfl
theorem vH_one (z o u r : Int) (H : ByteArray) (p : Int) : (vH z o u r H p).all (·.oneCell') = true := by simp [vH, Value.oneCell']
def zS : Array Value := #[.bool false, .string ⟨#[]⟩, .slice none 0 0, .slice none 0 0, .bool false]
theorem set11 (a0 a1 a2 a3 a4 a5 a6 a7 a8 a9 a10 x0 x1 x2 x3 x4 x5 x6 x7 x8 x9 x10 : Value) : ((((((((((((#[a0, a1, a2, a3, a4, a5, a6, a7, a8, a9, a10] : Array Value).setIfInBounds 0 x0).setIfInBounds 1 x1).setIfInBounds 2 x2).setIfInBounds 3 x3).setIfInBounds 4 x4).setIfInBounds 5 x5).setIfInBounds 6 x6).setIfInBounds 7 x7).setIfInBounds 8 x8).setIfInBounds 9 x9).setIfInBounds 10 x10) = #[x0, x1, x2, x3, x4, x5, x6, x7, x8, x9, x10] := by simp
theorem eleven (w : World) (g : Nat) (t : TypeId) (a0 a1 a2 a3 a4 a5 a6 a7 a8 a9 a10 x0 x1 x2 x3 x4 x5 x6 x7 x8 x9 x10 : Value) (h : Blk w g t #[a0, a1, a2, a3, a4, a5, a6, a7, a8, a9, a10]) :
    Blk (((((((((((w.setCell ⟨g, 0, none⟩ x0).setCell ⟨g, 1, none⟩ x1).setCell ⟨g, 2, none⟩ x2).setCell ⟨g, 3, none⟩ x3).setCell ⟨g, 4, none⟩ x4).setCell ⟨g, 5, none⟩ x5).setCell ⟨g, 6, none⟩ x6).setCell ⟨g, 7, none⟩ x7).setCell ⟨g, 8, none⟩ x8).setCell ⟨g, 9, none⟩ x9).setCell ⟨g, 10, none⟩ x10) g t #[x0, x1, x2, x3, x4, x5, x6, x7, x8, x9, x10] ∧ w.grownBy (((((((((((w.setCell ⟨g, 0, none⟩ x0).setCell ⟨g, 1, none⟩ x1).setCell ⟨g, 2, none⟩ x2).setCell ⟨g, 3, none⟩ x3).setCell ⟨g, 4, none⟩ x4).setCell ⟨g, 5, none⟩ x5).setCell ⟨g, 6, none⟩ x6).setCell ⟨g, 7, none⟩ x7).setCell ⟨g, 8, none⟩ x8).setCell ⟨g, 9, none⟩ x9).setCell ⟨g, 10, none⟩ x10) (some g) := by
  refine ⟨?_, ?_⟩
  · have h1 := (((((((((((h.set_ 0 x0).set_ 1 x1).set_ 2 x2).set_ 3 x3).set_ 4 x4).set_ 5 x5).set_ 6 x6).set_ 7 x7).set_ 8 x8).set_ 9 x9).set_ 10 x10)
    rwa [set11] at h1
  · exact (only_setCell (p := ⟨g, 10, none⟩) (only_setCell (p := ⟨g, 9, none⟩) (only_setCell (p := ⟨g, 8, none⟩) (only_setCell (p := ⟨g, 7, none⟩) (only_setCell (p := ⟨g, 6, none⟩) (only_setCell (p := ⟨g, 5, none⟩) (only_setCell (p := ⟨g, 4, none⟩) (only_setCell (p := ⟨g, 3, none⟩) (only_setCell (p := ⟨g, 2, none⟩) (only_setCell (p := ⟨g, 1, none⟩) (only_setCell (p := ⟨g, 0, none⟩) (only_refl w _) (.inl rfl) _) (.inl rfl) _) (.inl rfl) _) (.inl rfl) _) (.inl rfl) _) (.inl rfl) _) (.inl rfl) _) (.inl rfl) _) (.inl rfl) _) (.inl rfl) _) (.inl rfl) _)
theorem range_h {w : World} {g t : Nat} {z o u r p : Int} {H : ByteArray} (h : Blk w g t (vH z o u r H p)) : w.rangeAt g 6 zS.toList := fun j v hv => by
  rw [h.cell]
  rcases j with _ | _ | _ | _ | _ | j
  · simpa [zS, vH] using hv
  · simpa [zS, vH] using hv
  · simpa [zS, vH] using hv
  · simpa [zS, vH] using hv
  · simpa [zS, vH] using hv
  · simp [zS] at hv
theorem verd_new (w : World) (C : Array Value) : Blk ((w.alloc (.cells #[Value.int .i64 0, .int .i64 0, .int .i64 0, .int .i64 0, .string ⟨#[]⟩, .int .i64 0, .bool false, .string ⟨#[]⟩, .slice none 0 0, .slice none 0 0, .bool false] 31)).setRow w.heap.size C) w.heap.size 31 C ∧ Below w.heap.size w ((w.alloc (.cells #[Value.int .i64 0, .int .i64 0, .int .i64 0, .int .i64 0, .string ⟨#[]⟩, .int .i64 0, .bool false, .string ⟨#[]⟩, .slice none 0 0, .slice none 0 0, .bool false] 31)).setRow w.heap.size C) :=
  ⟨St.setRow_blk (Blk.new _ _ _), St.setRow_below ((Below.refl _ _).alloc (Nat.le_refl _) _) (Blk.new _ _ _) (Nat.le_refl _) _⟩
/-- what All answers -/
def AllHP (xs : List UInt8) (w : World) (e : Ending) (w' : World) : Prop :=
  e = .returned (.agg (vH (allH xs).z 2 (allH xs).u (allH xs).r ⟨(allH xs).h.toArray⟩ (allH xs).p)) ∧ Below w.heap.size w w'
end Go.Proofs.YtgbhnjkigjecmaaGreatDoor.Hp

/-
  A request as it lies in memory, and '==' of two of them. Plain lemmas, no condition.
-/
namespace Go.Proofs.YtgbhnjkigjecmaaGreatDoor.Rl
open Go.RowKit Go.Proofs.YtgbhnjkigjecmaaGreatDoor.Wd Go.Proofs.YtgbhnjkigjecmaaGreatDoor.Asc Go.Proofs.YtgbhnjkigjecmaaGreatDoor.Tx Go.Proofs.YtgbhnjkigjecmaaGreatDoor.St

/-- its cells -/
def rqC (r : Rq) : Array Value := #[.string (str r.meth), .string (str r.targ), .int .i64 r.minor]
theorem undR : Tryz.prog.underlying 39 = some (.struct (Tryz.prog.fieldsOf 39)) := by kernel_rfl
theorem infR : (Tryz.prog.info? 39).map (·.size) = some 3 := by kernel_rfl
theorem rqC_one (r : Rq) : (rqC r).all (·.oneCell') = true := by simp [rqC, Value.oneCell']
theorem fieldsR : ∃ f g h : Field, (Tryz.prog.fieldsOf 39).toList = [f, g, h] ∧ (f.type = 9 ∧ f.offset = 0 ∧ f.name ≠ "_") ∧ (g.type = 9 ∧ g.offset = 1 ∧ g.name ≠ "_") ∧ (h.type = 3 ∧ h.offset = 2 ∧ h.name ≠ "_") := by
  simp only [Program.fieldsOf, Tryz.underlying39]
  exact ⟨_, _, _, rfl, ⟨rfl, rfl, by decide⟩, ⟨rfl, rfl, by decide⟩, ⟨rfl, rfl, by decide⟩⟩
theorem stoodR : Tryz.prog.stoodInHeld 39 = false := by kernel_rfl
theorem str_beq (a b : List UInt8) : ((str a).toList == (str b).toList) = decide (a = b) := by
  rw [Lib.toList_data, Lib.toList_data]
  show (a == b) = _
  by_cases h : a = b
  · rw [h]; simp
  · rw [decide_eq_false h, beq_eq_false_iff_ne]; exact h
theorem lit_beq (c l : List UInt8) : ((str c).toList == l) = decide (c = l) := by
  have := str_beq c l
  rwa [show (str l).toList = l from by rw [Lib.toList_data]] at this
theorem rq_is (r q : Rq) : decide (r = q) = (decide (r.meth = q.meth) && (decide (r.targ = q.targ) && decide (r.minor = q.minor))) := by
  obtain ⟨a, b, c⟩ := r
  obtain ⟨a', b', c'⟩ := q
  rw [Bool.eq_iff_iff]
  simp
theorem eqFieldsR (k : Nat) (f g h : Field) (hf : f.type = 9 ∧ f.offset = 0 ∧ f.name ≠ "_") (hg : g.type = 9 ∧ g.offset = 1 ∧ g.name ≠ "_") (hh : h.type = 3 ∧ h.offset = 2 ∧ h.name ≠ "_") (r q : Rq) (w : World) :
    (Op.eqFields (k + 1) (rqC r) (rqC q) [f, g, h]).run Tryz.prog w = .ok (decide (r.meth = q.meth) && (decide (r.targ = q.targ) && decide (r.minor = q.minor))) w := by
  obtain ⟨f1, f2, f3⟩ := hf
  obtain ⟨g1, g2, g3⟩ := hg
  obtain ⟨h1, h2, h3⟩ := hh
  have a1 : (part f.type (rqC r) f.offset).run Tryz.prog w = .ok (.string (str r.meth)) w := by rw [f1, f2]; exact run_part_plain w (by kernel_rfl) rfl
  have a2 : (part f.type (rqC q) f.offset).run Tryz.prog w = .ok (.string (str q.meth)) w := by rw [f1, f2]; exact run_part_plain w (by kernel_rfl) rfl
  have a3 : (Op.equalIn (k + 1) f.type (.string (str r.meth)) (.string (str q.meth))).run Tryz.prog w = .ok (decide (r.meth = q.meth)) w := by rw [f1, ← str_beq]; exact run_equalIn_string w k _ _ _ Tryz.underlying9
  have b1 : (part g.type (rqC r) g.offset).run Tryz.prog w = .ok (.string (str r.targ)) w := by rw [g1, g2]; exact run_part_plain w (by kernel_rfl) rfl
  have b2 : (part g.type (rqC q) g.offset).run Tryz.prog w = .ok (.string (str q.targ)) w := by rw [g1, g2]; exact run_part_plain w (by kernel_rfl) rfl
  have b3 : (Op.equalIn (k + 1) g.type (.string (str r.targ)) (.string (str q.targ))).run Tryz.prog w = .ok (decide (r.targ = q.targ)) w := by rw [g1, ← str_beq]; exact run_equalIn_string w k _ _ _ Tryz.underlying9
  have c1 : (part h.type (rqC r) h.offset).run Tryz.prog w = .ok (.int .i64 r.minor) w := by rw [h1, h2]; exact run_part_plain w (by kernel_rfl) rfl
  have c2 : (part h.type (rqC q) h.offset).run Tryz.prog w = .ok (.int .i64 q.minor) w := by rw [h1, h2]; exact run_part_plain w (by kernel_rfl) rfl
  have c3 : (Op.equalIn (k + 1) h.type (.int .i64 r.minor) (.int .i64 q.minor)).run Tryz.prog w = .ok (decide (r.minor = q.minor)) w := by
    rw [h1, show decide (r.minor = q.minor) = (r.minor == q.minor) from by by_cases e : r.minor = q.minor <;> simp [e]]
    exact run_equalIn_int w k _ .i64 .i64 _ _ Tryz.underlying3
  clear f1 f2 g1 g2 h1 h2
  generalize k + 1 = K at *
  generalize Value.string (str r.meth) = A1 at *
  generalize Value.string (str q.meth) = A2 at *
  generalize Value.string (str r.targ) = B1 at *
  generalize Value.string (str q.targ) = B2 at *
  generalize Value.int .i64 r.minor = C1 at *
  generalize Value.int .i64 q.minor = C2 at *
  generalize decide (r.meth = q.meth) = x at *
  generalize decide (r.targ = q.targ) = y at *
  generalize decide (r.minor = q.minor) = z at *
  simp only [Op.eqFields, f3, g3, h3, ne_eq, not_false_eq_true, if_true, Sem.run_bind, a1, a2, a3, Result.andThen_ok]
  cases x
  · simp
  · simp only [Bool.not_true, Bool.false_eq_true, if_false, Sem.run_bind, b1, b2, b3, Result.andThen_ok, Bool.true_and]
    cases y
    · simp
    · simp only [Bool.not_true, Bool.false_eq_true, if_false, Sem.run_bind, c1, c2, c3, Result.andThen_ok, Bool.true_and]
      cases z <;> simp
theorem eqInR (k : Nat) (r q : Rq) (w : World) : (Op.equalIn (k + 2) 39 (.agg (rqC r)) (.agg (rqC q))).run Tryz.prog w = .ok (decide (r = q)) w := by
  obtain ⟨f, g, h, hfs, hf, hg, hh⟩ := fieldsR
  rw [run_equalIn_struct w (k + 1) _ _ _ undR stoodR, hfs, rq_is]
  exact eqFieldsR k f g h hf hg hh r q w
theorem eqInRn (n : Nat) (h : 2 ≤ n) (r q : Rq) (w : World) : (Op.equalIn n 39 (.agg (rqC r)) (.agg (rqC q))).run Tryz.prog w = .ok (decide (r = q)) w := by
  obtain ⟨k, rfl⟩ : ∃ k, n = k + 2 := ⟨n - 2, by omega⟩
  exact eqInR k r q w
/-- '==' of two requests -/
theorem eqlR (r q : Rq) (w : World) : (binOp .eql 39 (.agg (rqC r)) (.agg (rqC q))).run Tryz.prog w = .ok (.bool (decide (r = q))) w := by
  rw [run_eql_struct, eqInRn _ (by omega) r q w, Result.andThen_ok]
/-- '!=' of two requests -/
theorem neqR (r q : Rq) (w : World) : (binOp .neq 39 (.agg (rqC r)) (.agg (rqC q))).run Tryz.prog w = .ok (.bool (!decide (r = q))) w := by
  rw [run_neq_struct, eqInRn _ (by omega) r q w, Result.andThen_ok]
theorem grdR : Tryz.prog.eqGuardType Tryz.prog.depth 39 = false := by kernel_rfl
theorem go_neqR {ops : Array Oper} {rest : List Oper} {o : Oper} {a : Act} {w : World} {Q : Exit → Act → World → Prop} {x y : Operand} {t : TypeId} (r q : Rq) (b : Bool) (hb : decide (r = q) = b)
    (ho : o.op = .binOp .neq 39 x y t) (hw : Region.wanted o (yielded ops a.tmps) = true) (hx : a.eval x = .agg (rqC r)) (hy : a.eval y = .agg (rqC q))
    (h : wpList Tryz.prog ops Q rest (a.put o.dst (.bool !b)) w) : wpList Tryz.prog ops Q (o :: rest) a w := by
  show if Region.wanted o (yielded ops a.tmps) = true then _ else _
  rw [if_pos hw]
  refine .inl ?_
  unfold Oper.wp execOp
  simp only [ho, hx, hy, Sem.run_bind, run_eqGuard_agg w .neq _ _ _ _ _ grdR, Result.andThen_ok, neqR, hb, Sem.run_pure]
  exact h
theorem go_eqlR {ops : Array Oper} {rest : List Oper} {o : Oper} {a : Act} {w : World} {Q : Exit → Act → World → Prop} {x y : Operand} {t : TypeId} (r q : Rq) (b : Bool) (hb : decide (r = q) = b)
    (ho : o.op = .binOp .eql 39 x y t) (hw : Region.wanted o (yielded ops a.tmps) = true) (hx : a.eval x = .agg (rqC r)) (hy : a.eval y = .agg (rqC q))
    (h : wpList Tryz.prog ops Q rest (a.put o.dst (.bool b)) w) : wpList Tryz.prog ops Q (o :: rest) a w := by
  show if Region.wanted o (yielded ops a.tmps) = true then _ else _
  rw [if_pos hw]
  refine .inl ?_
  unfold Oper.wp execOp
  simp only [ho, hx, hy, Sem.run_bind, run_eqGuard_agg w .eql _ _ _ _ _ grdR, Result.andThen_ok, eqlR, hb, Sem.run_pure]
  exact h
theorem set3 (a b c x0 x1 x2 : Value) : ((((#[a, b, c] : Array Value).setIfInBounds 0 x0).setIfInBounds 1 x1).setIfInBounds 2 x2) = #[x0, x1, x2] := by simp
/-- three cells stored, one behind the other -/
theorem three3 (w : World) (g : Nat) (t : TypeId) (a b c x0 x1 x2 : Value) (h : Blk w g t #[a, b, c]) :
    Blk (((w.setCell ⟨g, 0, none⟩ x0).setCell ⟨g, 1, none⟩ x1).setCell ⟨g, 2, none⟩ x2) g t #[x0, x1, x2] ∧
    w.grownBy (((w.setCell ⟨g, 0, none⟩ x0).setCell ⟨g, 1, none⟩ x1).setCell ⟨g, 2, none⟩ x2) (some g) := by
  constructor
  · have := ((h.set_ 0 x0).set_ 1 x1).set_ 2 x2
    rwa [set3] at this
  · exact only_setCell (p := ⟨g, 2, none⟩) (only_setCell (p := ⟨g, 1, none⟩) (only_setCell (p := ⟨g, 0, none⟩) (only_refl w _) (.inl rfl) _) (.inl rfl) _) (.inl rfl) _
end Go.Proofs.YtgbhnjkigjecmaaGreatDoor.Rl
