/-
  Words for memory in which some blocks turn: what is kept beside them; copy, from whatever bytes, into a row of bytes that is known whole. Plain lemmas, no condition.
-/
import Derived.Test.YtlpondbcnfaggaaGreatDoorR04
import Derived.Deep.RegionHeldLaw
import Derived.Deep.QuietTactic
import Derived.BigQuiet
import Derived.RegionTactic
import Derived.ChangeAlike
import Derived.Deep.MidRow
import Derived.Deep.RegionHeld3
namespace Go.Proofs.YtlpondbcnfaggaaGreatDoor.Wd
open Go.RowKit

/-- all that was there is as it was, but for the blocks of S -/
structure But (S : List Nat) (w w' : World) : Prop where
  os : w'.os = w.os
  tape : w'.tape = w.tape
  output : w'.output = w.output
  size : w.heap.size ≤ w'.heap.size
  block : ∀ i, i < w.heap.size → i ∉ S → w'.heap[i]? = w.heap[i]?
section
variable {S T : List Nat} {a b c w w' : World}
theorem But.refl (S : List Nat) (w : World) : But S w w := ⟨rfl, rfl, rfl, Nat.le_refl _, fun _ _ _ => rfl⟩
theorem But.trans (h : But S a b) (k : But S b c) : But S a c :=
  ⟨k.os.trans h.os, k.tape.trans h.tape, k.output.trans h.output, Nat.le_trans h.size k.size, fun i hi hn => (k.block i (Nat.lt_of_lt_of_le hi h.size) hn).trans (h.block i hi hn)⟩
theorem But.more (h : But S a b) (hS : ∀ i ∈ S, i ∈ T) : But T a b := ⟨h.os, h.tape, h.output, h.size, fun i hi hn => h.block i hi (fun hm => hn (hS i hm))⟩
theorem But.none (h : But [] a b) (T : List Nat) : But T a b := h.more (fun _ h => by cases h)
theorem But.of_below (h : Below w.heap.size w w') (S : List Nat) : But S w w' := ⟨h.os, h.tape, h.output, h.size, fun i hi _ => h.block i hi⟩
theorem But.below {B : Nat} (h : But S w w') (hS : ∀ i ∈ S, B ≤ i) (hB : B ≤ w.heap.size) : Below B w w' :=
  ⟨h.os, h.tape, h.output, h.size, fun i hi => h.block i (Nat.lt_of_lt_of_le hi hB) (fun hm => by have := hS i hm; omega)⟩
/-- what turned lies beyond all that was there -/
theorem But.fresh (h : But S a b) (hS : ∀ i ∈ S, a.heap.size ≤ i) : But [] a b :=
  ⟨h.os, h.tape, h.output, h.size, fun i hi _ => h.block i hi (fun hm => by have := hS i hm; omega)⟩
theorem But.drew (h : But S a w) : But S a w.drew := ⟨h.os, h.tape, h.output, h.size, h.block⟩
theorem But.drewN (h : But S a w) (k : Nat) : But S a (w.drewN k) := ⟨h.os, h.tape, h.output, h.size, h.block⟩
theorem But.alloc (h : But S a w) (o : Obj) : But S a (w.alloc o) :=
  ⟨h.os, h.tape, h.output, Nat.le_trans h.size (by simp), fun i hi hn => (Below.heap_alloc w o i (Nat.lt_of_lt_of_le hi h.size)).trans (h.block i hi hn)⟩
theorem But.set_ (h : But S a w) {p : Addr} (hp : p.block ∈ S ∨ a.heap.size ≤ p.block) (u : Value) : But S a (w.setCell p u) :=
  ⟨h.os, h.tape, h.output, by simpa [World.setCell] using h.size, fun i hi hn => (Below.heap_setCell w p u i (by
    rintro rfl
    rcases hp with hp | hp
    · exact hn hp
    · omega)).trans (h.block i hi hn)⟩
theorem But.row (h : But S a w) {g : Nat} (hp : g ∈ S ∨ a.heap.size ≤ g) (cs : Array Value) : But S a (w.setRow g cs) :=
  ⟨h.os, h.tape, h.output, by simpa [World.setRow] using h.size, fun i hi hn => by
    have hne : i ≠ g := by
      rintro rfl
      rcases hp with hp | hp
      · exact hn hp
      · omega
    have : (w.setRow g cs).heap[i]? = w.heap[i]? := by
      simp only [World.setRow]
      rw [Array.getElem?_modify, if_neg (fun e => hne e.symm)]
    exact this.trans (h.block i hi hn)⟩
theorem Blk.but {g t : Nat} {cs : Array Value} (h : Blk w g t cs) (k : But S w w') (hg : g ∉ S) : Blk w' g t cs := (k.block g h.lt hg).trans h
theorem But.cell (k : But S w w') {p : Addr} (hp : p.block < w.heap.size) (hS : p.block ∉ S) : w'.cell? p = w.cell? p := World.cell?_of_block (k.block p.block hp hS)
theorem But.cell_none (k : But [] w w') {p : Addr} {v : Value} (h : w.cell? p = some v) : w'.cell? p = some v := by
  rw [← h]
  exact k.cell (World.block_lt_of_cell? w p h) (by simp)
theorem Src.but {A : Option Addr} {n : Nat} {xs : List UInt8} (h : Src w A n xs) (k : But S w w') (hA : 0 < n → ∀ x, A = some x → x.block ∉ S) : Src w' A n xs :=
  ⟨h.1, fun hn => by
    obtain ⟨ad, e, hlt, hc⟩ := h.2 hn
    exact ⟨ad, e, Nat.lt_of_lt_of_le hlt k.size, fun j c hj => (k.cell (by rw [block_of_add]; exact hlt) (by rw [block_of_add]; exact hA hn ad e)).trans (hc j c hj)⟩⟩
theorem Src.same {A : Option Addr} {n : Nat} {xs : List UInt8} (h : Src w A n xs) (k : But [] w w') : Src w' A n xs := h.but k (fun _ _ _ => by simp)
/-- bytes in a block below B -/
theorem Src.put {A : Option Addr} {n : Nat} {xs : List UInt8} {B : Nat} (h : Src w A n xs) (k : Below B w w') (hB : w.heap.size ≤ B) : Src w' A n xs := h.below (k.mono hB)
end

/-- the address of a cut -/
def slid (A : Option Addr) (m l : Nat) : Option Addr := if m = l then A else A.map (·.add l)
theorem slid_zero (A : Option Addr) (m : Nat) : slid A m 0 = A := by
  unfold slid
  split
  · rfl
  · cases A <;> simp [Addr.add]
theorem slid_at (g R t : Nat) (h : t ≠ R) : slid (some ⟨g, 0, none⟩) R t = some ⟨g, t, none⟩ := by
  unfold slid
  rw [if_neg (fun e => h e.symm)]
  simp [Addr.add]
  omega
theorem slid_block {A : Option Addr} {m l : Nat} {x : Addr} (h : slid A m l = some x) : ∃ y, A = some y ∧ y.block = x.block := by
  unfold slid at h
  split at h
  · exact ⟨x, h, rfl⟩
  · cases A with
    | none => cases h
    | some y => injection h with h; subst h; exact ⟨y, rfl, (block_of_add y l).symm⟩
/-- what a cut leads to: from l up to hi of what it led to -/
theorem Src.cut {w : World} {A : Option Addr} {n m l hi : Nat} {xs : List UInt8} (h : Src w A n xs) (h1 : l ≤ hi) (h2 : hi ≤ n) (hm : n ≤ m) : Src w (slid A m l) (hi - l) ((xs.take hi).drop l) := by
  refine ⟨by rw [List.length_drop, List.length_take, h.1]; omega, fun hp => ?_⟩
  obtain ⟨ad, rfl, hlt, hc⟩ := h.2 (by omega)
  refine ⟨ad.add l, by unfold slid; rw [if_neg (by omega)]; rfl, by rw [block_of_add]; exact hlt, fun j c hj => ?_⟩
  rw [add_of_add]
  refine hc _ _ ?_
  rw [List.getElem?_drop, List.getElem?_take] at hj
  split at hj
  · exact hj
  · cases hj
/-- what a longer slice leads to, its first ones -/
theorem Src.take {w : World} {A : Option Addr} {n k : Nat} {xs : List UInt8} (h : Src w A n xs) (hk : k ≤ n) : Src w A k (xs.take k) := by
  have := h.cut (m := n) (l := 0) (hi := k) (Nat.zero_le _) hk (Nat.le_refl _)
  rwa [slid_zero, Nat.sub_zero, List.drop_zero] at this
section
variable {P : Program} {t e : TypeId} (ht : P.underlying t = some (.slice e)) (hs : (P.info? e).map (·.size) = some 1) (A : Option Addr) (n c : Nat) (w : World)
include ht hs
omit ht in
theorem size_one : (sizeOf e).run P w = .ok 1 w := by
  cases hq : P.info? e with
  | none => simp [hq] at hs
  | some i =>
    have hi : i.size = 1 := by simpa [hq] using hs
    simp [sizeOf, typeInfo, hq, hi]
theorem slice_from (l : Nat) (hl : l ≤ n) : (Instr.sliceAt t (.slice A n c) (some (.int .i64 (l : Int))) none none).run P w = .ok (.slice (slid A c l) (n - l) (c - l)) w := by
  have h1 := size_one (w := w) hs
  simp [Instr.sliceAt, Instr.slice, run_underlying ht, Instr.sliceBounds, run_sliceBound, h1, slid, (by omega : (l : Int) ≤ (n : Int))]
theorem slice_to (h : Nat) (hh : h ≤ c) : (Instr.sliceAt t (.slice A n c) none (some (.int .i64 (h : Int))) none).run P w = .ok (.slice A h c) w := by
  have h1 := size_one (w := w) hs
  simp [Instr.sliceAt, Instr.slice, run_underlying ht, Instr.sliceBounds, run_sliceBound, h1, (by omega : (h : Int) ≤ (c : Int)), Addr.add]
theorem slice_mid (l h : Nat) (hl : l ≤ h) (hh : h ≤ c) : (Instr.sliceAt t (.slice A n c) (some (.int .i64 (l : Int))) (some (.int .i64 (h : Int))) none).run P w = .ok (.slice (slid A c l) (h - l) (c - l)) w := by
  have h1 := size_one (w := w) hs
  simp [Instr.sliceAt, Instr.slice, run_underlying ht, Instr.sliceBounds, run_sliceBound, h1, slid, (by omega : (h : Int) ≤ (c : Int)), (by omega : (l : Int) ≤ (h : Int))]
end

theorem cellsOf_splice (L : List UInt8) (off : Nat) (cs : List UInt8) : cellsOf (splice L off cs) = splice (cellsOf L) off (cellsOf cs) := by
  simp [splice, cellsOf, List.map_take, List.map_drop]
theorem splice_get {α : Type} (L : List α) (off : Nat) (cs : List α) (h : off + cs.length ≤ L.length) (j : Nat) :
    (splice L off cs)[j]? = if off ≤ j ∧ j < off + cs.length then cs[j - off]? else L[j]? := by
  unfold splice
  by_cases h1 : j < off
  · rw [List.getElem?_append_left (by rw [List.length_take]; omega), List.getElem?_take, if_pos h1, if_neg (by omega)]
  · have e : (L.take off).length = off := by rw [List.length_take]; omega
    rw [List.getElem?_append_right (by omega), e]
    by_cases h2 : j < off + cs.length
    · rw [List.getElem?_append_left (by omega), if_pos ⟨by omega, h2⟩]
    · rw [List.getElem?_append_right (by omega), List.getElem?_drop, if_neg (by omega)]
      congr 1
      omega

section
variable {P : Program} {w : World}
theorem run_copy_b {dT sT ty : TypeId} (hu : P.underlying dT = some (.slice 5)) (hz : (P.info? 5).map (·.size) = some 1) {p off dLen dCap sLen sCap : Nat} {dp A : Option Addr} {ps xs : List UInt8}
    (hb : Blk w p 5 (cellsOf ps).toArray) (hs : Src w A sLen xs) (hdp : 0 < dLen → dp = some ⟨p, off, none⟩) (hfit : off + min sLen dLen ≤ ps.length) :
    ∃ w', (Builtin.copy_ #[dT, sT] ty #[.slice dp dLen dCap, .slice A sLen sCap]).run P w = .ok (.int .i64 ((min sLen dLen : Nat) : Int)) w' ∧ Blk w' p 5 (cellsOf (splice ps off (xs.take dLen))).toArray ∧ But [p] w w' := by
  have hl := hs.1
  by_cases h0 : min sLen dLen = 0
  · refine ⟨w, ?_, ?_, But.refl _ _⟩
    · rw [run_copy_none w dT sT ty 5 dp A dLen dCap sLen sCap hu hz h0, h0]; rfl
    · have : xs.take dLen = [] := List.eq_nil_of_length_eq_zero (by rw [List.length_take, hl]; omega)
      rw [this, show splice ps off [] = ps by simp [splice]]
      exact hb
  · obtain rfl := hdp (by omega)
    obtain ⟨ad, rfl, _, hc⟩ := hs.2 (by omega)
    have hlen : (cellsOf (xs.take dLen)).length = min sLen dLen := by rw [cellsOf_length, List.length_take, hl, Nat.min_comm]
    refine ⟨w.setRow p ((cellsOf ps).toArray.toList.take off ++ cellsOf (xs.take dLen) ++ (cellsOf ps).toArray.toList.drop (off + (cellsOf (xs.take dLen)).length)).toArray, ?_, ?_, (But.refl [p] w).row (g := p) (.inl (List.mem_singleton.2 rfl)) _⟩
    · rw [run_copy_row (P := P) w dT sT ty 5 p off dLen dCap ad sLen sCap (cellsOf ps).toArray 5 (cellsOf (xs.take dLen)) hu hz hb hlen ?_ (by rw [hlen]; simpa [cellsOf_length] using hfit) (cellsOf_one _), hlen]
      · rfl
      · intro j v hj
        simp only [cellsOf, List.getElem?_map, Option.map_eq_some_iff] at hj
        obtain ⟨x, hx, rfl⟩ := hj
        rw [List.getElem?_take] at hx
        split at hx
        · exact hc j x hx
        · cases hx
    · have := setRow_heap w p (cellsOf ps).toArray (((cellsOf ps).toArray.toList.take off ++ cellsOf (xs.take dLen) ++ (cellsOf ps).toArray.toList.drop (off + (cellsOf (xs.take dLen)).length)).toArray) 5 (0, 0) hb
      unfold Blk
      rw [cellsOf_splice]
      unfold splice
      rw [← List.append_assoc]
      simpa using this

theorem step_copy_b {ops : Array Oper} {o : Oper} {a : Act} {K : Act → World → Prop} {Q : Exit → Act → World → Prop} {E : Prop} (dst : Option Tmp) (hdst : o.dst = dst) (hgd : o.guard = none) (d s : Operand) (dT sT : TypeId)
    (ho : o.op = .call { callee := .builtin .copy, args := #[d, s], argTypes := #[dT, sT] }) (hu : P.underlying dT = some (.slice 5)) (hz : (P.info? 5).map (·.size) = some 1)
    (p off dLen dCap sLen sCap : Nat) (dp A : Option Addr) (ps xs : List UInt8) (hd : a.eval d = .slice dp dLen dCap) (hx : a.eval s = .slice A sLen sCap)
    (hb : Blk w p 5 (cellsOf ps).toArray) (hs : Src w A sLen xs) (hdp : 0 < dLen → dp = some ⟨p, off, none⟩) (hfit : off + min sLen dLen ≤ ps.length)
    (h : ∀ w', Hid (Blk w' p 5 (cellsOf (splice ps off (xs.take dLen))).toArray) → But [p] w w' → K (a.put dst (.int .i64 ((min sLen dLen : Nat) : Int))) w') :
    if Region.wanted o (yielded ops a.tmps) = true then Oper.wp P o a w K Q else E := by
  subst hdst
  have hw : Region.wanted o (yielded ops a.tmps) = true := by simp [Region.wanted, hgd]
  rw [if_pos hw]
  obtain ⟨w', hrun, h2, h3⟩ := run_copy_b (dT := dT) (sT := sT) (ty := o.type) (dCap := dCap) (sCap := sCap) hu hz hb hs hdp hfit
  unfold Oper.wp execOp
  simp only [ho, resolve, invoke, builtin, Sem.run_bind, Sem.run_pure, Result.andThen_ok, List.map_toArray, List.map_cons, List.map_nil, hd, hx, hrun]
  exact h w' h2 h3
end

section
variable {P : Program} {w : World}
/-- min and max of two numbers, the answer under one name -/
theorem wpList_min2 {ops : Array Oper} {rest : List Oper} {o : Oper} {a : Act} {Q : Exit → Act → World → Prop} (dst : Option Tmp) (hdst : o.dst = dst) (hgd : o.guard = none) (s x : Operand) (ts : Array TypeId)
    (ho : o.op = .call { callee := .builtin .min, args := #[s, x], argTypes := ts }) (y z M : Int) (hs : a.eval s = .int .i64 y) (hx : a.eval x = .int .i64 z) (hM : M = if z < y then z else y)
    (h : wpList P ops Q rest (a.put dst (.int .i64 M)) w) : wpList P ops Q (o :: rest) a w := by
  subst hdst hM
  refine wpList_plain hgd fun K hK => ?_
  unfold Oper.wp execOp
  simp only [ho, resolve, invoke, builtin, Sem.run_bind, Sem.run_pure, Result.andThen_ok, List.map_toArray, List.map_cons, List.map_nil, hs, hx, run_min_int2]
  exact hK _ _ h
theorem wpList_max2 {ops : Array Oper} {rest : List Oper} {o : Oper} {a : Act} {Q : Exit → Act → World → Prop} (dst : Option Tmp) (hdst : o.dst = dst) (hgd : o.guard = none) (s x : Operand) (ts : Array TypeId)
    (ho : o.op = .call { callee := .builtin .max, args := #[s, x], argTypes := ts }) (y z M : Int) (hs : a.eval s = .int .i64 y) (hx : a.eval x = .int .i64 z) (hM : M = if y < z then z else y)
    (h : wpList P ops Q rest (a.put dst (.int .i64 M)) w) : wpList P ops Q (o :: rest) a w := by
  subst hdst hM
  refine wpList_plain hgd fun K hK => ?_
  unfold Oper.wp execOp
  simp only [ho, resolve, invoke, builtin, Sem.run_bind, Sem.run_pure, Result.andThen_ok, List.map_toArray, List.map_cons, List.map_nil, hs, hx, run_max_int2]
  exact hK _ _ h
theorem step_min2 {ops : Array Oper} {o : Oper} {a : Act} {K : Act → World → Prop} {Q : Exit → Act → World → Prop} {E : Prop} (dst : Option Tmp) (hdst : o.dst = dst) (hgd : o.guard = none) (s x : Operand) (ts : Array TypeId)
    (ho : o.op = .call { callee := .builtin .min, args := #[s, x], argTypes := ts }) (y z M : Int) (hs : a.eval s = .int .i64 y) (hx : a.eval x = .int .i64 z) (hM : M = if z < y then z else y)
    (h : K (a.put dst (.int .i64 M)) w) : if Region.wanted o (yielded ops a.tmps) = true then Oper.wp P o a w K Q else E := by
  subst hdst hM
  have hw : Region.wanted o (yielded ops a.tmps) = true := by simp [Region.wanted, hgd]
  rw [if_pos hw]
  unfold Oper.wp execOp
  simp only [ho, resolve, invoke, builtin, Sem.run_bind, Sem.run_pure, Result.andThen_ok, List.map_toArray, List.map_cons, List.map_nil, hs, hx, run_min_int2]
  exact h
theorem step_max2 {ops : Array Oper} {o : Oper} {a : Act} {K : Act → World → Prop} {Q : Exit → Act → World → Prop} {E : Prop} (dst : Option Tmp) (hdst : o.dst = dst) (hgd : o.guard = none) (s x : Operand) (ts : Array TypeId)
    (ho : o.op = .call { callee := .builtin .max, args := #[s, x], argTypes := ts }) (y z M : Int) (hs : a.eval s = .int .i64 y) (hx : a.eval x = .int .i64 z) (hM : M = if y < z then z else y)
    (h : K (a.put dst (.int .i64 M)) w) : if Region.wanted o (yielded ops a.tmps) = true then Oper.wp P o a w K Q else E := by
  subst hdst hM
  have hw : Region.wanted o (yielded ops a.tmps) = true := by simp [Region.wanted, hgd]
  rw [if_pos hw]
  unfold Oper.wp execOp
  simp only [ho, resolve, invoke, builtin, Sem.run_bind, Sem.run_pure, Result.andThen_ok, List.map_toArray, List.map_cons, List.map_nil, hs, hx, run_max_int2]
  exact h
end
end Go.Proofs.YtlpondbcnfaggaaGreatDoor.Wd

/-
  Structs in blocks: loaded and stored whole, handed back out of a block; one operation of a region that draws, taken by hand. Plain lemmas, no condition (XAdFns' and XRet's, for seats without packages addr and hello).
-/
namespace Go.Proofs.YtlpondbcnfaggaaGreatDoor.St
open Go.RowKit Go.Proofs.YtlpondbcnfaggaaGreatDoor.Wd

/-- a variable of n cells is loaded whole -/
theorem go_ld {ops : Array Oper} {rest : List Oper} {o : Oper} {a : Act} {w : World} {Q : Exit → Act → World → Prop} {x : Operand} {g t n : Nat} {C : Array Value} {d : TypeDesc} (ty : TypeId) (hb : Blk w g t C) (hu : Tryz.prog.underlying ty = some d)
    (hd : d.isRow = true) (hi : (Tryz.prog.info? ty).map (·.size) = some n) (hn : C.size = n) (hgd : o.guard = none) (ho : o.op = .load ty x)
    (hx : a.eval x = .pointer (some ⟨g, 0, none⟩)) (h : wpList Tryz.prog ops Q rest (a.put o.dst (.agg C)) w) : wpList Tryz.prog ops Q (o :: rest) a w :=
  wpList_load_row hgd ty x ho g hx t C (0, 0) d hb hu (by cases d <;> first | rfl | cases hd) (by rw [hi, hn]) h
/-- a variable of n cells is stored whole -/
theorem go_st {ops : Array Oper} {rest : List Oper} {o : Oper} {a : Act} {w : World} {Q : Exit → Act → World → Prop} {x y : Operand} {g t n : Nat} {C D : Array Value} (ty : TypeId) (hb : Blk w g t C)
    (hi : (Tryz.prog.info? ty).map (·.size) = some n) (hn : C.size = n) (hm : D.size = n) (h1 : D.all (·.oneCell') = true) (hgd : o.guard = none) (ho : o.op = .store ty x y)
    (hx : a.eval x = .pointer (some ⟨g, 0, none⟩)) (hy : a.eval y = .agg D) (h : wpList Tryz.prog ops Q rest (a.put o.dst undef) (w.setRow g D)) : wpList Tryz.prog ops Q (o :: rest) a w :=
  wpList_store_row hgd ty x y ho g D hx hy t C hb (by rw [hi, hm]) (by rw [hn, hm]) h1 h
theorem setRow_blk {w : World} {g : Nat} {t : TypeId} {old new : Array Value} (h : Blk w g t old) : Blk (w.setRow g new) g t new := by
  have h' : w.heap[g]? = some (.cells old t (0, 0)) := h
  have hg := h.lt
  unfold Blk
  simp only [World.setRow]
  rw [Array.getElem?_modify]
  simp [h']
theorem setRow_far {w : World} {g k : Nat} (hk : k ≠ g) (new : Array Value) : (w.setRow g new).heap[k]? = w.heap[k]? := by
  simp only [World.setRow]
  rw [Array.getElem?_modify, if_neg (fun e => hk e.symm)]
theorem setRow_below {B g : Nat} {a w : World} {t : TypeId} {old : Array Value} (h : Below B a w) (_hb : Blk w g t old) (hg : B ≤ g) (new : Array Value) : Below B a (w.setRow g new) := by
  refine ⟨h.os, h.tape, h.output, ?_, fun i hi => ?_⟩
  · have := h.size
    simpa [World.setRow] using this
  · rw [setRow_far (by omega)]
    exact h.block i hi

/-- the one result lies in a block that was stored whole -/
theorem ret_row {fn : Func} {p : Tmp} {ty t : TypeId} {a : Act} {w : World} {g n : Nat} {old C : Array Value} {d : TypeDesc} {R : Ending → World → Prop} (hf : fn.results = #[.cell p ty]) (hb : Blk w g t old) (hu : Tryz.prog.underlying ty = some d)
    (hd : d.isRow = true) (hi : (Tryz.prog.info? ty).map (·.size) = some n) (hn : C.size = n) (hp : a.tmps.getD p undef = .pointer (some ⟨g, 0, none⟩)) (h : R (.returned (.agg C)) (w.setRow g C)) (hdf : a.defers = []) : bodyPost Tryz.prog fn R .ret a (w.setRow g C) :=
  bodyPost_ret (results_cell_row hf _ _ g t C (0, 0) d hp (setRow_blk hb) hu (by cases d <;> first | rfl | cases hd) (by rw [hi, hn])) hdf h
theorem blk_at (w : World) (t : TypeId) (cs cs' : Array Value) (g : Nat) (hg : g = w.heap.size) (hc : cs = cs') : Blk (w.alloc (.cells cs t)) g t cs' := by
  subst hg hc
  exact Blk.new w t cs
theorem alloc_size (w : World) (o : Obj) : (w.alloc o).heap.size = w.heap.size + 1 := by simp

/-- one result, in a block -/
theorem ret_one {fn : Func} {p : Tmp} {ty t : TypeId} {a : Act} {w : World} {g n : Nat} {C : Array Value} {d : TypeDesc} {R : Ending → World → Prop} (hf : fn.results = #[.cell p ty]) (hb : Blk w g t C) (hu : Tryz.prog.underlying ty = some d)
    (hd : d.isRow = true) (hi : (Tryz.prog.info? ty).map (·.size) = some n) (hn : C.size = n) (hp : a.tmps.getD p undef = .pointer (some ⟨g, 0, none⟩)) (h : R (.returned (.agg C)) w) (hdf : a.defers = []) : bodyPost Tryz.prog fn R .ret a w :=
  bodyPost_ret (results_cell_row hf _ _ g t C (0, 0) d hp hb hu (by cases d <;> first | rfl | cases hd) (by rw [hi, hn])) hdf h
/-- two results, the first one in a block -/
theorem ret_two {fn : Func} {p q : Tmp} {ty t : TypeId} {a : Act} {w : World} {g n : Nat} {C : Array Value} {v : Value} {d : TypeDesc} {R : Ending → World → Prop} (hf : fn.results = #[.cell p ty, .tmp q]) (hb : Blk w g t C) (hu : Tryz.prog.underlying ty = some d)
    (hd : d.isRow = true) (hi : (Tryz.prog.info? ty).map (·.size) = some n) (hn : C.size = n) (hp : a.tmps.getD p undef = .pointer (some ⟨g, 0, none⟩)) (hq : a.tmps.getD q undef = v) (h : R (.returned (.tuple #[.agg C, v])) w) (hdf : a.defers = []) : bodyPost Tryz.prog fn R .ret a w := by
  have hp' : a.tmps[p]?.getD undef = .pointer (some ⟨g, 0, none⟩) := by simpa using hp
  have hq' : a.tmps[q]?.getD undef = v := by simpa using hq
  have hl := run_loadVar_row w g t ty C (0, 0) d hb hu (by cases d <;> first | rfl | cases hd) (by rw [hi, hn])
  exact bodyPost_ret (v := .tuple #[.agg C, v]) (by simp [results, hf, hp', hq', asAddr, hl]) hdf h
/-- one operation of a drawn region taken first, its place given -/
theorem hd_take {P : Program} {ops : Array Oper} {Q : Exit → Act → World → Prop} {md : Region.Mode} {S : World → Prop} (i : Nat) (dst : Option Tmp) (v : Value) {oi : Oper} {fuel : Nat} {listed : Array Bool} {a : Act} {w : World} (hi : ops[i]? = some oi) (hd : oi.dst = dst)
    (hs : Region.noSelect ops = true) (hf : Region.free md ops listed i = true) (hr : (Region.ready md ops listed).contains i = true)
    (hQ : ∀ c a w, Q (.panic c) (a.put oi.dst v) w → Q (.panic c) a w) (hy : YieldsIf P ops S oi v a) (hS : S w)
    (h : wpAnyH P md ops Q S fuel (listed.setIfInBounds i true) (a.put dst v) w) : wpAnyH P md ops Q S (fuel + 1) listed a w := by
  subst hd
  exact wpAnyH_take hi hs hf hr hQ hy hS h
theorem only_row (w : World) (g : Nat) (C : Array Value) : w.grownBy (w.setRow g C) (some g) := by
  have hB := (But.refl [g] w).row (g := g) (.inl (List.mem_singleton.2 rfl)) C
  exact ⟨hB.os, hB.tape, hB.output, hB.size, fun i hi hn => hB.block i hi (fun hm => hn (by rw [List.mem_singleton.1 hm]))⟩
/-- what turned lies beyond what was there: only row stays named -/
theorem only_new {a w w' : World} {row : Option Nat} {g : Nat} (h : a.grownBy w row) (hb : w.grownBy w' (some g)) (hg : a.heap.size ≤ g) : a.grownBy w' row :=
  ⟨hb.os.trans h.os, hb.tape.trans h.tape, hb.output.trans h.output, Nat.le_trans h.size hb.size, fun i hi hne => (hb.block i (Nat.lt_of_lt_of_le hi h.size) (fun e => by injection e with e; omega)).trans (h.block i hi hne)⟩
/-- a variable of n cells is loaded whole, under a guard that wants it -/
theorem go_ldg {ops : Array Oper} {rest : List Oper} {o : Oper} {a : Act} {w : World} {Q : Exit → Act → World → Prop} {x : Operand} {g t n : Nat} {C : Array Value} {d : TypeDesc} (ty : TypeId) (hb : Blk w g t C) (hu : Tryz.prog.underlying ty = some d)
    (hd : d.isRow = true) (hi : (Tryz.prog.info? ty).map (·.size) = some n) (hn : C.size = n) (hw : Region.wanted o (yielded ops a.tmps) = true) (ho : o.op = .load ty x)
    (hx : a.eval x = .pointer (some ⟨g, 0, none⟩)) (h : wpList Tryz.prog ops Q rest (a.put o.dst (.agg C)) w) : wpList Tryz.prog ops Q (o :: rest) a w := by
  show if Region.wanted o (yielded ops a.tmps) = true then _ else _
  rw [if_pos hw]
  exact .inl (wp_load_row ty x ho g hx t C (0, 0) d hb hu (by cases d <;> first | rfl | cases hd) (by rw [hi, hn]) h)
end Go.Proofs.YtlpondbcnfaggaaGreatDoor.St
