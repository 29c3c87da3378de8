/-
 append onto bytes of the call's own, from a source that may be nil, empty or not.
-/
import Derived.Test.YthfknndjdfofgaaGreatDoorR01
import Derived.Maps.AppendAt
import Derived.OwnWalk
import Derived.Deep.RegionHeldLaw
import Derived.Deep.QuietTactic
import Derived.BigQuiet
import Derived.RegionTactic
import Derived.IntWalk
import Derived.Deep.Cut
import Derived.WalkSpells
import Derived.Lib.SliceRun
import Derived.Test.YthfknndjdfofgaaGreatDoorR02
import Derived.Lib.BytesEntry
import Derived.Deep.MidRow
import Derived.Maps.OwnSet
import Derived.Maps.Views
namespace Go.Proofs.YthfknndjdfofgaaGreatDoor.Wd
open Go.RowKit

def Own (w : World) (B : Nat) (v : Value) (xs : List UInt8) : Prop := w.ownsRow B 5 1 v xs.length (cellsOf xs)

theorem Own.empty (w : World) (B : Nat) (hB : B ≤ w.heap.size) : Own (w.alloc (.cells #[] 5)) B (.slice (some ⟨w.heap.size, 0, none⟩) 0 0) [] :=
 ⟨rfl, .inr ⟨w.heap.size, 0, #[], rfl, hB, heap_alloc_new w _, Nat.le_refl _, Nat.zero_le _, rfl, rfl⟩⟩
theorem Own.alloc {w : World} {B : Nat} {v : Value} {xs : List UInt8} (h : Own w B v xs) (o : Obj) : Own (w.alloc o) B v xs := World.ownsRow.alloc h o
theorem Own.src {w : World} {B : Nat} {v : Value} {xs : List UInt8} (h : Own w B v xs) : ∃ A c, v = .slice A xs.length c ∧ xs.length ≤ c ∧ Src w A xs.length xs := by
 obtain ⟨hl, h0 | ⟨g, cap, cur, hv, hB, hh, hc, _, _, ht⟩⟩ := h
 · obtain ⟨rfl, hn⟩ := h0
   have : xs = [] := List.eq_nil_of_length_eq_zero hn
   subst this
   exact ⟨none, 0, rfl, Nat.le_refl _, Src.nil w⟩
 · refine ⟨_, cap, hv, hc, rfl, fun _ => ⟨_, rfl, ?_, fun j c hj => ?_⟩⟩
   · exact Blk.lt (t := 5) (cs := cur) hh
   · rw [add_none, Nat.zero_add, Blk.cell (t := 5) (cs := cur) hh]
     have h2 := cellsOf_get hj
     rw [← ht, Nat.mul_one, List.getElem?_take] at h2
     split at h2
     · rw [← Array.getElem?_toList]; exact h2
     · cases h2
theorem Own.below {w w' : World} {B B' : Nat} {v : Value} {xs : List UInt8} (h : Own w B v xs) (hb : Below B' w w') (hB : w.heap.size ≤ B') : Own w' B v xs := by
 obtain ⟨hl, h0 | ⟨g, cap, cur, hv, hg, hh, r⟩⟩ := h
 · exact ⟨hl, .inl h0⟩
 · exact ⟨hl, .inr ⟨g, cap, cur, hv, hg, (hb.block g (by have := Blk.lt (t := 5) (cs := cur) hh; omega)).trans hh, r⟩⟩

section
variable {P : Program} {w : World}

theorem run_app_nil {base : Nat} {t ty e : TypeId} {i : TypeInfo} {size : Nat} (ht : P.underlying t = some (.slice e)) (hi : P.info? e = some i)
   {v : Value} {n : Nat} {xs : List Value} (hown : w.ownsRow base e size v n xs) (c : Nat) : (Builtin.append_ #[t, t] ty #[v, .slice none 0 c]).run P w = .ok v w := by
 obtain ⟨_, ⟨rfl, rfl⟩ | ⟨g, cap, cur, rfl, _, _, hnc, _⟩⟩ := hown
 · simp [Builtin.append_, run_underlying ht, sizeOf, typeInfo, hi, Builtin.lenOf, Builtin.firstCells]
 · simp [Builtin.append_, run_underlying ht, sizeOf, typeInfo, hi, Builtin.lenOf, Builtin.firstCells, hnc, storeCells]

theorem run_app {B : Nat} {t ty : TypeId} {i : TypeInfo} (ht : P.underlying t = some (.slice 5)) (hi : P.info? 5 = some i) (hz : i.zero = some (.int .u8 0)) (hs1 : i.size = 1) (hb1 : i.bytes = 1)
   {v : Value} {xs ys : List UInt8} (hown : Own w B v xs) {A : Option Addr} {m c : Nat} (hsrc : Src w A m ys) (hlen : xs.length + m ≤ 140737488355328) (hB : B ≤ w.heap.size) :
   ∃ v' w', (Builtin.append_ #[t, t] ty #[v, .slice A m c]).run P w = .ok v' w' ∧ Own w' B v' (xs ++ ys) ∧ Below B w w' := by
 have hm := hsrc.1
 cases A with
 | none =>
   have h0 : m = 0 := by
     rcases Nat.eq_zero_or_pos m with h | h
     · exact h
     · obtain ⟨ad, e, _⟩ := hsrc.2 h; cases e
   subst h0
   have : ys = [] := List.eq_nil_of_length_eq_zero hm
   subst this
   exact ⟨v, w, run_app_nil ht hi hown c, by rw [List.append_nil]; exact hown, Below.refl _ _⟩
 | some ad =>
   have hcells : ∀ j u, (cellsOf ys)[j]? = some u → w.cell? (ad.add j) = some u := by
     intro j u hu
     simp only [cellsOf, List.getElem?_map, Option.map_eq_some_iff] at hu
     obtain ⟨x, hx, rfl⟩ := hu
     have hp : 0 < m := by have := (List.getElem?_eq_some_iff.1 hx).1; omega
     obtain ⟨ad', e, _, hc⟩ := hsrc.2 hp
     injection e with e
     subst e
     exact hc j x hx
   obtain ⟨v', w', hrun, h2, h3, _, _⟩ := run_append_own_at (P := P) w B t ty 5 i (.int .u8 0) 1 1 ht hi hz hs1 hb1 rfl (by omega) v xs.length (cellsOf xs) hown ad m c (cellsOf ys) (by rw [cellsOf_length, hm, Nat.mul_one]) hcells (cellsOf_one ys)
     (by unfold maxLen; omega) (by omega) hB
   refine ⟨v', w', hrun, ?_, (Below.refl _ _).grown h3 hB (fun k hk => ?_)⟩
   · unfold Own
     rw [List.length_append, cellsOf_append, hm]
     exact h2
   · obtain ⟨_, ⟨rfl, _⟩ | ⟨g, cap, cur, rfl, hg, _⟩⟩ := hown
     · simp [Value.ownBlock] at hk
     · simp [Value.ownBlock] at hk; omega

theorem wpList_app {ops : Array Oper} {rest : List Oper} {o : Oper} {a : Act} {Q : Exit → Act → World → Prop} (hgd : o.guard = none) (s x : Operand) (t : TypeId)
   (ho : o.op = .call { callee := .builtin .append, args := #[s, x], argTypes := #[t, t] }) (ht : P.underlying t = some (.slice 5)) (hinfo : (P.info? 5).map (fun i => (i.zero, i.size, i.bytes)) = some (some (.int .u8 0), 1, 1))
   (B : Nat) (v : Value) (xs : List UInt8) (hs : a.eval s = v) (hown : Own w B v xs) (A : Option Addr) (m c : Nat) (ys : List UInt8) (hx : a.eval x = .slice A m c) (hsrc : Src w A m ys)
   (hlen : xs.length + m ≤ 140737488355328) (hB : B ≤ w.heap.size)
   (h : ∀ v' w', Hid (Own w' B v' (xs ++ ys)) → Below B w w' → wpList P ops Q rest (a.put o.dst v') w') : wpList P ops Q (o :: rest) a w := by
 obtain ⟨i0, hi, hz0, hz1, hz2⟩ := info_parts hinfo
 obtain ⟨v', w', hrun, h2, h3⟩ := run_app (ty := o.type) ht hi hz0 hz1 hz2 hown (c := c) hsrc hlen hB
 refine wpList_plain hgd fun K hK => ?_
 unfold Oper.wp execOp
 simp only [ho, resolve, invoke, builtin, Sem.run_bind, Sem.run_pure, Result.andThen_ok, List.map_toArray, List.map_cons, List.map_nil, hs, hx, hrun]
 exact hK _ _ (h v' w' h2 h3)
end
end Go.Proofs.YthfknndjdfofgaaGreatDoor.Wd

/-
 Words for memory in which some blocks turn: what is kept beside them; copy, from whatever bytes, into a row of bytes that is known whole. Plain lemmas, no condition.
-/
namespace Go.Proofs.YthfknndjdfofgaaGreatDoor.Wd
open Go.RowKit

structure But (S : List Nat) (w w' : World) : Prop where
 os : w'.os = w.os
 tape : w'.tape = w.tape
 output : w'.output = w.output
 size : w.heap.size ≤ w'.heap.size
 block : ∀ i, i < w.heap.size → i ∉ S → w'.heap[i]? = w.heap[i]?
section
variable {S T : List Nat} {a b c w w' : World}
theorem But.refl (S : List Nat) (w : World) : But S w w := ⟨rfl, rfl, rfl, Nat.le_refl _, fun _ _ _ => rfl⟩
theorem But.trans (h : But S a b) (k : But S b c) : But S a c :=
 ⟨k.os.trans h.os, k.tape.trans h.tape, k.output.trans h.output, Nat.le_trans h.size k.size, fun i hi hn => (k.block i (Nat.lt_of_lt_of_le hi h.size) hn).trans (h.block i hi hn)⟩
theorem But.more (h : But S a b) (hS : ∀ i ∈ S, i ∈ T) : But T a b := ⟨h.os, h.tape, h.output, h.size, fun i hi hn => h.block i hi (fun hm => hn (hS i hm))⟩
theorem But.of_below (h : Below w.heap.size w w') (S : List Nat) : But S w w' := ⟨h.os, h.tape, h.output, h.size, fun i hi _ => h.block i hi⟩
theorem But.below {B : Nat} (h : But S w w') (hS : ∀ i ∈ S, B ≤ i) (hB : B ≤ w.heap.size) : Below B w w' :=
 ⟨h.os, h.tape, h.output, h.size, fun i hi => h.block i (Nat.lt_of_lt_of_le hi hB) (fun hm => by have := hS i hm; omega)⟩
theorem But.fresh (h : But S a b) (hS : ∀ i ∈ S, a.heap.size ≤ i) : But [] a b :=
 ⟨h.os, h.tape, h.output, h.size, fun i hi _ => h.block i hi (fun hm => by have := hS i hm; omega)⟩
theorem But.drew (h : But S a w) : But S a w.drew := ⟨h.os, h.tape, h.output, h.size, h.block⟩
theorem But.drewN (h : But S a w) (k : Nat) : But S a (w.drewN k) := ⟨h.os, h.tape, h.output, h.size, h.block⟩
theorem But.alloc (h : But S a w) (o : Obj) : But S a (w.alloc o) :=
 ⟨h.os, h.tape, h.output, Nat.le_trans h.size (by simp), fun i hi hn => (Below.heap_alloc w o i (Nat.lt_of_lt_of_le hi h.size)).trans (h.block i hi hn)⟩
theorem But.set_ (h : But S a w) {p : Addr} (hp : p.block ∈ S ∨ a.heap.size ≤ p.block) (u : Value) : But S a (w.setCell p u) :=
 ⟨h.os, h.tape, h.output, by simpa [World.setCell] using h.size, fun i hi hn => (Below.heap_setCell w p u i (by
   rintro rfl
   rcases hp with hp | hp
   · exact hn hp
   · omega)).trans (h.block i hi hn)⟩
theorem But.row (h : But S a w) {g : Nat} (hp : g ∈ S ∨ a.heap.size ≤ g) (cs : Array Value) : But S a (w.setRow g cs) :=
 ⟨h.os, h.tape, h.output, by simpa [World.setRow] using h.size, fun i hi hn => by
   have hne : i ≠ g := by
     rintro rfl
     rcases hp with hp | hp
     · exact hn hp
     · omega
   have : (w.setRow g cs).heap[i]? = w.heap[i]? := by
     simp only [World.setRow]
     rw [Array.getElem?_modify, if_neg (fun e => hne e.symm)]
   exact this.trans (h.block i hi hn)⟩
theorem Blk.but {g t : Nat} {cs : Array Value} (h : Blk w g t cs) (k : But S w w') (hg : g ∉ S) : Blk w' g t cs := (k.block g h.lt hg).trans h
theorem But.cell (k : But S w w') {p : Addr} (hp : p.block < w.heap.size) (hS : p.block ∉ S) : w'.cell? p = w.cell? p := World.cell?_of_block (k.block p.block hp hS)
end

def slid (A : Option Addr) (m l : Nat) : Option Addr := if m = l then A else A.map (·.add l)
theorem slid_zero (A : Option Addr) (m : Nat) : slid A m 0 = A := by
 unfold slid
 split
 · rfl
 · cases A <;> simp [Addr.add]
theorem Src.cut {w : World} {A : Option Addr} {n m l hi : Nat} {xs : List UInt8} (h : Src w A n xs) (h1 : l ≤ hi) (h2 : hi ≤ n) (hm : n ≤ m) : Src w (slid A m l) (hi - l) ((xs.take hi).drop l) := by
 refine ⟨by rw [List.length_drop, List.length_take, h.1]; omega, fun hp => ?_⟩
 obtain ⟨ad, rfl, hlt, hc⟩ := h.2 (by omega)
 refine ⟨ad.add l, by unfold slid; rw [if_neg (by omega)]; rfl, by rw [block_of_add]; exact hlt, fun j c hj => ?_⟩
 rw [add_of_add]
 refine hc _ _ ?_
 rw [List.getElem?_drop, List.getElem?_take] at hj
 split at hj
 · exact hj
 · cases hj
theorem Src.take {w : World} {A : Option Addr} {n k : Nat} {xs : List UInt8} (h : Src w A n xs) (hk : k ≤ n) : Src w A k (xs.take k) := by
 have := h.cut (m := n) (l := 0) (hi := k) (Nat.zero_le _) hk (Nat.le_refl _)
 rwa [slid_zero, Nat.sub_zero, List.drop_zero] at this
section
variable {P : Program} {t e : TypeId} (ht : P.underlying t = some (.slice e)) (hs : (P.info? e).map (·.size) = some 1) (A : Option Addr) (n c : Nat) (w : World)
include ht hs
omit ht in
theorem size_one : (sizeOf e).run P w = .ok 1 w := by
 cases hq : P.info? e with
 | none => simp [hq] at hs
 | some i =>
   have hi : i.size = 1 := by simpa [hq] using hs
   simp [sizeOf, typeInfo, hq, hi]
theorem slice_to (h : Nat) (hh : h ≤ c) : (Instr.sliceAt t (.slice A n c) none (some (.int .i64 (h : Int))) none).run P w = .ok (.slice A h c) w := by
 have h1 := size_one (w := w) hs
 simp [Instr.sliceAt, Instr.slice, run_underlying ht, Instr.sliceBounds, run_sliceBound, h1, (by omega : (h : Int) ≤ (c : Int)), Addr.add]
theorem slice_mid (l h : Nat) (hl : l ≤ h) (hh : h ≤ c) : (Instr.sliceAt t (.slice A n c) (some (.int .i64 (l : Int))) (some (.int .i64 (h : Int))) none).run P w = .ok (.slice (slid A c l) (h - l) (c - l)) w := by
 have h1 := size_one (w := w) hs
 simp [Instr.sliceAt, Instr.slice, run_underlying ht, Instr.sliceBounds, run_sliceBound, h1, slid, (by omega : (h : Int) ≤ (c : Int)), (by omega : (l : Int) ≤ (h : Int))]
end

section
variable {P : Program} {w : World}
end

section
variable {P : Program} {w : World}
theorem wpList_min2 {ops : Array Oper} {rest : List Oper} {o : Oper} {a : Act} {Q : Exit → Act → World → Prop} (dst : Option Tmp) (hdst : o.dst = dst) (hgd : o.guard = none) (s x : Operand) (ts : Array TypeId)
   (ho : o.op = .call { callee := .builtin .min, args := #[s, x], argTypes := ts }) (y z M : Int) (hs : a.eval s = .int .i64 y) (hx : a.eval x = .int .i64 z) (hM : M = if z < y then z else y)
   (h : wpList P ops Q rest (a.put dst (.int .i64 M)) w) : wpList P ops Q (o :: rest) a w := by
 subst hdst hM
 refine wpList_plain hgd fun K hK => ?_
 unfold Oper.wp execOp
 simp only [ho, resolve, invoke, builtin, Sem.run_bind, Sem.run_pure, Result.andThen_ok, List.map_toArray, List.map_cons, List.map_nil, hs, hx, run_min_int2]
 exact hK _ _ h
theorem wpList_max2 {ops : Array Oper} {rest : List Oper} {o : Oper} {a : Act} {Q : Exit → Act → World → Prop} (dst : Option Tmp) (hdst : o.dst = dst) (hgd : o.guard = none) (s x : Operand) (ts : Array TypeId)
   (ho : o.op = .call { callee := .builtin .max, args := #[s, x], argTypes := ts }) (y z M : Int) (hs : a.eval s = .int .i64 y) (hx : a.eval x = .int .i64 z) (hM : M = if y < z then z else y)
   (h : wpList P ops Q rest (a.put dst (.int .i64 M)) w) : wpList P ops Q (o :: rest) a w := by
 subst hdst hM
 refine wpList_plain hgd fun K hK => ?_
 unfold Oper.wp execOp
 simp only [ho, resolve, invoke, builtin, Sem.run_bind, Sem.run_pure, Result.andThen_ok, List.map_toArray, List.map_cons, List.map_nil, hs, hx, run_max_int2]
 exact hK _ _ h
end
end Go.Proofs.YthfknndjdfofgaaGreatDoor.Wd

/-
 Bytes of a call's own: their block by name, append onto them as a step of a walk, with a frame that names that one block; limit.Within; bytes.Clone. Plain lemmas, no condition.
-/
namespace Go.Proofs.YthfknndjdfofgaaGreatDoor.Wd
open Go.RowKit

theorem und8 : Tryz.prog.underlying 22 = some (.slice 5) := Tryz.underlying22
theorem inf8 : (Tryz.prog.info? 5).map (fun i => (i.zero, i.size, i.bytes)) = some (some (.int .u8 0), 1, 1) := by kernel_rfl
theorem siz8 : (Tryz.prog.info? 5).map (·.size) = some 1 := by kernel_rfl
theorem con8 {w : World} {A : Option Addr} {n c : Nat} {xs : List UInt8} (h : Src w A n xs) : (convert 22 9 (.slice A n c)).run Tryz.prog w = .ok (.string ⟨xs.toArray⟩) w :=
 conv_src h Tryz.underlying22 Tryz.underlying5 Tryz.underlying9
theorem Own.cut_ {w : World} {B : Nat} {v : Value} {xs : List UInt8} (h : Own w B v xs) : ∃ A c, v = .slice A xs.length c ∧ xs.length ≤ c ∧ Src w A xs.length xs ∧ ∀ x, A = some x → B ≤ x.block := by
 obtain ⟨A, c, rfl, hc, hs⟩ := h.src
 refine ⟨A, c, rfl, hc, hs, fun x hx => ?_⟩
 subst hx
 obtain ⟨_, ⟨h0, _⟩ | ⟨g, cap, cur, hv, hB, _⟩⟩ := h
 · cases h0
 · injection hv with hv _ _
   injection hv with hv
   subst hv
   exact hB
def ad (p : Option Nat) : Option Addr := p.map fun b => ⟨b, 0, none⟩
structure At (w : World) (p : Option Nat) (c : Nat) (bs : List UInt8) : Prop where
 own : Own w 0 (.slice (ad p) bs.length c) bs
theorem At.src {w : World} {p : Option Nat} {c : Nat} {bs : List UInt8} (h : At w p c bs) : bs.length ≤ c ∧ Src w (ad p) bs.length bs := by
 obtain ⟨A', c', e, h1, h2⟩ := h.own.src
 injection e with e1 e2 e3
 rw [← e1] at h2
 exact ⟨by omega, h2⟩
theorem At.nil (w : World) : At w none 0 [] := ⟨rfl, .inl ⟨rfl, rfl⟩⟩
theorem At.row {w : World} {p : Option Nat} {c : Nat} {bs : List UInt8} (h : At w p c bs) {b : Nat} (hb : p = some b) : ∃ cur, Blk w b 5 cur ∧ bs.length ≤ cur.size := by
 subst hb
 obtain ⟨⟨hl, ⟨h0, _⟩ | ⟨g, cap, cur, hv, hg, hh, hn, _, hz, _⟩⟩⟩ := h
 · cases h0
 · injection hv with hv _ _
   injection hv with hv
   injection hv with hv _ _
   subst hv
   exact ⟨cur, hh, by omega⟩
theorem At.lt {w : World} {p : Option Nat} {c : Nat} {bs : List UInt8} (h : At w p c bs) {b : Nat} (hb : p = some b) : b < w.heap.size := by
 obtain ⟨cur, hc, _⟩ := h.row hb
 exact hc.lt
theorem At.but {S : List Nat} {w w' : World} {p : Option Nat} {c : Nat} {bs : List UInt8} (h : At w p c bs) (k : But S w w') (hp : ∀ b, p = some b → b ∉ S) : At w' p c bs := by
 cases p with
 | none =>
   obtain ⟨⟨hl, h0 | ⟨g, cap, cur, hv, _⟩⟩⟩ := h
   · exact ⟨⟨hl, .inl h0⟩⟩
   · cases hv
 | some b =>
   have hlt := h.lt rfl
   obtain ⟨⟨hl, ⟨h0, _⟩ | ⟨g, cap, cur, hv, hg, hh, r⟩⟩⟩ := h
   · cases h0
   · have e : b = g := by injection hv with hv _ _; injection hv with hv; injection hv
     subst e
     exact ⟨⟨hl, .inr ⟨b, cap, cur, hv, hg, (k.block b hlt (hp b rfl)).trans hh, r⟩⟩⟩
theorem At.ne {w : World} {p : Option Nat} {c g t : Nat} {bs : List UInt8} {cs : Array Value} (h : At w p c bs) (hg : Blk w g t cs) (ht : 5 ≠ t) : p ≠ some g := by
 intro e
 obtain ⟨cur, hc, _⟩ := h.row e
 exact hc.ne_ hg ht rfl

section
variable {P : Program} {w : World}
theorem run_app_at {t ty : TypeId} {i : TypeInfo} (ht : P.underlying t = some (.slice 5)) (hi : P.info? 5 = some i) (hz : i.zero = some (.int .u8 0)) (hs1 : i.size = 1) (hb1 : i.bytes = 1)
   {p : Option Nat} {c : Nat} {xs ys : List UInt8} (hat : At w p c xs) {A2 : Option Addr} {m c2 : Nat} (hsrc : Src w A2 m ys) (hlen : xs.length + m ≤ 140737488355328) :
   ∃ p' c' w', (Builtin.append_ #[t, t] ty #[.slice (ad p) xs.length c, .slice A2 m c2]).run P w = .ok (.slice (ad p') (xs.length + m) c') w' ∧ At w' p' c' (xs ++ ys) ∧ (p' = p ∨ p' = some w.heap.size) ∧ But p.toList w w' := by
 have hm := hsrc.1
 cases A2 with
 | none =>
   have h0 : m = 0 := by
     rcases Nat.eq_zero_or_pos m with h | h
     · exact h
     · obtain ⟨ad, e, _⟩ := hsrc.2 h; cases e
   subst h0
   have : ys = [] := List.eq_nil_of_length_eq_zero hm
   subst this
   exact ⟨p, c, w, run_app_nil ht hi hat.own c2, by rw [List.append_nil]; exact hat, .inl rfl, But.refl _ _⟩
 | some a2 =>
   have hcells : ∀ j u, (cellsOf ys)[j]? = some u → w.cell? (a2.add j) = some u := by
     intro j u hu
     simp only [cellsOf, List.getElem?_map, Option.map_eq_some_iff] at hu
     obtain ⟨x, hx, rfl⟩ := hu
     have hp : 0 < m := by have := (List.getElem?_eq_some_iff.1 hx).1; omega
     obtain ⟨ad', e, _, hc⟩ := hsrc.2 hp
     injection e with e
     subst e
     exact hc j x hx
   obtain ⟨v', w', hrun, h2, h3, h4, h5⟩ := run_append_own_at (P := P) w 0 t ty 5 i (.int .u8 0) 1 1 ht hi hz hs1 hb1 rfl (by omega) (.slice (ad p) xs.length c) xs.length (cellsOf xs) hat.own a2 m c2 (cellsOf ys) (by rw [cellsOf_length, hm, Nat.mul_one]) hcells (cellsOf_one ys)
     (by unfold maxLen; omega) (by omega) (Nat.zero_le _)
   have hown : Own w' 0 v' (xs ++ ys) := by
     unfold Own
     rw [List.length_append, cellsOf_append, hm]
     exact h2
   have hob : ∀ q, (Value.slice (ad p) xs.length c).ownBlock = some q → p = some q := by
     intro q hq
     cases p with
     | none => cases hq
     | some b => injection hq with hq; rw [← hq]
   have hbut : But p.toList w w' := ⟨h3.os, h3.tape, h3.output, h3.size, fun i hi hn => h3.block i hi (fun e => hn (by rw [hob i e.symm]; simp))⟩
   have hl : (xs ++ ys).length = xs.length + m := by rw [List.length_append, hm]
   obtain ⟨hl0, ⟨rfl, h0⟩ | ⟨g, cap, cur, rfl, hg, r⟩⟩ := hown
   · refine ⟨none, 0, w', by rw [← hl, h0]; exact hrun, ⟨⟨hl0, .inl ⟨by rw [h0]; rfl, h0⟩⟩⟩, .inl ?_, hbut⟩
     obtain ⟨e, _⟩ := h4.1 rfl
     injection e with e _ _
     cases p with
     | none => rfl
     | some b => cases e
   · refine ⟨some g, cap, w', by rw [← hl]; exact hrun, ⟨⟨hl0, .inr ⟨g, cap, cur, rfl, hg, r⟩⟩⟩, ?_, hbut⟩
     rcases h5 with h5 | h5
     · exact .inl (hob _ h5.symm).symm
     · injection h5 with h5; exact .inr (by rw [← h5])

end
theorem Own.lower {w : World} {B B' : Nat} {v : Value} {xs : List UInt8} (h : Own w B v xs) (hB : B' ≤ B) : Own w B' v xs := by
 obtain ⟨hl, h0 | ⟨g, cap, cur, hv, hg, r⟩⟩ := h
 · exact ⟨hl, .inl h0⟩
 · exact ⟨hl, .inr ⟨g, cap, cur, hv, Nat.le_trans hB hg, r⟩⟩
theorem bclone_any (w : World) (A : Option Addr) (n c : Nat) (xs : List UInt8) (hs : Src w A n xs) (hn : n ≤ 140737488355328) :
   Calls Tryz.prog 80 #[.slice A n c] w fun e w' => ∃ v, e = .returned v ∧ Own w' w.heap.size v xs ∧ Below w.heap.size w w' := by
 have qT : ∀ (w : World) (a : Option Addr) (n c n' c' : Nat), (binOp .eql 22 (.slice a n c) (.slice none n' c')).run Tryz.prog w = .ok (.bool a.isNone) w := fun w a n c n' c' => Lib.run_eql_slice_nil w _ _ a n c n' c' und8
 cases A with
 | none =>
   have h0 : n = 0 := by
     rcases Nat.eq_zero_or_pos n with h | h
     · exact h
     · obtain ⟨ad, e, _⟩ := hs.2 h; cases e
   subst h0
   have hx : xs = [] := List.eq_nil_of_length_eq_zero hs.1
   subst hx
   clear hs
   go_enter Tryz.func80, Tryz.ntmps80
   go_wp2_with fail
   go_ret
   exact ⟨_, rfl, ⟨rfl, .inl ⟨rfl, rfl⟩⟩, Below.refl _ _⟩
 | some ad =>
   have HS := Lib.hid (hs.alloc (.cells #[] 5))
   have HB := Lib.hid (show Below w.heap.size w (w.alloc (.cells #[] 5)) from (Below.refl _ _).alloc (Nat.le_refl _) _)
   have HO := Lib.hid (Own.empty w w.heap.size (Nat.le_refl _))
   clear hs
   go_enter Tryz.func80, Tryz.ntmps80
   go_wp2_with (at_builtin; refine wpList_app rfl (.tmp 5) (.tmp 6) 22 rfl und8 inf8 w.heap.size _ [] rfl HO.out (some ad) n c xs rfl HS.out (by simp; omega) (by simp) ?_; intro v2 w2 HO2 hb2)
   rw [List.nil_append] at HO2
   go_ret
   exact ⟨_, rfl, HO2.out, HB.out.trans hb2⟩
end Go.Proofs.YthfknndjdfofgaaGreatDoor.Wd

/-
 A hello as it lies in memory: a row of numbers, a row of extensions, a struct of 38 cells; structs loaded and stored whole; bytes.IndexByte. Plain lemmas, no condition.
-/
namespace Go.Proofs.YthfknndjdfofgaaGreatDoor.He
open Go.RowKit Go.Proofs.YthfknndjdfofgaaGreatDoor.Wd Go.Proofs.YthfknndjdfofgaaGreatDoor.Be

theorem infH : (Tryz.prog.info? 68).map (·.size) = some 38 := by kernel_rfl
theorem undH : Tryz.prog.underlying 68 = some (.struct (Tryz.prog.fieldsOf 68)) := by kernel_rfl
theorem go_ld {ops : Array Oper} {rest : List Oper} {o : Oper} {a : Act} {w : World} {Q : Exit → Act → World → Prop} {x : Operand} {g t n : Nat} {C : Array Value} {d : TypeDesc} (ty : TypeId) (hb : Blk w g t C) (hu : Tryz.prog.underlying ty = some d)
   (hd : d.isRow = true) (hi : (Tryz.prog.info? ty).map (·.size) = some n) (hn : C.size = n) (hw : Region.wanted o (yielded ops a.tmps) = true) (ho : o.op = .load ty x)
   (hx : a.eval x = .pointer (some ⟨g, 0, none⟩)) (h : wpList Tryz.prog ops Q rest (a.put o.dst (.agg C)) w) : wpList Tryz.prog ops Q (o :: rest) a w := by
 show if Region.wanted o (yielded ops a.tmps) = true then _ else _
 rw [if_pos hw]
 exact .inl (wp_load_row ty x ho g hx t C (0, 0) d hb hu (by cases d <;> first | rfl | cases hd) (by rw [hi, hn]) h)
theorem go_st {ops : Array Oper} {rest : List Oper} {o : Oper} {a : Act} {w : World} {Q : Exit → Act → World → Prop} {x y : Operand} {g t n : Nat} {C D : Array Value} (ty : TypeId) (hb : Blk w g t C)
   (hi : (Tryz.prog.info? ty).map (·.size) = some n) (hn : C.size = n) (hm : D.size = n) (h1 : D.all (·.oneCell') = true) (hgd : o.guard = none) (ho : o.op = .store ty x y)
   (hx : a.eval x = .pointer (some ⟨g, 0, none⟩)) (hy : a.eval y = .agg D) (h : wpList Tryz.prog ops Q rest (a.put o.dst undef) (w.setRow g D)) : wpList Tryz.prog ops Q (o :: rest) a w :=
 wpList_store_row hgd ty x y ho g D hx hy t C hb (by rw [hi, hm]) (by rw [hn, hm]) h1 h
theorem setRow_blk {w : World} {g : Nat} {t : TypeId} {old new : Array Value} (h : Blk w g t old) : Blk (w.setRow g new) g t new := by
 have h' : w.heap[g]? = some (.cells old t (0, 0)) := h
 have hg := h.lt
 unfold Blk
 simp only [World.setRow]
 rw [Array.getElem?_modify]
 simp [h']
theorem setRow_far {w : World} {g k : Nat} (hk : k ≠ g) (new : Array Value) : (w.setRow g new).heap[k]? = w.heap[k]? := by
 simp only [World.setRow]
 rw [Array.getElem?_modify, if_neg (fun e => hk e.symm)]
theorem setRow_below {B g : Nat} {a w : World} (h : Below B a w) (hg : B ≤ g) (new : Array Value) : Below B a (w.setRow g new) := by
 refine ⟨h.os, h.tape, h.output, ?_, fun i hi => ?_⟩
 · have := h.size
   simpa [World.setRow] using this
 · rw [setRow_far (by omega)]
   exact h.block i hi
theorem Blk.row_far {w : World} {g g' t : Nat} {cs : Array Value} (h : Blk w g t cs) (hne : g ≠ g') (new : Array Value) : Blk (w.setRow g' new) g t cs := (setRow_far hne new).trans h
theorem blk_at (w : World) (t : TypeId) (cs cs' : Array Value) (g : Nat) (hg : g = w.heap.size) (hc : cs = cs') : Blk (w.alloc (.cells cs t)) g t cs' := by
 subst hg hc
 exact Blk.new w t cs
theorem alloc_size (w : World) (o : Obj) : (w.alloc o).heap.size = w.heap.size + 1 := by simp

def SrcI (w : World) (A : Option Addr) (l : List Int) : Prop :=
 ∀ (k : Nat) (x : Int), l[k]? = some x → ∃ g o, A = some ⟨g, o, none⟩ ∧ g < w.heap.size ∧ w.cell? ⟨g, o + k, none⟩ = some (.int .i64 x)
theorem SrcI.below {w w' : World} {A : Option Addr} {l : List Int} (h : SrcI w A l) (hb : Below w.heap.size w w') : SrcI w' A l := fun k x hx => by
 obtain ⟨g, o, hA, hg, hc⟩ := h k x hx
 exact ⟨g, o, hA, Nat.lt_of_lt_of_le hg hb.size, (hb.cell (p := ⟨g, _, none⟩) hg).trans hc⟩
theorem SrcI.nil (w : World) (A : Option Addr) : SrcI w A [] := fun k x h => by cases k <;> cases h
structure Xt where
 kind : Int
 A : Option Addr
 n : Nat
 c : Nat
 b : List UInt8
instance : Inhabited Xt := ⟨⟨0, none, 0, 0, []⟩⟩
structure Xt.Ok (w : World) (x : Xt) : Prop where
 k1 : -9223372036854775808 ≤ x.kind ∧ x.kind ≤ 9223372036854775807
 nc : x.n ≤ x.c
 src : Src w x.A x.n x.b
 small : x.n ≤ 140737488351232
def SrcX (w : World) (A : Option Addr) (l : List Xt) : Prop :=
 ∀ (i : Nat) (x : Xt), l[i]? = some x → x.Ok w ∧ ∃ g o, A = some ⟨g, o, none⟩ ∧ g < w.heap.size ∧ w.cell? ⟨g, o + i * 2, none⟩ = some (.int .i64 x.kind) ∧ w.cell? ⟨g, o + i * 2 + 1, none⟩ = some (.slice x.A x.n x.c)
theorem Xt.Ok.below {w w' : World} {x : Xt} (h : x.Ok w) (hb : Below w.heap.size w w') : x.Ok w' := ⟨h.k1, h.nc, h.src.below hb, h.small⟩
theorem SrcX.below {w w' : World} {A : Option Addr} {l : List Xt} (h : SrcX w A l) (hb : Below w.heap.size w w') : SrcX w' A l := fun i x hx => by
 obtain ⟨hok, g, o, hA, hg, h0, h1⟩ := h i x hx
 exact ⟨hok.below hb, g, o, hA, Nat.lt_of_lt_of_le hg hb.size, (hb.cell (p := ⟨g, _, none⟩) hg).trans h0, (hb.cell (p := ⟨g, _, none⟩) hg).trans h1⟩
theorem SrcX.nil (w : World) (A : Option Addr) : SrcX w A [] := fun k x h => by cases k <;> cases h

structure Hv where
 ver : Int
 rnd : List UInt8
 sA : Option Addr
 sc : Nat
 ses : List UInt8
 cA : Option Addr
 cc : Nat
 cph : List Int
 mA : Option Addr
 mc : Nat
 met : List UInt8
 has : Bool
 xA : Option Addr
 xc : Nat
 xs : List Xt
def Hv.L (H : Hv) : List Value := .int .i64 H.ver :: (cellsOf H.rnd ++ [.slice H.sA H.ses.length H.sc, .slice H.cA H.cph.length H.cc, .slice H.mA H.met.length H.mc, .bool H.has, .slice H.xA H.xs.length H.xc])
def Hv.C (H : Hv) : Array Value := H.L.toArray
def ext (x : Xt) : Int × List UInt8 := (x.kind, x.b)
def Hv.hel (H : Hv) : Hel := ⟨H.ver, H.rnd, H.ses, H.cph, H.met, H.has, H.xs.map ext⟩
structure Hv.Ok (w : World) (H : Hv) : Prop where
 ver : -9223372036854775808 ≤ H.ver ∧ H.ver ≤ 9223372036854775807
 rnd : H.rnd.length = 32
 s1 : H.ses.length ≤ H.sc ∧ H.ses.length ≤ 140737488351232
 ses : Src w H.sA H.ses.length H.ses
 c1 : H.cph.length ≤ H.cc ∧ H.cph.length ≤ 140737488351232
 c2 : ∀ n ∈ H.cph, -9223372036854775808 ≤ n ∧ n ≤ 9223372036854775807
 cph : SrcI w H.cA H.cph
 m1 : H.met.length ≤ H.mc ∧ H.met.length ≤ 140737488351232
 met : Src w H.mA H.met.length H.met
 x1 : H.xs.length ≤ H.xc ∧ H.xs.length ≤ 140737488351232
 xs : SrcX w H.xA H.xs
theorem Hv.Ok.below {w w' : World} {H : Hv} (h : H.Ok w) (hb : Below w.heap.size w w') : H.Ok w' :=
 ⟨h.ver, h.rnd, h.s1, h.ses.below hb, h.c1, h.c2, h.cph.below hb, h.m1, h.met.below hb, h.x1, h.xs.below hb⟩
theorem Hv.size {H : Hv} (h : H.rnd.length = 32) : H.C.size = 38 := by simp [Hv.C, Hv.L, cellsOf_length, h]
theorem Hv.one (H : Hv) : H.C.all (·.oneCell') = true := by
 simp only [Hv.C, List.all_toArray', List.all_eq_true]
 intro v hv
 rcases List.mem_cons.1 hv with rfl | hv
 · rfl
 · rcases List.mem_append.1 hv with hv | hv
   · exact cellsOf_one _ v hv
   · simp at hv
     rcases hv with rfl | rfl | rfl | rfl | rfl <;> rfl
theorem Hv.at_ {H : Hv} (h : H.rnd.length = 32) (j : Nat) : H.C[33 + j]? = [Value.slice H.sA H.ses.length H.sc, .slice H.cA H.cph.length H.cc, .slice H.mA H.met.length H.mc, .bool H.has, .slice H.xA H.xs.length H.xc][j]? := by
 have e : H.C[33 + j]? = H.L[33 + j]? := by simp [Hv.C]
 rw [e, Hv.L, show 33 + j = (32 + j) + 1 by omega, List.getElem?_cons_succ, List.getElem?_append_right (by rw [cellsOf_length]; omega), cellsOf_length, h, show 32 + j - 32 = j by omega]
theorem Hv.at0 (H : Hv) : H.C[0]? = some (.int .i64 H.ver) := by simp [Hv.C, Hv.L]
theorem Hv.atR {H : Hv} (_h : H.rnd.length = 32) {j : Nat} {c : UInt8} (hj : H.rnd[j]? = some c) : H.C[1 + j]? = some (b8 c) := by
 have hl := (List.getElem?_eq_some_iff.1 hj).1
 have e : H.C[1 + j]? = H.L[1 + j]? := by simp [Hv.C]
 rw [e, Hv.L, show 1 + j = j + 1 by omega, List.getElem?_cons_succ, List.getElem?_append_left (by rw [cellsOf_length]; omega)]
 exact cellsOf_get hj
section
variable {w : World} {g t : Nat} {H : Hv}
theorem cell_ver (h : Blk w g t H.C) : w.cell? ⟨g, 0, none⟩ = some (.int .i64 H.ver) := by rw [h.cell]; exact H.at0
theorem cell_ses (h : Blk w g t H.C) (hr : H.rnd.length = 32) : w.cell? ⟨g, 33, none⟩ = some (.slice H.sA H.ses.length H.sc) := by rw [h.cell]; exact Hv.at_ hr 0
theorem cell_cph (h : Blk w g t H.C) (hr : H.rnd.length = 32) : w.cell? ⟨g, 34, none⟩ = some (.slice H.cA H.cph.length H.cc) := by rw [h.cell]; exact Hv.at_ hr 1
theorem cell_met (h : Blk w g t H.C) (hr : H.rnd.length = 32) : w.cell? ⟨g, 35, none⟩ = some (.slice H.mA H.met.length H.mc) := by rw [h.cell]; exact Hv.at_ hr 2
theorem cell_has (h : Blk w g t H.C) (hr : H.rnd.length = 32) : w.cell? ⟨g, 36, none⟩ = some (.bool H.has) := by rw [h.cell]; exact Hv.at_ hr 3
theorem cell_xs (h : Blk w g t H.C) (hr : H.rnd.length = 32) : w.cell? ⟨g, 37, none⟩ = some (.slice H.xA H.xs.length H.xc) := by rw [h.cell]; exact Hv.at_ hr 4
theorem src_rnd (h : Blk w g t H.C) (hr : H.rnd.length = 32) : Src w (some ⟨g, 1, none⟩) 32 H.rnd := by
 have := Src.of_blk (xs := H.rnd) (off := 1) h (fun j c hj => Hv.atR hr hj)
 rwa [hr] at this
end
def Hv.zero : Hv := ⟨0, List.replicate 32 0, none, 0, [], none, 0, [], none, 0, [], false, none, 0, []⟩
theorem add_flat (g o k : Nat) : (⟨g, o, none⟩ : Addr).add k = ⟨g, o + k, none⟩ := by
 unfold Addr.add
 split <;> simp_all

theorem run_index {P : Program} {w : World} {A : Option Addr} {n c : Nat} {xs : List UInt8} (h : Src w A n xs) (cv : Int) :
   (Extern.BytealgIndexByte.indexByte #[.slice A n c, .int .u8 cv]).run P w = .ok (.int .i64 (Lib.indexByte xs cv.toNat.toUInt8)) w := by
 obtain ⟨hl, hc⟩ := h
 cases A with
 | none =>
   have : xs = [] := by
     rcases Nat.eq_zero_or_pos n with h0 | h0
     · exact List.eq_nil_of_length_eq_zero (by omega)
     · obtain ⟨ad, e, _⟩ := hc h0; cases e
   subst this
   exact Lib.run_indexByteNil w n c cv
 | some ad =>
   have hcell : ∀ j x, (xs.map fun c => (c.toNat : Int))[j]? = some x → w.cell? (ad.add j) = some (.int .u8 x) := by
     intro j x hj
     rw [List.getElem?_map, Option.map_eq_some_iff] at hj
     obtain ⟨y, hy, rfl⟩ := hj
     have hp := (List.getElem?_eq_some_iff.1 hy).1
     obtain ⟨ad', e, _, hc'⟩ := hc (by omega)
     injection e with e
     subst e
     exact hc' j y hy
   have hl2 := Lib.run_loadBytesX (P := P) w (xs.map fun c => (c.toNat : Int)) ad .empty hcell
   have hb : Lib.bytesOf (xs.map fun c => (c.toNat : Int)) = xs := by
     simp [Lib.bytesOf, List.map_map, Function.comp_def]
   rw [List.length_map, hl, hb] at hl2
   have hs := Lib.run_indexByteString (P := P) ⟨xs.toArray⟩ cv w
   have he : (⟨ByteArray.empty.data ++ xs.toArray⟩ : ByteArray) = ⟨xs.toArray⟩ := by
     apply ByteArray.ext
     show (#[] : Array UInt8) ++ xs.toArray = xs.toArray
     simp
   rw [he] at hl2
   change Sem.run P (do
     let b ← Extern.Bytes.bytesOf (.slice (some ad) n c)
     let c ← Extern.Bytes.asByte (.int .u8 cv)
     match (List.range b.size).find? fun i => b[i]! == c with
     | some i => pure (goInt i)
     | none => pure (goInt (-1))) w = _
   change Sem.run P (do
     let b ← Extern.Bytes.bytesOf (.string ⟨xs.toArray⟩)
     let c ← Extern.Bytes.asByte (.int .u8 cv)
     match (List.range b.size).find? fun i => b[i]! == c with
     | some i => pure (goInt i)
     | none => pure (goInt (-1))) w = _ at hs
   simp only [Extern.Bytes.bytesOf, Sem.run_bind, Sem.run_pure, hl2, Result.andThen] at hs ⊢
   exact hs

set_option maxHeartbeats 1000000 in
set_option maxRecDepth 100000 in
theorem index_any (A : Option Addr) (n c : Nat) (xs : List UInt8) (cv : Int) (w : World) (hs : Src w A n xs) :
   Calls Tryz.prog 167 #[.slice A n c, .int .u8 cv] w fun e w' => e = .returned (.int .i64 (Lib.indexByte xs cv.toNat.toUInt8)) ∧ w = w' := by
 go_enter Tryz.func167, Tryz.ntmps167
 go_wp2
 rw [run_callFunc_extern Tryz.func194 (by kernel_rfl) (by kernel_rfl) (by kernel_rfl) (e := Extern.BytealgIndexByte.indexByte) (by kernel_rfl), run_index hs cv]
 simp only [Result.andThen]
 rw [Oper.upon_value]
 go_wp2
 go_ret
 exact ⟨rfl, rfl⟩
theorem index_neg (xs : List UInt8) (c : UInt8) : (Lib.indexByte xs c < 0) ↔ c ∉ xs := by
 induction xs with
 | nil => simp [Lib.indexByte]
 | cons b l ih =>
   have hg := Lib.indexByte_ge l c
   unfold Lib.indexByte
   by_cases hb : b = c
   · subst hb; simp
   · have hb' : (b == c) = false := by simpa using hb
     have hb2 : ¬ c = b := fun e => hb e.symm
     rw [hb']
     simp only [Bool.false_eq_true, if_false, List.mem_cons, not_or]
     by_cases h1 : Lib.indexByte l c = -1
     · rw [h1]
       simp only [beq_self_eq_true, if_true]
       exact ⟨fun _ => ⟨hb2, ih.1 (by omega)⟩, fun _ => by omega⟩
     · have h2 : (Lib.indexByte l c == -1) = false := by simpa using h1
       rw [h2]
       simp only [Bool.false_eq_true, if_false]
       exact ⟨fun h => by omega, fun h => by have := ih.2 h.2; omega⟩
end Go.Proofs.YthfknndjdfofgaaGreatDoor.He

/-
 Contracts of package hello's twice, wrong, Find over this seat's translation.
-/
namespace Go.Proofs.YthfknndjdfofgaaGreatDoor.He
open Go.RowKit Go.Proofs.YthfknndjdfofgaaGreatDoor.Wd Go.Proofs.YthfknndjdfofgaaGreatDoor.Be Go.Maps

theorem keyed : Keyed Tryz.prog 3 := int_keyed Tryz.underlying3
theorem undM : Tryz.prog.underlying 206 = some (.map 3 207) := by kernel_rfl
theorem zeroU (w : World) : (zeroValue 207).run Tryz.prog w = .ok (.agg #[]) w := by kernel_rfl
theorem key_int (n : Int) (h : -9223372036854775808 ≤ n ∧ n ≤ 9223372036854775807) : keyOf Tryz.prog 3 (.int .i64 n) = some (.int .i64 n) :=
 keyOf_int_mk Tryz.underlying3 (WalkArith.wf_i64 h)
theorem owns_on {w w' : World} {b n : Nat} {D : DataW Unit} (h : w.ownsMap Tryz.prog 3 (unitElem (H := Unit)) b n D) (hb : w'.heap[b]? = w.heap[b]?) : w'.ownsMap Tryz.prog 3 (unitElem (H := Unit)) b n D := by
 obtain ⟨es, clock, hh, r⟩ := h
 exact ⟨es, clock, hb.trans hh, r⟩

def kinds (l : List Xt) : List Int := l.map (·.kind)
theorem kinds_snoc {l : List Xt} {k : Nat} {x : Xt} (h : l[k]? = some x) : kinds (l.take (k + 1)) = kinds (l.take k) ++ [x.kind] := by
 unfold kinds
 rw [List.take_add_one, h]
 simp
def twiceB (l : List Xt) : Bool := !decide (kinds l).Nodup
structure Seen (w : World) (b k : Nat) (D : DataW Unit) (l : List Xt) : Prop where
 own : w.ownsMap Tryz.prog 3 (unitElem (H := Unit)) b k D
 has : ∀ z : Int, Maps.has D (.int .i64 z) = decide (z ∈ kinds (l.take k))
 nodup : (kinds (l.take k)).Nodup

set_option maxRecDepth 100000 in
set_option maxHeartbeats 1000000 in
theorem twice_any (A : Option Addr) (n c : Nat) (l : List Xt) (w : World) (hn : l.length = n) (hm : n ≤ 140737488351232) (hs : SrcX w A l) :
   Calls Tryz.prog 168 #[.slice A n c] w fun e w' => e = .returned (.bool (twiceB l)) ∧ Below w.heap.size w w' := by
 have hmm := @run_makeMap Tryz.prog
 have HS := Lib.hid hs
 have HN := Lib.hid hn
 clear hs hn
 go_enter Tryz.func168, Tryz.ntmps168
 go_wp2
 go_loopw [11] (fun i wr => ∃ k D, k ≤ n ∧ i = .int .i64 (k : Int) ∧ Hid (Seen wr w.heap.size k D l) ∧ Hid (Below w.heap.size w wr)) (fun i _ => n - (intOf i).toNat)
 case atStart =>
   refine ⟨0, .map [], Nat.zero_le _, rfl, Lib.hid ⟨World.ownsMap_made _ _ _ _, fun z => ?_, ?_⟩, Lib.hid ((Below.refl _ _).alloc (Nat.le_refl _) _)⟩
   · simp [Maps.has, kinds]
   · simp [kinds]
 case round =>
   obtain ⟨k, D, hk, rfl, HM, HB⟩ := hrel
   by_cases hlt : k < n
   · have hki : (k : Int) < (n : Int) := by omega
     obtain ⟨x, hx⟩ : ∃ x, l[k]? = some x := ⟨_, List.getElem?_eq_getElem (by have := HN.out; omega)⟩
     obtain ⟨hok, g, o, rfl, hgw, h0, h1⟩ := HS.out k x hx
     have hk1 := hok.k1
     have hc0 := (HB.out.cell (p := ⟨g, _, none⟩) hgw).trans h0
     have hc1 := (HB.out.cell (p := ⟨g, _, none⟩) hgw).trans h1
     clear h0 h1
     have hkey := Lib.hid (key_int x.kind hk1)
     have hsz := HB.out.size
     go_upto_region 5 with fail
     have hb := Blk.new wr 70 #[Value.int .i64 x.kind, .slice x.A x.n x.c]
     have HB1 := Lib.hid (HB.out.alloc (by omega) (.cells #[Value.int .i64 x.kind, .slice x.A x.n x.c] 70))
     have HO1 := Lib.hid (owns_on (HM.out.own) (Below.heap_alloc wr (.cells #[Value.int .i64 x.kind, .slice x.A x.n x.c] 70) w.heap.size HM.out.own.lt))
     have hlt1 := hb.lt
     have hlt2 := HM.out.own.lt
     have hne : w.heap.size ≠ wr.heap.size := by omega
     generalize hW1 : wr.alloc (.cells #[Value.int .i64 x.kind, .slice x.A x.n x.c] 70) = w1 at *
     have hs1 : w1.heap.size = wr.heap.size + 1 := by rw [← hW1]; exact alloc_size _ _
     clear hW1 hc0 hc1
     generalize hr : wr.heap.size = r at *
     have hc0 : w1.cell? ⟨r, 0, none⟩ = some (.int .i64 x.kind) := by rw [hb.cell]; rfl
     have HBk := Lib.hid hb
     clear hb
     by_cases hmem : x.kind ∈ kinds (l.take k)
     · have hh := Lib.hid ((HM.out.has x.kind).trans (decide_eq_true hmem))
       have HT : Hid (twiceB l = true) := by
         unfold twiceB
         rw [decide_eq_false]
         · rfl
         intro hnd
         have h1 : kinds (l.take (k + 1)) = kinds (l.take k) ++ [x.kind] := kinds_snoc hx
         have h2 : (kinds (l.take (k + 1))).Nodup := by
           unfold kinds at *
           exact (hnd.sublist ((List.take_sublist _ _).map _))
         rw [h1, List.nodup_append] at h2
         exact absurd rfl (h2.2.2 _ hmem _ (by simp))
       clear hmem
       go_wp2_with (at_lookup; refine wpList_lookup_own_unit _ rfl _ _ 206 rfl 3 207 keyed undM (zeroU _) w.heap.size k D rfl (by exact HO1.out) _ _ rfl hkey.out ?_; rw [hh.out])
       go_ret
       rw [HT.out]
       exact ⟨rfl, HB1.out.alloc (by omega) _⟩
     · have hh := Lib.hid ((HM.out.has x.kind).trans (decide_eq_false hmem))
       have HNM := Lib.hid hmem
       clear hmem
       go_upto_region 8 with (at_lookup; refine wpList_lookup_own_unit _ rfl _ _ 206 rfl 3 207 keyed undM (zeroU _) w.heap.size k D rfl (by exact HO1.out) _ _ rfl hkey.out ?_; rw [hh.out])
       have hne1 : w.heap.size ≠ w1.heap.size := by omega
       have HO2 := Lib.hid (owns_on HO1.out (Below.heap_alloc w1 (.cells #[] 207) w.heap.size (by omega)))
       have HB2 := Lib.hid (HB1.out.alloc (by omega) (.cells #[] 207))
       have hs2 : (w1.alloc (.cells #[] 207)).heap.size = w1.heap.size + 1 := alloc_size _ _
       go_wp2_with (at_mapUpdate; refine wpList_mapUpdate_own _ rfl _ _ _ 206 rfl 3 207 keyed undM (unitElem (H := Unit)) w.heap.size k D rfl (by exact HO2.out) (by unfold maxLen; omega) _ _ _ rfl rfl hkey.out _ [] unitElem_mk ?_; intro w3 hown3 hgrow3)
       have HO3 := Lib.hid hown3
       have HB3 := Lib.hid (HB2.out.grown hgrow3 (by omega) (fun j hj => by cases hj; exact Nat.le_refl _))
       clear hown3 hgrow3
       go_roundw
       case rel =>
         have hks := kinds_snoc hx
         refine ⟨k + 1, _, by omega, by go_num, Lib.hid ⟨HO3.out, fun z => ?_, ?_⟩, HB3⟩
         · rw [hks]
           by_cases hz : z = x.kind
           · subst hz
             rw [Maps.has_put_same HO2.out.isMap (keyed.key hkey.out)]
             simp
           · rw [Maps.has_put_other (fun e => hz (by injection e)), HM.out.has]
             simp [hz]
         · rw [hks, List.nodup_append]
           exact ⟨HM.out.nodup, by simp, fun a ha b hb' e => HNM.out (by simp at hb'; subst hb' e; exact ha)⟩
       case measure => simp [intOf]; omega
   · obtain rfl : k = n := by omega
     have HT : Hid (twiceB l = false) := by
       unfold twiceB
       have := HM.out.nodup
       rw [List.take_of_length_le (by have := HN.out; omega)] at this
       rw [decide_eq_true this]
       rfl
     go_wp2
     go_ret
     rw [HT.out]
     exact ⟨rfl, HB.out⟩

theorem wS5 {h : Hel} (h3 : ¬ h.ver.tdiv 256 = 3) : wrongS h = 5 := by unfold wrongS; rw [if_pos h3]
theorem wS6 {h : Hel} (h3 : h.ver.tdiv 256 = 3) (hs : 32 < h.ses.length) : wrongS h = 6 := by unfold wrongS; rw [if_neg (by simpa using h3), if_pos hs]
theorem wS8 {h : Hel} (h3 : h.ver.tdiv 256 = 3) (hs : ¬ 32 < h.ses.length) (hm : (0 : UInt8) ∉ h.met) : wrongS h = 8 := by unfold wrongS; rw [if_neg (by simpa using h3), if_neg hs, if_pos hm]
theorem wS7 {h : Hel} (h3 : h.ver.tdiv 256 = 3) (hs : ¬ 32 < h.ses.length) (hm : (0 : UInt8) ∈ h.met) (ht : ¬ (h.exts.map (·.1)).Nodup) : wrongS h = 7 := by
 unfold wrongS; rw [if_neg (by simpa using h3), if_neg hs, if_neg (by simpa using hm), if_pos ht]
theorem wS0 {h : Hel} (h3 : h.ver.tdiv 256 = 3) (hs : ¬ 32 < h.ses.length) (hm : (0 : UInt8) ∈ h.met) (ht : (h.exts.map (·.1)).Nodup) : wrongS h = 0 := by
 unfold wrongS; rw [if_neg (by simpa using h3), if_neg hs, if_neg (by simpa using hm), if_neg (by simpa using ht)]
theorem twice_hel {l : List Xt} : twiceB l = !decide ((l.map ext).map (·.1)).Nodup := by
 unfold twiceB kinds
 rw [List.map_map]
 rfl

set_option maxRecDepth 100000 in
set_option maxHeartbeats 1000000 in
theorem wrong_any (H : Hv) (w : World) (hH : H.Ok w) :
   Calls Tryz.prog 123 #[.agg H.C] w fun e w' => e = .returned (.int .i64 (wrongS H.hel)) ∧ Below w.heap.size w w' := by
 have HE : Hid (∀ i : Int, wrongS H.hel = i → Ending.returned (.int .i64 i) = .returned (.int .i64 (wrongS H.hel))) := fun i h => by rw [h]
 have hr := hH.rnd
 go_enter Tryz.func123, Tryz.ntmps123
 go_upto_region 1 with fail
 have hb := Blk.new w 68 H.C
 have HB1 := Lib.hid ((Below.refl w.heap.size w).alloc (Nat.le_refl _) (.cells H.C 68))
 have hlt := hb.lt
 have hok := hH.below HB1.out
 generalize w.alloc (.cells H.C 68) = w1 at *
 have HK := Lib.hid hok
 have hv := hok.ver
 have hs1 := hok.s1
 have hm1 := hok.m1
 have hx1 := hok.x1
 have c0 := cell_ver hb
 have c2 := cell_ses hb hr
 have c4 := cell_met hb hr
 have c6 := cell_xs hb hr
 have HBk := Lib.hid hb
 clear hb hok hH
 have hz : H.xs.length ≤ 140737488351232 := hx1.2
 by_cases h3 : H.ver.tdiv 256 = 3
 · have hv3 := ver_in h3
   by_cases hs : 32 < H.ses.length
   · have HW := Lib.hid (wS6 (h := H.hel) h3 hs)
     go_wp2_with fail
     go_ret
     exact ⟨HE.out _ HW.out, HB1.out⟩
   · have hs' : ¬ (32 : Int) < (H.ses.length : Int) := by omega
     have HN : Hid ((Lib.indexByte H.met (0 : Int).toNat.toUInt8 < 0) ↔ (0 : UInt8) ∉ H.met) := index_neg H.met 0
     by_cases hmem : (0 : UInt8) ∈ H.met
     · have hge := Lib.hid (show ¬ (Lib.indexByte H.met (0 : Int).toNat.toUInt8 < 0) from fun h => (HN.out.1 h) hmem)
       by_cases ht : (H.hel.exts.map (·.1)).Nodup
       · have HW := Lib.hid (wS0 (h := H.hel) h3 hs hmem ht)
         have HT : Hid (twiceB H.xs = false) := by rw [twice_hel]; show (!decide (H.hel.exts.map (·.1)).Nodup) = false; rw [decide_eq_true ht]; rfl
         clear ht hmem h3
         go_wp2_with fail
         refine (index_any _ _ _ H.met _ _ HK.out.met).mono ?_
         rintro e w2 ⟨rfl, rfl⟩
         have hx2 := hge.out
         generalize Lib.indexByte H.met (0 : Int).toNat.toUInt8 = I at *
         go_wp2_with fail
         refine (twice_any _ _ _ H.xs _ rfl hz HK.out.xs).mono ?_
         rintro e w2 ⟨rfl, hb2⟩
         have HB2 := Lib.hid (HB1.out.trans (hb2.mono HB1.out.size))
         rw [HT.out]
         clear hb2
         go_wp2_with fail
         go_ret
         exact ⟨HE.out _ HW.out, HB2.out⟩
       · have HW := Lib.hid (wS7 (h := H.hel) h3 hs hmem ht)
         have HT : Hid (twiceB H.xs = true) := by rw [twice_hel]; show (!decide (H.hel.exts.map (·.1)).Nodup) = true; rw [decide_eq_false ht]; rfl
         clear ht hmem h3
         go_wp2_with fail
         refine (index_any _ _ _ H.met _ _ HK.out.met).mono ?_
         rintro e w2 ⟨rfl, rfl⟩
         have hx2 := hge.out
         generalize Lib.indexByte H.met (0 : Int).toNat.toUInt8 = I at *
         go_wp2_with fail
         refine (twice_any _ _ _ H.xs _ rfl hz HK.out.xs).mono ?_
         rintro e w2 ⟨rfl, hb2⟩
         have HB2 := Lib.hid (HB1.out.trans (hb2.mono HB1.out.size))
         rw [HT.out]
         clear hb2
         go_wp2_with fail
         go_ret
         exact ⟨HE.out _ HW.out, HB2.out⟩
     · have HW := Lib.hid (wS8 (h := H.hel) h3 hs hmem)
       have hge := Lib.hid (HN.out.2 hmem)
       clear hmem h3
       go_wp2_with fail
       refine (index_any _ _ _ H.met _ _ HK.out.met).mono ?_
       rintro e w2 ⟨rfl, rfl⟩
       have hx2 := hge.out
       generalize Lib.indexByte H.met (0 : Int).toNat.toUInt8 = I at *
       go_wp2_with fail
       go_ret
       exact ⟨HE.out _ HW.out, HB1.out⟩
 · have HW := Lib.hid (wS5 (h := H.hel) h3)
   go_wp2_with fail
   go_ret
   exact ⟨HE.out _ HW.out, HB1.out⟩
end Go.Proofs.YthfknndjdfofgaaGreatDoor.He

/-
 Rows of numbers, and of extensions, of the call's own; what keeps a reader, and bytes, while such a row turns. Plain lemmas, no condition.
-/
namespace Go.Proofs.YthfknndjdfofgaaGreatDoor.He
open Go.RowKit Go.Proofs.YthfknndjdfofgaaGreatDoor.Wd Go.Proofs.YthfknndjdfofgaaGreatDoor.Be

def OffT (w : World) (row : Option Nat) (T : TypeId → Prop) : Prop := ∀ g, row = some g → w.heap.size ≤ g ∨ ∃ t cs, Blk w g t cs ∧ ¬ T t
theorem OffT.far {w : World} {row : Option Nat} {T : TypeId → Prop} (h : OffT w row T) {g t : Nat} {cs : Array Value} (hb : Blk w g t cs) (ht : T t) : some g ≠ row := by
 intro e
 rcases h g e.symm with h | ⟨t', cs', hb', hn⟩
 · have := hb.lt; omega
 · have h1 := hb.heap.symm.trans hb'.heap
   injection h1 with h1
   injection h1 with _ h2
   subst h2
   exact hn ht
theorem OffT.of_blk {w : World} {g t : Nat} {cs : Array Value} {T : TypeId → Prop} (hb : Blk w g t cs) (hn : ¬ T t) : OffT w (some g) T := fun g' e => by
 injection e with e; subst e; exact .inr ⟨t, cs, hb, hn⟩
theorem OffT.none (w : World) (T : TypeId → Prop) : OffT w Option.none T := fun g e => by cases e
theorem Sl.off {w w' : World} {v : Value} {xs : List UInt8} {row : Option Nat} {T : TypeId → Prop} (h : Sl w v xs) (hb : w.grownBy w' row) (hr : OffT w row T) (ht : T 5) : Sl w' v xs := by
 rcases h with ⟨rfl, rfl⟩ | ⟨g, rfl, hg⟩
 · exact .inl ⟨rfl, rfl⟩
 · exact .inr ⟨g, rfl, hg.grown hb (hr.far hg ht)⟩
theorem Rd.off {w w' : World} {r : Nat} {st : Option (List UInt8)} {row : Option Nat} {T : TypeId → Prop} (h : Rd w r st) (hb : w.grownBy w' row) (hr : OffT w row T) (ht : T 5) (ht2 : T 205) : Rd w' r st := by
 cases st with
 | none => exact Blk.grown h hb (hr.far h ht2)
 | some rest =>
   obtain ⟨g, off, cs, h1, h2, h3⟩ := h
   exact ⟨g, off, cs, h1.grown hb (hr.far h1 ht2), h2.grown hb (hr.far h2 ht), h3⟩
def TB (t : TypeId) : Prop := t = 5 ∨ t = 205

def lenAt (w : World) (r : Nat) : Nat := match w.cell? ⟨r, 0, none⟩ with
 | some (.slice _ n _) => n
 | _ => 0
theorem Rd.lenAt {w : World} {r : Nat} {st : Option (List UInt8)} (h : Rd w r st) : He.lenAt w r = leftS st := by
 unfold He.lenAt
 cases st with
 | none => rw [Blk.cell h 0]; rfl
 | some rest => obtain ⟨g, off, cs, hb, _⟩ := h; rw [hb.cell 0]; rfl
theorem take_less (st : Option (List UInt8)) (n : Int) : leftS (takeS st n).2 ≤ leftS st := by
 cases st with
 | none => exact Nat.zero_le _
 | some xs =>
   by_cases hn : 0 ≤ n ∧ n ≤ xs.length
   · obtain ⟨k, rfl⟩ := Int.eq_ofNat_of_zero_le hn.1
     rw [takeS_in _ _ (by omega)]
     simp [leftS]
   · rw [takeS_out _ _ hn]; exact Nat.zero_le _
theorem num_less (st : Option (List UInt8)) (h : 0 < leftS st) : leftS (numS st 2).2 < leftS st := by
 cases st with
 | none => exact absurd h (by simp [leftS])
 | some xs =>
   show leftS (takeS (some xs) (clampI 2)).2 < _
   by_cases hn : 2 ≤ xs.length
   · rw [show clampI 2 = ((2 : Nat) : Int) by decide, takeS_in _ _ hn]
     have : 0 < xs.length := h
     simp [leftS]; omega
   · rw [takeS_out _ _ (by rw [show clampI 2 = (2 : Int) by decide]; omega)]; exact h
theorem vec_less (st : Option (List UInt8)) (k : Int) : leftS (vecS st k).2 ≤ leftS st := Nat.le_trans (take_less _ _) (take_less _ _)
theorem num_small (st : Option (List UInt8)) : (numS st 2).1 < 65536 := by
 have h := natOf_lt (takeS st (clampI 2)).1
 have h2 := takeS_len st (clampI 2) (by decide)
 have e : (clampI 2).toNat = 2 := by decide
 rw [e] at h2
 exact Nat.lt_of_lt_of_le h (Nat.pow_le_pow_right (n := 256) (by omega) h2)
theorem vec_small (st : Option (List UInt8)) : (vecS st 2).1.length < 65536 := by
 have h1 := num_small st
 have h2 := takeS_len (numS st 2).2 ((numS st 2).1 : Int) (by omega)
 show (takeS (numS st 2).2 ((numS st 2).1 : Int)).1.length < _
 omega
theorem left_bd {st : Option (List UInt8)} {B : Nat} (h : leftS st ≤ B) : ∀ rest, st = some rest → rest.length ≤ B := fun rest e => by subst e; exact h

def OwnI (w : World) (B : Nat) (v : Value) (l : List Int) : Prop := w.ownsRow B 3 1 v l.length (l.map (.int .i64))
theorem infI : (Tryz.prog.info? 3).map (fun i => (i.zero, i.size, i.bytes)) = some (some (.int .i64 0), 1, 8) := by kernel_rfl
theorem OwnI.nil (w : World) (B : Nat) : OwnI w B (.slice none 0 0) [] := ⟨rfl, .inl ⟨rfl, rfl⟩⟩
theorem OwnI.off {w w' : World} {B : Nat} {v : Value} {l : List Int} {row : Option Nat} (h : OwnI w B v l) (hb : w.grownBy w' row) (hr : OffT w row (· = 3)) : OwnI w' B v l := by
 obtain ⟨hl, h0 | ⟨g, cap, cur, hv, hg, hh, r⟩⟩ := h
 · exact ⟨hl, .inl h0⟩
 · have hbk : Blk w g 3 cur := hh
   exact ⟨hl, .inr ⟨g, cap, cur, hv, hg, hbk.grown hb (hr.far hbk rfl), r⟩⟩
theorem OwnI.block {w : World} {B : Nat} {v : Value} {l : List Int} (h : OwnI w B v l) {T : TypeId → Prop} (hT : ¬ T 3) : OffT w v.ownBlock T := by
 obtain ⟨hl, ⟨rfl, h0⟩ | ⟨g, cap, cur, rfl, hg, hh, r⟩⟩ := h
 · exact fun g e => by cases e
 · exact OffT.of_blk (t := 3) (cs := cur) hh hT
theorem OwnI.ge {w : World} {B : Nat} {v : Value} {l : List Int} (h : OwnI w B v l) : ∀ g, v.ownBlock = some g → B ≤ g := by
 obtain ⟨hl, ⟨rfl, h0⟩ | ⟨g, cap, cur, rfl, hg, hh, r⟩⟩ := h
 · exact fun g e => by cases e
 · exact fun g' e => by
     have e' : g = g' := Option.some.inj e
     rw [← e']; exact hg
theorem OwnI.src {w : World} {B : Nat} {v : Value} {l : List Int} (h : OwnI w B v l) : ∃ A c, v = .slice A l.length c ∧ l.length ≤ c ∧ SrcI w A l := by
 obtain ⟨hl, ⟨rfl, h0⟩ | ⟨g, cap, cur, rfl, hg, hh, hc, _, hz, ht⟩⟩ := h
 · have : l = [] := List.eq_nil_of_length_eq_zero h0
   subst this
   exact ⟨none, 0, rfl, Nat.le_refl _, SrcI.nil w _⟩
 · refine ⟨_, cap, rfl, hc, fun k x hk => ⟨g, 0, rfl, Blk.lt (t := 3) (cs := cur) hh, ?_⟩⟩
   rw [Nat.zero_add, Blk.cell (t := 3) (cs := cur) hh, ← Array.getElem?_toList]
   have h2 : (l.map (Value.int .i64))[k]? = some (.int .i64 x) := by simp [hk]
   rw [← ht, Nat.mul_one, List.getElem?_take] at h2
   split at h2
   · exact h2
   · cases h2

theorem wpList_appI {ops : Array Oper} {rest : List Oper} {o : Oper} {a : Act} {w : World} {Q : Exit → Act → World → Prop} (hgd : o.guard = none) (s x : Operand)
   (ho : o.op = .call { callee := .builtin .append, args := #[s, x], argTypes := #[27, 27] })
   (B : Nat) (v : Value) (l : List Int) (hs : a.eval s = v) (hown : OwnI w B v l) (g c : Nat) (z : Int) (hx : a.eval x = .slice (some ⟨g, 0, none⟩) 1 c) (hsrc : w.cell? ⟨g, 0, none⟩ = some (.int .i64 z))
   (hlen : l.length + 1 ≤ 4294967296) (hB : B ≤ w.heap.size)
   (h : ∀ v' w', Hid (OwnI w' B v' (l ++ [z])) → Hid (w.grownBy w' v.ownBlock) → wpList Tryz.prog ops Q rest (a.put o.dst v') w') : wpList Tryz.prog ops Q (o :: rest) a w := by
 obtain ⟨i0, hi, hz0, hz1, hz2⟩ := info_parts infI
 obtain ⟨v', w', hrun, h2, h3, _, _⟩ := run_append_own_at (P := Tryz.prog) w B 27 o.type 3 i0 (.int .i64 0) 1 8 Tryz.underlying27 hi hz0 hz1 hz2 rfl (by omega) v l.length (l.map (.int .i64)) hown ⟨g, 0, none⟩ 1 c [.int .i64 z] rfl
   (fun j u hu => by
     cases j with
     | zero => simp at hu; subst hu; exact hsrc
     | succ j => simp at hu) (by simp [Value.oneCell']) (by unfold maxLen; omega) (by omega) hB
 have e1 : OwnI w' B v' (l ++ [z]) := by
   unfold OwnI
   rw [List.length_append, List.map_append]
   exact h2
 refine wpList_plain hgd fun K hK => ?_
 unfold Oper.wp execOp
 simp only [ho, resolve, invoke, builtin, Sem.run_bind, Sem.run_pure, Result.andThen_ok, List.map_toArray, List.map_cons, List.map_nil, hs, hx, hrun]
 exact hK _ _ (h v' w' (Lib.hid e1) (Lib.hid h3))

def xc (x : Xt) : List Value := [.int .i64 x.kind, .slice x.A x.n x.c]
def flat (l : List Xt) : List Value := l.flatMap xc
theorem flat_snoc (l : List Xt) (x : Xt) : flat (l ++ [x]) = flat l ++ xc x := by simp [flat]
theorem flat_get : ∀ (l : List Xt) (i : Nat) (x : Xt), l[i]? = some x → (flat l)[i * 2]? = some (.int .i64 x.kind) ∧ (flat l)[i * 2 + 1]? = some (.slice x.A x.n x.c)
 | [], i, x, h => by simp at h
 | y :: l, 0, x, h => by
   simp at h; subst h
   exact ⟨rfl, rfl⟩
 | y :: l, i + 1, x, h => by
   have ih := flat_get l i x (by simpa using h)
   have e : flat (y :: l) = xc y ++ flat l := by simp [flat]
   have e2 : (xc y).length = 2 := rfl
   rw [e]
   constructor
   · rw [List.getElem?_append_right (by rw [e2]; omega), e2, show (i + 1) * 2 - 2 = i * 2 by omega]; exact ih.1
   · rw [List.getElem?_append_right (by rw [e2]; omega), e2, show (i + 1) * 2 + 1 - 2 = i * 2 + 1 by omega]; exact ih.2
structure Xt.Mine (w : World) (x : Xt) : Prop where
 sl : Sl w (.slice x.A x.n x.c) x.b
 n : x.n = x.b.length
 small : x.b.length < 65536
 k : 0 ≤ x.kind ∧ x.kind < 65536
structure OwnX (w : World) (B : Nat) (v : Value) (l : List Xt) : Prop where
 row : w.ownsRow B 70 2 v l.length (flat l)
 each : ∀ x ∈ l, x.Mine w
theorem infX : (Tryz.prog.info? 70).map (fun i => (i.zero, i.size, i.bytes)) = some (some (.agg #[.int .i64 0, .slice none 0 0]), 2, 32) := by kernel_rfl
theorem OwnX.nil (w : World) (B : Nat) : OwnX w B (.slice none 0 0) [] := ⟨⟨rfl, .inl ⟨rfl, rfl⟩⟩, fun _ h => absurd h List.not_mem_nil⟩
theorem OwnX.block {w : World} {B : Nat} {v : Value} {l : List Xt} (h : OwnX w B v l) {T : TypeId → Prop} (hT : ¬ T 70) : OffT w v.ownBlock T := by
 obtain ⟨hl, ⟨rfl, h0⟩ | ⟨g, cap, cur, rfl, hg, hh, r⟩⟩ := h.row
 · exact fun g e => by cases e
 · exact OffT.of_blk (t := 70) (cs := cur) hh hT
theorem OwnX.ge {w : World} {B : Nat} {v : Value} {l : List Xt} (h : OwnX w B v l) : ∀ g, v.ownBlock = some g → B ≤ g := by
 obtain ⟨hl, ⟨rfl, h0⟩ | ⟨g, cap, cur, rfl, hg, hh, r⟩⟩ := h.row
 · exact fun g e => by cases e
 · exact fun g' e => by
     have e' : g = g' := Option.some.inj e
     rw [← e']; exact hg
def TX (t : TypeId) : Prop := t = 70 ∨ t = 5
theorem OwnX.off {w w' : World} {B : Nat} {v : Value} {l : List Xt} {row : Option Nat} (h : OwnX w B v l) (hb : w.grownBy w' row) (hr : OffT w row TX) : OwnX w' B v l := by
 refine ⟨?_, fun x hx => ?_⟩
 · obtain ⟨hl, h0 | ⟨g, cap, cur, hv, hg, hh, r⟩⟩ := h.row
   · exact ⟨hl, .inl h0⟩
   · have hbk : Blk w g 70 cur := hh
     exact ⟨hl, .inr ⟨g, cap, cur, hv, hg, hbk.grown hb (hr.far hbk (.inl rfl)), r⟩⟩
 · have := h.each x hx
   exact ⟨Sl.off this.sl hb hr (.inr rfl), this.n, this.small, this.k⟩
theorem Xt.Mine.ok {w : World} {x : Xt} (h : x.Mine w) : x.Ok w := by
 obtain ⟨A', c', e, h1, h2⟩ := h.sl.src
 injection e with e1 e2 e3
 rw [← e1, ← e2] at h2
 have := h.n
 have := h.small
 have := h.k
 exact ⟨by omega, by omega, h2, by omega⟩
theorem OwnX.src {w : World} {B : Nat} {v : Value} {l : List Xt} (h : OwnX w B v l) : ∃ A c, v = .slice A l.length c ∧ l.length ≤ c ∧ SrcX w A l := by
 obtain ⟨hl, ⟨rfl, h0⟩ | ⟨g, cap, cur, rfl, hg, hh, hc, _, hz, ht⟩⟩ := h.row
 · have : l = [] := List.eq_nil_of_length_eq_zero h0
   subst this
   exact ⟨none, 0, rfl, Nat.le_refl _, SrcX.nil w _⟩
 · have hget : ∀ (k : Nat) (u : Value), (flat l)[k]? = some u → w.cell? ⟨g, 0 + k, none⟩ = some u := fun k u hk => by
     rw [Nat.zero_add, Blk.cell (t := 70) (cs := cur) hh, ← Array.getElem?_toList]
     rw [← ht, List.getElem?_take] at hk
     split at hk
     · exact hk
     · cases hk
   refine ⟨_, cap, rfl, hc, fun k x hk => ⟨(h.each x (List.mem_of_getElem? hk)).ok, g, 0, rfl, Blk.lt (t := 70) (cs := cur) hh, ?_, ?_⟩⟩
   · exact hget _ _ (flat_get l k x hk).1
   · exact hget _ _ (flat_get l k x hk).2

theorem wpList_appX {ops : Array Oper} {rest : List Oper} {o : Oper} {a : Act} {w : World} {Q : Exit → Act → World → Prop} (hgd : o.guard = none) (s x : Operand)
   (ho : o.op = .call { callee := .builtin .append, args := #[s, x], argTypes := #[66, 66] })
   (B : Nat) (v : Value) (l : List Xt) (hs : a.eval s = v) (hown : OwnX w B v l) (g c : Nat) (z : Xt) (hx : a.eval x = .slice (some ⟨g, 0, none⟩) 1 c) (hm : z.Mine w)
   (h0 : w.cell? ⟨g, 0, none⟩ = some (.int .i64 z.kind)) (h1 : w.cell? ⟨g, 1, none⟩ = some (.slice z.A z.n z.c))
   (hlen : l.length + 1 ≤ 4294967296) (hB : B ≤ w.heap.size)
   (h : ∀ v' w', Hid (OwnX w' B v' (l ++ [z])) → Hid (w.grownBy w' v.ownBlock) → wpList Tryz.prog ops Q rest (a.put o.dst v') w') : wpList Tryz.prog ops Q (o :: rest) a w := by
 obtain ⟨i0, hi, hz0, hz1, hz2⟩ := info_parts infX
 obtain ⟨v', w', hrun, h2, h3, _, _⟩ := run_append_own_at (P := Tryz.prog) w B 66 o.type 70 i0 (.agg #[.int .i64 0, .slice none 0 0]) 2 32 Tryz.underlying66 hi hz0 hz1 hz2 rfl (by omega) v l.length (flat l) hown.row ⟨g, 0, none⟩ 1 c (xc z) rfl
   (fun j u hu => by
     match j with
     | 0 => simp [xc] at hu; subst hu; exact h0
     | 1 => simp [xc] at hu; subst hu; exact h1
     | j + 2 => simp [xc] at hu) (by simp [xc, Value.oneCell']) (by unfold maxLen; omega) (by omega) hB
 have e1 : OwnX w' B v' (l ++ [z]) := by
   refine ⟨?_, fun y hy => ?_⟩
   · rw [List.length_append, flat_snoc]
     exact h2
   · have hy' : y.Mine w := by
       rcases List.mem_append.1 hy with hy | hy
       · exact hown.each y hy
       · simp at hy; subst hy; exact hm
     exact ⟨Sl.off hy'.sl h3 (hown.block (T := (· = 5)) (by decide)) rfl, hy'.n, hy'.small, hy'.k⟩
 refine wpList_plain hgd fun K hK => ?_
 unfold Oper.wp execOp
 simp only [ho, resolve, invoke, builtin, Sem.run_bind, Sem.run_pure, Result.andThen_ok, List.map_toArray, List.map_cons, List.map_nil, hs, hx, hrun]
 exact hK _ _ (h v' w' (Lib.hid e1) (Lib.hid h3))
end Go.Proofs.YthfknndjdfofgaaGreatDoor.He
