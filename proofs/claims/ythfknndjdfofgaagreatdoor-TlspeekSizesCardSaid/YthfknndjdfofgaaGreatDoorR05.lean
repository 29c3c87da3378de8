/-
 A string's bytes as a list: plain facts, no condition.
-/
import Derived.Test.YthfknndjdfofgaaGreatDoorR01
import Derived.Test.YthfknndjdfofgaaGreatDoorR03
namespace Go.Proofs.YthfknndjdfofgaaGreatDoor.Wd
open Go.RowKit

def lst (s : ByteArray) : List UInt8 := s.data.toList
theorem lst_inj {a b : ByteArray} (h : lst a = lst b) : a = b := by
 apply ByteArray.ext
 apply Array.ext'
 exact h
theorem lst_mk (l : List UInt8) : lst ⟨l.toArray⟩ = l := by simp [lst]
def str8 (l : List UInt8) : ByteArray := ⟨l.toArray⟩
theorem lst_str8 (l : List UInt8) : lst (str8 l) = l := lst_mk l
end Go.Proofs.YthfknndjdfofgaaGreatDoor.Wd

/-
 Rows of elements of whatever kind (so many cells each): of the call's own, or that a slice leads to; append onto them. Plain lemmas, no condition.
-/
namespace Go.Proofs.YthfknndjdfofgaaGreatDoor.Ro
open Go.RowKit Go.Proofs.YthfknndjdfofgaaGreatDoor.Wd Go.Proofs.YthfknndjdfofgaaGreatDoor.He

structure El (α : Type) where
 ty : TypeId
 n : Nat
 c : α → List Value
structure El.Fine {α : Type} (e : El α) (sl : TypeId) (z : Value) (bytes : Nat) : Prop where
 und : Tryz.prog.underlying sl = some (.slice e.ty)
 info : (Tryz.prog.info? e.ty).map (fun i => (i.zero, i.size, i.bytes)) = some (some z, e.n, bytes)
 zs : z.cells.size = e.n
 pos : 0 < e.n
 len : ∀ x, (e.c x).length = e.n
 one : ∀ x, ∀ v ∈ e.c x, v.oneCell' = true
section
variable {α : Type} {e : El α} {sl : TypeId} {z : Value} {bytes : Nat}
def flat (e : El α) (l : List α) : List Value := l.flatMap e.c
theorem flat_app (l m : List α) : flat e (l ++ m) = flat e l ++ flat e m := by simp [flat]
theorem flat_one (x : α) : flat e [x] = e.c x := by simp [flat]
theorem flat_len (F : e.Fine sl z bytes) (l : List α) : (flat e l).length = l.length * e.n := by
 induction l with
 | nil => simp [flat]
 | cons x l ih => rw [show flat e (x :: l) = e.c x ++ flat e l by simp [flat], List.length_append, ih, F.len, List.length_cons, Nat.add_mul]; omega
theorem flat_at (F : e.Fine sl z bytes) : ∀ (l : List α) (i : Nat) (x : α), l[i]? = some x → ∀ (j : Nat) (v : Value), (e.c x)[j]? = some v → (flat e l)[i * e.n + j]? = some v
 | [], i, x, h, _, _, _ => by simp at h
 | y :: l, 0, x, h, j, v, hv => by
   simp at h
   subst h
   rw [show flat e (y :: l) = e.c y ++ flat e l by simp [flat], List.getElem?_append_left (by have := (List.getElem?_eq_some_iff.1 hv).1; omega), Nat.zero_mul, Nat.zero_add]
   exact hv
 | y :: l, i + 1, x, h, j, v, hv => by
   rw [show flat e (y :: l) = e.c y ++ flat e l by simp [flat], List.getElem?_append_right (by rw [F.len, Nat.add_mul]; omega), F.len, show (i + 1) * e.n + j - e.n = i * e.n + j by rw [Nat.add_mul]; omega]
   exact flat_at F l i x (by simpa using h) j v hv
theorem flat_mem {l : List α} {v : Value} (h : v ∈ flat e l) : ∃ x ∈ l, v ∈ e.c x := by
 simpa [flat] using h
theorem flat_ones (F : e.Fine sl z bytes) (l : List α) : ∀ v ∈ flat e l, v.oneCell' = true := fun v h => by
 obtain ⟨x, _, hv⟩ := flat_mem h
 exact F.one x v hv

def SrcE (w : World) (e : El α) (A : Option Addr) (l : List α) : Prop :=
 ∀ (i : Nat) (x : α), l[i]? = some x → ∃ g o, A = some ⟨g, o, none⟩ ∧ g < w.heap.size ∧ ∀ (j : Nat) (v : Value), (e.c x)[j]? = some v → w.cell? ⟨g, o + (i * e.n + j), none⟩ = some v
theorem SrcE.below {w w' : World} {A : Option Addr} {l : List α} (h : SrcE w e A l) (hb : Below w.heap.size w w') : SrcE w' e A l := fun i x hx => by
 obtain ⟨g, o, hA, hg, hc⟩ := h i x hx
 exact ⟨g, o, hA, Nat.lt_of_lt_of_le hg hb.size, fun j v hv => (hb.cell (p := ⟨g, _, none⟩) hg).trans (hc j v hv)⟩
theorem SrcE.nil (w : World) (A : Option Addr) : SrcE w e A [] := fun i x h => by simp at h
theorem SrcE.new (F : e.Fine sl z bytes) (w : World) (l : List α) (C : Array Value) (hC : C = (flat e l).toArray) (t : TypeId) : SrcE (w.alloc (.cells C t)) e (some ⟨w.heap.size, 0, none⟩) l := fun i x hx =>
 ⟨_, 0, rfl, by simp, fun j v hv => by
   rw [Blk.cell (Blk.new w t C), hC, Nat.zero_add]
   simpa using flat_at F l i x hx j v hv⟩

def OwnE (w : World) (e : El α) (B : Nat) (v : Value) (l : List α) : Prop := w.ownsRow B e.ty e.n v l.length (flat e l)
theorem OwnE.nil (w : World) (e : El α) (B : Nat) : OwnE w e B (.slice none 0 0) [] := ⟨by simp [flat], .inl ⟨rfl, rfl⟩⟩
theorem OwnE.off {w w' : World} {B : Nat} {v : Value} {l : List α} {row : Option Nat} (h : OwnE w e B v l) (hb : w.grownBy w' row) (hr : OffT w row (· = e.ty)) : OwnE w' e B v l := by
 obtain ⟨hl, h0 | ⟨g, cap, cur, hv, hg, hh, r⟩⟩ := h
 · exact ⟨hl, .inl h0⟩
 · have hbk : Blk w g e.ty cur := hh
   exact ⟨hl, .inr ⟨g, cap, cur, hv, hg, hbk.grown hb (hr.far hbk rfl), r⟩⟩
theorem OwnE.below {w w' : World} {B : Nat} {v : Value} {l : List α} (h : OwnE w e B v l) (hb : Below w.heap.size w w') : OwnE w' e B v l := h.off (only_of_below hb none) (OffT.none _ _)
theorem OwnE.alloc {w : World} {B : Nat} {v : Value} {l : List α} (h : OwnE w e B v l) (o : Obj) : OwnE (w.alloc o) e B v l := World.ownsRow.alloc h o
theorem OwnE.lower {w : World} {B B' : Nat} {v : Value} {l : List α} (h : OwnE w e B v l) (hB : B' ≤ B) : OwnE w e B' v l := by
 obtain ⟨hl, h0 | ⟨g, cap, cur, hv, hg, r⟩⟩ := h
 · exact ⟨hl, .inl h0⟩
 · exact ⟨hl, .inr ⟨g, cap, cur, hv, Nat.le_trans hB hg, r⟩⟩
theorem OwnE.block {w : World} {B : Nat} {v : Value} {l : List α} (h : OwnE w e B v l) {T : TypeId → Prop} (hT : ¬ T e.ty) : OffT w v.ownBlock T := by
 obtain ⟨hl, ⟨rfl, h0⟩ | ⟨g, cap, cur, rfl, hg, hh, r⟩⟩ := h
 · exact fun g e => by cases e
 · exact OffT.of_blk (t := e.ty) (cs := cur) hh hT
theorem OwnE.ge {w : World} {B : Nat} {v : Value} {l : List α} (h : OwnE w e B v l) : ∀ g, v.ownBlock = some g → B ≤ g := by
 obtain ⟨hl, ⟨rfl, h0⟩ | ⟨g, cap, cur, rfl, hg, hh, r⟩⟩ := h
 · exact fun g e => by cases e
 · exact fun g' e => by
     have e' : g = g' := Option.some.inj e
     rw [← e']; exact hg
theorem OwnE.row {w : World} {B : Nat} {v : Value} {l : List α} (h : OwnE w e B v l) :
   (v = .slice none 0 0 ∧ l = []) ∨ ∃ g cap cur, v = .slice (some ⟨g, 0, none⟩) l.length cap ∧ B ≤ g ∧ Blk w g e.ty cur ∧ l.length ≤ cap ∧ cap ≤ maxLen ∧ cur.size = cap * e.n ∧ cur.toList.take (l.length * e.n) = flat e l := by
 obtain ⟨hl, ⟨rfl, h0⟩ | ⟨g, cap, cur, rfl, hg, hh, hc, hm, hz, ht⟩⟩ := h
 · exact .inl ⟨rfl, List.eq_nil_of_length_eq_zero h0⟩
 · exact .inr ⟨g, cap, cur, rfl, hg, hh, hc, hm, hz, ht⟩
theorem OwnE.src (F : e.Fine sl z bytes) {w : World} {B : Nat} {v : Value} {l : List α} (h : OwnE w e B v l) : ∃ A c, v = .slice A l.length c ∧ l.length ≤ c ∧ c ≤ maxLen ∧ SrcE w e A l := by
 rcases h.row with ⟨rfl, rfl⟩ | ⟨g, cap, cur, rfl, hg, hh, hc, hm, hz, ht⟩
 · exact ⟨none, 0, rfl, Nat.le_refl _, Nat.zero_le _, SrcE.nil w _⟩
 · refine ⟨_, cap, rfl, hc, hm, fun i x hx => ⟨g, 0, rfl, hh.lt, fun j v hv => ?_⟩⟩
   rw [Nat.zero_add, hh.cell, ← Array.getElem?_toList]
   have h2 := flat_at F l i x hx j v hv
   rw [← ht, List.getElem?_take] at h2
   split at h2
   · exact h2
   · cases h2
theorem OwnE.form {w : World} {B : Nat} {v : Value} {l : List α} (h : OwnE w e B v l) : ∃ A c, v = .slice A l.length c := by
 rcases h.row with ⟨rfl, rfl⟩ | ⟨g, cap, cur, rfl, _⟩
 · exact ⟨none, 0, rfl⟩
 · exact ⟨_, cap, rfl⟩

set_option maxRecDepth 100000 in
theorem run_appE (F : e.Fine sl z bytes) {w : World} {B : Nat} {v : Value} {l m : List α} (hown : OwnE w e B v l) {A : Option Addr} {c : Nat} (hs : SrcE w e A m) (hlen : l.length + m.length ≤ 4294967296) (hby : bytes ≤ 32768) (hB : B ≤ w.heap.size) (ty : TypeId) (hm : m = [] → A = none → B ≤ w.heap.size) :
   m ≠ [] → ∃ v' w', (Builtin.append_ #[sl, sl] ty #[v, .slice A m.length c]).run Tryz.prog w = .ok v' w' ∧ OwnE w' e B v' (l ++ m) ∧ w.grownBy w' v.ownBlock ∧ (v'.ownBlock = v.ownBlock ∨ v'.ownBlock = some w.heap.size) := by
 intro hne
 obtain ⟨i0, hi, hz0, hz1, hz2⟩ := info_parts F.info
 obtain ⟨x0, hx0⟩ : ∃ x, m[0]? = some x := by cases m with
   | nil => exact absurd rfl hne
   | cons x m => exact ⟨x, rfl⟩
 obtain ⟨g, o, rfl, hg, _⟩ := hs 0 x0 hx0
 have hcells : ∀ (j : Nat) (u : Value), (flat e m)[j]? = some u → w.cell? ((⟨g, o, none⟩ : Addr).add j) = some u := by
   intro j u hu
   have hj := (List.getElem?_eq_some_iff.1 hu).1
   rw [flat_len F] at hj
   have hp := F.pos
   have hi' : j / e.n < m.length := (Nat.div_lt_iff_lt_mul hp).2 hj
   have hd := Nat.div_add_mod j e.n
   have hr := Nat.mod_lt j hp
   obtain ⟨x, hx⟩ : ∃ x, m[j / e.n]? = some x := ⟨_, List.getElem?_eq_getElem hi'⟩
   obtain ⟨g', o', hA, _, hc⟩ := hs _ x hx
   injection hA with hA
   injection hA with h1 h2
   subst h1 h2
   have hjl : j % e.n < (e.c x).length := by rw [F.len]; exact hr
   have h1 := hc (j % e.n) _ (List.getElem?_eq_getElem hjl)
   have h2 := flat_at F m _ x hx (j % e.n) _ (List.getElem?_eq_getElem hjl)
   have e1 : j / e.n * e.n + j % e.n = j := by rw [Nat.mul_comm]; exact hd
   rw [e1] at h1 h2
   rw [h2] at hu
   injection hu with hu
   rw [add_flat, h1, hu]
 have hb2 : (l.length + m.length) * bytes ≤ 140737488355328 := by
   have := Nat.mul_le_mul hlen hby
   omega
 obtain ⟨v', w', hrun, h2, h3, _, h5⟩ := run_append_own_at (P := Tryz.prog) w B sl ty e.ty i0 z e.n bytes F.und hi hz0 hz1 hz2 F.zs F.pos v l.length (flat e l) hown ⟨g, o, none⟩ m.length c (flat e m) (flat_len F m) hcells (flat_ones F m) (by unfold maxLen; omega) hb2 hB
 refine ⟨v', w', hrun, ?_, h3, h5⟩
 unfold OwnE
 rw [List.length_append, flat_app]
 exact h2
theorem wpList_appE (F : e.Fine sl z bytes) {ops : Array Oper} {rest : List Oper} {o : Oper} {a : Act} {w : World} {Q : Exit → Act → World → Prop} (hgd : o.guard = none) (s x : Operand)
   (ho : o.op = .call { callee := .builtin .append, args := #[s, x], argTypes := #[sl, sl] })
   (B : Nat) (v : Value) (l : List α) (hs : a.eval s = v) (hown : OwnE w e B v l) (A : Option Addr) (n c : Nat) (m : List α) (hx : a.eval x = .slice A n c) (hn : n = m.length) (hne : m ≠ []) (hsrc : SrcE w e A m)
   (hlen : l.length + m.length ≤ 4294967296) (hby : bytes ≤ 32768) (hB : B ≤ w.heap.size)
   (h : ∀ v' w', Hid (OwnE w' e B v' (l ++ m)) → Hid (w.grownBy w' v.ownBlock) → wpList Tryz.prog ops Q rest (a.put o.dst v') w') : wpList Tryz.prog ops Q (o :: rest) a w := by
 subst hn
 obtain ⟨v', w', hrun, h2, h3, _⟩ := run_appE F hown (c := c) hsrc hlen hby hB o.type (fun _ _ => hB) hne
 refine wpList_plain hgd fun K hK => ?_
 unfold Oper.wp execOp
 simp only [ho, resolve, invoke, builtin, Sem.run_bind, Sem.run_pure, Result.andThen_ok, List.map_toArray, List.map_cons, List.map_nil, hs, hx, hrun]
 exact hK _ _ (h v' w' (Lib.hid h2) (Lib.hid h3))
end
def elS : El (List UInt8) := ⟨9, 1, fun x => [.string (str8 x)]⟩
theorem fineS : elS.Fine 26 (.string .empty) 16 := ⟨Tryz.underlying26, by kernel_rfl, rfl, Nat.one_pos, fun _ => rfl, fun x v h => by
 simp [elS] at h; subst h; rfl⟩
def elI : El Int := ⟨3, 1, fun n => [.int .i64 n]⟩
theorem fineI : elI.Fine 27 (.int .i64 0) 8 := ⟨Tryz.underlying27, by kernel_rfl, rfl, Nat.one_pos, fun _ => rfl, fun x v h => by
 simp [elI] at h; subst h; rfl⟩
def elT : El (Int × List UInt8) := ⟨188, 2, fun x => [.int .i64 x.1, .string (str8 x.2)]⟩
theorem fineT : elT.Fine 184 (.agg #[.int .i64 0, .string .empty]) 24 := ⟨Tryz.underlying184, by kernel_rfl, rfl, Nat.two_pos, fun _ => rfl, fun x v h => by
 simp [elT] at h; rcases h with rfl | rfl <;> rfl⟩
end Go.Proofs.YthfknndjdfofgaaGreatDoor.Ro
