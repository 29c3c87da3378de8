/-
  Rows of elements of whatever kind (so many cells each) in blocks of their own; append onto them; one of them turned. For a trie: places, nodes, rows of rows. Plain lemmas, no condition.
-/
import Derived.Test.YtlpondbcnfaggaaGreatDoorQ25
import Derived.Test.YtlpondbcnfaggaaGreatDoorQ01
import Derived.RangeFuncBox
import Derived.RangeFuncLeaves
import Derived.RangeFuncNested
import Derived.RangeFuncBound
import Derived.RangeFuncCalls
import Derived.Shelf.Abstract
import Derived.Shelf.RegionOpen
import Derived.WalkKit
import Derived.OwnWalkIn
import Derived.TacticsInMore
import Derived.LoopNIn
import Derived.LoopIn
import Derived.Deep.RegionHeldLaw
namespace Go.Proofs.YtlpondbcnfaggaaGreatDoor.Te
open Go.RowKit Go.Proofs.YtlpondbcnfaggaaGreatDoor.Wd

theorem add_flat (g o j : Nat) : (⟨g, o, none⟩ : Addr).add j = ⟨g, o + j, none⟩ := by unfold Addr.add; split <;> simp_all
/-- a kind of element: its type, how many cells it has, which -/
structure El (α : Type) where
  ty : TypeId
  n : Nat
  c : α → List Value
structure El.Fine {α : Type} (e : El α) (sl : TypeId) (z : Value) (bytes : Nat) : Prop where
  und : Tryz.prog.underlying sl = some (.slice e.ty)
  info : (Tryz.prog.info? e.ty).map (fun i => (i.zero, i.size, i.bytes)) = some (some z, e.n, bytes)
  zs : z.cells.size = e.n
  pos : 0 < e.n
  len : ∀ x, (e.c x).length = e.n
  one : ∀ x, ∀ v ∈ e.c x, v.oneCell' = true
section
variable {α : Type} {e : El α} {sl : TypeId} {z : Value} {bytes : Nat}
def flat (e : El α) (l : List α) : List Value := l.flatMap e.c
theorem flat_app (l m : List α) : flat e (l ++ m) = flat e l ++ flat e m := by simp [flat]
theorem flat_len (F : e.Fine sl z bytes) (l : List α) : (flat e l).length = l.length * e.n := by
  induction l with
  | nil => simp [flat]
  | cons x l ih => rw [show flat e (x :: l) = e.c x ++ flat e l by simp [flat], List.length_append, ih, F.len, List.length_cons, Nat.add_mul]; omega
theorem flat_at (F : e.Fine sl z bytes) : ∀ (l : List α) (i : Nat) (x : α), l[i]? = some x → ∀ (j : Nat) (v : Value), (e.c x)[j]? = some v → (flat e l)[i * e.n + j]? = some v
  | [], i, x, h, _, _, _ => by simp at h
  | y :: l, 0, x, h, j, v, hv => by
    simp at h
    subst h
    rw [show flat e (y :: l) = e.c y ++ flat e l by simp [flat], List.getElem?_append_left (by have := (List.getElem?_eq_some_iff.1 hv).1; omega), Nat.zero_mul, Nat.zero_add]
    exact hv
  | y :: l, i + 1, x, h, j, v, hv => by
    rw [show flat e (y :: l) = e.c y ++ flat e l by simp [flat], List.getElem?_append_right (by rw [F.len, Nat.add_mul]; omega), F.len, show (i + 1) * e.n + j - e.n = i * e.n + j by rw [Nat.add_mul]; omega]
    exact flat_at F l i x (by simpa using h) j v hv
theorem flat_ones (F : e.Fine sl z bytes) (l : List α) : ∀ v ∈ flat e l, v.oneCell' = true := fun v h => by
  obtain ⟨x, _, hv⟩ : ∃ x ∈ l, v ∈ e.c x := by simpa [flat] using h
  exact F.one x v hv
/-- cells that hold the elements' cells, each in its place, begin with them -/
theorem flat_of (F : e.Fine sl z bytes) (l : List α) (C : List Value) (h : ∀ (i : Nat) (x : α), l[i]? = some x → ∀ (j : Nat) (v : Value), (e.c x)[j]? = some v → C[i * e.n + j]? = some v) : C.take (l.length * e.n) = flat e l := by
  refine List.ext_getElem? fun k => ?_
  rw [List.getElem?_take]
  have hp := F.pos
  by_cases hk : k < l.length * e.n
  · rw [if_pos hk]
    have hi : k / e.n < l.length := (Nat.div_lt_iff_lt_mul hp).2 hk
    have hj : k % e.n < (e.c l[k / e.n]).length := by rw [F.len]; exact Nat.mod_lt k hp
    have hx : l[k / e.n]? = some l[k / e.n] := List.getElem?_eq_getElem hi
    have h1 := h _ _ hx (k % e.n) _ (List.getElem?_eq_getElem hj)
    have h2 := flat_at F l _ _ hx (k % e.n) _ (List.getElem?_eq_getElem hj)
    have e1 : k / e.n * e.n + k % e.n = k := by rw [Nat.mul_comm]; exact Nat.div_add_mod k e.n
    rw [e1] at h1 h2
    rw [h1, h2]
  · rw [if_neg hk, List.getElem?_eq_none (by rw [flat_len F]; omega)]

/-- elements that a slice leads to -/
def SrcE (w : World) (e : El α) (A : Option Addr) (l : List α) : Prop :=
  ∀ (i : Nat) (x : α), l[i]? = some x → ∃ g o, A = some ⟨g, o, none⟩ ∧ g < w.heap.size ∧ ∀ (j : Nat) (v : Value), (e.c x)[j]? = some v → w.cell? ⟨g, o + (i * e.n + j), none⟩ = some v
theorem SrcE.below {w w' : World} {A : Option Addr} {l : List α} (h : SrcE w e A l) (hb : Below w.heap.size w w') : SrcE w' e A l := fun i x hx => by
  obtain ⟨g, o, hA, hg, hc⟩ := h i x hx
  exact ⟨g, o, hA, Nat.lt_of_lt_of_le hg hb.size, fun j v hv => (hb.cell (p := ⟨g, _, none⟩) hg).trans (hc j v hv)⟩
theorem SrcE.nil (w : World) (A : Option Addr) : SrcE w e A [] := fun i x h => by simp at h
/-- one element, in a block -/
theorem SrcE.one {w : World} {g t : Nat} {C : Array Value} (x : α) (h : Blk w g t C) (hC : C.toList = e.c x) : SrcE w e (some ⟨g, 0, none⟩) [x] := fun i y hy => by
  match i, hy with
  | 0, hy =>
    injection hy with hy
    subst hy
    refine ⟨g, 0, rfl, h.lt, fun j v hv => ?_⟩
    rw [h.cell, Nat.zero_mul, Nat.zero_add, Nat.zero_add, ← Array.getElem?_toList, hC]
    exact hv
  | i + 1, hy => simp at hy

/-- the slice v owns the elements l, in blocks from B on -/
def OwnE (w : World) (e : El α) (B : Nat) (v : Value) (l : List α) : Prop := w.ownsRow B e.ty e.n v l.length (flat e l)
theorem OwnE.nil (w : World) (e : El α) (B : Nat) : OwnE w e B (.slice none 0 0) [] := ⟨by simp [flat], .inl ⟨rfl, rfl⟩⟩
theorem OwnE.but {S : List Nat} {w w' : World} {B : Nat} {v : Value} {l : List α} (h : OwnE w e B v l) (k : But S w w') (hv : ∀ b, v.ownBlock = some b → b ∉ S) : OwnE w' e B v l := by
  obtain ⟨hl, h0 | ⟨g, cap, cur, rfl, hg, hh, r⟩⟩ := h
  · exact ⟨hl, .inl h0⟩
  · have hbk : Blk w g e.ty cur := hh
    exact ⟨hl, .inr ⟨g, cap, cur, rfl, hg, hbk.but k (hv g rfl), r⟩⟩
theorem OwnE.below {w w' : World} {B : Nat} {v : Value} {l : List α} (h : OwnE w e B v l) (hb : Below w.heap.size w w') : OwnE w' e B v l := h.but (But.of_below hb []) (fun _ _ h => by cases h)
theorem OwnE.alloc {w : World} {B : Nat} {v : Value} {l : List α} (h : OwnE w e B v l) (o : Obj) : OwnE (w.alloc o) e B v l := World.ownsRow.alloc h o
theorem OwnE.lower {w : World} {B B' : Nat} {v : Value} {l : List α} (h : OwnE w e B v l) (hB : B' ≤ B) : OwnE w e B' v l := by
  obtain ⟨hl, h0 | ⟨g, cap, cur, hv, hg, r⟩⟩ := h
  · exact ⟨hl, .inl h0⟩
  · exact ⟨hl, .inr ⟨g, cap, cur, hv, Nat.le_trans hB hg, r⟩⟩
theorem OwnE.lt {w : World} {B : Nat} {v : Value} {l : List α} (h : OwnE w e B v l) : ∀ b, v.ownBlock = some b → b < w.heap.size := by
  obtain ⟨hl, ⟨rfl, h0⟩ | ⟨g, cap, cur, rfl, hg, hh, r⟩⟩ := h
  · exact fun g e => by cases e
  · exact fun g' e' => by
      have e2 : g = g' := Option.some.inj e'
      rw [← e2]
      exact Blk.lt (t := e.ty) (cs := cur) hh
theorem OwnE.ge {w : World} {B : Nat} {v : Value} {l : List α} (h : OwnE w e B v l) : ∀ g, v.ownBlock = some g → B ≤ g := by
  obtain ⟨hl, ⟨rfl, h0⟩ | ⟨g, cap, cur, rfl, hg, hh, r⟩⟩ := h
  · exact fun g e => by cases e
  · exact fun g' e => by
      have e' : g = g' := Option.some.inj e
      rw [← e']; exact hg
/-- whose block is of such a type -/
theorem OwnE.typ {w : World} {B : Nat} {v : Value} {l : List α} (h : OwnE w e B v l) : ∀ b, v.ownBlock = some b → ∃ cur, Blk w b e.ty cur := by
  obtain ⟨hl, ⟨rfl, h0⟩ | ⟨g, cap, cur, rfl, hg, hh, r⟩⟩ := h
  · exact fun g e => by cases e
  · exact fun g' e' => by
      have e2 : g = g' := Option.some.inj e'
      rw [← e2]
      exact ⟨cur, hh⟩
/-- as a block: nil, or cells that begin with the elements -/
theorem OwnE.row {w : World} {B : Nat} {v : Value} {l : List α} (h : OwnE w e B v l) :
    (v = .slice none 0 0 ∧ l = []) ∨ ∃ g cap cur, v = .slice (some ⟨g, 0, none⟩) l.length cap ∧ B ≤ g ∧ Blk w g e.ty cur ∧ l.length ≤ cap ∧ cap ≤ maxLen ∧ cur.size = cap * e.n ∧ cur.toList.take (l.length * e.n) = flat e l := by
  obtain ⟨hl, ⟨rfl, h0⟩ | ⟨g, cap, cur, rfl, hg, hh, hc, hm, hz, ht⟩⟩ := h
  · exact .inl ⟨rfl, List.eq_nil_of_length_eq_zero h0⟩
  · exact .inr ⟨g, cap, cur, rfl, hg, hh, hc, hm, hz, ht⟩
theorem OwnE.src (F : e.Fine sl z bytes) {w : World} {B : Nat} {v : Value} {l : List α} (h : OwnE w e B v l) : ∃ A c, v = .slice A l.length c ∧ l.length ≤ c ∧ c ≤ maxLen ∧ SrcE w e A l := by
  rcases h.row with ⟨rfl, rfl⟩ | ⟨g, cap, cur, rfl, hg, hh, hc, hm, hz, ht⟩
  · exact ⟨none, 0, rfl, Nat.le_refl _, Nat.zero_le _, SrcE.nil w _⟩
  · refine ⟨_, cap, rfl, hc, hm, fun i x hx => ⟨g, 0, rfl, hh.lt, fun j v hv => ?_⟩⟩
    rw [Nat.zero_add, hh.cell, ← Array.getElem?_toList]
    have h2 := flat_at F l i x hx j v hv
    rw [← ht, List.getElem?_take] at h2
    split at h2
    · exact h2
    · cases h2
/-- one element's cells turn: the row holds another element there -/
theorem OwnE.put (F : e.Fine sl z bytes) {w : World} {B : Nat} {v : Value} {l : List α} (h : OwnE w e B v l) {i : Nat} {x y : α} (hx : l[i]? = some x) :
    ∃ g, v.ownBlock = some g ∧ B ≤ g ∧ (∀ (j : Nat) (u : Value), (e.c x)[j]? = some u → w.cell? ⟨g, i * e.n + j, none⟩ = some u) ∧
    ∀ (C' : Array Value) (w' : World), (∀ cur, Blk w g e.ty cur → Blk w' g e.ty C' ∧ C'.size = cur.size ∧ (∀ k, (k < i * e.n ∨ i * e.n + e.n ≤ k) → C'[k]? = cur[k]?) ∧ ∀ (j : Nat) (u : Value), (e.c y)[j]? = some u → C'[i * e.n + j]? = some u) → OwnE w' e B v (l.set i y) := by
  rcases h.row with ⟨rfl, rfl⟩ | ⟨g, cap, cur, rfl, hg, hh, hc, hm, hz, ht⟩
  · simp at hx
  · have hcell : ∀ (i : Nat) (x : α), l[i]? = some x → ∀ (j : Nat) (v : Value), (e.c x)[j]? = some v → cur[i * e.n + j]? = some v := fun i x hx j v hv => by
      rw [← Array.getElem?_toList]
      have h2 := flat_at F l i x hx j v hv
      rw [← ht, List.getElem?_take] at h2
      split at h2
      · exact h2
      · cases h2
    refine ⟨g, rfl, hg, fun j u hu => by rw [hh.cell]; exact hcell i x hx j u hu, fun C' w' hw => ?_⟩
    obtain ⟨b1, b2, b3, b4⟩ := hw cur hh
    have hil := (List.getElem?_eq_some_iff.1 hx).1
    have hlen : (l.set i y).length = l.length := List.length_set
    refine ⟨by rw [flat_len F], .inr ⟨g, cap, C', by rw [hlen], hg, b1, by rw [hlen]; exact hc, hm, by rw [b2]; exact hz, ?_⟩⟩
    refine flat_of F (l.set i y) C'.toList ?_
    · intro k u hu j v hv
      rw [Array.getElem?_toList]
      rw [List.getElem?_set] at hu
      by_cases hk : i = k
      · subst hk
        rw [if_pos rfl, if_pos hil] at hu
        injection hu with hu
        subst hu
        exact b4 j v hv
      · rw [if_neg hk] at hu
        have hj : j < e.n := by rw [← F.len u]; exact (List.getElem?_eq_some_iff.1 hv).1
        rw [b3 _ ?_]
        · exact hcell k u hu j v hv
        · rcases Nat.lt_or_ge k i with h1 | h1
          · left
            have := Nat.mul_le_mul_right e.n (show k + 1 ≤ i from h1)
            rw [Nat.add_mul] at this
            omega
          · right
            have := Nat.mul_le_mul_right e.n (show i + 1 ≤ k by omega)
            rw [Nat.add_mul] at this
            omega
set_option maxRecDepth 100000 in
/-- what append leaves -/
theorem run_appE (F : e.Fine sl z bytes) {w : World} {B : Nat} {v : Value} {l m : List α} (hown : OwnE w e B v l) {A : Option Addr} {c : Nat} (hs : SrcE w e A m) (hlen : l.length + m.length ≤ 4294967296) (hby : bytes ≤ 32768) (hB : B ≤ w.heap.size) (ty : TypeId) :
    m ≠ [] → ∃ v' w', (Builtin.append_ #[sl, sl] ty #[v, .slice A m.length c]).run Tryz.prog w = .ok v' w' ∧ OwnE w' e B v' (l ++ m) ∧ w.grownBy w' v.ownBlock ∧ (v'.ownBlock = v.ownBlock ∨ v'.ownBlock = some w.heap.size) := by
  intro hne
  obtain ⟨i0, hi, hz0, hz1, hz2⟩ := info_parts F.info
  obtain ⟨x0, hx0⟩ : ∃ x, m[0]? = some x := by cases m with
    | nil => exact absurd rfl hne
    | cons x m => exact ⟨x, rfl⟩
  obtain ⟨g, o, rfl, hg, _⟩ := hs 0 x0 hx0
  have hcells : ∀ (j : Nat) (u : Value), (flat e m)[j]? = some u → w.cell? ((⟨g, o, none⟩ : Addr).add j) = some u := by
    intro j u hu
    have hj := (List.getElem?_eq_some_iff.1 hu).1
    rw [flat_len F] at hj
    have hp := F.pos
    have hi' : j / e.n < m.length := (Nat.div_lt_iff_lt_mul hp).2 hj
    have hd := Nat.div_add_mod j e.n
    have hr := Nat.mod_lt j hp
    obtain ⟨x, hx⟩ : ∃ x, m[j / e.n]? = some x := ⟨_, List.getElem?_eq_getElem hi'⟩
    obtain ⟨g', o', hA, _, hc⟩ := hs _ x hx
    injection hA with hA
    injection hA with h1 h2
    subst h1 h2
    have hjl : j % e.n < (e.c x).length := by rw [F.len]; exact hr
    have h1 := hc (j % e.n) _ (List.getElem?_eq_getElem hjl)
    have h2 := flat_at F m _ x hx (j % e.n) _ (List.getElem?_eq_getElem hjl)
    have e1 : j / e.n * e.n + j % e.n = j := by rw [Nat.mul_comm]; exact hd
    rw [e1] at h1 h2
    rw [h2] at hu
    injection hu with hu
    rw [add_flat, h1, hu]
  have hb2 : (l.length + m.length) * bytes ≤ 140737488355328 := by
    have := Nat.mul_le_mul hlen hby
    omega
  obtain ⟨v', w', hrun, h2, h3, _, h5⟩ := run_append_own_at (P := Tryz.prog) w B sl ty e.ty i0 z e.n bytes F.und hi hz0 hz1 hz2 F.zs F.pos v l.length (flat e l) hown ⟨g, o, none⟩ m.length c (flat e m) (flat_len F m) hcells (flat_ones F m) (by unfold maxLen; omega) hb2 hB
  refine ⟨v', w', hrun, ?_, h3, h5⟩
  unfold OwnE
  rw [List.length_append, flat_app]
  exact h2
theorem wpList_appE (F : e.Fine sl z bytes) {ops : Array Oper} {rest : List Oper} {o : Oper} {a : Act} {w : World} {Q : Exit → Act → World → Prop} (hgd : o.guard = none) (s x : Operand)
    (ho : o.op = .call { callee := .builtin .append, args := #[s, x], argTypes := #[sl, sl] })
    (B : Nat) (v : Value) (l : List α) (hs : a.eval s = v) (hown : OwnE w e B v l) (A : Option Addr) (n c : Nat) (m : List α) (hx : a.eval x = .slice A n c) (hn : n = m.length) (hne : m ≠ []) (hsrc : SrcE w e A m)
    (hlen : l.length + m.length ≤ 4294967296) (hby : bytes ≤ 32768) (hB : B ≤ w.heap.size)
    (h : ∀ v' w', Hid (OwnE w' e B v' (l ++ m)) → Hid (w.grownBy w' v.ownBlock) → Hid (v'.ownBlock = v.ownBlock ∨ v'.ownBlock = some w.heap.size) → wpList Tryz.prog ops Q rest (a.put o.dst v') w') : wpList Tryz.prog ops Q (o :: rest) a w := by
  subst hn
  obtain ⟨v', w', hrun, h2, h3, h4⟩ := run_appE F hown (c := c) hsrc hlen hby hB o.type hne
  refine wpList_plain hgd fun K hK => ?_
  unfold Oper.wp execOp
  simp only [ho, resolve, invoke, builtin, Sem.run_bind, Sem.run_pure, Result.andThen_ok, List.map_toArray, List.map_cons, List.map_nil, hs, hx, hrun]
  exact hK _ _ (h v' w' (Lib.hid h2) (Lib.hid h3) (Lib.hid h4))
/-- append, as a step of a region that draws -/
theorem wp_appE (F : e.Fine sl z bytes) {o : Oper} {a : Act} {w : World} {K : Act → World → Prop} {Q : Exit → Act → World → Prop} (s x : Operand)
    (ho : o.op = .call { callee := .builtin .append, args := #[s, x], argTypes := #[sl, sl] })
    (B : Nat) (v : Value) (l : List α) (hs : a.eval s = v) (hown : OwnE w e B v l) (A : Option Addr) (n c : Nat) (m : List α) (hx : a.eval x = .slice A n c) (hn : n = m.length) (hne : m ≠ []) (hsrc : SrcE w e A m)
    (hlen : l.length + m.length ≤ 4294967296) (hby : bytes ≤ 32768) (hB : B ≤ w.heap.size)
    (h : ∀ v' w', Hid (OwnE w' e B v' (l ++ m)) → Hid (w.grownBy w' v.ownBlock) → Hid (v'.ownBlock = v.ownBlock ∨ v'.ownBlock = some w.heap.size) → K (a.put o.dst v') w') : Oper.wp Tryz.prog o a w K Q := by
  subst hn
  obtain ⟨v', w', hrun, h2, h3, h4⟩ := run_appE F hown (c := c) hsrc hlen hby hB o.type hne
  unfold Oper.wp execOp
  simp only [ho, resolve, invoke, builtin, Sem.run_bind, Sem.run_pure, Result.andThen_ok, List.map_toArray, List.map_cons, List.map_nil, hs, hx, hrun]
  exact h v' w' (Lib.hid h2) (Lib.hid h3) (Lib.hid h4)
end
/-- places -/
def elP : El Nat := ⟨3, 1, fun n => [.int .i64 (n : Nat)]⟩
theorem fineP : elP.Fine 82 (.int .i64 0) 8 := ⟨Tryz.underlying82, by kernel_rfl, rfl, Nat.one_pos, fun _ => rfl, fun x v h => by
  simp [elP] at h; subst h; rfl⟩
/-- a slice's value -/
structure Sv where
  a : Option Addr
  n : Nat
  c : Nat
def Sv.v (s : Sv) : Value := .slice s.a s.n s.c
def Sv.zero : Sv := ⟨none, 0, 0⟩
/-- nodes: two rows of places -/
def elN : El (Sv × Sv) := ⟨128, 2, fun x => [x.1.v, x.2.v]⟩
theorem fineN : elN.Fine 71 (.agg #[.slice none 0 0, .slice none 0 0]) 48 := ⟨Tryz.underlying71, by kernel_rfl, rfl, Nat.two_pos, fun _ => rfl, fun x v h => by
  simp [elN] at h; rcases h with rfl | rfl <;> rfl⟩
/-- rows of rows of places -/
def elV : El Sv := ⟨82, 1, fun x => [x.v]⟩
theorem fineV : elV.Fine 81 (.slice none 0 0) 24 := ⟨Tryz.underlying81, by kernel_rfl, rfl, Nat.one_pos, fun _ => rfl, fun x v h => by
  simp [elV] at h; subst h; rfl⟩
theorem OwnE.sv {α : Type} {e : El α} {w : World} {B : Nat} {v : Value} {l : List α} (h : OwnE w e B v l) : ∃ s : Sv, v = s.v ∧ s.n = l.length := by
  rcases h.row with ⟨rfl, rfl⟩ | ⟨g, cap, cur, rfl, _⟩
  · exact ⟨Sv.zero, rfl, rfl⟩
  · exact ⟨⟨_, l.length, cap⟩, rfl, rfl⟩
end Go.Proofs.YtlpondbcnfaggaaGreatDoor.Te

/-
  Contract of slices.Backward at rows of rows, over this seat's translation: what it answers gives the rows, the last one first, to every loop body that keeps what lay there but for one block; and a region that draws its order, inside a round of such a loop, by the laws for regions elsewhere. No condition.
-/
namespace Go.Proofs.YtlpondbcnfaggaaGreatDoor.Tr
open Go.RowKit Go.Shelf Go.Proofs.YtlpondbcnfaggaaGreatDoor.Wd Go.Proofs.YtlpondbcnfaggaaGreatDoor.Te

/-! a region inside a round -/
section
variable {l n : Nat} {P : Program} {ops : Array Oper} {Q : Exit → Act → World → Prop} {md : Region.Mode} {S : World → Prop}
theorem oper_in {o : Oper} {a : Act} {w : World} {K K' : Act → World → Prop} (hd : ∀ c, o.op ≠ .defer c) (hK : ∀ a w, K a w → K' a w) (h : o.wp P a w K Q) : o.wpIn (Fence.wide.inRound l) n P a w K' Q := by
  refine ⟨fun _ _ => trivial, ?_⟩
  rw [Oper.semAt_eq _ _ _ hd]
  have h := Oper.wp_mono hK h
  unfold Oper.wp at h
  generalize (execOp a.eval o).run P w = r at *
  cases r with
  | ok x w' =>
    cases x with
    | enter f args => exact ⟨(fun h => by cases h), CallsIn.inRound l (callsIn_wide.2 h)⟩
    | row row args => exact ⟨(fun h => by cases h), fun c cs _ => by
        obtain ⟨v, w', r, s⟩ := h c cs
        exact ⟨v, w', r, stepsIn_wide.2 s⟩⟩
    | round _ _ _ _ _ => exact False.elim h
    | _ => exact h
  | halt x w' => cases x <;> exact h
theorem any_in (hd : ∀ (i : Nat) (o : Oper), ops[i]? = some o → ∀ c, o.op ≠ .defer c) (hQ : ¬ LetsOut Q) : ∀ (fuel : Nat) (listed : Array Bool) (a : Act) (w : World), wpAny P md ops Q fuel listed a w → wpAnyIn (Fence.wide.inRound l) n P md ops Q fuel listed a w
  | 0, _, _, _, h => h
  | fuel + 1, listed, a, w, h => ⟨h.1, fun i hi => by
      have h2 := h.2 i hi
      unfold wpOp at h2
      unfold wpOpIn
      cases ho : ops[i]? with
      | none =>
        rw [ho] at h2
        exact any_in hd hQ fuel _ a w h2
      | some o =>
        rw [ho] at h2
        dsimp only at h2 ⊢
        split
        · rename_i hw
          rw [if_pos hw] at h2
          rcases h2 with h2 | h2
          · exact oper_in (hd i o ho) (fun a w h => any_in hd hQ fuel _ a w h) h2
          · exact absurd h2.2 hQ
        · rename_i hw
          rw [if_neg hw] at h2
          exact ⟨fun _ _ => trivial, any_in hd hQ fuel _ _ w h2⟩⟩
theorem region_in {id : Nat} {a : Act} {w : World} (hm : P.follows .mixedOrders = true) (hd : ∀ (i : Nat) (o : Oper), ops[i]? = some o → ∀ c, o.op ≠ .defer c) (hQ : ¬ LetsOut Q) (hS : S w.drew)
    (h : S w.drew → wpAnyH P .any ops Q S ops.size (Array.replicate ops.size false) a w.drew) : (Code.region id ops true).wpIn (Fence.wide.inRound l) n P Q a w :=
  wpIn_region_any hm (any_in hd hQ _ _ _ _ (wpAny_of_held _ _ _ _ (h hS)))
end

/-! what a round keeps: all that lay there, but for one block -/
structure KpB (B b : Nat) (W W' : World) : Prop where
  size : W.heap.size ≤ W'.heap.size
  block : ∀ i, i < B → i ≠ b → W'.heap[i]? = W.heap[i]?
theorem KpB.refl (B b : Nat) (W : World) : KpB B b W W := ⟨Nat.le_refl _, fun _ _ _ => rfl⟩
theorem KpB.trans {B b : Nat} {X Y Z : World} (h : KpB B b X Y) (k : KpB B b Y Z) : KpB B b X Z := ⟨Nat.le_trans h.size k.size, fun i hi hn => (k.block i hi hn).trans (h.block i hi hn)⟩
theorem KpB.cell {B b : Nat} {W W' : World} (h : KpB B b W W') {p : Addr} (hp : p.block < B) (hn : p.block ≠ b) : W'.cell? p = W.cell? p := World.cell?_of_block (h.block p.block hp hn)
theorem KpB.below {B b : Nat} {W W' : World} (h : Below B W W') : KpB B b W W' := ⟨h.size, fun i hi _ => h.block i hi⟩
theorem KpB.set_ {B b : Nat} (W : World) (i : Nat) (u : Value) : KpB B b W (W.setCell ⟨b, i, none⟩ u) := ⟨by simp [World.setCell], fun j _ hn => Below.heap_setCell W ⟨b, i, none⟩ u j hn⟩
theorem KpB.put {B b : Nat} (W : World) (l : Nat) (o' : Obj) (hl : B ≤ l) : KpB B b W (W.putObj l o') := by
  have h := belowK_b (w := W) (n₀ := B)
  refine ⟨by simp [World.putObj], fun i hi _ => ?_⟩
  simp only [World.putObj]
  rw [Array.getElem?_setIfInBounds, if_neg (by omega)]

attribute [local go_sem] Oper.semAt_some

section
variable {α : Type} (ix : α → Nat) (sv : α → Sv)
set_option linter.unusedSimpArgs false in
set_option maxRecDepth 100000 in
set_option maxHeartbeats 4000000 in
theorem tback1_in (F : Fence) (n : Nat) (h55 : F.fn 78) (hro : F.round = none) (hn : 1 ≤ n) (l Bs n₀ bb : Nat) (A : Option Addr) (len cap : Nat) (zs : List α) (hlen : zs.length = len) (hix : ∀ (j : Nat) (x : α), zs[j]? = some x → ix x = j) (hsm : len ≤ 1000000) (J Jx : List α → World → Prop)
    (hY : ∀ pre x W, J pre W → pre.length < len → YieldAt F (n - 1) Tryz.prog l #[.int .i64 (ix x : Int), .slice (sv x).a (sv x).n (sv x).c] W fun e W' =>
      (e = .returned (.bool true) ∧ J (pre ++ [x]) W' ∧ KpB n₀ bb W W') ∨ (e = .returned (.bool false) ∧ Jx (pre ++ [x]) W'))
    (W : World) (hBs : W.cell? ⟨Bs, 0, none⟩ = some (.slice A len cap)) (hb : Bs < n₀ ∧ Bs ≠ bb) (hc : ∀ (j : Nat) (x : α), zs[j]? = some x → ∃ g o, A = some ⟨g, o, none⟩ ∧ (g < n₀ ∧ g ≠ bb) ∧ W.cell? ⟨g, o + j, none⟩ = some (.slice (sv x).a (sv x).n (sv x).c)) (h0 : J [] W) :
    CallsIn F n Tryz.prog 78 #[.func (.yield l) #[] #[], .pointer (some ⟨Bs, 0, none⟩)] W fun e W' => (∃ v, e = .returned v) ∧
      ((∃ ys : List α, ys = zs.reverse ∧ J ys W') ∨ (∃ pre, True ∧ Jx pre W')) := by
  refine callsIn_of_wp Tryz.func78 rfl h55 ?_ hro
  simp only [Tryz.ntmps78, List.size_toArray, List.length_cons, List.length_nil, Nat.reduceAdd, Nat.reduceSub, Array.replicate_succ, Array.replicate_zero, List.push_toArray, List.append_toArray, List.nil_append, List.cons_append]
  have HL := Lib.hid hlen
  have HC := Lib.hid hc
  have HIx := Lib.hid hix
  clear hc hlen hix
  gi_wp2
  gi_loopw [3] (fun i wr => ∃ (r : Nat) (pre : List α), r ≤ len ∧ i = .int .i64 ((r : Int) - 1) ∧ Hid (pre.length + r = len ∧ pre = zs.reverse.take pre.length) ∧ J pre wr ∧ Hid (KpB n₀ bb W wr))
    (fun i _ => (intOf i + 1).toNat)
  case atStart => exact ⟨len, [], Nat.le_refl _, rfl, Lib.hid ⟨by simp, by simp⟩, h0, Lib.hid (KpB.refl _ _ _)⟩
  case round =>
    obtain ⟨r, pre, hr, rfl, HP, hJ, HB⟩ := hrel
    have hcb : wr.cell? ⟨Bs, 0, none⟩ = some (.slice A len cap) := (HB.out.cell (p := ⟨Bs, 0, none⟩) hb.1 hb.2).trans hBs
    cases r with
    | zero =>
      have HD := Lib.hid (show pre = zs.reverse by
        have h1 := HP.out.1
        rw [HP.out.2]
        apply List.take_of_length_le
        rw [List.length_reverse, HL.out]
        omega)
      gi_wp2
      go_end0
      exact ⟨⟨_, rfl⟩, .inl ⟨pre, HD.out, hJ⟩⟩
    | succ m =>
      have hm1 : ((m + 1 : Nat) : Int) - 1 = (m : Int) := by omega
      have hm0 : (0 : Int) ≤ (m : Int) := by omega
      have hml : (m : Int) < (len : Int) := by omega
      rw [hm1]
      obtain ⟨x, hx⟩ : ∃ x, zs[m]? = some x := ⟨_, List.getElem?_eq_getElem (by rw [HL.out]; omega)⟩
      obtain ⟨g, o, rfl, hg, hcs⟩ := HC.out m x hx
      have hcx : wr.cell? ⟨g, o + m, none⟩ = some (.slice (sv x).a (sv x).n (sv x).c) := (HB.out.cell (p := ⟨g, o + m, none⟩) hg.1 hg.2).trans hcs
      have HP2 := Lib.hid (show (pre ++ [x]).length + m = len ∧ (pre ++ [x]) = zs.reverse.take (pre ++ [x]).length from by
        obtain ⟨h1, h2⟩ := HP.out
        have hlz := HL.out
        refine ⟨by rw [List.length_append, List.length_singleton]; omega, ?_⟩
        rw [List.length_append, List.length_singleton, List.take_add_one, ← h2]
        congr 1
        rw [List.getElem?_reverse (by omega), show zs.length - 1 - pre.length = m by omega, hx]
        rfl)
      have hYx := hY pre x wr hJ (by have := HP.out.1; omega)
      rw [HIx.out m x hx] at hYx
      obtain ⟨fn, tmps, assign, body, hy, hR⟩ := hYx
      clear hcs hx hm1 HP hr
      gi_wp2
      refine hR.mono ?_
      rintro e W3 (⟨rfl, hJ3, hk3⟩ | ⟨rfl, hJx3⟩)
      · have HB3 := Lib.hid (HB.out.trans hk3)
        clear hk3
        gi_wp2
        go_roundw
        case rel => exact ⟨m, pre ++ [x], by omega, rfl, HP2, hJ3, HB3⟩
        case measure => simp [intOf]
      · gi_wp2
        refine bodyPost_ret (results_none rfl _ _ _) rfl ?_
        exact ⟨⟨_, rfl⟩, .inr ⟨_, trivial, hJx3⟩⟩
/-- what Backward answers gives the rows, the last one first -/
theorem tback_stops (F : Fence) (n : Nat) (h55 : F.fn 78) (hro : F.round = none) (hn : 1 ≤ n) (Bs n₀ bb : Nat) (A : Option Addr) (len cap : Nat) (zs : List α) (hlen : zs.length = len) (hix : ∀ (j : Nat) (x : α), zs[j]? = some x → ix x = j) (hsm : len ≤ 1000000) (w : World) (hBs : Bs < n₀ ∧ Bs ≠ bb) (hn₀ : n₀ ≤ w.heap.size)
    (hcb : w.cell? ⟨Bs, 0, none⟩ = some (.slice A len cap)) (hc : ∀ (j : Nat) (x : α), zs[j]? = some x → ∃ g o, A = some ⟨g, o, none⟩ ∧ (g < n₀ ∧ g ≠ bb) ∧ w.cell? ⟨g, o + j, none⟩ = some (.slice (sv x).a (sv x).n (sv x).c)) :
    SeqStopsK F n Tryz.prog 78 #[.pointer (some ⟨Bs, 0, none⟩)] (fun x : α => #[Value.int .i64 (ix x : Int), Value.slice (sv x).a (sv x).n (sv x).c]) (KpB n₀ bb) (fun ys => ys = zs.reverse) (fun _ => True) len w := fun l J Jx W hW _ _ hY h0 => by
  have hW' := hW.mono hn₀
  exact tback1_in ix sv F n h55 hro hn l Bs n₀ bb A len cap zs hlen hix hsm J Jx hY W ((hW'.cell (p := ⟨Bs, 0, none⟩) hBs.1).trans hcb) hBs (fun j x h => by
    obtain ⟨g, o, hA, hg, hx⟩ := hc j x h
    exact ⟨g, o, hA, hg, (hW'.cell (p := ⟨g, o + j, none⟩) hg.1).trans hx⟩) h0
end
set_option maxHeartbeats 1000000 in
theorem tback_in (F : Fence) (n : Nat) (h33 : F.fn 43) (hro : F.round = none) (a : Option Addr) (len cap : Nat) (w : World) :
    CallsIn F n Tryz.prog 43 #[.slice a len cap] w fun e w' => e = .returned (.func (.func 78) #[] #[.pointer (some ⟨w.heap.size, 0, none⟩)]) ∧ w' = w.alloc (.cells #[.slice a len cap] 81) := by
  refine callsIn_of_wp Tryz.func43 rfl h33 ?_ hro
  simp only [Tryz.ntmps43, List.size_toArray, List.length_cons, List.length_nil, Nat.reduceAdd, Nat.reduceSub, Array.replicate_succ, Array.replicate_zero, List.push_toArray, List.append_toArray, List.nil_append, List.cons_append]
  gi_wp2
  go_ret
  exact ⟨rfl, rfl⟩
/-- a whole store in a drawn region; a region that ends as it should -/
theorem ready_st {P : Program} {ops : Array Oper} {Q : Exit → Act → World → Prop} {md : Region.Mode} {S : World → Prop} {fuel : Nat} {listed : Array Bool} {a : Act} {w : World} {i : Nat} {o : Oper} {rs : List Nat} {ty t : TypeId} {x y : Operand} {g n : Nat} {C D : Array Value} (ho : ops[i]? = some o) (hg : o.guard = none) (hop : o.op = .store ty x y)
    (hx : a.eval x = .pointer (some ⟨g, 0, none⟩)) (hy : a.eval y = .agg D) (hb : Blk w g t C) (hi : (P.info? ty).map (·.size) = some n) (hC : C.size = n) (hD : D.size = n) (h1 : D.all (·.oneCell') = true) (hS : S (w.setRow g D))
    (h : S (w.setRow g D) → wpAnyH P md ops Q S fuel (listed.setIfInBounds i true) (a.put o.dst undef) (w.setRow g D)) (hs : AllReadyH P md ops Q S fuel listed a w rs) : AllReadyH P md ops Q S fuel listed a w (i :: rs) :=
  AllReadyH.cons ho (fun K hK => by
    rw [if_pos (by simp [Region.wanted, hg])]
    exact wp_store_row ty x y hop g D hx hy t C hb (by rw [hi, hD]) (by rw [hC, hD]) h1 (hK.out _ _ hS h)) hs
theorem wp_norm {P : Program} {c : Code} {Q : Exit → Act → World → Prop} {a : Act} {w : World} (h : c.wp P (fun e a w => e = .normal ∧ Q e a w) a w) : c.wp P Q a w := Code.wp_mono (fun _ _ _ h => h.2) h
end Go.Proofs.YtlpondbcnfaggaaGreatDoor.Tr
