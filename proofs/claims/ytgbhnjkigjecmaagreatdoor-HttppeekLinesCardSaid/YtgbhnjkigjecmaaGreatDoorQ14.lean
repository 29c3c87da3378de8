/-
  Bytes of a call's own: their block by name, append onto them as a step of a walk, with a frame that names that one block; limit.Within; bytes.Clone. Plain lemmas, no condition.
-/
import Derived.Test.YtgbhnjkigjecmaaGreatDoorQ12
import Derived.RegionTactic
import Derived.IntWalk
import Derived.Deep.Cut
import Derived.WalkSpells
import Derived.Lib.SliceRun
import Derived.Test.YtgbhnjkigjecmaaGreatDoorQ11
import Derived.Test.YtgbhnjkigjecmaaGreatDoorQ13
namespace Go.Proofs.YtgbhnjkigjecmaaGreatDoor.Wd
open Go.RowKit

theorem und8 : Tryz.prog.underlying 22 = some (.slice 5) := Tryz.underlying22
theorem inf8 : (Tryz.prog.info? 5).map (fun i => (i.zero, i.size, i.bytes)) = some (some (.int .u8 0), 1, 1) := by kernel_rfl
theorem siz8 : (Tryz.prog.info? 5).map (·.size) = some 1 := by kernel_rfl
theorem con8 {w : World} {A : Option Addr} {n c : Nat} {xs : List UInt8} (h : Src w A n xs) : (convert 22 9 (.slice A n c)).run Tryz.prog w = .ok (.string ⟨xs.toArray⟩) w :=
  conv_src h Tryz.underlying22 Tryz.underlying5 Tryz.underlying9
theorem cst_world (w : World) (C : Array Value) (fr : Nat × Nat) (xs : List UInt8) (h : C = (cellsOf xs).toArray) :
    Src (w.alloc (.cells C 5 fr)) (some ⟨w.heap.size, 0, none⟩) xs.length xs ∧ But [] w (w.alloc (.cells C 5 fr)) := ⟨Src.marked w C _ fr xs h, (But.refl [] w).alloc _⟩

theorem Own.cut_ {w : World} {B : Nat} {v : Value} {xs : List UInt8} (h : Own w B v xs) : ∃ A c, v = .slice A xs.length c ∧ xs.length ≤ c ∧ Src w A xs.length xs ∧ ∀ x, A = some x → B ≤ x.block := by
  obtain ⟨A, c, rfl, hc, hs⟩ := h.src
  refine ⟨A, c, rfl, hc, hs, fun x hx => ?_⟩
  subst hx
  obtain ⟨_, ⟨h0, _⟩ | ⟨g, cap, cur, hv, hB, _⟩⟩ := h
  · cases h0
  · injection hv with hv _ _
    injection hv with hv
    subst hv
    exact hB
/-- the address of a block's beginning -/
def ad (p : Option Nat) : Option Addr := p.map fun b => ⟨b, 0, none⟩
theorem ad_some {p : Option Nat} {b : Nat} (h : p = some b) : ad p = some ⟨b, 0, none⟩ := by rw [h]; rfl
/-- the bytes bs in a block p of the call's own (nil: none), with room for c -/
structure At (w : World) (p : Option Nat) (c : Nat) (bs : List UInt8) : Prop where
  own : Own w 0 (.slice (ad p) bs.length c) bs
theorem At.src {w : World} {p : Option Nat} {c : Nat} {bs : List UInt8} (h : At w p c bs) : bs.length ≤ c ∧ Src w (ad p) bs.length bs := by
  obtain ⟨A', c', e, h1, h2⟩ := h.own.src
  injection e with e1 e2 e3
  rw [← e1] at h2
  exact ⟨by omega, h2⟩
theorem At.nil (w : World) : At w none 0 [] := ⟨rfl, .inl ⟨rfl, rfl⟩⟩
theorem At.row {w : World} {p : Option Nat} {c : Nat} {bs : List UInt8} (h : At w p c bs) {b : Nat} (hb : p = some b) : ∃ cur, Blk w b 5 cur ∧ bs.length ≤ cur.size := by
  subst hb
  obtain ⟨⟨hl, ⟨h0, _⟩ | ⟨g, cap, cur, hv, hg, hh, hn, _, hz, _⟩⟩⟩ := h
  · cases h0
  · injection hv with hv _ _
    injection hv with hv
    injection hv with hv _ _
    subst hv
    exact ⟨cur, hh, by omega⟩
theorem At.lt {w : World} {p : Option Nat} {c : Nat} {bs : List UInt8} (h : At w p c bs) {b : Nat} (hb : p = some b) : b < w.heap.size := by
  obtain ⟨cur, hc, _⟩ := h.row hb
  exact hc.lt
theorem At.but {S : List Nat} {w w' : World} {p : Option Nat} {c : Nat} {bs : List UInt8} (h : At w p c bs) (k : But S w w') (hp : ∀ b, p = some b → b ∉ S) : At w' p c bs := by
  cases p with
  | none =>
    obtain ⟨⟨hl, h0 | ⟨g, cap, cur, hv, _⟩⟩⟩ := h
    · exact ⟨⟨hl, .inl h0⟩⟩
    · cases hv
  | some b =>
    have hlt := h.lt rfl
    obtain ⟨⟨hl, ⟨h0, _⟩ | ⟨g, cap, cur, hv, hg, hh, r⟩⟩⟩ := h
    · cases h0
    · have e : b = g := by injection hv with hv _ _; injection hv with hv; injection hv
      subst e
      exact ⟨⟨hl, .inr ⟨b, cap, cur, hv, hg, (k.block b hlt (hp b rfl)).trans hh, r⟩⟩⟩
theorem At.ne {w : World} {p : Option Nat} {c g t : Nat} {bs : List UInt8} {cs : Array Value} (h : At w p c bs) (hg : Blk w g t cs) (ht : 5 ≠ t) : p ≠ some g := by
  intro e
  obtain ⟨cur, hc, _⟩ := h.row e
  exact hc.ne_ hg ht rfl

theorem Own.at_row {w : World} {B : Nat} {v : Value} {xs : List UInt8} (h : Own w B v xs) : ∃ q c, v = .slice (ad q) xs.length c ∧ At w q c xs ∧ ∀ b, q = some b → B ≤ b := by
  obtain ⟨hl, ⟨rfl, h0⟩ | ⟨g, cap, cur, rfl, hg, r⟩⟩ := h
  · exact ⟨none, 0, by rw [h0]; rfl, ⟨⟨hl, .inl ⟨by rw [h0]; rfl, h0⟩⟩⟩, fun b hb => (by cases hb)⟩
  · exact ⟨some g, cap, rfl, ⟨⟨hl, .inr ⟨g, cap, cur, rfl, Nat.zero_le _, r⟩⟩⟩, fun b hb => by injection hb with hb; omega⟩

section
variable {P : Program} {w : World}
theorem run_app_at {t ty : TypeId} {i : TypeInfo} (ht : P.underlying t = some (.slice 5)) (hi : P.info? 5 = some i) (hz : i.zero = some (.int .u8 0)) (hs1 : i.size = 1) (hb1 : i.bytes = 1)
    {p : Option Nat} {c : Nat} {xs ys : List UInt8} (hat : At w p c xs) {A2 : Option Addr} {m c2 : Nat} (hsrc : Src w A2 m ys) (hlen : xs.length + m ≤ 140737488355328) :
    ∃ p' c' w', (Builtin.append_ #[t, t] ty #[.slice (ad p) xs.length c, .slice A2 m c2]).run P w = .ok (.slice (ad p') (xs.length + m) c') w' ∧ At w' p' c' (xs ++ ys) ∧ (p' = p ∨ p' = some w.heap.size) ∧ But p.toList w w' := by
  have hm := hsrc.1
  cases A2 with
  | none =>
    have h0 : m = 0 := by
      rcases Nat.eq_zero_or_pos m with h | h
      · exact h
      · obtain ⟨ad, e, _⟩ := hsrc.2 h; cases e
    subst h0
    have : ys = [] := List.eq_nil_of_length_eq_zero hm
    subst this
    exact ⟨p, c, w, run_app_nil ht hi hat.own c2, by rw [List.append_nil]; exact hat, .inl rfl, But.refl _ _⟩
  | some a2 =>
    have hcells : ∀ j u, (cellsOf ys)[j]? = some u → w.cell? (a2.add j) = some u := by
      intro j u hu
      simp only [cellsOf, List.getElem?_map, Option.map_eq_some_iff] at hu
      obtain ⟨x, hx, rfl⟩ := hu
      have hp : 0 < m := by have := (List.getElem?_eq_some_iff.1 hx).1; omega
      obtain ⟨ad', e, _, hc⟩ := hsrc.2 hp
      injection e with e
      subst e
      exact hc j x hx
    obtain ⟨v', w', hrun, h2, h3, h4, h5⟩ := run_append_own_at (P := P) w 0 t ty 5 i (.int .u8 0) 1 1 ht hi hz hs1 hb1 rfl (by omega) (.slice (ad p) xs.length c) xs.length (cellsOf xs) hat.own a2 m c2 (cellsOf ys) (by rw [cellsOf_length, hm, Nat.mul_one]) hcells (cellsOf_one ys)
      (by unfold maxLen; omega) (by omega) (Nat.zero_le _)
    have hown : Own w' 0 v' (xs ++ ys) := by
      unfold Own
      rw [List.length_append, cellsOf_append, hm]
      exact h2
    have hob : ∀ q, (Value.slice (ad p) xs.length c).ownBlock = some q → p = some q := by
      intro q hq
      cases p with
      | none => cases hq
      | some b => injection hq with hq; rw [← hq]
    have hbut : But p.toList w w' := ⟨h3.os, h3.tape, h3.output, h3.size, fun i hi hn => h3.block i hi (fun e => hn (by rw [hob i e.symm]; simp))⟩
    have hl : (xs ++ ys).length = xs.length + m := by rw [List.length_append, hm]
    obtain ⟨hl0, ⟨rfl, h0⟩ | ⟨g, cap, cur, rfl, hg, r⟩⟩ := hown
    · refine ⟨none, 0, w', by rw [← hl, h0]; exact hrun, ⟨⟨hl0, .inl ⟨by rw [h0]; rfl, h0⟩⟩⟩, .inl ?_, hbut⟩
      obtain ⟨e, _⟩ := h4.1 rfl
      injection e with e _ _
      cases p with
      | none => rfl
      | some b => cases e
    · refine ⟨some g, cap, w', by rw [← hl]; exact hrun, ⟨⟨hl0, .inr ⟨g, cap, cur, rfl, hg, r⟩⟩⟩, ?_, hbut⟩
      rcases h5 with h5 | h5
      · exact .inl (hob _ h5.symm).symm
      · injection h5 with h5; exact .inr (by rw [← h5])

/-- append as one step of a region that draws -/
theorem step_app_at {ops : Array Oper} {o : Oper} {a : Act} {K : Act → World → Prop} {Q : Exit → Act → World → Prop} {E : Prop} (dst : Option Tmp) (hdst : o.dst = dst) (hgd : o.guard = none) (s x : Operand) (t : TypeId)
    (ho : o.op = .call { callee := .builtin .append, args := #[s, x], argTypes := #[t, t] }) (ht : P.underlying t = some (.slice 5)) (hinfo : (P.info? 5).map (fun i => (i.zero, i.size, i.bytes)) = some (some (.int .u8 0), 1, 1))
    (p : Option Nat) (n c : Nat) (xs : List UInt8) (hs : a.eval s = .slice (ad p) n c) (hn : n = xs.length) (hat : At w p c xs) (A2 : Option Addr) (m c2 : Nat) (ys : List UInt8) (hx : a.eval x = .slice A2 m c2) (hsrc : Src w A2 m ys)
    (hlen : n + m ≤ 140737488355328)
    (h : ∀ p' c' w', Hid (At w' p' c' (xs ++ ys)) → Hid (p' = p ∨ p' = some w.heap.size) → Hid (But p.toList w w') → K (a.put dst (.slice (ad p') (n + m) c')) w') :
    if Region.wanted o (yielded ops a.tmps) = true then Oper.wp P o a w K Q else E := by
  subst hdst hn
  have hw : Region.wanted o (yielded ops a.tmps) = true := by simp [Region.wanted, hgd]
  rw [if_pos hw]
  obtain ⟨i0, hi, hz0, hz1, hz2⟩ := info_parts hinfo
  obtain ⟨p', c', w', hrun, h2, h3, h4⟩ := run_app_at (ty := o.type) ht hi hz0 hz1 hz2 hat (c2 := c2) hsrc hlen
  unfold Oper.wp execOp
  simp only [ho, resolve, invoke, builtin, Sem.run_bind, Sem.run_pure, Result.andThen_ok, List.map_toArray, List.map_cons, List.map_nil, hs, hx, hrun]
  exact h p' c' w' h2 h3 h4
/-- append onto bytes of the call's own, as one step of a region that draws -/
theorem step_own_app {ops : Array Oper} {o : Oper} {a : Act} {K : Act → World → Prop} {Q : Exit → Act → World → Prop} {E : Prop} (dst : Option Tmp) (hdst : o.dst = dst) (hgd : o.guard = none) (s x : Operand) (t : TypeId)
    (ho : o.op = .call { callee := .builtin .append, args := #[s, x], argTypes := #[t, t] }) (ht : P.underlying t = some (.slice 5)) (hinfo : (P.info? 5).map (fun i => (i.zero, i.size, i.bytes)) = some (some (.int .u8 0), 1, 1))
    (B : Nat) (v : Value) (xs : List UInt8) (hs : a.eval s = v) (hown : Own w B v xs) (A : Option Addr) (m c : Nat) (ys : List UInt8) (hx : a.eval x = .slice A m c) (hsrc : Src w A m ys)
    (hlen : xs.length + m ≤ 140737488355328) (hB : B ≤ w.heap.size)
    (h : ∀ v' w', Hid (Own w' B v' (xs ++ ys)) → Below B w w' → K (a.put dst v') w') :
    if Region.wanted o (yielded ops a.tmps) = true then Oper.wp P o a w K Q else E := by
  subst hdst
  have hw : Region.wanted o (yielded ops a.tmps) = true := by simp [Region.wanted, hgd]
  rw [if_pos hw]
  obtain ⟨i0, hi, hz0, hz1, hz2⟩ := info_parts hinfo
  obtain ⟨v', w', hrun, h2, h3⟩ := run_app (ty := o.type) ht hi hz0 hz1 hz2 hown (c := c) hsrc hlen hB
  unfold Oper.wp execOp
  simp only [ho, resolve, invoke, builtin, Sem.run_bind, Sem.run_pure, Result.andThen_ok, List.map_toArray, List.map_cons, List.map_nil, hs, hx, hrun]
  exact h v' w' h2 h3
end
theorem Own.but_ {S : List Nat} {w w' : World} {B : Nat} {v : Value} {xs : List UInt8} (h : Own w B v xs) (k : But S w w') (hS : ∀ i ∈ S, i < B) : Own w' B v xs := by
  obtain ⟨hl, h0 | ⟨g, cap, cur, hv, hg, hh, r⟩⟩ := h
  · exact ⟨hl, .inl h0⟩
  · have hlt := Blk.lt (t := 5) (cs := cur) hh
    exact ⟨hl, .inr ⟨g, cap, cur, hv, hg, (k.block g hlt (fun hm => by have := hS g hm; omega)).trans hh, r⟩⟩

theorem Own.lower {w : World} {B B' : Nat} {v : Value} {xs : List UInt8} (h : Own w B v xs) (hB : B' ≤ B) : Own w B' v xs := by
  obtain ⟨hl, h0 | ⟨g, cap, cur, hv, hg, r⟩⟩ := h
  · exact ⟨hl, .inl h0⟩
  · exact ⟨hl, .inr ⟨g, cap, cur, hv, Nat.le_trans hB hg, r⟩⟩
/-- what is cut of bytes, from l up to h -/
theorem cut_mid {w : World} {A : Option Addr} {n c l h : Nat} {xs : List UInt8} (hs : Src w A n xs) (h1 : l ≤ h) (h2 : h ≤ n) (hc : n ≤ c) : Src w (slid A c l) (h - l) ((xs.drop l).take (h - l)) := by
  have := hs.cut (m := c) (l := l) (hi := h) h1 h2 hc
  rwa [List.drop_take] at this


end Go.Proofs.YtgbhnjkigjecmaaGreatDoor.Wd

/-
  Package httppeek's peeker as it lies in memory, and rows of the call's own that outlive a call: what keeps them. Plain lemmas, no condition.
-/
namespace Go.Proofs.YtgbhnjkigjecmaaGreatDoor.Hp
open Go.RowKit Go.Proofs.YtgbhnjkigjecmaaGreatDoor.Wd

/-! rows of the call's own -/
section
variable {w w' : World} {B e size n : Nat} {v : Value} {xs : List Value} {S : List Nat}
theorem owns_but (h : w.ownsRow B e size v n xs) (k : But S w w') (hv : ∀ b, v.ownBlock = some b → b ∉ S) : w'.ownsRow B e size v n xs := by
  obtain ⟨hl, h0 | ⟨g, cap, cur, rfl, hg, hh, r⟩⟩ := h
  · exact ⟨hl, .inl h0⟩
  · have hbk : Blk w g e cur := hh
    exact ⟨hl, .inr ⟨g, cap, cur, rfl, hg, hbk.but k (hv g rfl), r⟩⟩
theorem owns_lt (h : w.ownsRow B e size v n xs) (b : Nat) (hb : v.ownBlock = some b) : b < w.heap.size := by
  obtain ⟨hl, ⟨rfl, h0⟩ | ⟨g, cap, cur, rfl, hg, hh, r⟩⟩ := h
  · cases hb
  · have hbk : Blk w g e cur := hh
    have e' : g = b := Option.some.inj hb
    rw [← e']
    exact hbk.lt
theorem owns_ne (h : w.ownsRow B e size v n xs) {g t : Nat} {cs : Array Value} (hb : Blk w g t cs) (ht : e ≠ t) : v.ownBlock ≠ some g := by
  intro hv
  obtain ⟨hl, ⟨rfl, h0⟩ | ⟨g', cap, cur, rfl, hg, hh, r⟩⟩ := h
  · cases hv
  · have hbk : Blk w g' e cur := hh
    have e' : g' = g := Option.some.inj hv
    subst e'
    exact hbk.ne_ hb ht rfl
theorem owns_apart (h : w.ownsRow B e size v n xs) {B' e' size' n' : Nat} {v' : Value} {xs' : List Value} (h' : w.ownsRow B' e' size' v' n' xs') (ht : e ≠ e') (b : Nat) (hb : v.ownBlock = some b) : v'.ownBlock ≠ some b := by
  obtain ⟨hl, ⟨rfl, h0⟩ | ⟨g, cap, cur, rfl, hg, hh, r⟩⟩ := h
  · cases hb
  · have hbk : Blk w g e cur := hh
    have e2 : g = b := Option.some.inj hb
    subst e2
    exact owns_ne h' hbk (fun e => ht e.symm)
end
theorem mem_o {v : Value} {i : Nat} : i ∈ v.ownBlock.toList ↔ v.ownBlock = some i := Option.mem_toList
set_option maxRecDepth 100000 in
/-- one byte behind bytes of the call's own: only their own block turns, and what comes of them lies there or is new -/
theorem run_app8 {w : World} {v : Value} {xs ys : List UInt8} (hown : Own w 0 v xs) {A : Option Addr} {m c : Nat} (hsrc : Src w A m ys) (hlen : xs.length + m ≤ 140737488355328) (ty : TypeId) :
    ∃ v' w', (Builtin.append_ #[22, 22] ty #[v, .slice A m c]).run Tryz.prog w = .ok v' w' ∧ Own w' 0 v' (xs ++ ys) ∧ But v.ownBlock.toList w w' ∧ (v'.ownBlock = v.ownBlock ∨ v'.ownBlock = some w.heap.size) := by
  obtain ⟨i, hi, hz, hs1, hb1⟩ := info_parts inf8
  have hm := hsrc.1
  cases A with
  | none =>
    have h0 : m = 0 := by
      rcases Nat.eq_zero_or_pos m with h | h
      · exact h
      · obtain ⟨ad, e, _⟩ := hsrc.2 h; cases e
    subst h0
    have : ys = [] := List.eq_nil_of_length_eq_zero hm
    subst this
    exact ⟨v, w, run_app_nil und8 hi hown c, by rw [List.append_nil]; exact hown, But.refl _ _, .inl rfl⟩
  | some ad =>
    have hcells : ∀ j u, (cellsOf ys)[j]? = some u → w.cell? (ad.add j) = some u := by
      intro j u hu
      simp only [cellsOf, List.getElem?_map, Option.map_eq_some_iff] at hu
      obtain ⟨x, hx, rfl⟩ := hu
      have hp : 0 < m := by have := (List.getElem?_eq_some_iff.1 hx).1; omega
      obtain ⟨ad', e, _, hc⟩ := hsrc.2 hp
      injection e with e
      subst e
      exact hc j x hx
    obtain ⟨v', w', hrun, h2, h3, _, h5⟩ := run_append_own_at (P := Tryz.prog) w 0 22 ty 5 i (.int .u8 0) 1 1 und8 hi hz hs1 hb1 rfl (by omega) v xs.length (cellsOf xs) hown ad m c (cellsOf ys) (by rw [cellsOf_length, hm, Nat.mul_one]) hcells (cellsOf_one ys)
      (by unfold maxLen; omega) (by omega) (Nat.zero_le _)
    refine ⟨v', w', hrun, ?_, ⟨h3.os, h3.tape, h3.output, h3.size, fun i hi hn => h3.block i hi (fun e => hn (mem_o.2 e.symm))⟩, h5⟩
    unfold Own
    rw [List.length_append, cellsOf_append, hm]
    exact h2
theorem wp_app8 {o : Oper} {a : Act} {w : World} {K : Act → World → Prop} {Q : Exit → Act → World → Prop} (s x : Operand)
    (ho : o.op = .call { callee := .builtin .append, args := #[s, x], argTypes := #[22, 22] })
    (v : Value) (l : List UInt8) (hs : a.eval s = v) (hown : Own w 0 v l) (A : Option Addr) (n c : Nat) (m : List UInt8) (hx : a.eval x = .slice A n c) (hsrc : Src w A n m)
    (hlen : l.length + n ≤ 140737488355328)
    (h : ∀ v' w', Hid (Own w' 0 v' (l ++ m)) → Hid (But v.ownBlock.toList w w') → Hid (v'.ownBlock = v.ownBlock ∨ v'.ownBlock = some w.heap.size) → K (a.put o.dst v') w') : Oper.wp Tryz.prog o a w K Q := by
  obtain ⟨v', w', hrun, h2, h3, h4⟩ := run_app8 hown (c := c) hsrc hlen o.type
  unfold Oper.wp execOp
  simp only [ho, resolve, invoke, builtin, Sem.run_bind, Sem.run_pure, Result.andThen_ok, List.map_toArray, List.map_cons, List.map_nil, hs, hx, hrun]
  exact h v' w' (Lib.hid h2) (Lib.hid h3) (Lib.hid h4)
theorem wpList_app8 {ops : Array Oper} {rest : List Oper} {o : Oper} {a : Act} {w : World} {Q : Exit → Act → World → Prop} (hgd : o.guard = none) (s x : Operand)
    (ho : o.op = .call { callee := .builtin .append, args := #[s, x], argTypes := #[22, 22] })
    (v : Value) (l : List UInt8) (hs : a.eval s = v) (hown : Own w 0 v l) (A : Option Addr) (n c : Nat) (m : List UInt8) (hx : a.eval x = .slice A n c) (hsrc : Src w A n m)
    (hlen : l.length + n ≤ 140737488355328)
    (h : ∀ v' w', Hid (Own w' 0 v' (l ++ m)) → Hid (But v.ownBlock.toList w w') → Hid (v'.ownBlock = v.ownBlock ∨ v'.ownBlock = some w.heap.size) → wpList Tryz.prog ops Q rest (a.put o.dst v') w') : wpList Tryz.prog ops Q (o :: rest) a w :=
  wpList_plain hgd fun _ hK => wp_app8 s x ho v l hs hown A n c m hx hsrc hlen (fun v' w' h2 h3 h4 => hK _ _ (h v' w' h2 h3 h4))
set_option maxRecDepth 100000 in
/-- one field behind fields of the call's own -/
theorem run_appFk {w : World} {v : Value} {l : List Fd.Fld} (f : Fd.Fld) (hown : Fd.OwnF w 0 v l) {g t c : Nat} (hs : Blk w g t #[.string (Tx.str f.name), .string (Tx.str f.text)]) (hlen : l.length + 1 ≤ 100000) (ty : TypeId) :
    ∃ v' w', (Builtin.append_ #[40, 40] ty #[v, .slice (some ⟨g, 0, none⟩) 1 c]).run Tryz.prog w = .ok v' w' ∧ Fd.OwnF w' 0 v' (l ++ [f]) ∧ But v.ownBlock.toList w w' ∧ (v'.ownBlock = v.ownBlock ∨ v'.ownBlock = some w.heap.size) := by
  obtain ⟨i0, hi, hz0, hz1, hz2⟩ := info_parts Fd.infZ
  have hcells : ∀ (j : Nat) (u : Value), (Fd.flatF [f])[j]? = some u → w.cell? ((⟨g, 0, none⟩ : Addr).add j) = some u := by
    intro j u hu
    have ea : (⟨g, 0, none⟩ : Addr).add j = ⟨g, j, none⟩ := by unfold Addr.add; split <;> simp_all
    rw [ea, hs.cell]
    rcases j with _ | _ | j
    · simpa [Fd.flatF, Fd.fC] using hu
    · simpa [Fd.flatF, Fd.fC] using hu
    · simp [Fd.flatF, Fd.fC] at hu
  obtain ⟨v', w', hrun, h2, h3, _, h5⟩ := run_append_own_at (P := Tryz.prog) w 0 40 ty 45 i0 (.agg #[.string .empty, .string .empty]) 2 32 Fd.undL hi hz0 hz1 hz2 rfl (by decide) v l.length (Fd.flatF l) hown ⟨g, 0, none⟩ 1 c (Fd.flatF [f]) (Fd.flatF_len [f]) hcells Fd.flatF_one (by unfold maxLen; omega) (by omega) (Nat.zero_le _)
  refine ⟨v', w', hrun, ?_, ⟨h3.os, h3.tape, h3.output, h3.size, fun i hi hn => h3.block i hi (fun e => hn (mem_o.2 e.symm))⟩, h5⟩
  unfold Fd.OwnF
  rw [List.length_append, Fd.flatF_app]
  exact h2
/-- a peeker's cells -/
def pC (z u r : Int) (H : ByteArray) (p : Int) (q : Rl.Rq) (fv lv : Value) (b : Bool) : Array Value := #[.int .i64 z, .int .i64 2, .int .i64 u, .int .i64 r, .string H, .int .i64 p, .bool false, .string ⟨#[]⟩, .slice none 0 0, .slice none 0 0, .bool false, .string (Tx.str q.meth), .string (Tx.str q.targ), .int .i64 q.minor, fv, lv, .bool b]
/-- a peeker at block g by which nothing is known -/
structure PkO (w : World) (g : Nat) (u : Int) (q : Rl.Rq) (fs : List Fd.Fld) (l : List UInt8) (b : Bool) (fv lv : Value) : Prop where
  blk : Blk w g 57 (pC 0 u 0 ⟨#[]⟩ 0 q fv lv b)
  fo : Fd.OwnF w 0 fv fs
  lo : Own w 0 lv l
/-- the blocks that it leads to -/
def ledS (fv lv : Value) : List Nat := fv.ownBlock.toList ++ lv.ownBlock.toList
section
variable {w w' : World} {g : Nat} {u : Int} {q : Rl.Rq} {fs : List Fd.Fld} {l : List UInt8} {b : Bool} {fv lv : Value} {S : List Nat}
theorem PkO.led (h : PkO w g u q fs l b fv lv) : ∀ i ∈ ledS fv lv, i < w.heap.size ∧ i ≠ g := fun i hi => by
  rcases List.mem_append.1 hi with hi | hi
  · have hv := mem_o.1 hi
    exact ⟨owns_lt h.fo i hv, fun e => owns_ne h.fo h.blk (by decide) (by rw [hv, e])⟩
  · have hv := mem_o.1 hi
    exact ⟨owns_lt h.lo i hv, fun e => owns_ne h.lo h.blk (by decide) (by rw [hv, e])⟩
theorem PkO.but (h : PkO w g u q fs l b fv lv) (k : But S w w') (hg : g ∉ S) (hS : ∀ i ∈ ledS fv lv, i ∉ S) : PkO w' g u q fs l b fv lv :=
  ⟨h.blk.but k hg, owns_but h.fo k (fun i hi => hS i (List.mem_append.2 (.inl (mem_o.2 hi)))), owns_but h.lo k (fun i hi => hS i (List.mem_append.2 (.inr (mem_o.2 hi))))⟩
theorem PkO.below (h : PkO w g u q fs l b fv lv) (hb : Below w.heap.size w w') : PkO w' g u q fs l b fv lv := h.but (But.of_below hb []) (by simp) (by simp)
end
theorem but_of {w w' : World} {g : Nat} (h : w.grownBy w' (some g)) : But [g] w w' :=
  ⟨h.os, h.tape, h.output, h.size, fun i hi hn => h.block i hi (fun e => hn (by injection e with e; simp [e]))⟩
/-- a peeker at block g, which leads to the blocks S -/
structure Pk (w : World) (g : Nat) (S : List Nat) (t : H) : Prop where
  ok : OkH t
  nq : Nq t
  at_ : (t.z = 0 ∧ ∃ fv lv, PkO w g (t.u : Int) t.q t.fs (lineH t) (backB t) fv lv ∧ S = ledS fv lv) ∨
    (t.z ≠ 0 ∧ S = [] ∧ Blk w g 57 (pC t.z t.u t.r (Tx.str t.h) t.p Rl.Rq.zero (.slice none 0 0) (.slice none 0 0) false))
theorem Pk.but {w w' : World} {g : Nat} {S S' : List Nat} {t : H} (h : Pk w g S t) (k : But S' w w') (hg : g ∉ S') (hS : ∀ i ∈ S, i ∉ S') : Pk w' g S t :=
  ⟨h.ok, h.nq, by
    rcases h.at_ with ⟨hz, fv, lv, h1, rfl⟩ | ⟨hz, hs, h1⟩
    · exact .inl ⟨hz, fv, lv, h1.but k hg hS, rfl⟩
    · exact .inr ⟨hz, hs, h1.but k hg⟩⟩
theorem Pk.below {w w' : World} {g : Nat} {S : List Nat} {t : H} (h : Pk w g S t) (hb : Below w.heap.size w w') : Pk w' g S t := h.but (But.of_below hb []) (by simp) (by simp)
theorem Pk.lt {w : World} {g : Nat} {S : List Nat} {t : H} (h : Pk w g S t) : g < w.heap.size := by
  rcases h.at_ with ⟨hz, fv, lv, h1, _⟩ | ⟨hz, hs, h1⟩
  · exact h1.blk.lt
  · exact h1.lt
theorem Pk.lts {w : World} {g : Nat} {S : List Nat} {t : H} (h : Pk w g S t) : ∀ i ∈ S, i < w.heap.size ∧ i ≠ g := by
  rcases h.at_ with ⟨hz, fv, lv, h1, rfl⟩ | ⟨hz, rfl, h1⟩
  · exact h1.led
  · exact fun i hi => by cases hi
theorem range_pk {w : World} {g t : Nat} {z u r p : Int} {H : ByteArray} {q : Rl.Rq} {fv lv : Value} {b : Bool} (h : Blk w g t (pC z u r H p q fv lv b)) : w.rangeAt g 0 (vH z 2 u r H p).toList := fun j v hv => by
  rw [h.cell]
  rcases j with _ | _ | _ | _ | _ | _ | _ | _ | _ | _ | _ | j
  all_goals first
    | (exfalso; simp [vH] at hv; done)
    | simpa [vH, pC] using hv
/-- what a peeker tells: a verdict, its first cells -/
theorem Pk.told {w : World} {g : Nat} {S : List Nat} {t : H} (h : Pk w g S t) : w.rangeAt g 0 (vH t.z 2 t.u t.r (Tx.str t.h) t.p).toList := by
  rcases h.at_ with ⟨hz, fv, lv, h1, rfl⟩ | ⟨hz, hs, h1⟩
  · obtain ⟨hh, hp⟩ := h.ok.bare (by omega)
    have hr : t.r = 0 := h.ok.op hz
    rw [hh, hp, hr, hz]
    exact range_pk h1.blk
  · exact range_pk h1
theorem Pk.cell {w : World} {g : Nat} {S : List Nat} {t : H} (h : Pk w g S t) : w.cell? ⟨g, 0, none⟩ = some (.int .i64 (t.z : Int)) := by
  have := h.told 0 (.int .i64 (t.z : Int)) rfl
  exact this
theorem only_p (w : World) (g i : Nat) (v : Value) : w.grownBy (w.setCell ⟨g, i, none⟩ v) (some g) := only_setCell (p := ⟨g, i, none⟩) (only_refl w _) (.inl rfl) _
end Go.Proofs.YtgbhnjkigjecmaaGreatDoor.Hp
