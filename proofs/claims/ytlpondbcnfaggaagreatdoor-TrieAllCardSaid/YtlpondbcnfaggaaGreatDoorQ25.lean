/-
  Rules in a row of the call's own; append onto them. Plain lemmas, no condition.
-/
import Derived.Test.YtlpondbcnfaggaaGreatDoorQ10
import Derived.Maps.AppendAt
namespace Go.Proofs.YtlpondbcnfaggaaGreatDoor.Tr
open Go.RowKit Go.Proofs.YtlpondbcnfaggaaGreatDoor.Wd Go.Proofs.YtlpondbcnfaggaaGreatDoor.Asc Go.Proofs.YtlpondbcnfaggaaGreatDoor.Tx Go.Proofs.YtlpondbcnfaggaaGreatDoor.St

theorem undRL : Tryz.prog.underlying 29 = some (.slice 23) := Tryz.underlying29
theorem infRZ : (Tryz.prog.info? 23).map (fun i => (i.zero, i.size, i.bytes)) = some (some (.agg #[.bool false, .int .i64 0, .string .empty, .int .i64 0, .string .empty]), 5, 56) := by kernel_rfl
def flatU (l : List Ru) : List Value := l.flatMap fun r => (ruC r).toList
theorem flatU_cons (r : Ru) (l : List Ru) : flatU (r :: l) = (ruC r).toList ++ flatU l := by simp [flatU]
theorem flatU_app (l m : List Ru) : flatU (l ++ m) = flatU l ++ flatU m := by simp [flatU]
theorem flatU_len : ∀ l : List Ru, (flatU l).length = l.length * 5
  | [] => rfl
  | x :: l => by
    rw [flatU_cons, List.length_append, flatU_len l, List.length_cons]
    show 5 + _ = _
    omega
theorem flatU_at : ∀ (l : List Ru) (i : Nat) (r : Ru), l[i]? = some r → ∀ (j : Nat) (v : Value), (ruC r).toList[j]? = some v → (flatU l)[i * 5 + j]? = some v
  | [], i, f, h, _, _, _ => by simp at h
  | y :: l, 0, r, h, j, v, hv => by
    simp at h
    subst h
    rw [flatU_cons, List.getElem?_append_left (by have := (List.getElem?_eq_some_iff.1 hv).1; omega), Nat.zero_mul, Nat.zero_add]
    exact hv
  | y :: l, i + 1, r, h, j, v, hv => by
    rw [flatU_cons, List.getElem?_append_right (by show 5 ≤ _; omega), show (i + 1) * 5 + j - (ruC y).toList.length = i * 5 + j by show _ - 5 = _; omega]
    exact flatU_at l i r (by simpa using h) j v hv
theorem flatU_one {l : List Ru} : ∀ v ∈ flatU l, v.oneCell' = true := fun v h => by
  obtain ⟨x, _, hv⟩ := List.mem_flatMap.1 h
  simp [ruC] at hv
  rcases hv with rfl | rfl | rfl | rfl | rfl <;> rfl

/-- the slice v owns the rules l, in blocks from B on -/
def OwnU (w : World) (B : Nat) (v : Value) (l : List Ru) : Prop := w.ownsRow B 23 5 v l.length (flatU l)
theorem OwnU.nil_ (w : World) (B : Nat) : OwnU w B (.slice none 0 0) [] := ⟨rfl, .inl ⟨rfl, rfl⟩⟩
theorem OwnU.empty (w : World) (B : Nat) (hB : B ≤ w.heap.size) : OwnU (w.alloc (.cells #[] 23)) B (.slice (some ⟨w.heap.size, 0, none⟩) 0 0) [] :=
  ⟨rfl, .inr ⟨w.heap.size, 0, #[], rfl, hB, heap_alloc_new w _, Nat.le_refl _, Nat.zero_le _, rfl, rfl⟩⟩
theorem OwnU.alloc {w : World} {B : Nat} {v : Value} {l : List Ru} (h : OwnU w B v l) (o : Obj) : OwnU (w.alloc o) B v l := World.ownsRow.alloc h o
theorem OwnU.ge {w : World} {B : Nat} {v : Value} {l : List Ru} (h : OwnU w B v l) : ∀ g, v.ownBlock = some g → B ≤ g ∧ g < w.heap.size := by
  obtain ⟨hl, ⟨rfl, h0⟩ | ⟨g, cap, cur, rfl, hg, hh, r⟩⟩ := h
  · exact fun g e => by cases e
  · exact fun g' e => by
      have e' : g = g' := Option.some.inj e
      rw [← e']; exact ⟨hg, Blk.lt (t := 23) (cs := cur) hh⟩
theorem OwnU.src {w : World} {B : Nat} {v : Value} {l : List Ru} (h : OwnU w B v l) : ∃ A c, v = .slice A l.length c ∧ l.length ≤ c ∧ SrcU w A l := by
  obtain ⟨hl, ⟨rfl, h0⟩ | ⟨g, cap, cur, rfl, hg, hh, hc, hm, hz, ht⟩⟩ := h
  · obtain rfl : l = [] := List.eq_nil_of_length_eq_zero h0
    exact ⟨none, 0, rfl, Nat.le_refl _, SrcU.nil w _⟩
  · have hb : Blk w g 23 cur := hh
    refine ⟨_, cap, rfl, hc, fun i r hr => ?_⟩
    have key : ∀ (j : Nat) (u : Value), (ruC r).toList[j]? = some u → w.cell? ⟨g, 0 + i * 5 + j, none⟩ = some u := fun j u hu => by
      rw [Nat.zero_add, hb.cell, ← Array.getElem?_toList]
      have h2 := flatU_at l i r hr j u hu
      rw [← ht, List.getElem?_take] at h2
      split at h2
      · exact h2
      · cases h2
    exact ⟨g, 0, rfl, hb.lt, key 0 _ rfl, key 1 _ rfl, key 2 _ rfl, key 3 _ rfl, key 4 _ rfl⟩
theorem RuAt.grown {w w' : World} {g o : Nat} {r : Ru} {row : Option Nat} (h : RuAt w g o r) (hg : g < w.heap.size) (hb : w.grownBy w' row) (hne : some g ≠ row) : RuAt w' g o r := by
  have e : w'.heap[g]? = w.heap[g]? := hb.block g hg hne
  obtain ⟨h0, h1, h2, h3, h4⟩ := h
  exact ⟨(World.cell?_of_block (a := ⟨g, _, none⟩) e).trans h0, (World.cell?_of_block (a := ⟨g, _, none⟩) e).trans h1, (World.cell?_of_block (a := ⟨g, _, none⟩) e).trans h2, (World.cell?_of_block (a := ⟨g, _, none⟩) e).trans h3, (World.cell?_of_block (a := ⟨g, _, none⟩) e).trans h4⟩
theorem SrcU.grown {w w' : World} {A : Option Addr} {l : List Ru} {row : Option Nat} (h : SrcU w A l) (hb : w.grownBy w' row) (hne : ∀ x, A = some x → some x.block ≠ row) : SrcU w' A l := fun i r hr => by
  obtain ⟨g, o, hA, hg, h0⟩ := h i r hr
  exact ⟨g, o, hA, Nat.lt_of_lt_of_le hg hb.size, h0.grown hg hb (hne _ hA)⟩
/-- one rule in a block -/
theorem SrcU.one {w : World} {g t : Nat} (r : Ru) (h : Blk w g t (ruC r)) : SrcU w (some ⟨g, 0, none⟩) [r] := fun i x hx => by
  match i, hx with
  | 0, hx =>
    injection hx with hx
    subst hx
    exact ⟨g, 0, rfl, h.lt, by rw [h.cell]; rfl, by rw [h.cell]; rfl, by rw [h.cell]; rfl, by rw [h.cell]; rfl, by rw [h.cell]; rfl⟩
  | i + 1, hx => simp at hx

/-- append of nothing -/
theorem run_appU_none (w : World) (A B : Option Addr) (n c d : Nat) (ty : TypeId) (hn : n ≤ c) :
    (Builtin.append_ #[29, 29] ty #[.slice A n c, .slice B 0 d]).run Tryz.prog w = .ok (.slice A n c) w := by
  have h1 : ∀ w, (sizeOf 23).run Tryz.prog w = .ok 5 w := fun w => by kernel_rfl
  have h2 : ∀ (a : Addr) (w : World), (loadCellsFrom a 0 0 #[]).run Tryz.prog w = .ok #[] w := fun _ _ => rfl
  cases A <;> cases B <;> simp [Builtin.append_, run_underlying undRL, h1, h2, Builtin.lenOf, Builtin.firstCells, hn, loadCells, storeCells]
set_option maxRecDepth 100000 in
/-- append of a row, be it empty -/
theorem run_appU {w : World} {B : Nat} {v : Value} {l m : List Ru} (hown : OwnU w B v l) {A : Option Addr} {c : Nat} (hs : SrcU w A m) (hlen : l.length + m.length ≤ 100000) (hB : B ≤ w.heap.size) (ty : TypeId) :
    ∃ v' w', (Builtin.append_ #[29, 29] ty #[v, .slice A m.length c]).run Tryz.prog w = .ok v' w' ∧ OwnU w' B v' (l ++ m) ∧ w.grownBy w' v.ownBlock := by
  cases hm : m with
  | nil =>
    obtain ⟨A', c', rfl, h1, _⟩ := hown.src
    refine ⟨_, w, run_appU_none w A' A l.length c' c ty h1, ?_, only_refl w _⟩
    rw [List.append_nil]
    exact hown
  | cons x r =>
    rw [← hm]
    obtain ⟨i0, hi, hz0, hz1, hz2⟩ := info_parts infRZ
    obtain ⟨g, o, rfl, hg, _⟩ := hs 0 x (by rw [hm]; rfl)
    have hcells : ∀ (j : Nat) (u : Value), (flatU m)[j]? = some u → w.cell? ((⟨g, o, none⟩ : Addr).add j) = some u := by
      intro j u hu
      have hj := (List.getElem?_eq_some_iff.1 hu).1
      rw [flatU_len] at hj
      obtain ⟨f, hf⟩ : ∃ f, m[j / 5]? = some f := ⟨_, List.getElem?_eq_getElem (by omega)⟩
      obtain ⟨g', o', hA, _, c0, c1, c2, c3, c4⟩ := hs _ f hf
      injection hA with hA
      injection hA with e1 e2
      subst e1 e2
      have ea : (⟨g, o, none⟩ : Addr).add j = ⟨g, o + j, none⟩ := by unfold Addr.add; split <;> simp_all
      rw [ea]
      have key : ∀ (k : Nat) (y : Value), j % 5 = k → (ruC f).toList[k]? = some y → w.cell? ⟨g, o + j / 5 * 5 + k, none⟩ = some y → w.cell? ⟨g, o + j, none⟩ = some u := fun k y hk hy hc => by
        have hj2 : j / 5 * 5 + k = j := by omega
        have h2 := flatU_at m _ f hf k y hy
        rw [hj2, hu] at h2
        injection h2 with h2
        rw [h2, show o + j = o + j / 5 * 5 + k by omega]
        exact hc
      have hr : j % 5 = 0 ∨ j % 5 = 1 ∨ j % 5 = 2 ∨ j % 5 = 3 ∨ j % 5 = 4 := by omega
      rcases hr with hr | hr | hr | hr | hr
      · exact key 0 _ hr rfl c0
      · exact key 1 _ hr rfl c1
      · exact key 2 _ hr rfl c2
      · exact key 3 _ hr rfl c3
      · exact key 4 _ hr rfl c4
    obtain ⟨v', w', hrun, h2, h3, _, _⟩ := run_append_own_at (P := Tryz.prog) w B 29 ty 23 i0 (.agg #[.bool false, .int .i64 0, .string .empty, .int .i64 0, .string .empty]) 5 56 undRL hi hz0 hz1 hz2 rfl (by decide) v l.length (flatU l) hown ⟨g, o, none⟩ m.length c (flatU m) (flatU_len m) hcells flatU_one (by unfold maxLen; omega) (by omega) hB
    refine ⟨v', w', hrun, ?_, h3⟩
    unfold OwnU
    rw [List.length_append, flatU_app]
    exact h2
theorem wp_appU {o : Oper} {a : Act} {w : World} {K : Act → World → Prop} {Q : Exit → Act → World → Prop} (s x : Operand)
    (ho : o.op = .call { callee := .builtin .append, args := #[s, x], argTypes := #[29, 29] })
    (B : Nat) (v : Value) (l : List Ru) (hs : a.eval s = v) (hown : OwnU w B v l) (A : Option Addr) (n c : Nat) (m : List Ru) (hx : a.eval x = .slice A n c) (hn : n = m.length) (hsrc : SrcU w A m)
    (hlen : l.length + m.length ≤ 100000) (hB : B ≤ w.heap.size)
    (h : ∀ v' w', Hid (OwnU w' B v' (l ++ m)) → Hid (w.grownBy w' v.ownBlock) → K (a.put o.dst v') w') : Oper.wp Tryz.prog o a w K Q := by
  subst hn
  obtain ⟨v', w', hrun, h2, h3⟩ := run_appU hown (c := c) hsrc hlen hB o.type
  unfold Oper.wp execOp
  simp only [ho, resolve, invoke, builtin, Sem.run_bind, Sem.run_pure, Result.andThen_ok, List.map_toArray, List.map_cons, List.map_nil, hs, hx, hrun]
  exact h v' w' (Lib.hid h2) (Lib.hid h3)
/-- rows of the call's own, made one behind the other, all that was there as it was -/
structure MidU (w0 w : World) (v : Value) (l : List Ru) : Prop where
  bel : Below w0.heap.size w0 w
  own : OwnU w w0.heap.size v l
theorem MidU.start {w0 w : World} (h : Below w0.heap.size w0 w) : MidU w0 (w.alloc (.cells #[] 23)) (.slice (some ⟨w.heap.size, 0, none⟩) 0 0) [] :=
  ⟨h.alloc h.size _, OwnU.empty w _ h.size⟩
theorem MidU.alloc {w0 w : World} {v : Value} {l : List Ru} (h : MidU w0 w v l) (o : Obj) : MidU w0 (w.alloc o) v l := ⟨h.bel.alloc h.bel.size o, h.own.alloc o⟩
theorem MidU.app {w0 w w' : World} {v v' : Value} {l m : List Ru} (h : MidU w0 w v l) (ho : OwnU w' w0.heap.size v' m) (hg : w.grownBy w' v.ownBlock) : MidU w0 w' v' m :=
  ⟨h.bel.grown hg h.bel.size (fun k hk => (h.own.ge k hk).1), ho⟩
end Go.Proofs.YtlpondbcnfaggaaGreatDoor.Tr
