/-
  Fields in a row of the call's own; append onto them. Plain lemmas, no condition.
-/
import Derived.Test.YtkbankjnfedkdaaFdMem
import Derived.Maps.AppendAt
namespace Go.Proofs.Ytkbankjnfedkdaa.Fd
open Go.RowKit Go.Proofs.Ytkbankjnfedkdaa.Wd Go.Proofs.Ytkbankjnfedkdaa.Asc Go.Proofs.Ytkbankjnfedkdaa.Tx Go.Proofs.Ytkbankjnfedkdaa.St

theorem undL : Try.prog.underlying 29 = some (.slice 24) := Try.underlying29
theorem infZ : (Try.prog.info? 24).map (fun i => (i.zero, i.size, i.bytes)) = some (some (.agg #[.string .empty, .string .empty]), 2, 32) := by kernel_rfl
def fC (f : Fld) : List Value := [.string (str f.name), .string (str f.text)]
def flatF (l : List Fld) : List Value := l.flatMap fC
theorem flatF_app (l m : List Fld) : flatF (l ++ m) = flatF l ++ flatF m := by simp [flatF]
theorem flatF_len (l : List Fld) : (flatF l).length = l.length * 2 := by
  induction l with
  | nil => rfl
  | cons x l ih => rw [show flatF (x :: l) = fC x ++ flatF l by simp [flatF], List.length_append, ih]; simp [fC]; omega
theorem flatF_at : ∀ (l : List Fld) (i : Nat) (f : Fld), l[i]? = some f → ∀ (j : Nat) (v : Value), (fC f)[j]? = some v → (flatF l)[i * 2 + j]? = some v
  | [], i, f, h, _, _, _ => by simp at h
  | y :: l, 0, f, h, j, v, hv => by
    simp at h
    subst h
    rw [show flatF (y :: l) = fC y ++ flatF l by simp [flatF], List.getElem?_append_left (by have := (List.getElem?_eq_some_iff.1 hv).1; omega), Nat.zero_mul, Nat.zero_add]
    exact hv
  | y :: l, i + 1, f, h, j, v, hv => by
    rw [show flatF (y :: l) = fC y ++ flatF l by simp [flatF], List.getElem?_append_right (by show 2 ≤ _; omega), show (i + 1) * 2 + j - (fC y).length = i * 2 + j by show _ - 2 = _; omega]
    exact flatF_at l i f (by simpa using h) j v hv
theorem flatF_one {l : List Fld} : ∀ v ∈ flatF l, v.oneCell' = true := fun v h => by
  obtain ⟨x, _, hv⟩ := List.mem_flatMap.1 h
  simp [fC] at hv
  rcases hv with rfl | rfl <;> rfl

/-- the slice v owns the fields l, in blocks from B on -/
def OwnF (w : World) (B : Nat) (v : Value) (l : List Fld) : Prop := w.ownsRow B 24 2 v l.length (flatF l)
theorem OwnF.empty (w : World) (B : Nat) (hB : B ≤ w.heap.size) : OwnF (w.alloc (.cells #[] 24)) B (.slice (some ⟨w.heap.size, 0, none⟩) 0 0) [] :=
  ⟨rfl, .inr ⟨w.heap.size, 0, #[], rfl, hB, heap_alloc_new w _, Nat.le_refl _, Nat.zero_le _, rfl, rfl⟩⟩
theorem OwnF.alloc {w : World} {B : Nat} {v : Value} {l : List Fld} (h : OwnF w B v l) (o : Obj) : OwnF (w.alloc o) B v l := World.ownsRow.alloc h o
theorem OwnF.ge {w : World} {B : Nat} {v : Value} {l : List Fld} (h : OwnF w B v l) : ∀ g, v.ownBlock = some g → B ≤ g ∧ g < w.heap.size := by
  obtain ⟨hl, ⟨rfl, h0⟩ | ⟨g, cap, cur, rfl, hg, hh, r⟩⟩ := h
  · exact fun g e => by cases e
  · exact fun g' e => by
      have e' : g = g' := Option.some.inj e
      rw [← e']; exact ⟨hg, Blk.lt (t := 24) (cs := cur) hh⟩
theorem OwnF.src {w : World} {B : Nat} {v : Value} {l : List Fld} (h : OwnF w B v l) : ∃ A c, v = .slice A l.length c ∧ l.length ≤ c ∧ SrcF w A l := by
  obtain ⟨hl, ⟨rfl, h0⟩ | ⟨g, cap, cur, rfl, hg, hh, hc, hm, hz, ht⟩⟩ := h
  · obtain rfl : l = [] := List.eq_nil_of_length_eq_zero h0
    exact ⟨none, 0, rfl, Nat.le_refl _, SrcF.nil w _⟩
  · have hb : Blk w g 24 cur := hh
    refine ⟨_, cap, rfl, hc, fun i f hf => ?_⟩
    have key : ∀ (j : Nat) (u : Value), (fC f)[j]? = some u → w.cell? ⟨g, 0 + (i * 2 + j), none⟩ = some u := fun j u hu => by
      rw [Nat.zero_add, hb.cell, ← Array.getElem?_toList]
      have h2 := flatF_at l i f hf j u hu
      rw [← ht, List.getElem?_take] at h2
      split at h2
      · exact h2
      · cases h2
    exact ⟨g, 0, rfl, hb.lt, key 0 _ rfl, key 1 _ rfl⟩
theorem SrcF.grown {w w' : World} {A : Option Addr} {l : List Fld} {row : Option Nat} (h : SrcF w A l) (hb : w.grownBy w' row) (hne : ∀ x, A = some x → some x.block ≠ row) : SrcF w' A l := fun i f hf => by
  obtain ⟨g, o, hA, hg, h0, h1⟩ := h i f hf
  have e : w'.heap[g]? = w.heap[g]? := hb.block g hg (hne _ hA)
  exact ⟨g, o, hA, Nat.lt_of_lt_of_le hg hb.size, (World.cell?_of_block (a := ⟨g, _, none⟩) e).trans h0, (World.cell?_of_block (a := ⟨g, _, none⟩) e).trans h1⟩
/-- one field in a block -/
theorem SrcF.one {w : World} {g t : Nat} (f : Fld) (h : Blk w g t #[.string (str f.name), .string (str f.text)]) : SrcF w (some ⟨g, 0, none⟩) [f] := fun i x hx => by
  match i, hx with
  | 0, hx => injection hx with hx; subst hx; exact ⟨g, 0, rfl, h.lt, by rw [h.cell]; rfl, by rw [h.cell]; rfl⟩
  | i + 1, hx => simp at hx

/-- append of nothing -/
theorem run_app_none (w : World) (A B : Option Addr) (n c d : Nat) (ty : TypeId) (hn : n ≤ c) :
    (Builtin.append_ #[29, 29] ty #[.slice A n c, .slice B 0 d]).run Try.prog w = .ok (.slice A n c) w := by
  have h1 : ∀ w, (sizeOf 24).run Try.prog w = .ok 2 w := fun w => by kernel_rfl
  have h2 : ∀ (a : Addr) (w : World), (loadCellsFrom a 0 0 #[]).run Try.prog w = .ok #[] w := fun _ _ => rfl
  cases A <;> cases B <;> simp [Builtin.append_, run_underlying undL, h1, h2, Builtin.lenOf, Builtin.firstCells, hn, loadCells, storeCells]
set_option maxRecDepth 100000 in
/-- append of a row, be it empty -/
theorem run_appF {w : World} {B : Nat} {v : Value} {l m : List Fld} (hown : OwnF w B v l) {A : Option Addr} {c : Nat} (hs : SrcF w A m) (hlen : l.length + m.length ≤ 100000) (hB : B ≤ w.heap.size) (ty : TypeId) :
    ∃ v' w', (Builtin.append_ #[29, 29] ty #[v, .slice A m.length c]).run Try.prog w = .ok v' w' ∧ OwnF w' B v' (l ++ m) ∧ w.grownBy w' v.ownBlock := by
  cases hm : m with
  | nil =>
    obtain ⟨A', c', rfl, h1, _⟩ := hown.src
    refine ⟨_, w, run_app_none w A' A l.length c' c ty h1, ?_, only_refl w _⟩
    rw [List.append_nil]
    exact hown
  | cons x r =>
    rw [← hm]
    obtain ⟨i0, hi, hz0, hz1, hz2⟩ := info_parts infZ
    obtain ⟨g, o, rfl, hg, _⟩ := hs 0 x (by rw [hm]; rfl)
    have hcells : ∀ (j : Nat) (u : Value), (flatF m)[j]? = some u → w.cell? ((⟨g, o, none⟩ : Addr).add j) = some u := by
      intro j u hu
      have hj := (List.getElem?_eq_some_iff.1 hu).1
      rw [flatF_len] at hj
      obtain ⟨f, hf⟩ : ∃ f, m[j / 2]? = some f := ⟨_, List.getElem?_eq_getElem (by omega)⟩
      obtain ⟨g', o', hA, _, c0, c1⟩ := hs _ f hf
      injection hA with hA
      injection hA with e1 e2
      subst e1 e2
      have ea : (⟨g, o, none⟩ : Addr).add j = ⟨g, o + j, none⟩ := by unfold Addr.add; split <;> simp_all
      rw [ea]
      rcases Nat.mod_two_eq_zero_or_one j with hr | hr
      · have hj2 : j / 2 * 2 + 0 = j := by omega
        have h2 := flatF_at m _ f hf 0 _ rfl
        rw [hj2, hu] at h2
        injection h2 with h2
        rw [h2, show o + j = o + j / 2 * 2 by omega]
        exact c0
      · have hj2 : j / 2 * 2 + 1 = j := by omega
        have h2 := flatF_at m _ f hf 1 _ rfl
        rw [hj2, hu] at h2
        injection h2 with h2
        rw [h2, show o + j = o + j / 2 * 2 + 1 by omega]
        exact c1
    obtain ⟨v', w', hrun, h2, h3, _, _⟩ := run_append_own_at (P := Try.prog) w B 29 ty 24 i0 (.agg #[.string .empty, .string .empty]) 2 32 undL hi hz0 hz1 hz2 rfl (by decide) v l.length (flatF l) hown ⟨g, o, none⟩ m.length c (flatF m) (flatF_len m) hcells flatF_one (by unfold maxLen; omega) (by omega) hB
    refine ⟨v', w', hrun, ?_, h3⟩
    unfold OwnF
    rw [List.length_append, flatF_app]
    exact h2
theorem wp_appF {o : Oper} {a : Act} {w : World} {K : Act → World → Prop} {Q : Exit → Act → World → Prop} (s x : Operand)
    (ho : o.op = .call { callee := .builtin .append, args := #[s, x], argTypes := #[29, 29] })
    (B : Nat) (v : Value) (l : List Fld) (hs : a.eval s = v) (hown : OwnF w B v l) (A : Option Addr) (n c : Nat) (m : List Fld) (hx : a.eval x = .slice A n c) (hn : n = m.length) (hsrc : SrcF w A m)
    (hlen : l.length + m.length ≤ 100000) (hB : B ≤ w.heap.size)
    (h : ∀ v' w', Hid (OwnF w' B v' (l ++ m)) → Hid (w.grownBy w' v.ownBlock) → K (a.put o.dst v') w') : Oper.wp Try.prog o a w K Q := by
  subst hn
  obtain ⟨v', w', hrun, h2, h3⟩ := run_appF hown (c := c) hsrc hlen hB o.type
  unfold Oper.wp execOp
  simp only [ho, resolve, invoke, builtin, Sem.run_bind, Sem.run_pure, Result.andThen_ok, List.map_toArray, List.map_cons, List.map_nil, hs, hx, hrun]
  exact h v' w' (Lib.hid h2) (Lib.hid h3)
/-- rows of the call's own, made one behind the other, all that was there as it was -/
structure Mid (w0 w : World) (v : Value) (l : List Fld) : Prop where
  bel : Below w0.heap.size w0 w
  own : OwnF w w0.heap.size v l
theorem Mid.start {w0 w : World} (h : Below w0.heap.size w0 w) : Mid w0 (w.alloc (.cells #[] 24)) (.slice (some ⟨w.heap.size, 0, none⟩) 0 0) [] :=
  ⟨h.alloc h.size _, OwnF.empty w _ h.size⟩
theorem Mid.alloc {w0 w : World} {v : Value} {l : List Fld} (h : Mid w0 w v l) (o : Obj) : Mid w0 (w.alloc o) v l := ⟨h.bel.alloc h.bel.size o, h.own.alloc o⟩
theorem Mid.app {w0 w w' : World} {v v' : Value} {l m : List Fld} (h : Mid w0 w v l) (ho : OwnF w' w0.heap.size v' m) (hg : w.grownBy w' v.ownBlock) : Mid w0 w' v' m :=
  ⟨h.bel.grown hg h.bel.size (fun k hk => (h.own.ge k hk).1), ho⟩
end Go.Proofs.Ytkbankjnfedkdaa.Fd
