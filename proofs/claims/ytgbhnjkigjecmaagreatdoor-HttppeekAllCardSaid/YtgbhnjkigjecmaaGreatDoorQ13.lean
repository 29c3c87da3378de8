/-
  A field as it lies in memory, and '==' of two of them; fields in a row. Plain lemmas, no condition.
-/
import Derived.Test.YtgbhnjkigjecmaaGreatDoorQ12
import Derived.Test.YtgbhnjkigjecmaaGreatDoorQ01
import Derived.Lib.Strings
import Derived.Maps.AppendAt
namespace Go.Proofs.YtgbhnjkigjecmaaGreatDoor.Fd
open Go.RowKit Go.Proofs.YtgbhnjkigjecmaaGreatDoor.Wd Go.Proofs.YtgbhnjkigjecmaaGreatDoor.Asc Go.Proofs.YtgbhnjkigjecmaaGreatDoor.Tx Go.Proofs.YtgbhnjkigjecmaaGreatDoor.St

/-- its cells -/
def fdC (f : Fld) : Array Value := #[.string (str f.name), .string (str f.text)]
theorem undF : Tryz.prog.underlying 45 = some (.struct (Tryz.prog.fieldsOf 45)) := by kernel_rfl
theorem infF : (Tryz.prog.info? 45).map (·.size) = some 2 := by kernel_rfl
theorem fdC_one (f : Fld) : (fdC f).all (·.oneCell') = true := by simp [fdC, Value.oneCell']
theorem fieldsF : ∃ f g : Field, (Tryz.prog.fieldsOf 45).toList = [f, g] ∧ (f.type = 9 ∧ f.offset = 0 ∧ f.name ≠ "_") ∧ (g.type = 9 ∧ g.offset = 1 ∧ g.name ≠ "_") := by
  simp only [Program.fieldsOf, Tryz.underlying45]
  exact ⟨_, _, rfl, ⟨rfl, rfl, by decide⟩, ⟨rfl, rfl, by decide⟩⟩
theorem stoodF : Tryz.prog.stoodInHeld 45 = false := by kernel_rfl
theorem str_beq (a b : List UInt8) : ((str a).toList == (str b).toList) = decide (a = b) := by
  rw [Lib.toList_data, Lib.toList_data]
  show (a == b) = _
  by_cases h : a = b
  · rw [h]; simp
  · rw [decide_eq_false h, beq_eq_false_iff_ne]; exact h
theorem fd_is (r q : Fld) : decide (r = q) = (decide (r.name = q.name) && decide (r.text = q.text)) := by
  obtain ⟨a, b⟩ := r
  obtain ⟨a', b'⟩ := q
  rw [Bool.eq_iff_iff]
  simp
theorem eqFieldsF (k : Nat) (f g : Field) (hf : f.type = 9 ∧ f.offset = 0 ∧ f.name ≠ "_") (hg : g.type = 9 ∧ g.offset = 1 ∧ g.name ≠ "_") (r q : Fld) (w : World) :
    (Op.eqFields (k + 1) (fdC r) (fdC q) [f, g]).run Tryz.prog w = .ok (decide (r.name = q.name) && decide (r.text = q.text)) w := by
  obtain ⟨f1, f2, f3⟩ := hf
  obtain ⟨g1, g2, g3⟩ := hg
  have a1 : (part f.type (fdC r) f.offset).run Tryz.prog w = .ok (.string (str r.name)) w := by rw [f1, f2]; exact run_part_plain w (by kernel_rfl) rfl
  have a2 : (part f.type (fdC q) f.offset).run Tryz.prog w = .ok (.string (str q.name)) w := by rw [f1, f2]; exact run_part_plain w (by kernel_rfl) rfl
  have a3 : (Op.equalIn (k + 1) f.type (.string (str r.name)) (.string (str q.name))).run Tryz.prog w = .ok (decide (r.name = q.name)) w := by rw [f1, ← str_beq]; exact run_equalIn_string w k _ _ _ Tryz.underlying9
  have b1 : (part g.type (fdC r) g.offset).run Tryz.prog w = .ok (.string (str r.text)) w := by rw [g1, g2]; exact run_part_plain w (by kernel_rfl) rfl
  have b2 : (part g.type (fdC q) g.offset).run Tryz.prog w = .ok (.string (str q.text)) w := by rw [g1, g2]; exact run_part_plain w (by kernel_rfl) rfl
  have b3 : (Op.equalIn (k + 1) g.type (.string (str r.text)) (.string (str q.text))).run Tryz.prog w = .ok (decide (r.text = q.text)) w := by rw [g1, ← str_beq]; exact run_equalIn_string w k _ _ _ Tryz.underlying9
  clear f1 f2 g1 g2
  generalize k + 1 = K at *
  generalize Value.string (str r.name) = A1 at *
  generalize Value.string (str q.name) = A2 at *
  generalize Value.string (str r.text) = B1 at *
  generalize Value.string (str q.text) = B2 at *
  generalize decide (r.name = q.name) = x at *
  generalize decide (r.text = q.text) = y at *
  simp only [Op.eqFields, f3, g3, ne_eq, not_false_eq_true, if_true, Sem.run_bind, a1, a2, a3, Result.andThen_ok]
  cases x
  · simp
  · simp only [Bool.not_true, Bool.false_eq_true, if_false, Sem.run_bind, b1, b2, b3, Result.andThen_ok, Bool.true_and]
    cases y <;> simp
theorem eqInF (k : Nat) (r q : Fld) (w : World) : (Op.equalIn (k + 2) 45 (.agg (fdC r)) (.agg (fdC q))).run Tryz.prog w = .ok (decide (r = q)) w := by
  obtain ⟨f, g, hfs, hf, hg⟩ := fieldsF
  rw [run_equalIn_struct w (k + 1) _ _ _ undF stoodF, hfs, fd_is]
  exact eqFieldsF k f g hf hg r q w
theorem eqInFn (n : Nat) (h : 2 ≤ n) (r q : Fld) (w : World) : (Op.equalIn n 45 (.agg (fdC r)) (.agg (fdC q))).run Tryz.prog w = .ok (decide (r = q)) w := by
  obtain ⟨k, rfl⟩ : ∃ k, n = k + 2 := ⟨n - 2, by omega⟩
  exact eqInF k r q w
/-- '==' of two fields -/
theorem eqlF (r q : Fld) (w : World) : (binOp .eql 45 (.agg (fdC r)) (.agg (fdC q))).run Tryz.prog w = .ok (.bool (decide (r = q))) w := by
  rw [run_eql_struct, eqInFn _ (by omega) r q w, Result.andThen_ok]
/-- '!=' of two fields -/
theorem neqF (r q : Fld) (w : World) : (binOp .neq 45 (.agg (fdC r)) (.agg (fdC q))).run Tryz.prog w = .ok (.bool (!decide (r = q))) w := by
  rw [run_neq_struct, eqInFn _ (by omega) r q w, Result.andThen_ok]
theorem grdF : Tryz.prog.eqGuardType Tryz.prog.depth 45 = false := by kernel_rfl
theorem go_neqF {ops : Array Oper} {rest : List Oper} {o : Oper} {a : Act} {w : World} {Q : Exit → Act → World → Prop} {x y : Operand} {t : TypeId} (r q : Fld) (b : Bool) (hb : decide (r = q) = b)
    (ho : o.op = .binOp .neq 45 x y t) (hw : Region.wanted o (yielded ops a.tmps) = true) (hx : a.eval x = .agg (fdC r)) (hy : a.eval y = .agg (fdC q))
    (h : wpList Tryz.prog ops Q rest (a.put o.dst (.bool !b)) w) : wpList Tryz.prog ops Q (o :: rest) a w := by
  show if Region.wanted o (yielded ops a.tmps) = true then _ else _
  rw [if_pos hw]
  refine .inl ?_
  unfold Oper.wp execOp
  simp only [ho, hx, hy, Sem.run_bind, run_eqGuard_agg w .neq _ _ _ _ _ grdF, Result.andThen_ok, neqF, hb, Sem.run_pure]
  exact h
theorem go_eqlF {ops : Array Oper} {rest : List Oper} {o : Oper} {a : Act} {w : World} {Q : Exit → Act → World → Prop} {x y : Operand} {t : TypeId} (r q : Fld) (b : Bool) (hb : decide (r = q) = b)
    (ho : o.op = .binOp .eql 45 x y t) (hw : Region.wanted o (yielded ops a.tmps) = true) (hx : a.eval x = .agg (fdC r)) (hy : a.eval y = .agg (fdC q))
    (h : wpList Tryz.prog ops Q rest (a.put o.dst (.bool b)) w) : wpList Tryz.prog ops Q (o :: rest) a w := by
  show if Region.wanted o (yielded ops a.tmps) = true then _ else _
  rw [if_pos hw]
  refine .inl ?_
  unfold Oper.wp execOp
  simp only [ho, hx, hy, Sem.run_bind, run_eqGuard_agg w .eql _ _ _ _ _ grdF, Result.andThen_ok, eqlF, hb, Sem.run_pure]
  exact h
/-- a field is built -/
theorem go_bdF {ops : Array Oper} {rest : List Oper} {o : Oper} {a : Act} {w : World} {Q : Exit → Act → World → Prop} {fs : Array (Nat × Operand)} (vs : List (Nat × Value)) (r : Fld) (hB : Tryz.prog.built 45 vs = some (fdC r))
    (hw : Region.wanted o (yielded ops a.tmps) = true) (ho : o.op = .build 45 fs) (hv : (fs.map fun (i, x) => (i, a.eval x)).toList = vs)
    (h : wpList Tryz.prog ops Q rest (a.put o.dst (.agg (fdC r))) w) : wpList Tryz.prog ops Q (o :: rest) a w := by
  show if Region.wanted o (yielded ops a.tmps) = true then _ else _
  rw [if_pos hw]
  have e : Tryz.prog.built 45 (fs.map fun (i, x) => (i, a.eval x)).toList = some (fdC r) := by rw [hv]; exact hB
  refine .inl (wp_build _ _ ho (by rw [e]; rfl) ?_)
  rw [e]
  exact h
/-- the zero field in a block of its own; then another -/
abbrev zC : Array Value := #[.string ⟨#[]⟩, .string ⟨#[]⟩]
theorem st_new (w : World) (r : Fld) : Blk ((w.alloc (.cells zC 45)).setRow w.heap.size (fdC r)) w.heap.size 45 (fdC r) ∧
    Below w.heap.size w ((w.alloc (.cells zC 45)).setRow w.heap.size (fdC r)) :=
  ⟨setRow_blk (Blk.new _ _ _), setRow_below ((Below.refl _ _).alloc (Nat.le_refl _) _) (Blk.new _ _ _) (Nat.le_refl _) _⟩
theorem al_new (w : World) : Blk (w.alloc (.cells zC 45)) w.heap.size 45 (fdC Fld.zero) ∧ Below w.heap.size w (w.alloc (.cells zC 45)) :=
  ⟨Blk.new _ _ _, (Below.refl _ _).alloc (Nat.le_refl _) _⟩
theorem set2 (a b x0 x1 : Value) : (((#[a, b] : Array Value).setIfInBounds 0 x0).setIfInBounds 1 x1) = #[x0, x1] := by simp
/-- two cells stored, one behind the other -/
theorem two2 (w : World) (g : Nat) (t : TypeId) (a b x0 x1 : Value) (h : Blk w g t #[a, b]) :
    Blk ((w.setCell ⟨g, 0, none⟩ x0).setCell ⟨g, 1, none⟩ x1) g t #[x0, x1] ∧ w.grownBy ((w.setCell ⟨g, 0, none⟩ x0).setCell ⟨g, 1, none⟩ x1) (some g) := by
  constructor
  · have := (h.set_ 0 x0).set_ 1 x1
    rwa [set2] at this
  · exact only_setCell (p := ⟨g, 1, none⟩) (only_setCell (p := ⟨g, 0, none⟩) (only_refl w _) (.inl rfl) _) (.inl rfl) _

/-- what Parse of both answers -/
def ParP (p : Fld × Int) (w : World) (e : Ending) (w' : World) : Prop := e = .returned (.tuple #[.agg (fdC p.1), .int .i64 p.2]) ∧ Below w.heap.size w w'
/-- the answer's own block, and all that lay there -/
structure PaAt (w wx : World) : Prop where
  ob : Blk wx w.heap.size 45 zC
  bel : Below w.heap.size w wx
theorem PaAt.more {w wx w' : World} (h : PaAt w wx) (hb : Below wx.heap.size wx w') : PaAt w w' := ⟨h.ob.below hb h.ob.lt, h.bel.trans (hb.mono h.bel.size)⟩
theorem PaAt.new (w : World) : PaAt w (w.alloc (.cells zC 45)) := ⟨Blk.new _ _ _, (Below.refl _ _).alloc (Nat.le_refl _) _⟩
theorem PaAt.set {w wx : World} (h : PaAt w wx) (x0 x1 : Value) :
    Blk ((wx.setCell ⟨w.heap.size, 0, none⟩ x0).setCell ⟨w.heap.size, 1, none⟩ x1) w.heap.size 45 #[x0, x1] ∧
    Below w.heap.size w ((wx.setCell ⟨w.heap.size, 0, none⟩ x0).setCell ⟨w.heap.size, 1, none⟩ x1) := by
  obtain ⟨h1, h2⟩ := two2 wx w.heap.size _ _ _ x0 x1 h.ob
  exact ⟨h1, h.bel.grown h2 h.bel.size (fun j hj => by injection hj with hj; omega)⟩
/-- stored whole -/
theorem PaAt.row {w wx : World} (h : PaAt w wx) (r : Fld) : Blk (wx.setRow w.heap.size (fdC r)) w.heap.size 45 (fdC r) ∧ Below w.heap.size w (wx.setRow w.heap.size (fdC r)) :=
  ⟨setRow_blk h.ob, setRow_below h.bel h.ob (Nat.le_refl _) _⟩

/-- fields that a slice leads to -/
def SrcF (w : World) (A : Option Addr) (l : List Fld) : Prop :=
  ∀ (i : Nat) (f : Fld), l[i]? = some f → ∃ g o, A = some ⟨g, o, none⟩ ∧ g < w.heap.size ∧ w.cell? ⟨g, o + i * 2, none⟩ = some (.string (str f.name)) ∧ w.cell? ⟨g, o + i * 2 + 1, none⟩ = some (.string (str f.text))
theorem SrcF.below {w w' : World} {A : Option Addr} {l : List Fld} (h : SrcF w A l) (hb : Below w.heap.size w w') : SrcF w' A l := fun i f hf => by
  obtain ⟨g, o, hA, hg, h0, h1⟩ := h i f hf
  exact ⟨g, o, hA, Nat.lt_of_lt_of_le hg hb.size, (hb.cell (p := ⟨g, _, none⟩) hg).trans h0, (hb.cell (p := ⟨g, _, none⟩) hg).trans h1⟩
theorem SrcF.nil (w : World) (A : Option Addr) : SrcF w A [] := fun i f h => by simp at h
theorem SrcF.get {w wr : World} {A : Option Addr} {l : List Fld} {k : Nat} (h : SrcF w A l) (hk : k < l.length) (hb : Below w.heap.size w wr) :
    ∃ f g o, l[k]? = some f ∧ A = some ⟨g, o, none⟩ ∧ g < w.heap.size ∧ wr.cell? ⟨g, o + k * 2, none⟩ = some (.string (str f.name)) ∧ wr.cell? ⟨g, o + k * 2 + 1, none⟩ = some (.string (str f.text)) := by
  have hx : l[k]? = some l[k] := List.getElem?_eq_getElem hk
  obtain ⟨g, o, hA, hg, h0, h1⟩ := h k _ hx
  exact ⟨l[k], g, o, hx, hA, hg, (hb.cell (p := ⟨g, _, none⟩) hg).trans h0, (hb.cell (p := ⟨g, _, none⟩) hg).trans h1⟩
end Go.Proofs.YtgbhnjkigjecmaaGreatDoor.Fd

/-
  Fields in a row of the call's own; append onto them. Plain lemmas, no condition.
-/
namespace Go.Proofs.YtgbhnjkigjecmaaGreatDoor.Fd
open Go.RowKit Go.Proofs.YtgbhnjkigjecmaaGreatDoor.Wd Go.Proofs.YtgbhnjkigjecmaaGreatDoor.Asc Go.Proofs.YtgbhnjkigjecmaaGreatDoor.Tx Go.Proofs.YtgbhnjkigjecmaaGreatDoor.St

theorem undL : Tryz.prog.underlying 40 = some (.slice 45) := Tryz.underlying40
theorem infZ : (Tryz.prog.info? 45).map (fun i => (i.zero, i.size, i.bytes)) = some (some (.agg #[.string .empty, .string .empty]), 2, 32) := by kernel_rfl
def fC (f : Fld) : List Value := [.string (str f.name), .string (str f.text)]
def flatF (l : List Fld) : List Value := l.flatMap fC
theorem flatF_app (l m : List Fld) : flatF (l ++ m) = flatF l ++ flatF m := by simp [flatF]
theorem flatF_len (l : List Fld) : (flatF l).length = l.length * 2 := by
  induction l with
  | nil => rfl
  | cons x l ih => rw [show flatF (x :: l) = fC x ++ flatF l by simp [flatF], List.length_append, ih]; simp [fC]; omega
theorem flatF_at : ∀ (l : List Fld) (i : Nat) (f : Fld), l[i]? = some f → ∀ (j : Nat) (v : Value), (fC f)[j]? = some v → (flatF l)[i * 2 + j]? = some v
  | [], i, f, h, _, _, _ => by simp at h
  | y :: l, 0, f, h, j, v, hv => by
    simp at h
    subst h
    rw [show flatF (y :: l) = fC y ++ flatF l by simp [flatF], List.getElem?_append_left (by have := (List.getElem?_eq_some_iff.1 hv).1; omega), Nat.zero_mul, Nat.zero_add]
    exact hv
  | y :: l, i + 1, f, h, j, v, hv => by
    rw [show flatF (y :: l) = fC y ++ flatF l by simp [flatF], List.getElem?_append_right (by show 2 ≤ _; omega), show (i + 1) * 2 + j - (fC y).length = i * 2 + j by show _ - 2 = _; omega]
    exact flatF_at l i f (by simpa using h) j v hv
theorem flatF_one {l : List Fld} : ∀ v ∈ flatF l, v.oneCell' = true := fun v h => by
  obtain ⟨x, _, hv⟩ := List.mem_flatMap.1 h
  simp [fC] at hv
  rcases hv with rfl | rfl <;> rfl

/-- the slice v owns the fields l, in blocks from B on -/
def OwnF (w : World) (B : Nat) (v : Value) (l : List Fld) : Prop := w.ownsRow B 45 2 v l.length (flatF l)
theorem OwnF.empty (w : World) (B : Nat) (hB : B ≤ w.heap.size) : OwnF (w.alloc (.cells #[] 45)) B (.slice (some ⟨w.heap.size, 0, none⟩) 0 0) [] :=
  ⟨rfl, .inr ⟨w.heap.size, 0, #[], rfl, hB, heap_alloc_new w _, Nat.le_refl _, Nat.zero_le _, rfl, rfl⟩⟩
theorem OwnF.alloc {w : World} {B : Nat} {v : Value} {l : List Fld} (h : OwnF w B v l) (o : Obj) : OwnF (w.alloc o) B v l := World.ownsRow.alloc h o
theorem OwnF.ge {w : World} {B : Nat} {v : Value} {l : List Fld} (h : OwnF w B v l) : ∀ g, v.ownBlock = some g → B ≤ g ∧ g < w.heap.size := by
  obtain ⟨hl, ⟨rfl, h0⟩ | ⟨g, cap, cur, rfl, hg, hh, r⟩⟩ := h
  · exact fun g e => by cases e
  · exact fun g' e => by
      have e' : g = g' := Option.some.inj e
      rw [← e']; exact ⟨hg, Blk.lt (t := 45) (cs := cur) hh⟩
theorem OwnF.src {w : World} {B : Nat} {v : Value} {l : List Fld} (h : OwnF w B v l) : ∃ A c, v = .slice A l.length c ∧ l.length ≤ c ∧ SrcF w A l := by
  obtain ⟨hl, ⟨rfl, h0⟩ | ⟨g, cap, cur, rfl, hg, hh, hc, hm, hz, ht⟩⟩ := h
  · obtain rfl : l = [] := List.eq_nil_of_length_eq_zero h0
    exact ⟨none, 0, rfl, Nat.le_refl _, SrcF.nil w _⟩
  · have hb : Blk w g 45 cur := hh
    refine ⟨_, cap, rfl, hc, fun i f hf => ?_⟩
    have key : ∀ (j : Nat) (u : Value), (fC f)[j]? = some u → w.cell? ⟨g, 0 + (i * 2 + j), none⟩ = some u := fun j u hu => by
      rw [Nat.zero_add, hb.cell, ← Array.getElem?_toList]
      have h2 := flatF_at l i f hf j u hu
      rw [← ht, List.getElem?_take] at h2
      split at h2
      · exact h2
      · cases h2
    exact ⟨g, 0, rfl, hb.lt, key 0 _ rfl, key 1 _ rfl⟩
theorem SrcF.grown {w w' : World} {A : Option Addr} {l : List Fld} {row : Option Nat} (h : SrcF w A l) (hb : w.grownBy w' row) (hne : ∀ x, A = some x → some x.block ≠ row) : SrcF w' A l := fun i f hf => by
  obtain ⟨g, o, hA, hg, h0, h1⟩ := h i f hf
  have e : w'.heap[g]? = w.heap[g]? := hb.block g hg (hne _ hA)
  exact ⟨g, o, hA, Nat.lt_of_lt_of_le hg hb.size, (World.cell?_of_block (a := ⟨g, _, none⟩) e).trans h0, (World.cell?_of_block (a := ⟨g, _, none⟩) e).trans h1⟩
/-- one field in a block -/
theorem SrcF.one {w : World} {g t : Nat} (f : Fld) (h : Blk w g t #[.string (str f.name), .string (str f.text)]) : SrcF w (some ⟨g, 0, none⟩) [f] := fun i x hx => by
  match i, hx with
  | 0, hx => injection hx with hx; subst hx; exact ⟨g, 0, rfl, h.lt, by rw [h.cell]; rfl, by rw [h.cell]; rfl⟩
  | i + 1, hx => simp at hx

/-- append of nothing -/
theorem run_app_none (w : World) (A B : Option Addr) (n c d : Nat) (ty : TypeId) (hn : n ≤ c) :
    (Builtin.append_ #[40, 40] ty #[.slice A n c, .slice B 0 d]).run Tryz.prog w = .ok (.slice A n c) w := by
  have h1 : ∀ w, (sizeOf 45).run Tryz.prog w = .ok 2 w := fun w => by kernel_rfl
  have h2 : ∀ (a : Addr) (w : World), (loadCellsFrom a 0 0 #[]).run Tryz.prog w = .ok #[] w := fun _ _ => rfl
  cases A <;> cases B <;> simp [Builtin.append_, run_underlying undL, h1, h2, Builtin.lenOf, Builtin.firstCells, hn, loadCells, storeCells]
set_option maxRecDepth 100000 in
/-- append of a row, be it empty -/
theorem run_appF {w : World} {B : Nat} {v : Value} {l m : List Fld} (hown : OwnF w B v l) {A : Option Addr} {c : Nat} (hs : SrcF w A m) (hlen : l.length + m.length ≤ 100000) (hB : B ≤ w.heap.size) (ty : TypeId) :
    ∃ v' w', (Builtin.append_ #[40, 40] ty #[v, .slice A m.length c]).run Tryz.prog w = .ok v' w' ∧ OwnF w' B v' (l ++ m) ∧ w.grownBy w' v.ownBlock := by
  cases hm : m with
  | nil =>
    obtain ⟨A', c', rfl, h1, _⟩ := hown.src
    refine ⟨_, w, run_app_none w A' A l.length c' c ty h1, ?_, only_refl w _⟩
    rw [List.append_nil]
    exact hown
  | cons x r =>
    rw [← hm]
    obtain ⟨i0, hi, hz0, hz1, hz2⟩ := info_parts infZ
    obtain ⟨g, o, rfl, hg, _⟩ := hs 0 x (by rw [hm]; rfl)
    have hcells : ∀ (j : Nat) (u : Value), (flatF m)[j]? = some u → w.cell? ((⟨g, o, none⟩ : Addr).add j) = some u := by
      intro j u hu
      have hj := (List.getElem?_eq_some_iff.1 hu).1
      rw [flatF_len] at hj
      obtain ⟨f, hf⟩ : ∃ f, m[j / 2]? = some f := ⟨_, List.getElem?_eq_getElem (by omega)⟩
      obtain ⟨g', o', hA, _, c0, c1⟩ := hs _ f hf
      injection hA with hA
      injection hA with e1 e2
      subst e1 e2
      have ea : (⟨g, o, none⟩ : Addr).add j = ⟨g, o + j, none⟩ := by unfold Addr.add; split <;> simp_all
      rw [ea]
      rcases Nat.mod_two_eq_zero_or_one j with hr | hr
      · have hj2 : j / 2 * 2 + 0 = j := by omega
        have h2 := flatF_at m _ f hf 0 _ rfl
        rw [hj2, hu] at h2
        injection h2 with h2
        rw [h2, show o + j = o + j / 2 * 2 by omega]
        exact c0
      · have hj2 : j / 2 * 2 + 1 = j := by omega
        have h2 := flatF_at m _ f hf 1 _ rfl
        rw [hj2, hu] at h2
        injection h2 with h2
        rw [h2, show o + j = o + j / 2 * 2 + 1 by omega]
        exact c1
    obtain ⟨v', w', hrun, h2, h3, _, _⟩ := run_append_own_at (P := Tryz.prog) w B 40 ty 45 i0 (.agg #[.string .empty, .string .empty]) 2 32 undL hi hz0 hz1 hz2 rfl (by decide) v l.length (flatF l) hown ⟨g, o, none⟩ m.length c (flatF m) (flatF_len m) hcells flatF_one (by unfold maxLen; omega) (by omega) hB
    refine ⟨v', w', hrun, ?_, h3⟩
    unfold OwnF
    rw [List.length_append, flatF_app]
    exact h2
theorem wp_appF {o : Oper} {a : Act} {w : World} {K : Act → World → Prop} {Q : Exit → Act → World → Prop} (s x : Operand)
    (ho : o.op = .call { callee := .builtin .append, args := #[s, x], argTypes := #[40, 40] })
    (B : Nat) (v : Value) (l : List Fld) (hs : a.eval s = v) (hown : OwnF w B v l) (A : Option Addr) (n c : Nat) (m : List Fld) (hx : a.eval x = .slice A n c) (hn : n = m.length) (hsrc : SrcF w A m)
    (hlen : l.length + m.length ≤ 100000) (hB : B ≤ w.heap.size)
    (h : ∀ v' w', Hid (OwnF w' B v' (l ++ m)) → Hid (w.grownBy w' v.ownBlock) → K (a.put o.dst v') w') : Oper.wp Tryz.prog o a w K Q := by
  subst hn
  obtain ⟨v', w', hrun, h2, h3⟩ := run_appF hown (c := c) hsrc hlen hB o.type
  unfold Oper.wp execOp
  simp only [ho, resolve, invoke, builtin, Sem.run_bind, Sem.run_pure, Result.andThen_ok, List.map_toArray, List.map_cons, List.map_nil, hs, hx, hrun]
  exact h v' w' (Lib.hid h2) (Lib.hid h3)
/-- rows of the call's own, made one behind the other, all that was there as it was -/
structure Mid (w0 w : World) (v : Value) (l : List Fld) : Prop where
  bel : Below w0.heap.size w0 w
  own : OwnF w w0.heap.size v l
theorem Mid.start {w0 w : World} (h : Below w0.heap.size w0 w) : Mid w0 (w.alloc (.cells #[] 45)) (.slice (some ⟨w.heap.size, 0, none⟩) 0 0) [] :=
  ⟨h.alloc h.size _, OwnF.empty w _ h.size⟩
theorem Mid.alloc {w0 w : World} {v : Value} {l : List Fld} (h : Mid w0 w v l) (o : Obj) : Mid w0 (w.alloc o) v l := ⟨h.bel.alloc h.bel.size o, h.own.alloc o⟩
theorem Mid.app {w0 w w' : World} {v v' : Value} {l m : List Fld} (h : Mid w0 w v l) (ho : OwnF w' w0.heap.size v' m) (hg : w.grownBy w' v.ownBlock) : Mid w0 w' v' m :=
  ⟨h.bel.grown hg h.bel.size (fun k hk => (h.own.ge k hk).1), ho⟩
end Go.Proofs.YtgbhnjkigjecmaaGreatDoor.Fd
