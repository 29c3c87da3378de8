/-
  A field as it lies in memory, and '==' of two of them; fields in a row. Plain lemmas, no condition.
-/
import Derived.Test.YtkbankjnfedkdaaSt
import Derived.Test.YtkbankjnfedkdaaFdPure
import Derived.Lib.Strings
namespace Go.Proofs.Ytkbankjnfedkdaa.Fd
open Go.RowKit Go.Proofs.Ytkbankjnfedkdaa.Wd Go.Proofs.Ytkbankjnfedkdaa.Asc Go.Proofs.Ytkbankjnfedkdaa.Tx Go.Proofs.Ytkbankjnfedkdaa.St

/-- its cells -/
def fdC (f : Fld) : Array Value := #[.string (str f.name), .string (str f.text)]
theorem undF : Try.prog.underlying 24 = some (.struct (Try.prog.fieldsOf 24)) := by kernel_rfl
theorem infF : (Try.prog.info? 24).map (·.size) = some 2 := by kernel_rfl
theorem fdC_one (f : Fld) : (fdC f).all (·.oneCell') = true := by simp [fdC, Value.oneCell']
theorem fieldsF : ∃ f g : Field, (Try.prog.fieldsOf 24).toList = [f, g] ∧ (f.type = 9 ∧ f.offset = 0 ∧ f.name ≠ "_") ∧ (g.type = 9 ∧ g.offset = 1 ∧ g.name ≠ "_") := by
  simp only [Program.fieldsOf, Try.underlying24]
  exact ⟨_, _, rfl, ⟨rfl, rfl, by decide⟩, ⟨rfl, rfl, by decide⟩⟩
theorem stoodF : Try.prog.stoodInHeld 24 = false := by kernel_rfl
theorem str_beq (a b : List UInt8) : ((str a).toList == (str b).toList) = decide (a = b) := by
  rw [Lib.toList_data, Lib.toList_data]
  show (a == b) = _
  by_cases h : a = b
  · rw [h]; simp
  · rw [decide_eq_false h, beq_eq_false_iff_ne]; exact h
theorem fd_is (r q : Fld) : decide (r = q) = (decide (r.name = q.name) && decide (r.text = q.text)) := by
  obtain ⟨a, b⟩ := r
  obtain ⟨a', b'⟩ := q
  rw [Bool.eq_iff_iff]
  simp
theorem eqFieldsF (k : Nat) (f g : Field) (hf : f.type = 9 ∧ f.offset = 0 ∧ f.name ≠ "_") (hg : g.type = 9 ∧ g.offset = 1 ∧ g.name ≠ "_") (r q : Fld) (w : World) :
    (Op.eqFields (k + 1) (fdC r) (fdC q) [f, g]).run Try.prog w = .ok (decide (r.name = q.name) && decide (r.text = q.text)) w := by
  obtain ⟨f1, f2, f3⟩ := hf
  obtain ⟨g1, g2, g3⟩ := hg
  have a1 : (part f.type (fdC r) f.offset).run Try.prog w = .ok (.string (str r.name)) w := by rw [f1, f2]; exact run_part_plain w (by kernel_rfl) rfl
  have a2 : (part f.type (fdC q) f.offset).run Try.prog w = .ok (.string (str q.name)) w := by rw [f1, f2]; exact run_part_plain w (by kernel_rfl) rfl
  have a3 : (Op.equalIn (k + 1) f.type (.string (str r.name)) (.string (str q.name))).run Try.prog w = .ok (decide (r.name = q.name)) w := by rw [f1, ← str_beq]; exact run_equalIn_string w k _ _ _ Try.underlying9
  have b1 : (part g.type (fdC r) g.offset).run Try.prog w = .ok (.string (str r.text)) w := by rw [g1, g2]; exact run_part_plain w (by kernel_rfl) rfl
  have b2 : (part g.type (fdC q) g.offset).run Try.prog w = .ok (.string (str q.text)) w := by rw [g1, g2]; exact run_part_plain w (by kernel_rfl) rfl
  have b3 : (Op.equalIn (k + 1) g.type (.string (str r.text)) (.string (str q.text))).run Try.prog w = .ok (decide (r.text = q.text)) w := by rw [g1, ← str_beq]; exact run_equalIn_string w k _ _ _ Try.underlying9
  clear f1 f2 g1 g2
  generalize k + 1 = K at *
  generalize Value.string (str r.name) = A1 at *
  generalize Value.string (str q.name) = A2 at *
  generalize Value.string (str r.text) = B1 at *
  generalize Value.string (str q.text) = B2 at *
  generalize decide (r.name = q.name) = x at *
  generalize decide (r.text = q.text) = y at *
  simp only [Op.eqFields, f3, g3, ne_eq, not_false_eq_true, if_true, Sem.run_bind, a1, a2, a3, Result.andThen_ok]
  cases x
  · simp
  · simp only [Bool.not_true, Bool.false_eq_true, if_false, Sem.run_bind, b1, b2, b3, Result.andThen_ok, Bool.true_and]
    cases y <;> simp
theorem eqInF (k : Nat) (r q : Fld) (w : World) : (Op.equalIn (k + 2) 24 (.agg (fdC r)) (.agg (fdC q))).run Try.prog w = .ok (decide (r = q)) w := by
  obtain ⟨f, g, hfs, hf, hg⟩ := fieldsF
  rw [run_equalIn_struct w (k + 1) _ _ _ undF stoodF, hfs, fd_is]
  exact eqFieldsF k f g hf hg r q w
theorem eqInFn (n : Nat) (h : 2 ≤ n) (r q : Fld) (w : World) : (Op.equalIn n 24 (.agg (fdC r)) (.agg (fdC q))).run Try.prog w = .ok (decide (r = q)) w := by
  obtain ⟨k, rfl⟩ : ∃ k, n = k + 2 := ⟨n - 2, by omega⟩
  exact eqInF k r q w
/-- '==' of two fields -/
theorem eqlF (r q : Fld) (w : World) : (binOp .eql 24 (.agg (fdC r)) (.agg (fdC q))).run Try.prog w = .ok (.bool (decide (r = q))) w := by
  rw [run_eql_struct, eqInFn _ (by omega) r q w, Result.andThen_ok]
/-- '!=' of two fields -/
theorem neqF (r q : Fld) (w : World) : (binOp .neq 24 (.agg (fdC r)) (.agg (fdC q))).run Try.prog w = .ok (.bool (!decide (r = q))) w := by
  rw [run_neq_struct, eqInFn _ (by omega) r q w, Result.andThen_ok]
theorem grdF : Try.prog.eqGuardType Try.prog.depth 24 = false := by kernel_rfl
theorem go_neqF {ops : Array Oper} {rest : List Oper} {o : Oper} {a : Act} {w : World} {Q : Exit → Act → World → Prop} {x y : Operand} {t : TypeId} (r q : Fld) (b : Bool) (hb : decide (r = q) = b)
    (ho : o.op = .binOp .neq 24 x y t) (hw : Region.wanted o (yielded ops a.tmps) = true) (hx : a.eval x = .agg (fdC r)) (hy : a.eval y = .agg (fdC q))
    (h : wpList Try.prog ops Q rest (a.put o.dst (.bool !b)) w) : wpList Try.prog ops Q (o :: rest) a w := by
  show if Region.wanted o (yielded ops a.tmps) = true then _ else _
  rw [if_pos hw]
  refine .inl ?_
  unfold Oper.wp execOp
  simp only [ho, hx, hy, Sem.run_bind, run_eqGuard_agg w .neq _ _ _ _ _ grdF, Result.andThen_ok, neqF, hb, Sem.run_pure]
  exact h
theorem go_eqlF {ops : Array Oper} {rest : List Oper} {o : Oper} {a : Act} {w : World} {Q : Exit → Act → World → Prop} {x y : Operand} {t : TypeId} (r q : Fld) (b : Bool) (hb : decide (r = q) = b)
    (ho : o.op = .binOp .eql 24 x y t) (hw : Region.wanted o (yielded ops a.tmps) = true) (hx : a.eval x = .agg (fdC r)) (hy : a.eval y = .agg (fdC q))
    (h : wpList Try.prog ops Q rest (a.put o.dst (.bool b)) w) : wpList Try.prog ops Q (o :: rest) a w := by
  show if Region.wanted o (yielded ops a.tmps) = true then _ else _
  rw [if_pos hw]
  refine .inl ?_
  unfold Oper.wp execOp
  simp only [ho, hx, hy, Sem.run_bind, run_eqGuard_agg w .eql _ _ _ _ _ grdF, Result.andThen_ok, eqlF, hb, Sem.run_pure]
  exact h
/-- a field is built -/
theorem go_bdF {ops : Array Oper} {rest : List Oper} {o : Oper} {a : Act} {w : World} {Q : Exit → Act → World → Prop} {fs : Array (Nat × Operand)} (vs : List (Nat × Value)) (r : Fld) (hB : Try.prog.built 24 vs = some (fdC r))
    (hw : Region.wanted o (yielded ops a.tmps) = true) (ho : o.op = .build 24 fs) (hv : (fs.map fun (i, x) => (i, a.eval x)).toList = vs)
    (h : wpList Try.prog ops Q rest (a.put o.dst (.agg (fdC r))) w) : wpList Try.prog ops Q (o :: rest) a w := by
  show if Region.wanted o (yielded ops a.tmps) = true then _ else _
  rw [if_pos hw]
  have e : Try.prog.built 24 (fs.map fun (i, x) => (i, a.eval x)).toList = some (fdC r) := by rw [hv]; exact hB
  refine .inl (wp_build _ _ ho (by rw [e]; rfl) ?_)
  rw [e]
  exact h
/-- the zero field in a block of its own; then another -/
abbrev zC : Array Value := #[.string ⟨#[]⟩, .string ⟨#[]⟩]
theorem st_new (w : World) (r : Fld) : Blk ((w.alloc (.cells zC 24)).setRow w.heap.size (fdC r)) w.heap.size 24 (fdC r) ∧
    Below w.heap.size w ((w.alloc (.cells zC 24)).setRow w.heap.size (fdC r)) :=
  ⟨setRow_blk (Blk.new _ _ _), setRow_below ((Below.refl _ _).alloc (Nat.le_refl _) _) (Blk.new _ _ _) (Nat.le_refl _) _⟩
theorem al_new (w : World) : Blk (w.alloc (.cells zC 24)) w.heap.size 24 (fdC Fld.zero) ∧ Below w.heap.size w (w.alloc (.cells zC 24)) :=
  ⟨Blk.new _ _ _, (Below.refl _ _).alloc (Nat.le_refl _) _⟩
theorem set2 (a b x0 x1 : Value) : (((#[a, b] : Array Value).setIfInBounds 0 x0).setIfInBounds 1 x1) = #[x0, x1] := by simp
/-- two cells stored, one behind the other -/
theorem two2 (w : World) (g : Nat) (t : TypeId) (a b x0 x1 : Value) (h : Blk w g t #[a, b]) :
    Blk ((w.setCell ⟨g, 0, none⟩ x0).setCell ⟨g, 1, none⟩ x1) g t #[x0, x1] ∧ w.grownBy ((w.setCell ⟨g, 0, none⟩ x0).setCell ⟨g, 1, none⟩ x1) (some g) := by
  constructor
  · have := (h.set_ 0 x0).set_ 1 x1
    rwa [set2] at this
  · exact only_setCell (p := ⟨g, 1, none⟩) (only_setCell (p := ⟨g, 0, none⟩) (only_refl w _) (.inl rfl) _) (.inl rfl) _

/-- what Parse of both answers -/
def ParP (p : Fld × Int) (w : World) (e : Ending) (w' : World) : Prop := e = .returned (.tuple #[.agg (fdC p.1), .int .i64 p.2]) ∧ Below w.heap.size w w'
/-- the answer's own block, and all that lay there -/
structure PaAt (w wx : World) : Prop where
  ob : Blk wx w.heap.size 24 zC
  bel : Below w.heap.size w wx
theorem PaAt.more {w wx w' : World} (h : PaAt w wx) (hb : Below wx.heap.size wx w') : PaAt w w' := ⟨h.ob.below hb h.ob.lt, h.bel.trans (hb.mono h.bel.size)⟩
theorem PaAt.new (w : World) : PaAt w (w.alloc (.cells zC 24)) := ⟨Blk.new _ _ _, (Below.refl _ _).alloc (Nat.le_refl _) _⟩
theorem PaAt.set {w wx : World} (h : PaAt w wx) (x0 x1 : Value) :
    Blk ((wx.setCell ⟨w.heap.size, 0, none⟩ x0).setCell ⟨w.heap.size, 1, none⟩ x1) w.heap.size 24 #[x0, x1] ∧
    Below w.heap.size w ((wx.setCell ⟨w.heap.size, 0, none⟩ x0).setCell ⟨w.heap.size, 1, none⟩ x1) := by
  obtain ⟨h1, h2⟩ := two2 wx w.heap.size _ _ _ x0 x1 h.ob
  exact ⟨h1, h.bel.grown h2 h.bel.size (fun j hj => by injection hj with hj; omega)⟩
/-- stored whole -/
theorem PaAt.row {w wx : World} (h : PaAt w wx) (r : Fld) : Blk (wx.setRow w.heap.size (fdC r)) w.heap.size 24 (fdC r) ∧ Below w.heap.size w (wx.setRow w.heap.size (fdC r)) :=
  ⟨setRow_blk h.ob, setRow_below h.bel h.ob (Nat.le_refl _) _⟩

/-- fields that a slice leads to -/
def SrcF (w : World) (A : Option Addr) (l : List Fld) : Prop :=
  ∀ (i : Nat) (f : Fld), l[i]? = some f → ∃ g o, A = some ⟨g, o, none⟩ ∧ g < w.heap.size ∧ w.cell? ⟨g, o + i * 2, none⟩ = some (.string (str f.name)) ∧ w.cell? ⟨g, o + i * 2 + 1, none⟩ = some (.string (str f.text))
theorem SrcF.below {w w' : World} {A : Option Addr} {l : List Fld} (h : SrcF w A l) (hb : Below w.heap.size w w') : SrcF w' A l := fun i f hf => by
  obtain ⟨g, o, hA, hg, h0, h1⟩ := h i f hf
  exact ⟨g, o, hA, Nat.lt_of_lt_of_le hg hb.size, (hb.cell (p := ⟨g, _, none⟩) hg).trans h0, (hb.cell (p := ⟨g, _, none⟩) hg).trans h1⟩
theorem SrcF.nil (w : World) (A : Option Addr) : SrcF w A [] := fun i f h => by simp at h
theorem SrcF.get {w wr : World} {A : Option Addr} {l : List Fld} {k : Nat} (h : SrcF w A l) (hk : k < l.length) (hb : Below w.heap.size w wr) :
    ∃ f g o, l[k]? = some f ∧ A = some ⟨g, o, none⟩ ∧ g < w.heap.size ∧ wr.cell? ⟨g, o + k * 2, none⟩ = some (.string (str f.name)) ∧ wr.cell? ⟨g, o + k * 2 + 1, none⟩ = some (.string (str f.text)) := by
  have hx : l[k]? = some l[k] := List.getElem?_eq_getElem hk
  obtain ⟨g, o, hA, hg, h0, h1⟩ := h k _ hx
  exact ⟨l[k], g, o, hx, hA, hg, (hb.cell (p := ⟨g, _, none⟩) hg).trans h0, (hb.cell (p := ⟨g, _, none⟩) hg).trans h1⟩
end Go.Proofs.Ytkbankjnfedkdaa.Fd
