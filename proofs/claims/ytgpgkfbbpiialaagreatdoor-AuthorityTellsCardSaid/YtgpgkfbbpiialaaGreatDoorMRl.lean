/-
  A request as it lies in memory, and '==' of two of them. Plain lemmas, no condition.
-/
import Derived.Test.YtgpgkfbbpiialaaGreatDoorSt
import Derived.Test.YtgpgkfbbpiialaaGreatDoorRlPure
import Derived.Lib.Strings
import Derived.Test.YtgpgkfbbpiialaaGreatDoorRfTok
namespace Go.Proofs.YtgpgkfbbpiialaaGreatDoor.Rl
open Go.RowKit Go.Proofs.YtgpgkfbbpiialaaGreatDoor.Wd Go.Proofs.YtgpgkfbbpiialaaGreatDoor.Asc Go.Proofs.YtgpgkfbbpiialaaGreatDoor.Tx Go.Proofs.YtgpgkfbbpiialaaGreatDoor.St

/-- its cells -/
def rqC (r : Rq) : Array Value := #[.string (str r.meth), .string (str r.targ), .int .i64 r.minor]
theorem undR : Tryz.prog.underlying 23 = some (.struct (Tryz.prog.fieldsOf 23)) := by kernel_rfl
theorem infR : (Tryz.prog.info? 23).map (·.size) = some 3 := by kernel_rfl
theorem rqC_one (r : Rq) : (rqC r).all (·.oneCell') = true := by simp [rqC, Value.oneCell']
theorem fieldsR : ∃ f g h : Field, (Tryz.prog.fieldsOf 23).toList = [f, g, h] ∧ (f.type = 9 ∧ f.offset = 0 ∧ f.name ≠ "_") ∧ (g.type = 9 ∧ g.offset = 1 ∧ g.name ≠ "_") ∧ (h.type = 3 ∧ h.offset = 2 ∧ h.name ≠ "_") := by
  simp only [Program.fieldsOf, Tryz.underlying23]
  exact ⟨_, _, _, rfl, ⟨rfl, rfl, by decide⟩, ⟨rfl, rfl, by decide⟩, ⟨rfl, rfl, by decide⟩⟩
theorem stoodR : Tryz.prog.stoodInHeld 23 = false := by kernel_rfl
theorem str_beq (a b : List UInt8) : ((str a).toList == (str b).toList) = decide (a = b) := by
  rw [Lib.toList_data, Lib.toList_data]
  show (a == b) = _
  by_cases h : a = b
  · rw [h]; simp
  · rw [decide_eq_false h, beq_eq_false_iff_ne]; exact h
theorem lit_beq (c l : List UInt8) : ((str c).toList == l) = decide (c = l) := by
  have := str_beq c l
  rwa [show (str l).toList = l from by rw [Lib.toList_data]] at this
theorem rq_is (r q : Rq) : decide (r = q) = (decide (r.meth = q.meth) && (decide (r.targ = q.targ) && decide (r.minor = q.minor))) := by
  obtain ⟨a, b, c⟩ := r
  obtain ⟨a', b', c'⟩ := q
  rw [Bool.eq_iff_iff]
  simp
theorem eqFieldsR (k : Nat) (f g h : Field) (hf : f.type = 9 ∧ f.offset = 0 ∧ f.name ≠ "_") (hg : g.type = 9 ∧ g.offset = 1 ∧ g.name ≠ "_") (hh : h.type = 3 ∧ h.offset = 2 ∧ h.name ≠ "_") (r q : Rq) (w : World) :
    (Op.eqFields (k + 1) (rqC r) (rqC q) [f, g, h]).run Tryz.prog w = .ok (decide (r.meth = q.meth) && (decide (r.targ = q.targ) && decide (r.minor = q.minor))) w := by
  obtain ⟨f1, f2, f3⟩ := hf
  obtain ⟨g1, g2, g3⟩ := hg
  obtain ⟨h1, h2, h3⟩ := hh
  have a1 : (part f.type (rqC r) f.offset).run Tryz.prog w = .ok (.string (str r.meth)) w := by rw [f1, f2]; exact run_part_plain w (by kernel_rfl) rfl
  have a2 : (part f.type (rqC q) f.offset).run Tryz.prog w = .ok (.string (str q.meth)) w := by rw [f1, f2]; exact run_part_plain w (by kernel_rfl) rfl
  have a3 : (Op.equalIn (k + 1) f.type (.string (str r.meth)) (.string (str q.meth))).run Tryz.prog w = .ok (decide (r.meth = q.meth)) w := by rw [f1, ← str_beq]; exact run_equalIn_string w k _ _ _ Tryz.underlying9
  have b1 : (part g.type (rqC r) g.offset).run Tryz.prog w = .ok (.string (str r.targ)) w := by rw [g1, g2]; exact run_part_plain w (by kernel_rfl) rfl
  have b2 : (part g.type (rqC q) g.offset).run Tryz.prog w = .ok (.string (str q.targ)) w := by rw [g1, g2]; exact run_part_plain w (by kernel_rfl) rfl
  have b3 : (Op.equalIn (k + 1) g.type (.string (str r.targ)) (.string (str q.targ))).run Tryz.prog w = .ok (decide (r.targ = q.targ)) w := by rw [g1, ← str_beq]; exact run_equalIn_string w k _ _ _ Tryz.underlying9
  have c1 : (part h.type (rqC r) h.offset).run Tryz.prog w = .ok (.int .i64 r.minor) w := by rw [h1, h2]; exact run_part_plain w (by kernel_rfl) rfl
  have c2 : (part h.type (rqC q) h.offset).run Tryz.prog w = .ok (.int .i64 q.minor) w := by rw [h1, h2]; exact run_part_plain w (by kernel_rfl) rfl
  have c3 : (Op.equalIn (k + 1) h.type (.int .i64 r.minor) (.int .i64 q.minor)).run Tryz.prog w = .ok (decide (r.minor = q.minor)) w := by
    rw [h1, show decide (r.minor = q.minor) = (r.minor == q.minor) from by by_cases e : r.minor = q.minor <;> simp [e]]
    exact run_equalIn_int w k _ .i64 .i64 _ _ Tryz.underlying3
  clear f1 f2 g1 g2 h1 h2
  generalize k + 1 = K at *
  generalize Value.string (str r.meth) = A1 at *
  generalize Value.string (str q.meth) = A2 at *
  generalize Value.string (str r.targ) = B1 at *
  generalize Value.string (str q.targ) = B2 at *
  generalize Value.int .i64 r.minor = C1 at *
  generalize Value.int .i64 q.minor = C2 at *
  generalize decide (r.meth = q.meth) = x at *
  generalize decide (r.targ = q.targ) = y at *
  generalize decide (r.minor = q.minor) = z at *
  simp only [Op.eqFields, f3, g3, h3, ne_eq, not_false_eq_true, if_true, Sem.run_bind, a1, a2, a3, Result.andThen_ok]
  cases x
  · simp
  · simp only [Bool.not_true, Bool.false_eq_true, if_false, Sem.run_bind, b1, b2, b3, Result.andThen_ok, Bool.true_and]
    cases y
    · simp
    · simp only [Bool.not_true, Bool.false_eq_true, if_false, Sem.run_bind, c1, c2, c3, Result.andThen_ok, Bool.true_and]
      cases z <;> simp
theorem eqInR (k : Nat) (r q : Rq) (w : World) : (Op.equalIn (k + 2) 23 (.agg (rqC r)) (.agg (rqC q))).run Tryz.prog w = .ok (decide (r = q)) w := by
  obtain ⟨f, g, h, hfs, hf, hg, hh⟩ := fieldsR
  rw [run_equalIn_struct w (k + 1) _ _ _ undR stoodR, hfs, rq_is]
  exact eqFieldsR k f g h hf hg hh r q w
theorem eqInRn (n : Nat) (h : 2 ≤ n) (r q : Rq) (w : World) : (Op.equalIn n 23 (.agg (rqC r)) (.agg (rqC q))).run Tryz.prog w = .ok (decide (r = q)) w := by
  obtain ⟨k, rfl⟩ : ∃ k, n = k + 2 := ⟨n - 2, by omega⟩
  exact eqInR k r q w
/-- '==' of two requests -/
theorem eqlR (r q : Rq) (w : World) : (binOp .eql 23 (.agg (rqC r)) (.agg (rqC q))).run Tryz.prog w = .ok (.bool (decide (r = q))) w := by
  rw [run_eql_struct, eqInRn _ (by omega) r q w, Result.andThen_ok]
/-- '!=' of two requests -/
theorem neqR (r q : Rq) (w : World) : (binOp .neq 23 (.agg (rqC r)) (.agg (rqC q))).run Tryz.prog w = .ok (.bool (!decide (r = q))) w := by
  rw [run_neq_struct, eqInRn _ (by omega) r q w, Result.andThen_ok]
theorem grdR : Tryz.prog.eqGuardType Tryz.prog.depth 23 = false := by kernel_rfl
theorem go_neqR {ops : Array Oper} {rest : List Oper} {o : Oper} {a : Act} {w : World} {Q : Exit → Act → World → Prop} {x y : Operand} {t : TypeId} (r q : Rq) (b : Bool) (hb : decide (r = q) = b)
    (ho : o.op = .binOp .neq 23 x y t) (hw : Region.wanted o (yielded ops a.tmps) = true) (hx : a.eval x = .agg (rqC r)) (hy : a.eval y = .agg (rqC q))
    (h : wpList Tryz.prog ops Q rest (a.put o.dst (.bool !b)) w) : wpList Tryz.prog ops Q (o :: rest) a w := by
  show if Region.wanted o (yielded ops a.tmps) = true then _ else _
  rw [if_pos hw]
  refine .inl ?_
  unfold Oper.wp execOp
  simp only [ho, hx, hy, Sem.run_bind, run_eqGuard_agg w .neq _ _ _ _ _ grdR, Result.andThen_ok, neqR, hb, Sem.run_pure]
  exact h
theorem go_eqlR {ops : Array Oper} {rest : List Oper} {o : Oper} {a : Act} {w : World} {Q : Exit → Act → World → Prop} {x y : Operand} {t : TypeId} (r q : Rq) (b : Bool) (hb : decide (r = q) = b)
    (ho : o.op = .binOp .eql 23 x y t) (hw : Region.wanted o (yielded ops a.tmps) = true) (hx : a.eval x = .agg (rqC r)) (hy : a.eval y = .agg (rqC q))
    (h : wpList Tryz.prog ops Q rest (a.put o.dst (.bool b)) w) : wpList Tryz.prog ops Q (o :: rest) a w := by
  show if Region.wanted o (yielded ops a.tmps) = true then _ else _
  rw [if_pos hw]
  refine .inl ?_
  unfold Oper.wp execOp
  simp only [ho, hx, hy, Sem.run_bind, run_eqGuard_agg w .eql _ _ _ _ _ grdR, Result.andThen_ok, eqlR, hb, Sem.run_pure]
  exact h
theorem set3 (a b c x0 x1 x2 : Value) : ((((#[a, b, c] : Array Value).setIfInBounds 0 x0).setIfInBounds 1 x1).setIfInBounds 2 x2) = #[x0, x1, x2] := by simp
/-- three cells stored, one behind the other -/
theorem three3 (w : World) (g : Nat) (t : TypeId) (a b c x0 x1 x2 : Value) (h : Blk w g t #[a, b, c]) :
    Blk (((w.setCell ⟨g, 0, none⟩ x0).setCell ⟨g, 1, none⟩ x1).setCell ⟨g, 2, none⟩ x2) g t #[x0, x1, x2] ∧
    w.grownBy (((w.setCell ⟨g, 0, none⟩ x0).setCell ⟨g, 1, none⟩ x1).setCell ⟨g, 2, none⟩ x2) (some g) := by
  constructor
  · have := ((h.set_ 0 x0).set_ 1 x1).set_ 2 x2
    rwa [set3] at this
  · exact only_setCell (p := ⟨g, 2, none⟩) (only_setCell (p := ⟨g, 1, none⟩) (only_setCell (p := ⟨g, 0, none⟩) (only_refl w _) (.inl rfl) _) (.inl rfl) _) (.inl rfl) _
end Go.Proofs.YtgpgkfbbpiialaaGreatDoor.Rl

/-
  What package reqline's Print and Authority answer: a text, or none. Plain lemmas, no condition.
-/
namespace Go.Proofs.YtgpgkfbbpiialaaGreatDoor.Rl
open Go.RowKit Go.Proofs.YtgpgkfbbpiialaaGreatDoor.Wd Go.Proofs.YtgpgkfbbpiialaaGreatDoor.Asc Go.Proofs.YtgpgkfbbpiialaaGreatDoor.Tx Go.Proofs.YtgpgkfbbpiialaaGreatDoor.St

/-- what Print, and Authority, of both answer -/
def optT : Option (List UInt8) → Value
  | none => .tuple #[.string ⟨#[]⟩, .bool false]
  | some l => .tuple #[.string (str l), .bool true]
def optS : Option (List UInt8) → ByteArray
  | none => ⟨#[]⟩
  | some l => str l
theorem opt_str (o : Option (List UInt8)) : optT o = .tuple #[.string (optS o), .bool o.isSome] := by cases o <;> rfl
theorem str_cat (a b : List UInt8) : str a ++ str b = str (a ++ b) := by apply bs_inj; rw [bs_add, bs_str, bs_str, bs_str]
end Go.Proofs.YtgpgkfbbpiialaaGreatDoor.Rl

/-
  A request is built (RlSmall's, for seats without reqline.Parse). Plain lemma, no condition.
-/
namespace Go.Proofs.YtgpgkfbbpiialaaGreatDoor.Rl
open Go.RowKit Go.Proofs.YtgpgkfbbpiialaaGreatDoor.Wd Go.Proofs.YtgpgkfbbpiialaaGreatDoor.Asc Go.Proofs.YtgpgkfbbpiialaaGreatDoor.Tx Go.Proofs.YtgpgkfbbpiialaaGreatDoor.St

theorem go_bdR {ops : Array Oper} {rest : List Oper} {o : Oper} {a : Act} {w : World} {Q : Exit → Act → World → Prop} {fs : Array (Nat × Operand)} (vs : List (Nat × Value)) (r : Rq) (hB : Tryz.prog.built 23 vs = some (rqC r))
    (hw : Region.wanted o (yielded ops a.tmps) = true) (ho : o.op = .build 23 fs) (hv : (fs.map fun (i, x) => (i, a.eval x)).toList = vs)
    (h : wpList Tryz.prog ops Q rest (a.put o.dst (.agg (rqC r))) w) : wpList Tryz.prog ops Q (o :: rest) a w := by
  show if Region.wanted o (yielded ops a.tmps) = true then _ else _
  rw [if_pos hw]
  have e : Tryz.prog.built 23 (fs.map fun (i, x) => (i, a.eval x)).toList = some (rqC r) := by rw [hv]; exact hB
  refine .inl (wp_build _ _ ho (by rw [e]; rfl) ?_)
  rw [e]
  exact h
end Go.Proofs.YtgpgkfbbpiialaaGreatDoor.Rl
