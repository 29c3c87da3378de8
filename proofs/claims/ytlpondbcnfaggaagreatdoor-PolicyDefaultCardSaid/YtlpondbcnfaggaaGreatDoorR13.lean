/-
  Texts in plain words: a list of bytes as a string, what stands between signs, the first of a sign, a cut at a sign. No condition.
-/
import Derived.Test.YtlpondbcnfaggaaGreatDoorR03
import Derived.Lib.IndexMore
import Derived.Test.YtlpondbcnfaggaaGreatDoorR12
import Derived.Test.YtlpondbcnfaggaaGreatDoorR10
import Derived.Lib.Strings
import Derived.Laws.Small
import Derived.Maps.AppendAt
namespace Go.Proofs.YtlpondbcnfaggaaGreatDoor.Tx
open Go Go.Proofs.YtlpondbcnfaggaaGreatDoor.Asc

/-- a list of bytes as a string -/
abbrev str (l : List UInt8) : ByteArray := ⟨l.toArray⟩
theorem str_size (l : List UInt8) : (str l).size = l.length := by show l.toArray.size = _; simp
theorem str_bs (s : ByteArray) : str (bs s) = s := by apply bs_inj; rfl
theorem bs_str (l : List UInt8) : bs (str l) = l := rfl

/-- what stands between signs -/
def splitS (c : UInt8) : List UInt8 → List (List UInt8)
  | [] => [[]]
  | x :: l => if x = c then [] :: splitS c l else (x :: (splitS c l).headD []) :: (splitS c l).tail
theorem splitS_ne (c : UInt8) : ∀ l, splitS c l ≠ []
  | [] => by simp [splitS]
  | x :: l => by unfold splitS; split <;> simp
theorem splitS_free {c : UInt8} : ∀ {l : List UInt8}, c ∉ l → splitS c l = [l]
  | [], _ => rfl
  | x :: l, h => by
    unfold splitS
    rw [if_neg (fun e => h (by simp [e])), splitS_free (l := l) (fun hm => h (by simp [hm]))]
    rfl
theorem splitS_at {c : UInt8} : ∀ {a b : List UInt8}, c ∉ a → splitS c (a ++ c :: b) = a :: splitS c b
  | [], b, _ => by simp [splitS]
  | x :: a, b, h => by
    rw [List.cons_append, splitS, if_neg (fun e => h (by simp [e])), splitS_at (a := a) (fun hm => h (by simp [hm]))]
    rfl
theorem first_of {c : UInt8} : ∀ (l : List UInt8), c ∉ l ∨ ∃ a b, l = a ++ c :: b ∧ c ∉ a
  | [] => .inl (by simp)
  | x :: l => by
    by_cases hx : x = c
    · exact .inr ⟨[], l, by simp [hx], by simp⟩
    · rcases first_of (c := c) l with h | ⟨a, b, rfl, h⟩
      · exact .inl (by simp; exact ⟨fun e => hx e.symm, h⟩)
      · exact .inr ⟨x :: a, b, rfl, by simp; exact ⟨fun e => hx e.symm, h⟩⟩
/-- one byte more -/
theorem splitS_snoc (c : UInt8) : ∀ (l : List UInt8) (x : UInt8), splitS c (l ++ [x]) = if x = c then splitS c l ++ [[]] else (splitS c l).dropLast ++ [(splitS c l).getLastD [] ++ [x]]
  | [], x => by by_cases hx : x = c <;> simp [splitS, hx]
  | y :: l, x => by
    have ih := splitS_snoc c l x
    have hne := splitS_ne c l
    rw [List.cons_append, splitS, splitS, ih]
    cases hs : splitS c l with
    | nil => exact absurd hs hne
    | cons p r =>
      by_cases hy : y = c
      · rw [if_pos hy, if_pos hy]
        split
        · rfl
        · simp
      · rw [if_neg hy, if_neg hy]
        by_cases hx : x = c
        · rw [if_pos hx, if_pos hx]
          simp
        · rw [if_neg hx, if_neg hx]
          cases r with
          | nil => simp
          | cons q r => simp

theorem ib_free : ∀ {l : List UInt8} {c : UInt8}, c ∉ l → Lib.indexByte l c = -1
  | [], _, _ => rfl
  | b :: l, c, h => by
    have h1 : (b == c) = false := by rw [beq_eq_false_iff_ne]; rintro rfl; exact h (by simp)
    have h2 : Lib.indexByte l c = -1 := ib_free (fun hm => h (by simp [hm]))
    unfold Lib.indexByte
    rw [h1, h2]
    rfl
theorem ib_at : ∀ {a b : List UInt8} {c : UInt8}, c ∉ a → Lib.indexByte (a ++ c :: b) c = (a.length : Int)
  | [], b, c, _ => by simp [Lib.indexByte]
  | x :: a, b, c, h => by
    have h1 : (x == c) = false := by rw [beq_eq_false_iff_ne]; rintro rfl; exact h (by simp)
    have h2 : Lib.indexByte (a ++ c :: b) c = (a.length : Int) := ib_at (fun hm => h (by simp [hm]))
    have h3 : ((a.length : Int) == -1) = false := by rw [beq_eq_false_iff_ne]; omega
    rw [List.cons_append]
    unfold Lib.indexByte
    rw [h1, h2, h3]
    simp
theorem cut_free {l : List UInt8} {c : UInt8} (h : c ∉ l) : Lib.cut l [c] = (l, [], false) := by
  unfold Lib.cut
  rw [Lib.index_one, ib_free h]
  rfl
theorem cut_at {a b : List UInt8} {c : UInt8} (h : c ∉ a) : Lib.cut (a ++ c :: b) [c] = (a, b, true) := by
  unfold Lib.cut
  rw [Lib.index_one, ib_at h, if_pos (by omega)]
  simp

theorem ib_mem : ∀ {l : List UInt8} {c : UInt8}, c ∈ l → 0 ≤ Lib.indexByte l c
  | [], _, h => by cases h
  | b :: l, c, h => by
    unfold Lib.indexByte
    split
    · omega
    · rename_i hb
      have hm : c ∈ l := by
        rcases List.mem_cons.1 h with rfl | h
        · simp at hb
        · exact h
      have := ib_mem hm
      split
      · rename_i h1; rw [beq_iff_eq] at h1; omega
      · omega

theorem splitS_len (c : UInt8) : ∀ l, (splitS c l).length ≤ l.length + 1
  | [] => by simp [splitS]
  | x :: l => by
    have ih := splitS_len c l
    have hne := List.length_pos_iff.2 (splitS_ne c l)
    unfold splitS
    split
    · simp; omega
    · simp; omega
theorem split_last (c : UInt8) (l : List UInt8) : splitS c l = (splitS c l).dropLast ++ [(splitS c l).getLastD []] := by
  have hne := splitS_ne c l
  generalize splitS c l = L at *
  cases h : L.getLast? with
  | none => exact absurd (List.getLast?_eq_none_iff.1 h) hne
  | some x =>
    obtain ⟨I, rfl⟩ := List.getLast?_eq_some_iff.1 h
    simp

theorem splitS_mem (c : UInt8) : ∀ (l p : List UInt8), p ∈ splitS c l → p.length ≤ l.length
  | [], p, h => by simp [splitS] at h; subst h; simp
  | x :: l, p, h => by
    have hne := splitS_ne c l
    have ih := splitS_mem c l
    unfold splitS at h
    cases hs : splitS c l with
    | nil => exact absurd hs hne
    | cons q r =>
      rw [hs] at h ih
      split at h
      · rcases List.mem_cons.1 h with rfl | h
        · simp
        · have := ih p h; simp; omega
      · rcases List.mem_cons.1 h with rfl | h
        · have := ih q (by simp); simpa using this
        · have := ih p (List.mem_cons_of_mem _ (by simpa using h)); simp; omega

theorem split_last_le (c : UInt8) (l : List UInt8) : ((splitS c l).getLastD []).length ≤ l.length := by
  refine splitS_mem c l _ ?_
  have h := split_last c l
  generalize (splitS c l).getLastD [] = x at *
  rw [h]
  simp

end Go.Proofs.YtlpondbcnfaggaaGreatDoor.Tx

/-
  A rule as it lies in memory, and '==' of two of them; rules that a slice leads to. Plain lemmas, no condition.
-/
namespace Go.Proofs.YtlpondbcnfaggaaGreatDoor.Tr
open Go.RowKit Go.Proofs.YtlpondbcnfaggaaGreatDoor.Wd Go.Proofs.YtlpondbcnfaggaaGreatDoor.Asc Go.Proofs.YtlpondbcnfaggaaGreatDoor.Tx Go.Proofs.YtlpondbcnfaggaaGreatDoor.St

/-- its cells -/
def ruC (r : Ru) : Array Value := #[.bool r.al, .int .i64 r.pr, .string (str r.pa), .int .i64 r.po, .string (str r.ap)]
theorem undU : Tryz.prog.underlying 23 = some (.struct (Tryz.prog.fieldsOf 23)) := by kernel_rfl
theorem infU : (Tryz.prog.info? 23).map (·.size) = some 5 := by kernel_rfl
theorem ruC_one (r : Ru) : (ruC r).all (·.oneCell') = true := by simp [ruC, Value.oneCell']
theorem ruC_size (r : Ru) : (ruC r).size = 5 := rfl
theorem fieldsU : ∃ f0 f1 f2 f3 f4 : Field, (Tryz.prog.fieldsOf 23).toList = [f0, f1, f2, f3, f4] ∧ (f0.type = 4 ∧ f0.offset = 0 ∧ f0.name ≠ "_") ∧ (f1.type = 3 ∧ f1.offset = 1 ∧ f1.name ≠ "_") ∧ (f2.type = 9 ∧ f2.offset = 2 ∧ f2.name ≠ "_") ∧ (f3.type = 3 ∧ f3.offset = 3 ∧ f3.name ≠ "_") ∧ (f4.type = 9 ∧ f4.offset = 4 ∧ f4.name ≠ "_") := by
  simp only [Program.fieldsOf, Tryz.underlying23]
  exact ⟨_, _, _, _, _, rfl, ⟨rfl, rfl, by decide⟩, ⟨rfl, rfl, by decide⟩, ⟨rfl, rfl, by decide⟩, ⟨rfl, rfl, by decide⟩, ⟨rfl, rfl, by decide⟩⟩
theorem stoodU : Tryz.prog.stoodInHeld 23 = false := by kernel_rfl
theorem str_beq (a b : List UInt8) : ((str a).toList == (str b).toList) = decide (a = b) := by
  rw [Lib.toList_data, Lib.toList_data]
  show (a == b) = _
  by_cases h : a = b
  · rw [h]; simp
  · rw [decide_eq_false h, beq_eq_false_iff_ne]; exact h
theorem ru_is (r q : Ru) : decide (r = q) = (decide (r.al = q.al) && (decide (r.pr = q.pr) && (decide (r.pa = q.pa) && (decide (r.po = q.po) && decide (r.ap = q.ap))))) := by
  obtain ⟨a, b, c, d, e⟩ := r
  obtain ⟨a', b', c', d', e'⟩ := q
  rw [Bool.eq_iff_iff]
  simp
theorem eqf_cons (k : Nat) (cs ds : Array Value) (f : Field) (fs : List Field) (u v : Value) (b : Bool) (w : World) (hn : f.name ≠ "_") (a1 : (part f.type cs f.offset).run Tryz.prog w = .ok u w)
    (a2 : (part f.type ds f.offset).run Tryz.prog w = .ok v w) (a3 : (Op.equalIn k f.type u v).run Tryz.prog w = .ok b w) :
    (Op.eqFields k cs ds (f :: fs)).run Tryz.prog w = if b then (Op.eqFields k cs ds fs).run Tryz.prog w else .ok false w := by
  simp only [Op.eqFields, hn, ne_eq, not_false_eq_true, if_true, Sem.run_bind, a1, a2, a3, Result.andThen_ok]
  cases b <;> simp
theorem eqf_nil (k : Nat) (cs ds : Array Value) (w : World) : (Op.eqFields k cs ds []).run Tryz.prog w = .ok true w := by simp [Op.eqFields]
theorem part_s (f : Field) (cs : Array Value) (v : Value) (w : World) (i : Nat) (h : f.type = 9 ∧ f.offset = i ∧ f.name ≠ "_") (hv : cs[i]? = some v) : (part f.type cs f.offset).run Tryz.prog w = .ok v w := by
  rw [h.1, h.2.1]; exact run_part_plain w (by kernel_rfl) hv
theorem part_i (f : Field) (cs : Array Value) (v : Value) (w : World) (i : Nat) (h : f.type = 3 ∧ f.offset = i ∧ f.name ≠ "_") (hv : cs[i]? = some v) : (part f.type cs f.offset).run Tryz.prog w = .ok v w := by
  rw [h.1, h.2.1]; exact run_part_plain w (by kernel_rfl) hv
theorem part_b (f : Field) (cs : Array Value) (v : Value) (w : World) (i : Nat) (h : f.type = 4 ∧ f.offset = i ∧ f.name ≠ "_") (hv : cs[i]? = some v) : (part f.type cs f.offset).run Tryz.prog w = .ok v w := by
  rw [h.1, h.2.1]; exact run_part_plain w (by kernel_rfl) hv
theorem eqs_ (k : Nat) (f : Field) (a b : List UInt8) (w : World) {i : Nat} (h : f.type = 9 ∧ f.offset = i ∧ f.name ≠ "_") : (Op.equalIn (k + 1) f.type (.string (str a)) (.string (str b))).run Tryz.prog w = .ok (decide (a = b)) w := by
  rw [h.1, ← str_beq]; exact run_equalIn_string w k _ _ _ Tryz.underlying9
theorem eqi_ (k : Nat) (f : Field) (a b : Int) (w : World) {i : Nat} (h : f.type = 3 ∧ f.offset = i ∧ f.name ≠ "_") : (Op.equalIn (k + 1) f.type (.int .i64 a) (.int .i64 b)).run Tryz.prog w = .ok (decide (a = b)) w := by
  rw [h.1, show decide (a = b) = (a == b) from by by_cases e : a = b <;> simp [e]]
  exact run_equalIn_int w k _ .i64 .i64 _ _ Tryz.underlying3
theorem eqb_ (k : Nat) (f : Field) (a b : Bool) (w : World) {i : Nat} (h : f.type = 4 ∧ f.offset = i ∧ f.name ≠ "_") : (Op.equalIn (k + 1) f.type (.bool a) (.bool b)).run Tryz.prog w = .ok (decide (a = b)) w := by
  rw [h.1, show decide (a = b) = (a == b) from by cases a <;> cases b <;> rfl]
  exact run_equalIn_bool w k _ _ _ Tryz.underlying4
theorem if_run (b x : Bool) (w : World) : (if b then (Result.ok x w : Result Bool) else .ok false w) = .ok (b && x) w := by cases b <;> rfl
theorem eqInU (k : Nat) (r q : Ru) (w : World) : (Op.equalIn (k + 2) 23 (.agg (ruC r)) (.agg (ruC q))).run Tryz.prog w = .ok (decide (r = q)) w := by
  obtain ⟨f0, f1, f2, f3, f4, hfs, h0, h1, h2, h3, h4⟩ := fieldsU
  rw [run_equalIn_struct w (k + 1) _ _ _ undU stoodU, hfs, ru_is]
  rw [eqf_cons (k + 1) (ruC r) (ruC q) f0 _ _ _ _ w h0.2.2 (part_b f0 (ruC r) (.bool r.al) w 0 h0 rfl) (part_b f0 (ruC q) (.bool q.al) w 0 h0 rfl) (eqb_ k f0 r.al q.al w h0)]
  rw [eqf_cons (k + 1) (ruC r) (ruC q) f1 _ _ _ _ w h1.2.2 (part_i f1 (ruC r) (.int .i64 r.pr) w 1 h1 rfl) (part_i f1 (ruC q) (.int .i64 q.pr) w 1 h1 rfl) (eqi_ k f1 r.pr q.pr w h1)]
  rw [eqf_cons (k + 1) (ruC r) (ruC q) f2 _ _ _ _ w h2.2.2 (part_s f2 (ruC r) (.string (str r.pa)) w 2 h2 rfl) (part_s f2 (ruC q) (.string (str q.pa)) w 2 h2 rfl) (eqs_ k f2 r.pa q.pa w h2)]
  rw [eqf_cons (k + 1) (ruC r) (ruC q) f3 _ _ _ _ w h3.2.2 (part_i f3 (ruC r) (.int .i64 r.po) w 3 h3 rfl) (part_i f3 (ruC q) (.int .i64 q.po) w 3 h3 rfl) (eqi_ k f3 r.po q.po w h3)]
  rw [eqf_cons (k + 1) (ruC r) (ruC q) f4 _ _ _ _ w h4.2.2 (part_s f4 (ruC r) (.string (str r.ap)) w 4 h4 rfl) (part_s f4 (ruC q) (.string (str q.ap)) w 4 h4 rfl) (eqs_ k f4 r.ap q.ap w h4)]
  rw [eqf_nil, if_run, if_run, if_run, if_run, if_run, Bool.and_true]
theorem eqInUn (n : Nat) (h : 2 ≤ n) (r q : Ru) (w : World) : (Op.equalIn n 23 (.agg (ruC r)) (.agg (ruC q))).run Tryz.prog w = .ok (decide (r = q)) w := by
  obtain ⟨k, rfl⟩ : ∃ k, n = k + 2 := ⟨n - 2, by omega⟩
  exact eqInU k r q w
/-- '==' of two rules -/
theorem eqlU (r q : Ru) (w : World) : (binOp .eql 23 (.agg (ruC r)) (.agg (ruC q))).run Tryz.prog w = .ok (.bool (decide (r = q))) w := by
  rw [run_eql_struct, eqInUn _ (by omega) r q w, Result.andThen_ok]
/-- '!=' of two rules -/
theorem neqU (r q : Ru) (w : World) : (binOp .neq 23 (.agg (ruC r)) (.agg (ruC q))).run Tryz.prog w = .ok (.bool (!decide (r = q))) w := by
  rw [run_neq_struct, eqInUn _ (by omega) r q w, Result.andThen_ok]
theorem grdU : Tryz.prog.eqGuardType Tryz.prog.depth 23 = false := by kernel_rfl
theorem go_neqU {ops : Array Oper} {rest : List Oper} {o : Oper} {a : Act} {w : World} {Q : Exit → Act → World → Prop} {x y : Operand} {t : TypeId} (r q : Ru) (b : Bool) (hb : decide (r = q) = b)
    (ho : o.op = .binOp .neq 23 x y t) (hw : Region.wanted o (yielded ops a.tmps) = true) (hx : a.eval x = .agg (ruC r)) (hy : a.eval y = .agg (ruC q))
    (h : wpList Tryz.prog ops Q rest (a.put o.dst (.bool (!b))) w) : wpList Tryz.prog ops Q (o :: rest) a w := by
  show if Region.wanted o (yielded ops a.tmps) = true then _ else _
  rw [if_pos hw]
  refine .inl ?_
  unfold Oper.wp execOp
  simp only [ho, hx, hy, Sem.run_bind, run_eqGuard_agg w .neq _ _ _ _ _ grdU, Result.andThen_ok, neqU, hb, Sem.run_pure]
  exact h
theorem go_eqlU {ops : Array Oper} {rest : List Oper} {o : Oper} {a : Act} {w : World} {Q : Exit → Act → World → Prop} {x y : Operand} {t : TypeId} (r q : Ru) (b : Bool) (hb : decide (r = q) = b)
    (ho : o.op = .binOp .eql 23 x y t) (hw : Region.wanted o (yielded ops a.tmps) = true) (hx : a.eval x = .agg (ruC r)) (hy : a.eval y = .agg (ruC q))
    (h : wpList Tryz.prog ops Q rest (a.put o.dst (.bool b)) w) : wpList Tryz.prog ops Q (o :: rest) a w := by
  show if Region.wanted o (yielded ops a.tmps) = true then _ else _
  rw [if_pos hw]
  refine .inl ?_
  unfold Oper.wp execOp
  simp only [ho, hx, hy, Sem.run_bind, run_eqGuard_agg w .eql _ _ _ _ _ grdU, Result.andThen_ok, eqlU, hb, Sem.run_pure]
  exact h
/-- a rule is built -/
theorem go_bdU {ops : Array Oper} {rest : List Oper} {o : Oper} {a : Act} {w : World} {Q : Exit → Act → World → Prop} {fs : Array (Nat × Operand)} (vs : List (Nat × Value)) (r : Ru) (hB : Tryz.prog.built 23 vs = some (ruC r))
    (hw : Region.wanted o (yielded ops a.tmps) = true) (ho : o.op = .build 23 fs) (hv : (fs.map fun (i, x) => (i, a.eval x)).toList = vs)
    (h : wpList Tryz.prog ops Q rest (a.put o.dst (.agg (ruC r))) w) : wpList Tryz.prog ops Q (o :: rest) a w := by
  show if Region.wanted o (yielded ops a.tmps) = true then _ else _
  rw [if_pos hw]
  have e : Tryz.prog.built 23 (fs.map fun (i, x) => (i, a.eval x)).toList = some (ruC r) := by rw [hv]; exact hB
  refine .inl (wp_build _ _ ho (by rw [e]; rfl) ?_)
  rw [e]
  exact h
/-- the zero rule in a block of its own; then another -/
abbrev zU : Array Value := #[.bool false, .int .i64 0, .string ⟨#[]⟩, .int .i64 0, .string ⟨#[]⟩]
theorem ru_new (w : World) (r : Ru) : Blk ((w.alloc (.cells zU 23)).setRow w.heap.size (ruC r)) w.heap.size 23 (ruC r) ∧
    Below w.heap.size w ((w.alloc (.cells zU 23)).setRow w.heap.size (ruC r)) :=
  ⟨setRow_blk (Blk.new _ _ _), setRow_below ((Below.refl _ _).alloc (Nat.le_refl _) _) (Blk.new _ _ _) (Nat.le_refl _) _⟩
theorem ru_zero (w : World) : Blk (w.alloc (.cells zU 23)) w.heap.size 23 (ruC Ru.zero) ∧ Below w.heap.size w (w.alloc (.cells zU 23)) :=
  ⟨Blk.new _ _ _, (Below.refl _ _).alloc (Nat.le_refl _) _⟩

/-- rules that a slice leads to -/
def RuAt (w : World) (g o : Nat) (r : Ru) : Prop := w.cell? ⟨g, o, none⟩ = some (.bool r.al) ∧ w.cell? ⟨g, o + 1, none⟩ = some (.int .i64 r.pr) ∧ w.cell? ⟨g, o + 2, none⟩ = some (.string (str r.pa)) ∧ w.cell? ⟨g, o + 3, none⟩ = some (.int .i64 r.po) ∧ w.cell? ⟨g, o + 4, none⟩ = some (.string (str r.ap))
theorem RuAt.below {w w' : World} {g o B : Nat} {r : Ru} (h : RuAt w g o r) (hg : g < B) (hb : Below B w w') : RuAt w' g o r := by
  obtain ⟨h0, h1, h2, h3, h4⟩ := h
  exact ⟨(hb.cell (p := ⟨g, _, none⟩) hg).trans h0, (hb.cell (p := ⟨g, _, none⟩) hg).trans h1, (hb.cell (p := ⟨g, _, none⟩) hg).trans h2, (hb.cell (p := ⟨g, _, none⟩) hg).trans h3, (hb.cell (p := ⟨g, _, none⟩) hg).trans h4⟩
def SrcU (w : World) (A : Option Addr) (l : List Ru) : Prop :=
  ∀ (i : Nat) (r : Ru), l[i]? = some r → ∃ g o, A = some ⟨g, o, none⟩ ∧ g < w.heap.size ∧ RuAt w g (o + i * 5) r
theorem SrcU.below {w w' : World} {A : Option Addr} {l : List Ru} (h : SrcU w A l) (hb : Below w.heap.size w w') : SrcU w' A l := fun i r hr => by
  obtain ⟨g, o, hA, hg, h0⟩ := h i r hr
  exact ⟨g, o, hA, Nat.lt_of_lt_of_le hg hb.size, h0.below hg hb⟩
theorem SrcU.nil (w : World) (A : Option Addr) : SrcU w A [] := fun i r h => by simp at h
theorem SrcU.get {w wr : World} {A : Option Addr} {l : List Ru} {k : Nat} (h : SrcU w A l) (hk : k < l.length) (hb : Below w.heap.size w wr) :
    ∃ r g o, l[k]? = some r ∧ A = some ⟨g, o, none⟩ ∧ g < w.heap.size ∧ RuAt wr g (o + k * 5) r := by
  have hx : l[k]? = some l[k] := List.getElem?_eq_getElem hk
  obtain ⟨g, o, hA, hg, h0⟩ := h k _ hx
  exact ⟨l[k], g, o, hx, hA, hg, h0.below hg hb⟩
end Go.Proofs.YtlpondbcnfaggaaGreatDoor.Tr

/-
  Rules in a row of the call's own; append onto them. Plain lemmas, no condition.
-/
namespace Go.Proofs.YtlpondbcnfaggaaGreatDoor.Tr
open Go.RowKit Go.Proofs.YtlpondbcnfaggaaGreatDoor.Wd Go.Proofs.YtlpondbcnfaggaaGreatDoor.Asc Go.Proofs.YtlpondbcnfaggaaGreatDoor.Tx Go.Proofs.YtlpondbcnfaggaaGreatDoor.St

theorem undRL : Tryz.prog.underlying 29 = some (.slice 23) := Tryz.underlying29
theorem infRZ : (Tryz.prog.info? 23).map (fun i => (i.zero, i.size, i.bytes)) = some (some (.agg #[.bool false, .int .i64 0, .string .empty, .int .i64 0, .string .empty]), 5, 56) := by kernel_rfl
def flatU (l : List Ru) : List Value := l.flatMap fun r => (ruC r).toList
theorem flatU_cons (r : Ru) (l : List Ru) : flatU (r :: l) = (ruC r).toList ++ flatU l := by simp [flatU]
theorem flatU_app (l m : List Ru) : flatU (l ++ m) = flatU l ++ flatU m := by simp [flatU]
theorem flatU_len : ∀ l : List Ru, (flatU l).length = l.length * 5
  | [] => rfl
  | x :: l => by
    rw [flatU_cons, List.length_append, flatU_len l, List.length_cons]
    show 5 + _ = _
    omega
theorem flatU_at : ∀ (l : List Ru) (i : Nat) (r : Ru), l[i]? = some r → ∀ (j : Nat) (v : Value), (ruC r).toList[j]? = some v → (flatU l)[i * 5 + j]? = some v
  | [], i, f, h, _, _, _ => by simp at h
  | y :: l, 0, r, h, j, v, hv => by
    simp at h
    subst h
    rw [flatU_cons, List.getElem?_append_left (by have := (List.getElem?_eq_some_iff.1 hv).1; omega), Nat.zero_mul, Nat.zero_add]
    exact hv
  | y :: l, i + 1, r, h, j, v, hv => by
    rw [flatU_cons, List.getElem?_append_right (by show 5 ≤ _; omega), show (i + 1) * 5 + j - (ruC y).toList.length = i * 5 + j by show _ - 5 = _; omega]
    exact flatU_at l i r (by simpa using h) j v hv
theorem flatU_one {l : List Ru} : ∀ v ∈ flatU l, v.oneCell' = true := fun v h => by
  obtain ⟨x, _, hv⟩ := List.mem_flatMap.1 h
  simp [ruC] at hv
  rcases hv with rfl | rfl | rfl | rfl | rfl <;> rfl

/-- the slice v owns the rules l, in blocks from B on -/
def OwnU (w : World) (B : Nat) (v : Value) (l : List Ru) : Prop := w.ownsRow B 23 5 v l.length (flatU l)
theorem OwnU.nil_ (w : World) (B : Nat) : OwnU w B (.slice none 0 0) [] := ⟨rfl, .inl ⟨rfl, rfl⟩⟩
theorem OwnU.empty (w : World) (B : Nat) (hB : B ≤ w.heap.size) : OwnU (w.alloc (.cells #[] 23)) B (.slice (some ⟨w.heap.size, 0, none⟩) 0 0) [] :=
  ⟨rfl, .inr ⟨w.heap.size, 0, #[], rfl, hB, heap_alloc_new w _, Nat.le_refl _, Nat.zero_le _, rfl, rfl⟩⟩
theorem OwnU.alloc {w : World} {B : Nat} {v : Value} {l : List Ru} (h : OwnU w B v l) (o : Obj) : OwnU (w.alloc o) B v l := World.ownsRow.alloc h o
theorem OwnU.ge {w : World} {B : Nat} {v : Value} {l : List Ru} (h : OwnU w B v l) : ∀ g, v.ownBlock = some g → B ≤ g ∧ g < w.heap.size := by
  obtain ⟨hl, ⟨rfl, h0⟩ | ⟨g, cap, cur, rfl, hg, hh, r⟩⟩ := h
  · exact fun g e => by cases e
  · exact fun g' e => by
      have e' : g = g' := Option.some.inj e
      rw [← e']; exact ⟨hg, Blk.lt (t := 23) (cs := cur) hh⟩
theorem OwnU.src {w : World} {B : Nat} {v : Value} {l : List Ru} (h : OwnU w B v l) : ∃ A c, v = .slice A l.length c ∧ l.length ≤ c ∧ SrcU w A l := by
  obtain ⟨hl, ⟨rfl, h0⟩ | ⟨g, cap, cur, rfl, hg, hh, hc, hm, hz, ht⟩⟩ := h
  · obtain rfl : l = [] := List.eq_nil_of_length_eq_zero h0
    exact ⟨none, 0, rfl, Nat.le_refl _, SrcU.nil w _⟩
  · have hb : Blk w g 23 cur := hh
    refine ⟨_, cap, rfl, hc, fun i r hr => ?_⟩
    have key : ∀ (j : Nat) (u : Value), (ruC r).toList[j]? = some u → w.cell? ⟨g, 0 + i * 5 + j, none⟩ = some u := fun j u hu => by
      rw [Nat.zero_add, hb.cell, ← Array.getElem?_toList]
      have h2 := flatU_at l i r hr j u hu
      rw [← ht, List.getElem?_take] at h2
      split at h2
      · exact h2
      · cases h2
    exact ⟨g, 0, rfl, hb.lt, key 0 _ rfl, key 1 _ rfl, key 2 _ rfl, key 3 _ rfl, key 4 _ rfl⟩
theorem RuAt.grown {w w' : World} {g o : Nat} {r : Ru} {row : Option Nat} (h : RuAt w g o r) (hg : g < w.heap.size) (hb : w.grownBy w' row) (hne : some g ≠ row) : RuAt w' g o r := by
  have e : w'.heap[g]? = w.heap[g]? := hb.block g hg hne
  obtain ⟨h0, h1, h2, h3, h4⟩ := h
  exact ⟨(World.cell?_of_block (a := ⟨g, _, none⟩) e).trans h0, (World.cell?_of_block (a := ⟨g, _, none⟩) e).trans h1, (World.cell?_of_block (a := ⟨g, _, none⟩) e).trans h2, (World.cell?_of_block (a := ⟨g, _, none⟩) e).trans h3, (World.cell?_of_block (a := ⟨g, _, none⟩) e).trans h4⟩
theorem SrcU.grown {w w' : World} {A : Option Addr} {l : List Ru} {row : Option Nat} (h : SrcU w A l) (hb : w.grownBy w' row) (hne : ∀ x, A = some x → some x.block ≠ row) : SrcU w' A l := fun i r hr => by
  obtain ⟨g, o, hA, hg, h0⟩ := h i r hr
  exact ⟨g, o, hA, Nat.lt_of_lt_of_le hg hb.size, h0.grown hg hb (hne _ hA)⟩
/-- one rule in a block -/
theorem SrcU.one {w : World} {g t : Nat} (r : Ru) (h : Blk w g t (ruC r)) : SrcU w (some ⟨g, 0, none⟩) [r] := fun i x hx => by
  match i, hx with
  | 0, hx =>
    injection hx with hx
    subst hx
    exact ⟨g, 0, rfl, h.lt, by rw [h.cell]; rfl, by rw [h.cell]; rfl, by rw [h.cell]; rfl, by rw [h.cell]; rfl, by rw [h.cell]; rfl⟩
  | i + 1, hx => simp at hx

/-- append of nothing -/
theorem run_appU_none (w : World) (A B : Option Addr) (n c d : Nat) (ty : TypeId) (hn : n ≤ c) :
    (Builtin.append_ #[29, 29] ty #[.slice A n c, .slice B 0 d]).run Tryz.prog w = .ok (.slice A n c) w := by
  have h1 : ∀ w, (sizeOf 23).run Tryz.prog w = .ok 5 w := fun w => by kernel_rfl
  have h2 : ∀ (a : Addr) (w : World), (loadCellsFrom a 0 0 #[]).run Tryz.prog w = .ok #[] w := fun _ _ => rfl
  cases A <;> cases B <;> simp [Builtin.append_, run_underlying undRL, h1, h2, Builtin.lenOf, Builtin.firstCells, hn, loadCells, storeCells]
set_option maxRecDepth 100000 in
/-- append of a row, be it empty -/
theorem run_appU {w : World} {B : Nat} {v : Value} {l m : List Ru} (hown : OwnU w B v l) {A : Option Addr} {c : Nat} (hs : SrcU w A m) (hlen : l.length + m.length ≤ 100000) (hB : B ≤ w.heap.size) (ty : TypeId) :
    ∃ v' w', (Builtin.append_ #[29, 29] ty #[v, .slice A m.length c]).run Tryz.prog w = .ok v' w' ∧ OwnU w' B v' (l ++ m) ∧ w.grownBy w' v.ownBlock := by
  cases hm : m with
  | nil =>
    obtain ⟨A', c', rfl, h1, _⟩ := hown.src
    refine ⟨_, w, run_appU_none w A' A l.length c' c ty h1, ?_, only_refl w _⟩
    rw [List.append_nil]
    exact hown
  | cons x r =>
    rw [← hm]
    obtain ⟨i0, hi, hz0, hz1, hz2⟩ := info_parts infRZ
    obtain ⟨g, o, rfl, hg, _⟩ := hs 0 x (by rw [hm]; rfl)
    have hcells : ∀ (j : Nat) (u : Value), (flatU m)[j]? = some u → w.cell? ((⟨g, o, none⟩ : Addr).add j) = some u := by
      intro j u hu
      have hj := (List.getElem?_eq_some_iff.1 hu).1
      rw [flatU_len] at hj
      obtain ⟨f, hf⟩ : ∃ f, m[j / 5]? = some f := ⟨_, List.getElem?_eq_getElem (by omega)⟩
      obtain ⟨g', o', hA, _, c0, c1, c2, c3, c4⟩ := hs _ f hf
      injection hA with hA
      injection hA with e1 e2
      subst e1 e2
      have ea : (⟨g, o, none⟩ : Addr).add j = ⟨g, o + j, none⟩ := by unfold Addr.add; split <;> simp_all
      rw [ea]
      have key : ∀ (k : Nat) (y : Value), j % 5 = k → (ruC f).toList[k]? = some y → w.cell? ⟨g, o + j / 5 * 5 + k, none⟩ = some y → w.cell? ⟨g, o + j, none⟩ = some u := fun k y hk hy hc => by
        have hj2 : j / 5 * 5 + k = j := by omega
        have h2 := flatU_at m _ f hf k y hy
        rw [hj2, hu] at h2
        injection h2 with h2
        rw [h2, show o + j = o + j / 5 * 5 + k by omega]
        exact hc
      have hr : j % 5 = 0 ∨ j % 5 = 1 ∨ j % 5 = 2 ∨ j % 5 = 3 ∨ j % 5 = 4 := by omega
      rcases hr with hr | hr | hr | hr | hr
      · exact key 0 _ hr rfl c0
      · exact key 1 _ hr rfl c1
      · exact key 2 _ hr rfl c2
      · exact key 3 _ hr rfl c3
      · exact key 4 _ hr rfl c4
    obtain ⟨v', w', hrun, h2, h3, _, _⟩ := run_append_own_at (P := Tryz.prog) w B 29 ty 23 i0 (.agg #[.bool false, .int .i64 0, .string .empty, .int .i64 0, .string .empty]) 5 56 undRL hi hz0 hz1 hz2 rfl (by decide) v l.length (flatU l) hown ⟨g, o, none⟩ m.length c (flatU m) (flatU_len m) hcells flatU_one (by unfold maxLen; omega) (by omega) hB
    refine ⟨v', w', hrun, ?_, h3⟩
    unfold OwnU
    rw [List.length_append, flatU_app]
    exact h2
theorem wp_appU {o : Oper} {a : Act} {w : World} {K : Act → World → Prop} {Q : Exit → Act → World → Prop} (s x : Operand)
    (ho : o.op = .call { callee := .builtin .append, args := #[s, x], argTypes := #[29, 29] })
    (B : Nat) (v : Value) (l : List Ru) (hs : a.eval s = v) (hown : OwnU w B v l) (A : Option Addr) (n c : Nat) (m : List Ru) (hx : a.eval x = .slice A n c) (hn : n = m.length) (hsrc : SrcU w A m)
    (hlen : l.length + m.length ≤ 100000) (hB : B ≤ w.heap.size)
    (h : ∀ v' w', Hid (OwnU w' B v' (l ++ m)) → Hid (w.grownBy w' v.ownBlock) → K (a.put o.dst v') w') : Oper.wp Tryz.prog o a w K Q := by
  subst hn
  obtain ⟨v', w', hrun, h2, h3⟩ := run_appU hown (c := c) hsrc hlen hB o.type
  unfold Oper.wp execOp
  simp only [ho, resolve, invoke, builtin, Sem.run_bind, Sem.run_pure, Result.andThen_ok, List.map_toArray, List.map_cons, List.map_nil, hs, hx, hrun]
  exact h v' w' (Lib.hid h2) (Lib.hid h3)
/-- rows of the call's own, made one behind the other, all that was there as it was -/
structure MidU (w0 w : World) (v : Value) (l : List Ru) : Prop where
  bel : Below w0.heap.size w0 w
  own : OwnU w w0.heap.size v l
theorem MidU.start {w0 w : World} (h : Below w0.heap.size w0 w) : MidU w0 (w.alloc (.cells #[] 23)) (.slice (some ⟨w.heap.size, 0, none⟩) 0 0) [] :=
  ⟨h.alloc h.size _, OwnU.empty w _ h.size⟩
theorem MidU.alloc {w0 w : World} {v : Value} {l : List Ru} (h : MidU w0 w v l) (o : Obj) : MidU w0 (w.alloc o) v l := ⟨h.bel.alloc h.bel.size o, h.own.alloc o⟩
theorem MidU.app {w0 w w' : World} {v v' : Value} {l m : List Ru} (h : MidU w0 w v l) (ho : OwnU w' w0.heap.size v' m) (hg : w.grownBy w' v.ownBlock) : MidU w0 w' v' m :=
  ⟨h.bel.grown hg h.bel.size (fun k hk => (h.own.ge k hk).1), ho⟩
end Go.Proofs.YtlpondbcnfaggaaGreatDoor.Tr

/-
  Rows of elements of whatever kind (so many cells each) in blocks of their own; append onto them; one of them turned. For a trie: places, nodes, rows of rows. Plain lemmas, no condition.
-/
namespace Go.Proofs.YtlpondbcnfaggaaGreatDoor.Te
open Go.RowKit Go.Proofs.YtlpondbcnfaggaaGreatDoor.Wd

theorem add_flat (g o j : Nat) : (⟨g, o, none⟩ : Addr).add j = ⟨g, o + j, none⟩ := by unfold Addr.add; split <;> simp_all
/-- a kind of element: its type, how many cells it has, which -/
structure El (α : Type) where
  ty : TypeId
  n : Nat
  c : α → List Value
structure El.Fine {α : Type} (e : El α) (sl : TypeId) (z : Value) (bytes : Nat) : Prop where
  und : Tryz.prog.underlying sl = some (.slice e.ty)
  info : (Tryz.prog.info? e.ty).map (fun i => (i.zero, i.size, i.bytes)) = some (some z, e.n, bytes)
  zs : z.cells.size = e.n
  pos : 0 < e.n
  len : ∀ x, (e.c x).length = e.n
  one : ∀ x, ∀ v ∈ e.c x, v.oneCell' = true
section
variable {α : Type} {e : El α} {sl : TypeId} {z : Value} {bytes : Nat}
def flat (e : El α) (l : List α) : List Value := l.flatMap e.c
theorem flat_app (l m : List α) : flat e (l ++ m) = flat e l ++ flat e m := by simp [flat]
theorem flat_len (F : e.Fine sl z bytes) (l : List α) : (flat e l).length = l.length * e.n := by
  induction l with
  | nil => simp [flat]
  | cons x l ih => rw [show flat e (x :: l) = e.c x ++ flat e l by simp [flat], List.length_append, ih, F.len, List.length_cons, Nat.add_mul]; omega
theorem flat_at (F : e.Fine sl z bytes) : ∀ (l : List α) (i : Nat) (x : α), l[i]? = some x → ∀ (j : Nat) (v : Value), (e.c x)[j]? = some v → (flat e l)[i * e.n + j]? = some v
  | [], i, x, h, _, _, _ => by simp at h
  | y :: l, 0, x, h, j, v, hv => by
    simp at h
    subst h
    rw [show flat e (y :: l) = e.c y ++ flat e l by simp [flat], List.getElem?_append_left (by have := (List.getElem?_eq_some_iff.1 hv).1; omega), Nat.zero_mul, Nat.zero_add]
    exact hv
  | y :: l, i + 1, x, h, j, v, hv => by
    rw [show flat e (y :: l) = e.c y ++ flat e l by simp [flat], List.getElem?_append_right (by rw [F.len, Nat.add_mul]; omega), F.len, show (i + 1) * e.n + j - e.n = i * e.n + j by rw [Nat.add_mul]; omega]
    exact flat_at F l i x (by simpa using h) j v hv
theorem flat_ones (F : e.Fine sl z bytes) (l : List α) : ∀ v ∈ flat e l, v.oneCell' = true := fun v h => by
  obtain ⟨x, _, hv⟩ : ∃ x ∈ l, v ∈ e.c x := by simpa [flat] using h
  exact F.one x v hv
/-- cells that hold the elements' cells, each in its place, begin with them -/
theorem flat_of (F : e.Fine sl z bytes) (l : List α) (C : List Value) (h : ∀ (i : Nat) (x : α), l[i]? = some x → ∀ (j : Nat) (v : Value), (e.c x)[j]? = some v → C[i * e.n + j]? = some v) : C.take (l.length * e.n) = flat e l := by
  refine List.ext_getElem? fun k => ?_
  rw [List.getElem?_take]
  have hp := F.pos
  by_cases hk : k < l.length * e.n
  · rw [if_pos hk]
    have hi : k / e.n < l.length := (Nat.div_lt_iff_lt_mul hp).2 hk
    have hj : k % e.n < (e.c l[k / e.n]).length := by rw [F.len]; exact Nat.mod_lt k hp
    have hx : l[k / e.n]? = some l[k / e.n] := List.getElem?_eq_getElem hi
    have h1 := h _ _ hx (k % e.n) _ (List.getElem?_eq_getElem hj)
    have h2 := flat_at F l _ _ hx (k % e.n) _ (List.getElem?_eq_getElem hj)
    have e1 : k / e.n * e.n + k % e.n = k := by rw [Nat.mul_comm]; exact Nat.div_add_mod k e.n
    rw [e1] at h1 h2
    rw [h1, h2]
  · rw [if_neg hk, List.getElem?_eq_none (by rw [flat_len F]; omega)]

/-- elements that a slice leads to -/
def SrcE (w : World) (e : El α) (A : Option Addr) (l : List α) : Prop :=
  ∀ (i : Nat) (x : α), l[i]? = some x → ∃ g o, A = some ⟨g, o, none⟩ ∧ g < w.heap.size ∧ ∀ (j : Nat) (v : Value), (e.c x)[j]? = some v → w.cell? ⟨g, o + (i * e.n + j), none⟩ = some v
theorem SrcE.below {w w' : World} {A : Option Addr} {l : List α} (h : SrcE w e A l) (hb : Below w.heap.size w w') : SrcE w' e A l := fun i x hx => by
  obtain ⟨g, o, hA, hg, hc⟩ := h i x hx
  exact ⟨g, o, hA, Nat.lt_of_lt_of_le hg hb.size, fun j v hv => (hb.cell (p := ⟨g, _, none⟩) hg).trans (hc j v hv)⟩
theorem SrcE.nil (w : World) (A : Option Addr) : SrcE w e A [] := fun i x h => by simp at h
/-- one element, in a block -/
theorem SrcE.one {w : World} {g t : Nat} {C : Array Value} (x : α) (h : Blk w g t C) (hC : C.toList = e.c x) : SrcE w e (some ⟨g, 0, none⟩) [x] := fun i y hy => by
  match i, hy with
  | 0, hy =>
    injection hy with hy
    subst hy
    refine ⟨g, 0, rfl, h.lt, fun j v hv => ?_⟩
    rw [h.cell, Nat.zero_mul, Nat.zero_add, Nat.zero_add, ← Array.getElem?_toList, hC]
    exact hv
  | i + 1, hy => simp at hy

/-- the slice v owns the elements l, in blocks from B on -/
def OwnE (w : World) (e : El α) (B : Nat) (v : Value) (l : List α) : Prop := w.ownsRow B e.ty e.n v l.length (flat e l)
theorem OwnE.nil (w : World) (e : El α) (B : Nat) : OwnE w e B (.slice none 0 0) [] := ⟨by simp [flat], .inl ⟨rfl, rfl⟩⟩
theorem OwnE.but {S : List Nat} {w w' : World} {B : Nat} {v : Value} {l : List α} (h : OwnE w e B v l) (k : But S w w') (hv : ∀ b, v.ownBlock = some b → b ∉ S) : OwnE w' e B v l := by
  obtain ⟨hl, h0 | ⟨g, cap, cur, rfl, hg, hh, r⟩⟩ := h
  · exact ⟨hl, .inl h0⟩
  · have hbk : Blk w g e.ty cur := hh
    exact ⟨hl, .inr ⟨g, cap, cur, rfl, hg, hbk.but k (hv g rfl), r⟩⟩
theorem OwnE.below {w w' : World} {B : Nat} {v : Value} {l : List α} (h : OwnE w e B v l) (hb : Below w.heap.size w w') : OwnE w' e B v l := h.but (But.of_below hb []) (fun _ _ h => by cases h)
theorem OwnE.alloc {w : World} {B : Nat} {v : Value} {l : List α} (h : OwnE w e B v l) (o : Obj) : OwnE (w.alloc o) e B v l := World.ownsRow.alloc h o
theorem OwnE.lower {w : World} {B B' : Nat} {v : Value} {l : List α} (h : OwnE w e B v l) (hB : B' ≤ B) : OwnE w e B' v l := by
  obtain ⟨hl, h0 | ⟨g, cap, cur, hv, hg, r⟩⟩ := h
  · exact ⟨hl, .inl h0⟩
  · exact ⟨hl, .inr ⟨g, cap, cur, hv, Nat.le_trans hB hg, r⟩⟩
theorem OwnE.lt {w : World} {B : Nat} {v : Value} {l : List α} (h : OwnE w e B v l) : ∀ b, v.ownBlock = some b → b < w.heap.size := by
  obtain ⟨hl, ⟨rfl, h0⟩ | ⟨g, cap, cur, rfl, hg, hh, r⟩⟩ := h
  · exact fun g e => by cases e
  · exact fun g' e' => by
      have e2 : g = g' := Option.some.inj e'
      rw [← e2]
      exact Blk.lt (t := e.ty) (cs := cur) hh
theorem OwnE.ge {w : World} {B : Nat} {v : Value} {l : List α} (h : OwnE w e B v l) : ∀ g, v.ownBlock = some g → B ≤ g := by
  obtain ⟨hl, ⟨rfl, h0⟩ | ⟨g, cap, cur, rfl, hg, hh, r⟩⟩ := h
  · exact fun g e => by cases e
  · exact fun g' e => by
      have e' : g = g' := Option.some.inj e
      rw [← e']; exact hg
/-- whose block is of such a type -/
theorem OwnE.typ {w : World} {B : Nat} {v : Value} {l : List α} (h : OwnE w e B v l) : ∀ b, v.ownBlock = some b → ∃ cur, Blk w b e.ty cur := by
  obtain ⟨hl, ⟨rfl, h0⟩ | ⟨g, cap, cur, rfl, hg, hh, r⟩⟩ := h
  · exact fun g e => by cases e
  · exact fun g' e' => by
      have e2 : g = g' := Option.some.inj e'
      rw [← e2]
      exact ⟨cur, hh⟩
/-- as a block: nil, or cells that begin with the elements -/
theorem OwnE.row {w : World} {B : Nat} {v : Value} {l : List α} (h : OwnE w e B v l) :
    (v = .slice none 0 0 ∧ l = []) ∨ ∃ g cap cur, v = .slice (some ⟨g, 0, none⟩) l.length cap ∧ B ≤ g ∧ Blk w g e.ty cur ∧ l.length ≤ cap ∧ cap ≤ maxLen ∧ cur.size = cap * e.n ∧ cur.toList.take (l.length * e.n) = flat e l := by
  obtain ⟨hl, ⟨rfl, h0⟩ | ⟨g, cap, cur, rfl, hg, hh, hc, hm, hz, ht⟩⟩ := h
  · exact .inl ⟨rfl, List.eq_nil_of_length_eq_zero h0⟩
  · exact .inr ⟨g, cap, cur, rfl, hg, hh, hc, hm, hz, ht⟩
theorem OwnE.src (F : e.Fine sl z bytes) {w : World} {B : Nat} {v : Value} {l : List α} (h : OwnE w e B v l) : ∃ A c, v = .slice A l.length c ∧ l.length ≤ c ∧ c ≤ maxLen ∧ SrcE w e A l := by
  rcases h.row with ⟨rfl, rfl⟩ | ⟨g, cap, cur, rfl, hg, hh, hc, hm, hz, ht⟩
  · exact ⟨none, 0, rfl, Nat.le_refl _, Nat.zero_le _, SrcE.nil w _⟩
  · refine ⟨_, cap, rfl, hc, hm, fun i x hx => ⟨g, 0, rfl, hh.lt, fun j v hv => ?_⟩⟩
    rw [Nat.zero_add, hh.cell, ← Array.getElem?_toList]
    have h2 := flat_at F l i x hx j v hv
    rw [← ht, List.getElem?_take] at h2
    split at h2
    · exact h2
    · cases h2
/-- one element's cells turn: the row holds another element there -/
theorem OwnE.put (F : e.Fine sl z bytes) {w : World} {B : Nat} {v : Value} {l : List α} (h : OwnE w e B v l) {i : Nat} {x y : α} (hx : l[i]? = some x) :
    ∃ g, v.ownBlock = some g ∧ B ≤ g ∧ (∀ (j : Nat) (u : Value), (e.c x)[j]? = some u → w.cell? ⟨g, i * e.n + j, none⟩ = some u) ∧
    ∀ (C' : Array Value) (w' : World), (∀ cur, Blk w g e.ty cur → Blk w' g e.ty C' ∧ C'.size = cur.size ∧ (∀ k, (k < i * e.n ∨ i * e.n + e.n ≤ k) → C'[k]? = cur[k]?) ∧ ∀ (j : Nat) (u : Value), (e.c y)[j]? = some u → C'[i * e.n + j]? = some u) → OwnE w' e B v (l.set i y) := by
  rcases h.row with ⟨rfl, rfl⟩ | ⟨g, cap, cur, rfl, hg, hh, hc, hm, hz, ht⟩
  · simp at hx
  · have hcell : ∀ (i : Nat) (x : α), l[i]? = some x → ∀ (j : Nat) (v : Value), (e.c x)[j]? = some v → cur[i * e.n + j]? = some v := fun i x hx j v hv => by
      rw [← Array.getElem?_toList]
      have h2 := flat_at F l i x hx j v hv
      rw [← ht, List.getElem?_take] at h2
      split at h2
      · exact h2
      · cases h2
    refine ⟨g, rfl, hg, fun j u hu => by rw [hh.cell]; exact hcell i x hx j u hu, fun C' w' hw => ?_⟩
    obtain ⟨b1, b2, b3, b4⟩ := hw cur hh
    have hil := (List.getElem?_eq_some_iff.1 hx).1
    have hlen : (l.set i y).length = l.length := List.length_set
    refine ⟨by rw [flat_len F], .inr ⟨g, cap, C', by rw [hlen], hg, b1, by rw [hlen]; exact hc, hm, by rw [b2]; exact hz, ?_⟩⟩
    refine flat_of F (l.set i y) C'.toList ?_
    · intro k u hu j v hv
      rw [Array.getElem?_toList]
      rw [List.getElem?_set] at hu
      by_cases hk : i = k
      · subst hk
        rw [if_pos rfl, if_pos hil] at hu
        injection hu with hu
        subst hu
        exact b4 j v hv
      · rw [if_neg hk] at hu
        have hj : j < e.n := by rw [← F.len u]; exact (List.getElem?_eq_some_iff.1 hv).1
        rw [b3 _ ?_]
        · exact hcell k u hu j v hv
        · rcases Nat.lt_or_ge k i with h1 | h1
          · left
            have := Nat.mul_le_mul_right e.n (show k + 1 ≤ i from h1)
            rw [Nat.add_mul] at this
            omega
          · right
            have := Nat.mul_le_mul_right e.n (show i + 1 ≤ k by omega)
            rw [Nat.add_mul] at this
            omega
set_option maxRecDepth 100000 in
/-- what append leaves -/
theorem run_appE (F : e.Fine sl z bytes) {w : World} {B : Nat} {v : Value} {l m : List α} (hown : OwnE w e B v l) {A : Option Addr} {c : Nat} (hs : SrcE w e A m) (hlen : l.length + m.length ≤ 4294967296) (hby : bytes ≤ 32768) (hB : B ≤ w.heap.size) (ty : TypeId) :
    m ≠ [] → ∃ v' w', (Builtin.append_ #[sl, sl] ty #[v, .slice A m.length c]).run Tryz.prog w = .ok v' w' ∧ OwnE w' e B v' (l ++ m) ∧ w.grownBy w' v.ownBlock ∧ (v'.ownBlock = v.ownBlock ∨ v'.ownBlock = some w.heap.size) := by
  intro hne
  obtain ⟨i0, hi, hz0, hz1, hz2⟩ := info_parts F.info
  obtain ⟨x0, hx0⟩ : ∃ x, m[0]? = some x := by cases m with
    | nil => exact absurd rfl hne
    | cons x m => exact ⟨x, rfl⟩
  obtain ⟨g, o, rfl, hg, _⟩ := hs 0 x0 hx0
  have hcells : ∀ (j : Nat) (u : Value), (flat e m)[j]? = some u → w.cell? ((⟨g, o, none⟩ : Addr).add j) = some u := by
    intro j u hu
    have hj := (List.getElem?_eq_some_iff.1 hu).1
    rw [flat_len F] at hj
    have hp := F.pos
    have hi' : j / e.n < m.length := (Nat.div_lt_iff_lt_mul hp).2 hj
    have hd := Nat.div_add_mod j e.n
    have hr := Nat.mod_lt j hp
    obtain ⟨x, hx⟩ : ∃ x, m[j / e.n]? = some x := ⟨_, List.getElem?_eq_getElem hi'⟩
    obtain ⟨g', o', hA, _, hc⟩ := hs _ x hx
    injection hA with hA
    injection hA with h1 h2
    subst h1 h2
    have hjl : j % e.n < (e.c x).length := by rw [F.len]; exact hr
    have h1 := hc (j % e.n) _ (List.getElem?_eq_getElem hjl)
    have h2 := flat_at F m _ x hx (j % e.n) _ (List.getElem?_eq_getElem hjl)
    have e1 : j / e.n * e.n + j % e.n = j := by rw [Nat.mul_comm]; exact hd
    rw [e1] at h1 h2
    rw [h2] at hu
    injection hu with hu
    rw [add_flat, h1, hu]
  have hb2 : (l.length + m.length) * bytes ≤ 140737488355328 := by
    have := Nat.mul_le_mul hlen hby
    omega
  obtain ⟨v', w', hrun, h2, h3, _, h5⟩ := run_append_own_at (P := Tryz.prog) w B sl ty e.ty i0 z e.n bytes F.und hi hz0 hz1 hz2 F.zs F.pos v l.length (flat e l) hown ⟨g, o, none⟩ m.length c (flat e m) (flat_len F m) hcells (flat_ones F m) (by unfold maxLen; omega) hb2 hB
  refine ⟨v', w', hrun, ?_, h3, h5⟩
  unfold OwnE
  rw [List.length_append, flat_app]
  exact h2
theorem wpList_appE (F : e.Fine sl z bytes) {ops : Array Oper} {rest : List Oper} {o : Oper} {a : Act} {w : World} {Q : Exit → Act → World → Prop} (hgd : o.guard = none) (s x : Operand)
    (ho : o.op = .call { callee := .builtin .append, args := #[s, x], argTypes := #[sl, sl] })
    (B : Nat) (v : Value) (l : List α) (hs : a.eval s = v) (hown : OwnE w e B v l) (A : Option Addr) (n c : Nat) (m : List α) (hx : a.eval x = .slice A n c) (hn : n = m.length) (hne : m ≠ []) (hsrc : SrcE w e A m)
    (hlen : l.length + m.length ≤ 4294967296) (hby : bytes ≤ 32768) (hB : B ≤ w.heap.size)
    (h : ∀ v' w', Hid (OwnE w' e B v' (l ++ m)) → Hid (w.grownBy w' v.ownBlock) → Hid (v'.ownBlock = v.ownBlock ∨ v'.ownBlock = some w.heap.size) → wpList Tryz.prog ops Q rest (a.put o.dst v') w') : wpList Tryz.prog ops Q (o :: rest) a w := by
  subst hn
  obtain ⟨v', w', hrun, h2, h3, h4⟩ := run_appE F hown (c := c) hsrc hlen hby hB o.type hne
  refine wpList_plain hgd fun K hK => ?_
  unfold Oper.wp execOp
  simp only [ho, resolve, invoke, builtin, Sem.run_bind, Sem.run_pure, Result.andThen_ok, List.map_toArray, List.map_cons, List.map_nil, hs, hx, hrun]
  exact hK _ _ (h v' w' (Lib.hid h2) (Lib.hid h3) (Lib.hid h4))
/-- append, as a step of a region that draws -/
theorem wp_appE (F : e.Fine sl z bytes) {o : Oper} {a : Act} {w : World} {K : Act → World → Prop} {Q : Exit → Act → World → Prop} (s x : Operand)
    (ho : o.op = .call { callee := .builtin .append, args := #[s, x], argTypes := #[sl, sl] })
    (B : Nat) (v : Value) (l : List α) (hs : a.eval s = v) (hown : OwnE w e B v l) (A : Option Addr) (n c : Nat) (m : List α) (hx : a.eval x = .slice A n c) (hn : n = m.length) (hne : m ≠ []) (hsrc : SrcE w e A m)
    (hlen : l.length + m.length ≤ 4294967296) (hby : bytes ≤ 32768) (hB : B ≤ w.heap.size)
    (h : ∀ v' w', Hid (OwnE w' e B v' (l ++ m)) → Hid (w.grownBy w' v.ownBlock) → Hid (v'.ownBlock = v.ownBlock ∨ v'.ownBlock = some w.heap.size) → K (a.put o.dst v') w') : Oper.wp Tryz.prog o a w K Q := by
  subst hn
  obtain ⟨v', w', hrun, h2, h3, h4⟩ := run_appE F hown (c := c) hsrc hlen hby hB o.type hne
  unfold Oper.wp execOp
  simp only [ho, resolve, invoke, builtin, Sem.run_bind, Sem.run_pure, Result.andThen_ok, List.map_toArray, List.map_cons, List.map_nil, hs, hx, hrun]
  exact h v' w' (Lib.hid h2) (Lib.hid h3) (Lib.hid h4)
end
/-- places -/
def elP : El Nat := ⟨3, 1, fun n => [.int .i64 (n : Nat)]⟩
theorem fineP : elP.Fine 82 (.int .i64 0) 8 := ⟨Tryz.underlying82, by kernel_rfl, rfl, Nat.one_pos, fun _ => rfl, fun x v h => by
  simp [elP] at h; subst h; rfl⟩
/-- a slice's value -/
structure Sv where
  a : Option Addr
  n : Nat
  c : Nat
def Sv.v (s : Sv) : Value := .slice s.a s.n s.c
def Sv.zero : Sv := ⟨none, 0, 0⟩
/-- nodes: two rows of places -/
def elN : El (Sv × Sv) := ⟨128, 2, fun x => [x.1.v, x.2.v]⟩
theorem fineN : elN.Fine 71 (.agg #[.slice none 0 0, .slice none 0 0]) 48 := ⟨Tryz.underlying71, by kernel_rfl, rfl, Nat.two_pos, fun _ => rfl, fun x v h => by
  simp [elN] at h; rcases h with rfl | rfl <;> rfl⟩
/-- rows of rows of places -/
def elV : El Sv := ⟨82, 1, fun x => [x.v]⟩
theorem fineV : elV.Fine 81 (.slice none 0 0) 24 := ⟨Tryz.underlying81, by kernel_rfl, rfl, Nat.one_pos, fun _ => rfl, fun x v h => by
  simp [elV] at h; subst h; rfl⟩
theorem OwnE.sv {α : Type} {e : El α} {w : World} {B : Nat} {v : Value} {l : List α} (h : OwnE w e B v l) : ∃ s : Sv, v = s.v ∧ s.n = l.length := by
  rcases h.row with ⟨rfl, rfl⟩ | ⟨g, cap, cur, rfl, _⟩
  · exact ⟨Sv.zero, rfl, rfl⟩
  · exact ⟨⟨_, l.length, cap⟩, rfl, rfl⟩
end Go.Proofs.YtlpondbcnfaggaaGreatDoor.Te
