/-
  Contracts of package cidr's Of, Right and Has over this seat's translation.
-/
import Derived.Test.YtdofipjjodijcaaGreatDoorAdFns
import Derived.BigQuiet
import Derived.DeepKeys
import Derived.ChangeKeysEq
import Derived.Deep.QuietTactic
namespace Go.Proofs.YtdofipjjodijcaaGreatDoor.Ad
open Go.RowKit Go.Proofs.YtdofipjjodijcaaGreatDoor.Wd

theorem list16 {α : Type} {l : List α} (h : l.length = 16) : ∃ a0 a1 a2 a3 a4 a5 a6 a7 a8 a9 b0 b1 b2 b3 b4 b5 : α, l = [a0, a1, a2, a3, a4, a5, a6, a7, a8, a9, b0, b1, b2, b3, b4, b5] := by
  match l, h with
  | [a0, a1, a2, a3, a4, a5, a6, a7, a8, a9, b0, b1, b2, b3, b4, b5], _ => exact ⟨a0, a1, a2, a3, a4, a5, a6, a7, a8, a9, b0, b1, b2, b3, b4, b5, rfl⟩
theorem C_size (c : C) (h : c.a.length = 16) : c.cells.size = 17 := by simp [C.cells, cellsOf_length, h]
theorem C_one (c : C) : c.cells.all (·.oneCell') = true := all_oneCell_toArray (fun v hv => by
  rcases List.mem_append.1 hv with h | h
  · exact cellsOf_one _ v h
  · simp at h; subst h; rfl)

theorem C_zero : C.cells ⟨List.replicate 16 0, 0⟩ = #[Value.int .u8 0, .int .u8 0, .int .u8 0, .int .u8 0, .int .u8 0, .int .u8 0, .int .u8 0, .int .u8 0, .int .u8 0, .int .u8 0, .int .u8 0, .int .u8 0, .int .u8 0, .int .u8 0, .int .u8 0, .int .u8 0, .int .i64 0] := rfl
theorem ofS_len (a : List UInt8) (n : Int) : (ofS a n).a.length = a.length := maskS_length _ _


theorem plain8 : Tryz.prog.plainKey 5 = true := by kernel_rfl
theorem cells8 : Tryz.prog.cellsOf 5 = 1 := by kernel_rfl
theorem items8 (d : Nat) (c e : List UInt8) (w : World) : ∀ is : List Nat, (∀ i ∈ is, i < c.length ∧ i < e.length) → (Op.eqItems (d + 1) 5 1 (cA c) (cA e) is).run Tryz.prog w = .ok (is.all fun i => c[i]? == e[i]?) w
  | [], _ => rfl
  | i :: is, h => by
    obtain ⟨h1, h2⟩ := h i (by simp)
    have x1 : (cA c)[i]? = some (b8 c[i]) := by simp [cellsOf, h1]
    have x2 : (cA e)[i]? = some (b8 e[i]) := by simp [cellsOf, h2]
    have hq : (Op.equalIn (d + 1) 5 (b8 c[i]) (b8 e[i])).run Tryz.prog w = .ok (c[i] == e[i]) w := by
      have hb : (c[i] == e[i]) = ((c[i].toNat : Int) == (e[i].toNat : Int)) := by
        by_cases hce : c[i] = e[i]
        · rw [hce]; simp
        · have : ¬ c[i].toNat = e[i].toNat := fun k => hce (UInt8.toNat.inj k)
          have hn : ¬ (c[i].toNat : Int) = (e[i].toNat : Int) := by omega
          rw [beq_eq_false_iff_ne.2 hce, beq_eq_false_iff_ne.2 hn]
      rw [hb]
      exact run_equalIn_int w d _ .u8 .u8 _ _ Tryz.underlying5
    simp only [Op.eqItems, Sem.run_bind, Nat.mul_one, run_part_plain w plain8 x1, run_part_plain w plain8 x2, Result.andThen_ok, hq]
    rw [List.all_cons, List.getElem?_eq_getElem h1, List.getElem?_eq_getElem h2]
    cases hce : c[i] == e[i]
    · have : (some c[i] == some e[i]) = false := by simpa using hce
      rw [this]; simp
    · have : (some c[i] == some e[i]) = true := by simpa using hce
      rw [this]
      simpa using items8 d c e w is (fun j hj => h j (by simp [hj]))
theorem all_range {c e : List UInt8} {n : Nat} (hc : c.length = n) (he : e.length = n) : ((List.range n).all fun i => c[i]? == e[i]?) = (c == e) := by
  rw [Bool.eq_iff_iff, List.all_eq_true, beq_iff_eq]
  constructor
  · intro h
    apply List.ext_getElem?
    intro i
    by_cases hi : i < n
    · exact beq_iff_eq.1 (h i (by simpa using hi))
    · rw [List.getElem?_eq_none (by omega), List.getElem?_eq_none (by omega)]
  · rintro rfl i _
    simp
theorem info8 : ∃ i, Tryz.prog.info? 5 = some i := by
  cases h : Tryz.prog.info? 5 with
  | none => have : (Tryz.prog.info? 5).isSome = true := by kernel_rfl
            rw [h] at this; cases this
  | some i => exact ⟨i, rfl⟩
theorem eqIn16 (d : Nat) (c e : List UInt8) (hc : c.length = 16) (he : e.length = 16) (w : World) : (Op.equalIn (d + 2) 32 (.agg (cA c)) (.agg (cA e))).run Tryz.prog w = .ok (c == e) w := by
  obtain ⟨i8, hi8⟩ := info8
  rw [run_equalIn_array w (d + 1) (cA c) (cA e) und16 hi8, cells8, items8 d c e w _ (fun i hi => by simp at hi; omega), all_range hc he]
/-- '==' of two addresses -/
theorem eql16 (c e : List UInt8) (hc : c.length = 16) (he : e.length = 16) (w : World) : (binOp .eql 32 (.agg (cA c)) (.agg (cA e))).run Tryz.prog w = .ok (.bool (c == e)) w := by
  rw [run_eql_struct, eqIn16 9998 c e hc he w]; rfl
theorem part_row {c : C} (hc : c.a.length = 16) (w : World) : (part 32 c.cells 0).run Tryz.prog w = .ok (.agg (cA c.a)) w := by
  have hagg : (isAgg 32).run Tryz.prog w = .ok true w := by
    unfold isAgg
    rw [Sem.run_bind, run_underlying und16 w]
    rfl
  cases hq : Tryz.prog.info? 32 with
  | none => have := info16; rw [hq] at this; cases this
  | some i =>
    have hs : i.size = 16 := by have := info16; rw [hq] at this; simpa using this
    simp [part, Sem.run_bind, hagg, sizeOf, typeInfo, hq, hs]
    apply Array.ext'
    simp [C.cells, cellsOf_length, hc]
theorem part_bits {c : C} (hc : c.a.length = 16) (w : World) : (part 3 c.cells 16).run Tryz.prog w = .ok (.int .i64 c.n) w :=
  run_part_plain w (by kernel_rfl) (by simp [C.cells, cellsOf_length, hc])
theorem C_beq (c d : C) : (c == d) = (c.a == d.a && c.n == d.n) := by
  rw [Bool.eq_iff_iff, Bool.and_eq_true, beq_iff_eq, beq_iff_eq, beq_iff_eq]
  constructor
  · rintro rfl; exact ⟨rfl, rfl⟩
  · intro ⟨h1, h2⟩; cases c; cases d; simp_all
theorem eqFields17 (k : Nat) (f g : Field) (f1 : f.type = 32) (f2 : f.offset = 0) (f3 : f.name ≠ "_") (g1 : g.type = 3) (g2 : g.offset = 16) (g3 : g.name ≠ "_") (c d : C) (hc : c.a.length = 16) (hd : d.a.length = 16) (w : World) : (Op.eqFields (k + 2) c.cells d.cells [f, g]).run Tryz.prog w = .ok (c.a == d.a && c.n == d.n) w := by
  have p1 : (part f.type c.cells f.offset).run Tryz.prog w = .ok (.agg (cA c.a)) w := by rw [f1, f2]; exact part_row hc w
  have p2 : (part f.type d.cells f.offset).run Tryz.prog w = .ok (.agg (cA d.a)) w := by rw [f1, f2]; exact part_row hd w
  have p3 : (Op.equalIn (k + 2) f.type (.agg (cA c.a)) (.agg (cA d.a))).run Tryz.prog w = .ok (c.a == d.a) w := by rw [f1]; exact eqIn16 k c.a d.a hc hd w
  have q1 : (part g.type c.cells g.offset).run Tryz.prog w = .ok (.int .i64 c.n) w := by rw [g1, g2]; exact part_bits hc w
  have q2 : (part g.type d.cells g.offset).run Tryz.prog w = .ok (.int .i64 d.n) w := by rw [g1, g2]; exact part_bits hd w
  have q3 : (Op.equalIn (k + 2) g.type (.int .i64 c.n) (.int .i64 d.n)).run Tryz.prog w = .ok (c.n == d.n) w := by rw [g1]; exact run_equalIn_int w (k + 1) _ .i64 .i64 c.n d.n Tryz.underlying3
  clear f1 f2 g1 g2
  generalize k + 2 = K at *
  generalize (Value.agg (cA c.a)) = A1 at *
  generalize (Value.agg (cA d.a)) = A2 at *
  generalize (c.a == d.a) = r1 at *
  generalize (c.n == d.n) = r2 at *
  simp only [Op.eqFields, f3, g3, ne_eq, not_false_eq_true, if_true, Sem.run_bind, p1, p2, p3, Result.andThen_ok]
  cases r1
  · simp
  · simp only [Bool.not_true, Bool.false_eq_true, if_false, Sem.run_bind, q1, q2, q3, Result.andThen_ok, Bool.true_and]
    cases r2 <;> simp

theorem ld17a {w : World} {g t : Nat} {c : C} (h : Blk w g t c.cells) (hc : c.a.length = 16) :
    (Instr.loadAt 32 (.pointer (some ⟨g, 0, none⟩))).run Tryz.prog w = .ok (.agg (cA c.a)) w :=
  run_loadAt_mid w g 0 _ (cellsOf c.a) _ (fun j v hv => by
    rw [Nat.zero_add, h.cell]
    have hj : j < (cellsOf c.a).length := (List.getElem?_eq_some_iff.1 hv).1
    simp only [C.cells, List.getElem?_toArray]
    rw [List.getElem?_append_left hj, hv]) und16 rfl (by rw [info16, cellsOf_length, hc])
theorem ld17n {w : World} {g t : Nat} {c : C} (h : Blk w g t c.cells) (hc : c.a.length = 16) : w.cell? ⟨g, 16, none⟩ = some (.int .i64 c.n) := by
  rw [h.cell]; simp [C.cells, cellsOf_length, hc]

end Go.Proofs.YtdofipjjodijcaaGreatDoor.Ad
