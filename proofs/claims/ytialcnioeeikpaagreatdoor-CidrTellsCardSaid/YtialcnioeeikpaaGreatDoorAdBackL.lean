/-
  What is parsed is right, and how what is right is printed: lemmas for the laws of Cidrs.
-/
import Derived.Test.YtialcnioeeikpaaGreatDoorAdSmall
import Derived.Test.YtialcnioeeikpaaGreatDoorAdNestsP
import Derived.Test.YtialcnioeeikpaaGreatDoorAdPrintG
namespace Go.Proofs.YtialcnioeeikpaaGreatDoor.Ad
open Go.RowKit Go.Maps Go.Proofs.YtialcnioeeikpaaGreatDoor.Wd

theorem bk_bdg {ops : Array Oper} {rest : List Oper} {o : Oper} {a : Act} {w : World} {Q : Exit → Act → World → Prop} (ty : TypeId) (C : Array Value) (hB : Tryz.prog.built ty [] = some C) (hw : Region.wanted o (yielded ops a.tmps) = true) (ho : o.op = .build ty #[])
    (h : wpList Tryz.prog ops Q rest (a.put o.dst (.agg C)) w) : wpList Tryz.prog ops Q (o :: rest) a w := by
  show if Region.wanted o (yielded ops a.tmps) = true then _ else _
  rw [if_pos hw]
  have e : Tryz.prog.built ty ((#[] : Array (Nat × Operand)).map fun (i, x) => (i, a.eval x)).toList = some C := by simpa using hB
  refine .inl (wp_build ty _ ho (by rw [e]; rfl) ?_)
  rw [e]
  exact h
theorem bk_neq (c : C) (hc : c.a.length = 16) (w : World) : (binOp .neq 25 (.agg c.cells) (.agg c.cells)).run Tryz.prog w = .ok (.bool false) w := by
  rw [run_neq_struct, eqIn17n _ (by omega) c c hc hc w, Result.andThen_ok]
  simp
theorem bk_eql (c : C) (hc : c.a.length = 16) (w : World) : (binOp .eql 25 (.agg c.cells) (.agg c.cells)).run Tryz.prog w = .ok (.bool true) w := by
  rw [eql17 c c hc hc w]
  simp
theorem cparse_right {l : List UInt8} {c : C} (h : cparseS l = some c) : rightS c = true := by
  unfold cparseS at h
  split at h
  · cases h
  · split at h
    · cases h
    · injection h with h
      rw [← h]
      exact right_of _ _
theorem right_ok {c : C} (hc : c.a.length = 16) (h : rightS c = true) : OkC c := by
  unfold rightS at h
  rw [beq_iff_eq] at h
  rw [h]
  exact ofS_ok hc c.n
theorem ctext_free (a : List UInt8) (ha : a.length = 16) : (ctext a).length ≤ 64 := ctext_len a ha
theorem cprint_len (c : C) (hc : OkC c) : (cprintS (ctext c.a) c).length ≤ 100 := by
  have h1 := ctext_len c.a hc.len
  have h2 := Lib.itoa_length_le (bitsI c.a c.n) (by have := hc.lo; unfold bitsI; split <;> omega) (by have := hc.hi; unfold bitsI; split <;> omega)
  unfold cprintS
  simp
  omega
theorem print_c {B : Nat} (c : C) (hc : OkC c) (w : World) (hE : Env B w) : Calls Tryz.prog 13 #[.agg c.cells] w fun e w' => e = .returned (.string (str (cprintS (ctext c.a) c))) ∧ Below w.heap.size w w' :=
  cprint_any c hc.len hc.lo hc.hi (ctext c.a) (ctext_len c.a hc.len) w hE (fun w1 h1 => print_any c.a hc.len w1 h1)
theorem getD_len (r : Option C) (h : ∀ c, r = some c → c.a.length = 16) : (r.getD C0).a.length = 16 := by
  cases r with
  | none => rfl
  | some c => exact h c rfl

end Go.Proofs.YtialcnioeeikpaaGreatDoor.Ad
