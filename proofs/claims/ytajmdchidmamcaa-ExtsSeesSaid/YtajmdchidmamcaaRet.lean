/-
  Results that are structs, in a block; one operation of a region that draws, taken by hand; what stays while a row is stored whole. Plain lemmas, no condition.
-/
import Derived.Test.YtajmdchidmamcaaHeRows
import Derived.Deep.RegionHeldLaw
import Derived.Deep.RegionHeld3
namespace Go.Proofs.Ytajmdchidmamcaa.Ro
open Go.RowKit Go.Proofs.Ytajmdchidmamcaa.Wd Go.Proofs.Ytajmdchidmamcaa.He

/-- one result, in a block -/
theorem ret_one {fn : Func} {p : Tmp} {ty t : TypeId} {a : Act} {w : World} {g n : Nat} {C : Array Value} {d : TypeDesc} {R : Ending → World → Prop} (hf : fn.results = #[.cell p ty]) (hb : Blk w g t C) (hu : Try.prog.underlying ty = some d)
    (hd : d.isRow = true) (hi : (Try.prog.info? ty).map (·.size) = some n) (hn : C.size = n) (hp : a.tmps.getD p undef = .pointer (some ⟨g, 0, none⟩)) (h : R (.returned (.agg C)) w) (hdf : a.defers = []) : bodyPost Try.prog fn R .ret a w :=
  bodyPost_ret (results_cell_row hf _ _ g t C (0, 0) d hp hb hu (by cases d <;> first | rfl | cases hd) (by rw [hi, hn])) hdf h
/-- two results, the first one in a block -/
theorem ret_two {fn : Func} {p q : Tmp} {ty t : TypeId} {a : Act} {w : World} {g n : Nat} {C : Array Value} {v : Value} {d : TypeDesc} {R : Ending → World → Prop} (hf : fn.results = #[.cell p ty, .tmp q]) (hb : Blk w g t C) (hu : Try.prog.underlying ty = some d)
    (hd : d.isRow = true) (hi : (Try.prog.info? ty).map (·.size) = some n) (hn : C.size = n) (hp : a.tmps.getD p undef = .pointer (some ⟨g, 0, none⟩)) (hq : a.tmps.getD q undef = v) (h : R (.returned (.tuple #[.agg C, v])) w) (hdf : a.defers = []) : bodyPost Try.prog fn R .ret a w := by
  have hp' : a.tmps[p]?.getD undef = .pointer (some ⟨g, 0, none⟩) := by simpa using hp
  have hq' : a.tmps[q]?.getD undef = v := by simpa using hq
  have hl := run_loadVar_row w g t ty C (0, 0) d hb hu (by cases d <;> first | rfl | cases hd) (by rw [hi, hn])
  exact bodyPost_ret (v := .tuple #[.agg C, v]) (by simp [results, hf, hp', hq', asAddr, hl]) hdf h
/-- one operation of a drawn region taken first, its place given -/
theorem hd_take {P : Program} {ops : Array Oper} {Q : Exit → Act → World → Prop} {md : Region.Mode} {S : World → Prop} (i : Nat) (dst : Option Tmp) (v : Value) {oi : Oper} {fuel : Nat} {listed : Array Bool} {a : Act} {w : World} (hi : ops[i]? = some oi) (hd : oi.dst = dst)
    (hs : Region.noSelect ops = true) (hf : Region.free md ops listed i = true) (hr : (Region.ready md ops listed).contains i = true)
    (hQ : ∀ c a w, Q (.panic c) (a.put oi.dst v) w → Q (.panic c) a w) (hy : YieldsIf P ops S oi v a) (hS : S w)
    (h : wpAnyH P md ops Q S fuel (listed.setIfInBounds i true) (a.put dst v) w) : wpAnyH P md ops Q S (fuel + 1) listed a w := by
  subst hd
  exact wpAnyH_take hi hs hf hr hQ hy hS h
theorem only_row (w : World) (g : Nat) (C : Array Value) : w.grownBy (w.setRow g C) (some g) := by
  have hB := (But.refl [g] w).row (g := g) (.inl (List.mem_singleton.2 rfl)) C
  exact ⟨hB.os, hB.tape, hB.output, hB.size, fun i hi hn => hB.block i hi (fun hm => hn (by rw [List.mem_singleton.1 hm]))⟩
/-- what turned lies beyond what was there: only row stays named -/
theorem only_new {a w w' : World} {row : Option Nat} {g : Nat} (h : a.grownBy w row) (hb : w.grownBy w' (some g)) (hg : a.heap.size ≤ g) : a.grownBy w' row :=
  ⟨hb.os.trans h.os, hb.tape.trans h.tape, hb.output.trans h.output, Nat.le_trans h.size hb.size, fun i hi hne => (hb.block i (Nat.lt_of_lt_of_le hi h.size) (fun e => by injection e with e; omega)).trans (h.block i hi hne)⟩
end Go.Proofs.Ytajmdchidmamcaa.Ro
