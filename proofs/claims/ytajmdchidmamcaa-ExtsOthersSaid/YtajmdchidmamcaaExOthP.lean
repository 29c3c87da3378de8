/-
  A row of extensions that came in, cut in two with one more between: as it lies in memory, and what is seen of it. Plain lemmas, no condition.
-/
import Derived.Test.YtajmdchidmamcaaExSee
import Derived.Test.YtajmdchidmamcaaHeFew
namespace Go.Proofs.Ytajmdchidmamcaa.Ex
open Go.RowKit Go.Proofs.Ytajmdchidmamcaa.Wd Go.Proofs.Ytajmdchidmamcaa.Be Go.Proofs.Ytajmdchidmamcaa.He Go.Proofs.Ytajmdchidmamcaa.Ro

/-- an extension -/
def elX : El Xt := ⟨53, 2, fun x => [.int .i64 x.kind, .slice x.A x.n x.c]⟩
theorem fineX : elX.Fine 42 (.agg #[.int .i64 0, .slice none 0 0]) 32 := ⟨Try.underlying42, by kernel_rfl, rfl, Nat.two_pos, fun _ => rfl, fun x v h => by
  simp [elX] at h; rcases h with rfl | rfl <;> rfl⟩
theorem srcE_of {w : World} {A : Option Addr} {l : List Xt} (h : SrcX w A l) : SrcE w elX A l := fun i x hx => by
  obtain ⟨_, g, o, hA, hg, h0, h1⟩ := h i x hx
  refine ⟨g, o, hA, hg, fun j v hv => ?_⟩
  match j, hv with
  | 0, hv => injection hv with hv; subst hv; exact h0
  | 1, hv => injection hv with hv; subst hv; rw [show o + (i * elX.n + 1) = o + i * 2 + 1 by show o + (i * 2 + 1) = _; omega]; exact h1
  | j + 2, hv => simp [elX] at hv
theorem srcX_of {w : World} {A : Option Addr} {l : List Xt} (h : SrcE w elX A l) (hok : ∀ x ∈ l, x.Ok w) : SrcX w A l := fun i x hx => by
  obtain ⟨g, o, hA, hg, hc⟩ := h i x hx
  exact ⟨hok x (List.mem_of_getElem? hx), g, o, hA, hg, hc 0 _ rfl, by have := hc 1 _ rfl; rwa [show o + (i * elX.n + 1) = o + i * 2 + 1 by show o + (i * 2 + 1) = _; omega] at this⟩
theorem SrcX.oks {w : World} {A : Option Addr} {l : List Xt} (h : SrcX w A l) : ∀ x ∈ l, x.Ok w := fun x hx => by
  obtain ⟨i, hi⟩ := List.mem_iff_getElem?.1 hx
  exact (h i x hi).1
/-- the address of a cut -/
def slidX (A : Option Addr) (c k : Nat) : Option Addr := if c = k then A else A.map (·.add (k * 2))
theorem SrcE.take_ {w : World} {A : Option Addr} {l : List Xt} (h : SrcE w elX A l) (k : Nat) : SrcE w elX A (l.take k) := fun i x hx => by
  rw [List.getElem?_take] at hx
  split at hx
  · exact h i x hx
  · cases hx
theorem SrcE.drop_ {w : World} {A : Option Addr} {l : List Xt} (h : SrcE w elX A l) {c k : Nat} (hl : l.length ≤ c) : SrcE w elX (slidX A c k) (l.drop k) := fun i x hx => by
  rw [List.getElem?_drop] at hx
  have hlt := (List.getElem?_eq_some_iff.1 hx).1
  obtain ⟨g, o, rfl, hg, hc⟩ := h (k + i) x hx
  refine ⟨g, o + k * 2, ?_, hg, fun j v hv => ?_⟩
  · unfold slidX
    rw [if_neg (by omega)]
    show some ((⟨g, o, none⟩ : Addr).add (k * 2)) = _
    rw [add_flat]
  · have := hc j v hv
    rwa [show o + ((k + i) * elX.n + j) = o + k * 2 + (i * elX.n + j) by show o + ((k + i) * 2 + j) = o + k * 2 + (i * 2 + j); omega] at this
theorem slice_toX {A : Option Addr} (n c h : Nat) (w : World) (hh : h ≤ c) :
    (Instr.sliceAt 42 (.slice A n c) none (some (.int .i64 (h : Int))) none).run Try.prog w = .ok (.slice A h c) w := by
  simp [Instr.sliceAt, Instr.slice, run_underlying Try.underlying42, Instr.sliceBounds, run_sliceBound, (by omega : (h : Int) ≤ (c : Int)), Addr.add]
theorem slice_fromX {A : Option Addr} (n c k : Nat) (w : World) (hk : k ≤ n) :
    (Instr.sliceAt 42 (.slice A n c) (some (.int .i64 (k : Int))) none none).run Try.prog w = .ok (.slice (slidX A c k) (n - k) (c - k)) w := by
  simp [Instr.sliceAt, Instr.slice, run_underlying Try.underlying42, Instr.sliceBounds, run_sliceBound, slidX, (by omega : (k : Int) ≤ (n : Int))]
/-- append of nothing -/
theorem run_app_none (w : World) (A B : Option Addr) (n c d : Nat) (ty : TypeId) (hn : n ≤ c) :
    (Builtin.append_ #[42, 42] ty #[.slice A n c, .slice B 0 d]).run Try.prog w = .ok (.slice A n c) w := by
  have h1 : ∀ w, (sizeOf 53).run Try.prog w = .ok 2 w := fun w => by kernel_rfl
  have h2 : ∀ (a : Addr) (w : World), (loadCellsFrom a 0 0 #[]).run Try.prog w = .ok #[] w := fun _ _ => rfl
  cases A <;> cases B <;> simp [Builtin.append_, run_underlying Try.underlying42, h1, h2, Builtin.lenOf, Builtin.firstCells, hn, loadCells, storeCells]
/-- append of a row, be it empty -/
theorem run_appX {w : World} {B : Nat} {v : Value} {l m : List Xt} (hown : OwnE w elX B v l) {A : Option Addr} {c : Nat} (hs : SrcE w elX A m) (hlen : l.length + m.length ≤ 100000) (hB : B ≤ w.heap.size) (ty : TypeId) :
    ∃ v' w', (Builtin.append_ #[42, 42] ty #[v, .slice A m.length c]).run Try.prog w = .ok v' w' ∧ OwnE w' elX B v' (l ++ m) ∧ w.grownBy w' v.ownBlock := by
  cases m with
  | nil =>
    obtain ⟨A', c', rfl, h1, _, _⟩ := hown.src fineX
    refine ⟨_, w, run_app_none w A' A l.length c' c ty h1, ?_, only_refl w _⟩
    rw [List.append_nil]
    exact hown
  | cons x m =>
    obtain ⟨v', w', h1, h2, h3, _⟩ := run_appE fineX hown (c := c) hs (by omega) (by decide) hB ty (fun _ _ => hB) (by simp)
    exact ⟨v', w', h1, h2, h3⟩
theorem wpList_appXX {ops : Array Oper} {rest : List Oper} {o : Oper} {a : Act} {w : World} {Q : Exit → Act → World → Prop} (hgd : o.guard = none) (s x : Operand)
    (ho : o.op = .call { callee := .builtin .append, args := #[s, x], argTypes := #[42, 42] })
    (B : Nat) (v : Value) (l : List Xt) (hs : a.eval s = v) (hown : OwnE w elX B v l) (A : Option Addr) (n c : Nat) (m : List Xt) (hx : a.eval x = .slice A n c) (hn : n = m.length) (hsrc : SrcE w elX A m)
    (hlen : l.length + m.length ≤ 100000) (hB : B ≤ w.heap.size)
    (h : ∀ v' w', Hid (OwnE w' elX B v' (l ++ m)) → Hid (w.grownBy w' v.ownBlock) → wpList Try.prog ops Q rest (a.put o.dst v') w') : wpList Try.prog ops Q (o :: rest) a w := by
  subst hn
  obtain ⟨v', w', hrun, h2, h3⟩ := run_appX hown (c := c) hsrc hlen hB o.type
  refine wpList_plain hgd fun K hK => ?_
  unfold Oper.wp execOp
  simp only [ho, resolve, invoke, builtin, Sem.run_bind, Sem.run_pure, Result.andThen_ok, List.map_toArray, List.map_cons, List.map_nil, hs, hx, hrun]
  exact hK _ _ (h v' w' (Lib.hid h2) (Lib.hid h3))
theorem wp_appXX {o : Oper} {a : Act} {w : World} {K : Act → World → Prop} {Q : Exit → Act → World → Prop} (s x : Operand)
    (ho : o.op = .call { callee := .builtin .append, args := #[s, x], argTypes := #[42, 42] })
    (B : Nat) (v : Value) (l : List Xt) (hs : a.eval s = v) (hown : OwnE w elX B v l) (A : Option Addr) (n c : Nat) (m : List Xt) (hx : a.eval x = .slice A n c) (hn : n = m.length) (hsrc : SrcE w elX A m)
    (hlen : l.length + m.length ≤ 100000) (hB : B ≤ w.heap.size)
    (h : ∀ v' w', Hid (OwnE w' elX B v' (l ++ m)) → Hid (w.grownBy w' v.ownBlock) → K (a.put o.dst v') w') : Oper.wp Try.prog o a w K Q := by
  subst hn
  obtain ⟨v', w', hrun, h2, h3⟩ := run_appX hown (c := c) hsrc hlen hB o.type
  unfold Oper.wp execOp
  simp only [ho, resolve, invoke, builtin, Sem.run_bind, Sem.run_pure, Result.andThen_ok, List.map_toArray, List.map_cons, List.map_nil, hs, hx, hrun]
  exact h v' w' (Lib.hid h2) (Lib.hid h3)
/-- another row of extensions in a hello -/
theorem C_ext {H : Hv} (h : H.rnd.length = 32) (A : Option Addr) (c : Nat) (l : List Xt) : H.C.setIfInBounds 37 (.slice A l.length c) = ({ H with xA := A, xc := c, xs := l } : Hv).C := by
  have e : H.C.setIfInBounds 37 (.slice A l.length c) = (H.L.set 37 (.slice A l.length c)).toArray := by simp [Hv.C]
  rw [e, show 37 = (32 + 4) + 1 by omega, Hv.L, List.set_cons_succ, List.set_append_right _ _ (by rw [cellsOf_length]; omega), cellsOf_length, h, show 32 + 4 - 32 = 4 by omega]
  rfl

/-- extensions of other kinds do not matter -/
theorem findL_other (l m : List (Int × List UInt8)) (x : Int × List UInt8) (kind : Int) (h : x.1 ≠ kind) : findL (l ++ x :: m) kind = findL (l ++ m) kind := by
  induction l with
  | nil => show findL (x :: m) kind = findL m kind; rw [findL, if_neg h]
  | cons y l ih => show findL (y :: (l ++ x :: m)) kind = findL (y :: (l ++ m)) kind; rw [findL, findL, ih]
theorem see_other (l m : List (Int × List UInt8)) (x : Int × List UInt8) (h0 : x.1 ≠ 0) (h1 : x.1 ≠ 16) (h2 : x.1 ≠ 43) (h3 : x.1 ≠ 65037) : seeS (l ++ x :: m) = seeS (l ++ m) := by
  unfold seeS errS
  rw [findL_other l m x 0 h0, findL_other l m x 16 h1, findL_other l m x 43 h2, findL_other l m x 65037 h3]
theorem see_put {xs : List Xt} {k : Nat} {y : Xt} (h0 : y.kind ≠ 0) (h1 : y.kind ≠ 16) (h2 : y.kind ≠ 43) (h3 : y.kind ≠ 65037) : seeS ((xs.take k ++ [y] ++ xs.drop k).map ext) = seeS (xs.map ext) := by
  have e : (xs.take k ++ [y] ++ xs.drop k).map ext = (xs.take k).map ext ++ ext y :: (xs.drop k).map ext := by simp
  rw [e, see_other _ _ (ext y) h0 h1 h2 h3, ← List.map_append, List.take_append_drop]
end Go.Proofs.Ytajmdchidmamcaa.Ex
