/-
  Contracts of limit.Within and of package addr's Mask over this seat's translation.
-/
import Derived.Test.YtdofipjjodijcaaGreatDoorAdPure
import Derived.RegionTactic
import Derived.ChangeAlike
import Derived.Deep.MidRow
namespace Go.Proofs.YtdofipjjodijcaaGreatDoor.Ad
open Go.RowKit Go.Proofs.YtdofipjjodijcaaGreatDoor.Wd


theorem info16 : (Tryz.prog.info? 32).map (·.size) = some 16 := by kernel_rfl
theorem und16 : Tryz.prog.underlying 32 = some (.array 16 5) := by kernel_rfl
theorem cA_size (l : List UInt8) : (cA l).size = l.length := by simp [cellsOf_length]
theorem cA_one (l : List UInt8) : (cA l).all (·.oneCell') = true := all_oneCell_toArray (cellsOf_one l)
/-- a variable of n cells is loaded whole -/
theorem go_ld {ops : Array Oper} {rest : List Oper} {o : Oper} {a : Act} {w : World} {Q : Exit → Act → World → Prop} {x : Operand} {g t n : Nat} {C : Array Value} {d : TypeDesc} (ty : TypeId) (hb : Blk w g t C) (hu : Tryz.prog.underlying ty = some d)
    (hd : d.isRow = true) (hi : (Tryz.prog.info? ty).map (·.size) = some n) (hn : C.size = n) (hgd : o.guard = none) (ho : o.op = .load ty x)
    (hx : a.eval x = .pointer (some ⟨g, 0, none⟩)) (h : wpList Tryz.prog ops Q rest (a.put o.dst (.agg C)) w) : wpList Tryz.prog ops Q (o :: rest) a w :=
  wpList_load_row hgd ty x ho g hx t C (0, 0) d hb hu (by cases d <;> first | rfl | cases hd) (by rw [hi, hn]) h
/-- a variable of n cells is stored whole -/
theorem go_st {ops : Array Oper} {rest : List Oper} {o : Oper} {a : Act} {w : World} {Q : Exit → Act → World → Prop} {x y : Operand} {g t n : Nat} {C D : Array Value} (ty : TypeId) (hb : Blk w g t C)
    (hi : (Tryz.prog.info? ty).map (·.size) = some n) (hn : C.size = n) (hm : D.size = n) (h1 : D.all (·.oneCell') = true) (hgd : o.guard = none) (ho : o.op = .store ty x y)
    (hx : a.eval x = .pointer (some ⟨g, 0, none⟩)) (hy : a.eval y = .agg D) (h : wpList Tryz.prog ops Q rest (a.put o.dst undef) (w.setRow g D)) : wpList Tryz.prog ops Q (o :: rest) a w :=
  wpList_store_row hgd ty x y ho g D hx hy t C hb (by rw [hi, hm]) (by rw [hn, hm]) h1 h
/-- an address is loaded whole -/
theorem ld16 {w : World} {g : Nat} {t : TypeId} {l : List UInt8} (h : Blk w g t (cA l)) (hl : l.length = 16) :
    (Instr.loadAt 32 (.pointer (some ⟨g, 0, none⟩))).run Tryz.prog w = .ok (.agg (cA l)) w := by
  simp only [Instr.loadAt, Instr.sureAddr, Sem.run_bind, Sem.run_pure, Result.andThen_ok]
  exact run_loadVar_row w g t _ (cA l) (0, 0) _ h und16 rfl (by rw [info16, cA_size, hl])
theorem setRow_blk {w : World} {g : Nat} {t : TypeId} {old new : Array Value} (h : Blk w g t old) : Blk (w.setRow g new) g t new := by
  have h' : w.heap[g]? = some (.cells old t (0, 0)) := h
  have hg := h.lt
  unfold Blk
  simp only [World.setRow]
  rw [Array.getElem?_modify]
  simp [h']
theorem setRow_far {w : World} {g k : Nat} (hk : k ≠ g) (new : Array Value) : (w.setRow g new).heap[k]? = w.heap[k]? := by
  simp only [World.setRow]
  rw [Array.getElem?_modify, if_neg (fun e => hk e.symm)]
theorem setRow_below {B g : Nat} {a w : World} {t : TypeId} {old : Array Value} (h : Below B a w) (_hb : Blk w g t old) (hg : B ≤ g) (new : Array Value) : Below B a (w.setRow g new) := by
  refine ⟨h.os, h.tape, h.output, ?_, fun i hi => ?_⟩
  · have := h.size
    simpa [World.setRow] using this
  · rw [setRow_far (by omega)]
    exact h.block i hi

/-- the one result lies in a block that was stored whole -/
theorem ret_row {fn : Func} {p : Tmp} {ty t : TypeId} {a : Act} {w : World} {g n : Nat} {old C : Array Value} {d : TypeDesc} {R : Ending → World → Prop} (hf : fn.results = #[.cell p ty]) (hb : Blk w g t old) (hu : Tryz.prog.underlying ty = some d)
    (hd : d.isRow = true) (hi : (Tryz.prog.info? ty).map (·.size) = some n) (hn : C.size = n) (hp : a.tmps.getD p undef = .pointer (some ⟨g, 0, none⟩)) (h : R (.returned (.agg C)) (w.setRow g C)) (hdf : a.defers = []) : bodyPost Tryz.prog fn R .ret a (w.setRow g C) :=
  bodyPost_ret (results_cell_row hf _ _ g t C (0, 0) d hp (setRow_blk hb) hu (by cases d <;> first | rfl | cases hd) (by rw [hi, hn])) hdf h
theorem blk_at (w : World) (t : TypeId) (cs cs' : Array Value) (g : Nat) (hg : g = w.heap.size) (hc : cs = cs') : Blk (w.alloc (.cells cs t)) g t cs' := by
  subst hg hc
  exact Blk.new w t cs
theorem alloc_size (w : World) (o : Obj) : (w.alloc o).heap.size = w.heap.size + 1 := by simp

theorem cell_a {w : World} {g : Nat} {t : TypeId} {l : List UInt8} (h : Blk w g t (cA l)) (k : Nat) : w.cell? ⟨g, k, none⟩ = (l[k]?).map fun c => Value.int .u8 (c.toNat : Int) := by
  rw [h.cell]; simp [cellsOf]; rfl

/-- what Mask has laid behind k whole bytes -/
def rowM (a : List UInt8) (k : Nat) : List UInt8 := a.take k ++ List.replicate (16 - k) 0
theorem rowM_length {a : List UInt8} (ha : a.length = 16) {k : Nat} (hk : k ≤ 16) : (rowM a k).length = 16 := by simp [rowM, ha]; omega

theorem rowM_set {a : List UInt8} (ha : a.length = 16) {k : Nat} (hk : k < 16) (v : UInt8) : (rowM a k).set k v = a.take k ++ v :: List.replicate (15 - k) 0 := by
  rw [rowM, set_mid _ _ _ _ _ (by simp [ha]; omega) (by omega), show 16 - k - 1 = 15 - k by omega]
theorem rowM_next {a : List UInt8} (ha : a.length = 16) {k : Nat} (hk : k < 16) (c : UInt8) (hc : a[k]? = some c) : (rowM a k).set k c = rowM a (k + 1) := by
  rw [rowM_set ha hk, rowM, List.take_add_one, hc, show 16 - (k + 1) = 15 - k by omega]
  simp
theorem rowM_last {a : List UInt8} (ha : a.length = 16) {k : Nat} (hk : k < 16) (c : UInt8) (hc : a[k]? = some c) (m : Nat) (hm : m < 8) : (rowM a k).set k (maskB c m) = maskS a (8 * k + m) := by
  rw [rowM_set ha hk, maskS_at a k m c hc hm, ha, show 16 - k - 1 = 15 - k by omega]
theorem andNot_mask (c : UInt8) (m : Nat) (hm : m < 8) : bits .andNot .u8 (c.toNat : Int) (255 / 2 ^ m) = ((maskB c m).toNat : Int) := by
  have hc : c.toNat < 256 := c.toNat_lt
  have hd : ((255 : Int) / 2 ^ m) = ((255 / 2 ^ m : Nat) : Int) := by simp
  rw [hd, u8_andNot_nat c.toNat (255 / 2 ^ m) hc (Nat.lt_of_le_of_lt (Nat.div_le_self _ _) (by omega))]
  have hm' : ∀ m : Fin 8, (255 - 255 / 2 ^ m.1 : Nat) = (~~~((255 : UInt8) >>> UInt8.ofNat m.1)).toNat := by decide
  have := hm' ⟨m, hm⟩
  simp only at this
  rw [this, maskB, UInt8.toNat_and]

def MaskAt (a : List UInt8) (N : Nat) (w : World) (x i : Value) (w' : World) : Prop :=
  ∃ k m : Nat, k ≤ 16 ∧ 8 * k + m = N ∧ i = .int .i64 k ∧ x = .int .i64 (m : Int) ∧ Blk w' w.heap.size 32 (cA a) ∧ Blk w' (w.heap.size + 1) 32 (cA (List.replicate 16 0)) ∧
    Blk w' (w.heap.size + 2) 32 (cA (rowM a k)) ∧ Below w.heap.size w w'


end Go.Proofs.YtdofipjjodijcaaGreatDoor.Ad
