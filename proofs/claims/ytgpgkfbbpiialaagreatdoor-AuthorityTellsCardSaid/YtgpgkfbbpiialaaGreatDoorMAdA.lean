/-
  Plain facts on addresses and Cidrs, used by the contracts of packages addr and cidr. No condition.
-/
import Derived.Test.YtgpgkfbbpiialaaGreatDoorWords
import Derived.RegionTactic
import Derived.ChangeAlike
import Derived.Deep.MidRow
import Derived.BigQuiet
import Derived.DeepKeys
import Derived.ChangeKeysEq
import Derived.Deep.QuietTactic
import Derived.Laws.CopyOwn
import Derived.Deep.RegionHeld3
namespace Go.Proofs.YtgpgkfbbpiialaaGreatDoor.Ad
open Go Go.Proofs.YtgpgkfbbpiialaaGreatDoor.Wd

def withinI (n lo hi : Int) : Int := if n < lo then lo else if hi < n then hi else n
/-- how many bits count -/
def bitN (n : Int) : Nat := (withinI n 0 128).toNat
theorem bitN_is (n : Int) : withinI n 0 128 = (bitN n : Int) := by
  unfold bitN
  have : 0 ≤ withinI n 0 128 := by unfold withinI; split <;> (try split) <;> omega
  omega
theorem bitN_le (n : Int) : bitN n ≤ 128 := by unfold bitN withinI; split <;> (try split) <;> omega
theorem bitN_mono {n m : Int} (h : m ≤ n) : bitN m ≤ bitN n := by
  unfold bitN withinI; repeat' split
  all_goals omega
theorem bitN_nat {k : Nat} (h : k ≤ 128) : bitN (k : Int) = k := by
  unfold bitN withinI; repeat' split
  all_goals omega
theorem bitN_self (n : Int) : bitN (bitN n : Int) = bitN n := bitN_nat (bitN_le n)

/-- the first n bits of a byte -/
def maskB (c : UInt8) (n : Nat) : UInt8 := c &&& ~~~(255 >>> UInt8.ofNat n)
/-- the first n bits of bytes, all others 0 -/
def maskS : List UInt8 → Nat → List UInt8
  | [], _ => []
  | c :: r, n => if n < 8 then maskB c n :: List.replicate r.length 0 else c :: maskS r (n - 8)

theorem maskS_length : ∀ (l : List UInt8) (n : Nat), (maskS l n).length = l.length
  | [], _ => rfl
  | c :: r, n => by
    unfold maskS
    split
    · simp
    · simp [maskS_length r]
theorem maskB_zero (c : UInt8) : maskB c 0 = 0 := by
  unfold maskB
  rw [show ~~~((255 : UInt8) >>> UInt8.ofNat 0) = 0 by decide]
  simp
theorem maskS_zero : ∀ (l : List UInt8), maskS l 0 = List.replicate l.length 0
  | [] => rfl
  | c :: r => by
    unfold maskS
    rw [if_pos (by omega), maskB_zero]
    rfl
theorem maskS_all : ∀ (l : List UInt8) (n : Nat), 8 * l.length ≤ n → maskS l n = l
  | [], _, _ => rfl
  | c :: r, n, h => by
    unfold maskS
    simp only [List.length_cons] at h
    rw [if_neg (by omega), maskS_all r (n - 8) (by omega)]
theorem maskB_tab : ∀ n : Fin 8, ∀ m : Fin 8, m ≤ n → (~~~((255 : UInt8) >>> UInt8.ofNat n.1)) &&& (~~~((255 : UInt8) >>> UInt8.ofNat m.1)) = ~~~((255 : UInt8) >>> UInt8.ofNat m.1) := by decide
theorem maskB_less (c : UInt8) {n m : Nat} (hn : n < 8) (h : m ≤ n) : maskB (maskB c n) m = maskB c m := by
  unfold maskB
  rw [UInt8.and_assoc, maskB_tab ⟨n, hn⟩ ⟨m, by omega⟩ h]
theorem maskS_rep (k n : Nat) : maskS (List.replicate k 0) n = List.replicate k 0 := by
  induction k generalizing n with
  | zero => rfl
  | succ k ih =>
    rw [List.replicate_succ]
    unfold maskS
    split
    · rw [show maskB 0 n = 0 by simp [maskB]]
      simp
    · rw [ih]
theorem maskS_less : ∀ (l : List UInt8) {n m : Nat}, m ≤ n → maskS (maskS l n) m = maskS l m
  | [], _, _, _ => rfl
  | c :: r, n, m, h => by
    by_cases hn : n < 8
    · rw [maskS, if_pos hn, maskS, if_pos (by omega), maskS, if_pos (by omega), maskB_less c hn h, List.length_replicate]
    · rw [maskS, if_neg hn, maskS]
      by_cases hm : m < 8
      · rw [if_pos hm, maskS, if_pos hm, maskS_length]
      · rw [if_neg hm, maskS, if_neg hm, maskS_less r (by omega)]

theorem maskS_at : ∀ (l : List UInt8) (k m : Nat) (c : UInt8), l[k]? = some c → m < 8 → maskS l (8 * k + m) = l.take k ++ maskB c m :: List.replicate (l.length - k - 1) 0
  | [], k, m, c, h, _ => by simp at h
  | d :: r, 0, m, c, h, hm => by
    simp at h
    subst h
    unfold maskS
    rw [if_pos (by omega)]
    simp
  | d :: r, k + 1, m, c, h, hm => by
    unfold maskS
    rw [if_neg (by omega), show 8 * (k + 1) + m - 8 = 8 * k + m by omega, maskS_at r k m c (by simpa using h) hm]
    simp

/-- the bytes of an array as its cells -/
abbrev cA (l : List UInt8) : Array Value := (cellsOf l).toArray
theorem cA_set (l : List UInt8) (k : Nat) (v : UInt8) : (cA l).setIfInBounds k (Value.int .u8 (v.toNat : Int)) = cA (l.set k v) := by
  apply Array.ext'
  simp [cellsOf, List.map_set, b8]
theorem set_mid {α : Type} (l : List α) (k n : Nat) (z v : α) (hk : l.length = k) (hn : 0 < n) : (l ++ List.replicate n z).set k v = l ++ v :: List.replicate (n - 1) z := by
  subst hk
  rw [List.set_append_right _ _ (Nat.le_refl _), Nat.sub_self]
  cases n with
  | zero => omega
  | succ n => simp [List.replicate_succ]
/-- a Cidr: its bytes, its bits -/
structure C where
  a : List UInt8
  n : Int
deriving DecidableEq
def C.cells (c : C) : Array Value := (cellsOf c.a ++ [Value.int .i64 c.n]).toArray
def ofS (a : List UInt8) (n : Int) : C := ⟨maskS a (bitN n), bitN n⟩
def rightS (c : C) : Bool := c == ofS c.a c.n
def hasS (c : C) (a : List UInt8) : Bool := rightS c && c.a == maskS a (bitN c.n)
end Go.Proofs.YtgpgkfbbpiialaaGreatDoor.Ad

/-
  Contracts of limit.Within and of package addr's Mask over this seat's translation.
-/
namespace Go.Proofs.YtgpgkfbbpiialaaGreatDoor.Ad
open Go.RowKit Go.Proofs.YtgpgkfbbpiialaaGreatDoor.Wd


theorem info16 : (Tryz.prog.info? 63).map (·.size) = some 16 := by kernel_rfl
theorem und16 : Tryz.prog.underlying 63 = some (.array 16 5) := by kernel_rfl
theorem cA_size (l : List UInt8) : (cA l).size = l.length := by simp [cellsOf_length]
theorem cA_one (l : List UInt8) : (cA l).all (·.oneCell') = true := all_oneCell_toArray (cellsOf_one l)
/-- a variable of n cells is loaded whole -/
theorem go_ld {ops : Array Oper} {rest : List Oper} {o : Oper} {a : Act} {w : World} {Q : Exit → Act → World → Prop} {x : Operand} {g t n : Nat} {C : Array Value} {d : TypeDesc} (ty : TypeId) (hb : Blk w g t C) (hu : Tryz.prog.underlying ty = some d)
    (hd : d.isRow = true) (hi : (Tryz.prog.info? ty).map (·.size) = some n) (hn : C.size = n) (hgd : o.guard = none) (ho : o.op = .load ty x)
    (hx : a.eval x = .pointer (some ⟨g, 0, none⟩)) (h : wpList Tryz.prog ops Q rest (a.put o.dst (.agg C)) w) : wpList Tryz.prog ops Q (o :: rest) a w :=
  wpList_load_row hgd ty x ho g hx t C (0, 0) d hb hu (by cases d <;> first | rfl | cases hd) (by rw [hi, hn]) h
/-- a variable of n cells is stored whole -/
theorem go_st {ops : Array Oper} {rest : List Oper} {o : Oper} {a : Act} {w : World} {Q : Exit → Act → World → Prop} {x y : Operand} {g t n : Nat} {C D : Array Value} (ty : TypeId) (hb : Blk w g t C)
    (hi : (Tryz.prog.info? ty).map (·.size) = some n) (hn : C.size = n) (hm : D.size = n) (h1 : D.all (·.oneCell') = true) (hgd : o.guard = none) (ho : o.op = .store ty x y)
    (hx : a.eval x = .pointer (some ⟨g, 0, none⟩)) (hy : a.eval y = .agg D) (h : wpList Tryz.prog ops Q rest (a.put o.dst undef) (w.setRow g D)) : wpList Tryz.prog ops Q (o :: rest) a w :=
  wpList_store_row hgd ty x y ho g D hx hy t C hb (by rw [hi, hm]) (by rw [hn, hm]) h1 h
/-- an address is loaded whole -/
theorem ld16 {w : World} {g : Nat} {t : TypeId} {l : List UInt8} (h : Blk w g t (cA l)) (hl : l.length = 16) :
    (Instr.loadAt 63 (.pointer (some ⟨g, 0, none⟩))).run Tryz.prog w = .ok (.agg (cA l)) w := by
  simp only [Instr.loadAt, Instr.sureAddr, Sem.run_bind, Sem.run_pure, Result.andThen_ok]
  exact run_loadVar_row w g t _ (cA l) (0, 0) _ h und16 rfl (by rw [info16, cA_size, hl])
theorem setRow_blk {w : World} {g : Nat} {t : TypeId} {old new : Array Value} (h : Blk w g t old) : Blk (w.setRow g new) g t new := by
  have h' : w.heap[g]? = some (.cells old t (0, 0)) := h
  have hg := h.lt
  unfold Blk
  simp only [World.setRow]
  rw [Array.getElem?_modify]
  simp [h']
theorem setRow_far {w : World} {g k : Nat} (hk : k ≠ g) (new : Array Value) : (w.setRow g new).heap[k]? = w.heap[k]? := by
  simp only [World.setRow]
  rw [Array.getElem?_modify, if_neg (fun e => hk e.symm)]
theorem setRow_below {B g : Nat} {a w : World} {t : TypeId} {old : Array Value} (h : Below B a w) (_hb : Blk w g t old) (hg : B ≤ g) (new : Array Value) : Below B a (w.setRow g new) := by
  refine ⟨h.os, h.tape, h.output, ?_, fun i hi => ?_⟩
  · have := h.size
    simpa [World.setRow] using this
  · rw [setRow_far (by omega)]
    exact h.block i hi

/-- the one result lies in a block that was stored whole -/
theorem ret_row {fn : Func} {p : Tmp} {ty t : TypeId} {a : Act} {w : World} {g n : Nat} {old C : Array Value} {d : TypeDesc} {R : Ending → World → Prop} (hf : fn.results = #[.cell p ty]) (hb : Blk w g t old) (hu : Tryz.prog.underlying ty = some d)
    (hd : d.isRow = true) (hi : (Tryz.prog.info? ty).map (·.size) = some n) (hn : C.size = n) (hp : a.tmps.getD p undef = .pointer (some ⟨g, 0, none⟩)) (h : R (.returned (.agg C)) (w.setRow g C)) (hdf : a.defers = []) : bodyPost Tryz.prog fn R .ret a (w.setRow g C) :=
  bodyPost_ret (results_cell_row hf _ _ g t C (0, 0) d hp (setRow_blk hb) hu (by cases d <;> first | rfl | cases hd) (by rw [hi, hn])) hdf h
theorem blk_at (w : World) (t : TypeId) (cs cs' : Array Value) (g : Nat) (hg : g = w.heap.size) (hc : cs = cs') : Blk (w.alloc (.cells cs t)) g t cs' := by
  subst hg hc
  exact Blk.new w t cs
theorem alloc_size (w : World) (o : Obj) : (w.alloc o).heap.size = w.heap.size + 1 := by simp

theorem cell_a {w : World} {g : Nat} {t : TypeId} {l : List UInt8} (h : Blk w g t (cA l)) (k : Nat) : w.cell? ⟨g, k, none⟩ = (l[k]?).map fun c => Value.int .u8 (c.toNat : Int) := by
  rw [h.cell]; simp [cellsOf]; rfl

/-- what Mask has laid behind k whole bytes -/
def rowM (a : List UInt8) (k : Nat) : List UInt8 := a.take k ++ List.replicate (16 - k) 0
theorem rowM_length {a : List UInt8} (ha : a.length = 16) {k : Nat} (hk : k ≤ 16) : (rowM a k).length = 16 := by simp [rowM, ha]; omega

theorem rowM_set {a : List UInt8} (ha : a.length = 16) {k : Nat} (hk : k < 16) (v : UInt8) : (rowM a k).set k v = a.take k ++ v :: List.replicate (15 - k) 0 := by
  rw [rowM, set_mid _ _ _ _ _ (by simp [ha]; omega) (by omega), show 16 - k - 1 = 15 - k by omega]
theorem rowM_next {a : List UInt8} (ha : a.length = 16) {k : Nat} (hk : k < 16) (c : UInt8) (hc : a[k]? = some c) : (rowM a k).set k c = rowM a (k + 1) := by
  rw [rowM_set ha hk, rowM, List.take_add_one, hc, show 16 - (k + 1) = 15 - k by omega]
  simp
theorem rowM_last {a : List UInt8} (ha : a.length = 16) {k : Nat} (hk : k < 16) (c : UInt8) (hc : a[k]? = some c) (m : Nat) (hm : m < 8) : (rowM a k).set k (maskB c m) = maskS a (8 * k + m) := by
  rw [rowM_set ha hk, maskS_at a k m c hc hm, ha, show 16 - k - 1 = 15 - k by omega]
theorem andNot_mask (c : UInt8) (m : Nat) (hm : m < 8) : bits .andNot .u8 (c.toNat : Int) (255 / 2 ^ m) = ((maskB c m).toNat : Int) := by
  have hc : c.toNat < 256 := c.toNat_lt
  have hd : ((255 : Int) / 2 ^ m) = ((255 / 2 ^ m : Nat) : Int) := by simp
  rw [hd, u8_andNot_nat c.toNat (255 / 2 ^ m) hc (Nat.lt_of_le_of_lt (Nat.div_le_self _ _) (by omega))]
  have hm' : ∀ m : Fin 8, (255 - 255 / 2 ^ m.1 : Nat) = (~~~((255 : UInt8) >>> UInt8.ofNat m.1)).toNat := by decide
  have := hm' ⟨m, hm⟩
  simp only at this
  rw [this, maskB, UInt8.toNat_and]

def MaskAt (a : List UInt8) (N : Nat) (w : World) (x i : Value) (w' : World) : Prop :=
  ∃ k m : Nat, k ≤ 16 ∧ 8 * k + m = N ∧ i = .int .i64 k ∧ x = .int .i64 (m : Int) ∧ Blk w' w.heap.size 63 (cA a) ∧ Blk w' (w.heap.size + 1) 63 (cA (List.replicate 16 0)) ∧
    Blk w' (w.heap.size + 2) 63 (cA (rowM a k)) ∧ Below w.heap.size w w'


end Go.Proofs.YtgpgkfbbpiialaaGreatDoor.Ad

/-
  Contracts of package cidr's Of, Right and Has over this seat's translation.
-/
namespace Go.Proofs.YtgpgkfbbpiialaaGreatDoor.Ad
open Go.RowKit Go.Proofs.YtgpgkfbbpiialaaGreatDoor.Wd

theorem list16 {α : Type} {l : List α} (h : l.length = 16) : ∃ a0 a1 a2 a3 a4 a5 a6 a7 a8 a9 b0 b1 b2 b3 b4 b5 : α, l = [a0, a1, a2, a3, a4, a5, a6, a7, a8, a9, b0, b1, b2, b3, b4, b5] := by
  match l, h with
  | [a0, a1, a2, a3, a4, a5, a6, a7, a8, a9, b0, b1, b2, b3, b4, b5], _ => exact ⟨a0, a1, a2, a3, a4, a5, a6, a7, a8, a9, b0, b1, b2, b3, b4, b5, rfl⟩
theorem C_size (c : C) (h : c.a.length = 16) : c.cells.size = 17 := by simp [C.cells, cellsOf_length, h]
theorem C_one (c : C) : c.cells.all (·.oneCell') = true := all_oneCell_toArray (fun v hv => by
  rcases List.mem_append.1 hv with h | h
  · exact cellsOf_one _ v h
  · simp at h; subst h; rfl)

theorem C_zero : C.cells ⟨List.replicate 16 0, 0⟩ = #[Value.int .u8 0, .int .u8 0, .int .u8 0, .int .u8 0, .int .u8 0, .int .u8 0, .int .u8 0, .int .u8 0, .int .u8 0, .int .u8 0, .int .u8 0, .int .u8 0, .int .u8 0, .int .u8 0, .int .u8 0, .int .u8 0, .int .i64 0] := rfl
theorem ofS_len (a : List UInt8) (n : Int) : (ofS a n).a.length = a.length := maskS_length _ _


theorem plain8 : Tryz.prog.plainKey 5 = true := by kernel_rfl
theorem cells8 : Tryz.prog.cellsOf 5 = 1 := by kernel_rfl
theorem items8 (d : Nat) (c e : List UInt8) (w : World) : ∀ is : List Nat, (∀ i ∈ is, i < c.length ∧ i < e.length) → (Op.eqItems (d + 1) 5 1 (cA c) (cA e) is).run Tryz.prog w = .ok (is.all fun i => c[i]? == e[i]?) w
  | [], _ => rfl
  | i :: is, h => by
    obtain ⟨h1, h2⟩ := h i (by simp)
    have x1 : (cA c)[i]? = some (b8 c[i]) := by simp [cellsOf, h1]
    have x2 : (cA e)[i]? = some (b8 e[i]) := by simp [cellsOf, h2]
    have hq : (Op.equalIn (d + 1) 5 (b8 c[i]) (b8 e[i])).run Tryz.prog w = .ok (c[i] == e[i]) w := by
      have hb : (c[i] == e[i]) = ((c[i].toNat : Int) == (e[i].toNat : Int)) := by
        by_cases hce : c[i] = e[i]
        · rw [hce]; simp
        · have : ¬ c[i].toNat = e[i].toNat := fun k => hce (UInt8.toNat.inj k)
          have hn : ¬ (c[i].toNat : Int) = (e[i].toNat : Int) := by omega
          rw [beq_eq_false_iff_ne.2 hce, beq_eq_false_iff_ne.2 hn]
      rw [hb]
      exact run_equalIn_int w d _ .u8 .u8 _ _ Tryz.underlying5
    simp only [Op.eqItems, Sem.run_bind, Nat.mul_one, run_part_plain w plain8 x1, run_part_plain w plain8 x2, Result.andThen_ok, hq]
    rw [List.all_cons, List.getElem?_eq_getElem h1, List.getElem?_eq_getElem h2]
    cases hce : c[i] == e[i]
    · have : (some c[i] == some e[i]) = false := by simpa using hce
      rw [this]; simp
    · have : (some c[i] == some e[i]) = true := by simpa using hce
      rw [this]
      simpa using items8 d c e w is (fun j hj => h j (by simp [hj]))
theorem all_range {c e : List UInt8} {n : Nat} (hc : c.length = n) (he : e.length = n) : ((List.range n).all fun i => c[i]? == e[i]?) = (c == e) := by
  rw [Bool.eq_iff_iff, List.all_eq_true, beq_iff_eq]
  constructor
  · intro h
    apply List.ext_getElem?
    intro i
    by_cases hi : i < n
    · exact beq_iff_eq.1 (h i (by simpa using hi))
    · rw [List.getElem?_eq_none (by omega), List.getElem?_eq_none (by omega)]
  · rintro rfl i _
    simp
theorem info8 : ∃ i, Tryz.prog.info? 5 = some i := by
  cases h : Tryz.prog.info? 5 with
  | none => have : (Tryz.prog.info? 5).isSome = true := by kernel_rfl
            rw [h] at this; cases this
  | some i => exact ⟨i, rfl⟩
theorem eqIn16 (d : Nat) (c e : List UInt8) (hc : c.length = 16) (he : e.length = 16) (w : World) : (Op.equalIn (d + 2) 63 (.agg (cA c)) (.agg (cA e))).run Tryz.prog w = .ok (c == e) w := by
  obtain ⟨i8, hi8⟩ := info8
  rw [run_equalIn_array w (d + 1) (cA c) (cA e) und16 hi8, cells8, items8 d c e w _ (fun i hi => by simp at hi; omega), all_range hc he]
/-- '==' of two addresses -/
theorem eql16 (c e : List UInt8) (hc : c.length = 16) (he : e.length = 16) (w : World) : (binOp .eql 63 (.agg (cA c)) (.agg (cA e))).run Tryz.prog w = .ok (.bool (c == e)) w := by
  rw [run_eql_struct, eqIn16 9998 c e hc he w]; rfl
theorem part_row {c : C} (hc : c.a.length = 16) (w : World) : (part 63 c.cells 0).run Tryz.prog w = .ok (.agg (cA c.a)) w := by
  have hagg : (isAgg 63).run Tryz.prog w = .ok true w := by
    unfold isAgg
    rw [Sem.run_bind, run_underlying und16 w]
    rfl
  cases hq : Tryz.prog.info? 63 with
  | none => have := info16; rw [hq] at this; cases this
  | some i =>
    have hs : i.size = 16 := by have := info16; rw [hq] at this; simpa using this
    simp [part, Sem.run_bind, hagg, sizeOf, typeInfo, hq, hs]
    apply Array.ext'
    simp [C.cells, cellsOf_length, hc]
theorem part_bits {c : C} (hc : c.a.length = 16) (w : World) : (part 3 c.cells 16).run Tryz.prog w = .ok (.int .i64 c.n) w :=
  run_part_plain w (by kernel_rfl) (by simp [C.cells, cellsOf_length, hc])
theorem C_beq (c d : C) : (c == d) = (c.a == d.a && c.n == d.n) := by
  rw [Bool.eq_iff_iff, Bool.and_eq_true, beq_iff_eq, beq_iff_eq, beq_iff_eq]
  constructor
  · rintro rfl; exact ⟨rfl, rfl⟩
  · intro ⟨h1, h2⟩; cases c; cases d; simp_all
theorem eqFields17 (k : Nat) (f g : Field) (f1 : f.type = 63) (f2 : f.offset = 0) (f3 : f.name ≠ "_") (g1 : g.type = 3) (g2 : g.offset = 16) (g3 : g.name ≠ "_") (c d : C) (hc : c.a.length = 16) (hd : d.a.length = 16) (w : World) : (Op.eqFields (k + 2) c.cells d.cells [f, g]).run Tryz.prog w = .ok (c.a == d.a && c.n == d.n) w := by
  have p1 : (part f.type c.cells f.offset).run Tryz.prog w = .ok (.agg (cA c.a)) w := by rw [f1, f2]; exact part_row hc w
  have p2 : (part f.type d.cells f.offset).run Tryz.prog w = .ok (.agg (cA d.a)) w := by rw [f1, f2]; exact part_row hd w
  have p3 : (Op.equalIn (k + 2) f.type (.agg (cA c.a)) (.agg (cA d.a))).run Tryz.prog w = .ok (c.a == d.a) w := by rw [f1]; exact eqIn16 k c.a d.a hc hd w
  have q1 : (part g.type c.cells g.offset).run Tryz.prog w = .ok (.int .i64 c.n) w := by rw [g1, g2]; exact part_bits hc w
  have q2 : (part g.type d.cells g.offset).run Tryz.prog w = .ok (.int .i64 d.n) w := by rw [g1, g2]; exact part_bits hd w
  have q3 : (Op.equalIn (k + 2) g.type (.int .i64 c.n) (.int .i64 d.n)).run Tryz.prog w = .ok (c.n == d.n) w := by rw [g1]; exact run_equalIn_int w (k + 1) _ .i64 .i64 c.n d.n Tryz.underlying3
  clear f1 f2 g1 g2
  generalize k + 2 = K at *
  generalize (Value.agg (cA c.a)) = A1 at *
  generalize (Value.agg (cA d.a)) = A2 at *
  generalize (c.a == d.a) = r1 at *
  generalize (c.n == d.n) = r2 at *
  simp only [Op.eqFields, f3, g3, ne_eq, not_false_eq_true, if_true, Sem.run_bind, p1, p2, p3, Result.andThen_ok]
  cases r1
  · simp
  · simp only [Bool.not_true, Bool.false_eq_true, if_false, Sem.run_bind, q1, q2, q3, Result.andThen_ok, Bool.true_and]
    cases r2 <;> simp

theorem ld17a {w : World} {g t : Nat} {c : C} (h : Blk w g t c.cells) (hc : c.a.length = 16) :
    (Instr.loadAt 63 (.pointer (some ⟨g, 0, none⟩))).run Tryz.prog w = .ok (.agg (cA c.a)) w :=
  run_loadAt_mid w g 0 _ (cellsOf c.a) _ (fun j v hv => by
    rw [Nat.zero_add, h.cell]
    have hj : j < (cellsOf c.a).length := (List.getElem?_eq_some_iff.1 hv).1
    simp only [C.cells, List.getElem?_toArray]
    rw [List.getElem?_append_left hj, hv]) und16 rfl (by rw [info16, cellsOf_length, hc])
theorem ld17n {w : World} {g t : Nat} {c : C} (h : Blk w g t c.cells) (hc : c.a.length = 16) : w.cell? ⟨g, 16, none⟩ = some (.int .i64 c.n) := by
  rw [h.cell]; simp [C.cells, cellsOf_length, hc]

end Go.Proofs.YtgpgkfbbpiialaaGreatDoor.Ad

/-
  Contracts of package addr's lastOf, Of4 and Four over this seat's translation; copy as a step of a region.
-/
namespace Go.Proofs.YtgpgkfbbpiialaaGreatDoor.Ad
open Go.RowKit Go.Proofs.YtgpgkfbbpiialaaGreatDoor.Wd

theorem info4 : (Tryz.prog.info? 88).map (·.size) = some 4 := by kernel_rfl
theorem und4 : Tryz.prog.underlying 88 = some (.array 4 5) := by kernel_rfl
theorem size8 : (Tryz.prog.info? 5).map (·.size) = some 1 := by kernel_rfl
def lastS (a : List UInt8) : List UInt8 := a.drop 12
def of4S (b : List UInt8) : List UInt8 := [0, 0, 0, 0, 0, 0, 0, 0, 0, 0, 255, 255] ++ b
def fourS (a : List UInt8) : Bool := a == of4S (lastS a)

/-- bytes laid over bytes -/
def splB (l : List UInt8) (off : Nat) (ys : List UInt8) : List UInt8 := l.take off ++ (ys ++ l.drop (off + ys.length))
theorem splB_length (l : List UInt8) (off : Nat) (ys : List UInt8) (h : off + ys.length ≤ l.length) : (splB l off ys).length = l.length := by simp [splB]; omega
theorem splB_cells (l : List UInt8) (off : Nat) (ys : List UInt8) : cellsOf (splB l off ys) = splice (cellsOf l) off (cellsOf ys) := by
  simp [splB, splice, cellsOf]

/-- copy, as one step of a region that draws its order: what is shorter is copied whole -/
theorem step_cp {ops : Array Oper} {o : Oper} {a : Act} {w : World} {K : Act → World → Prop} {Q : Exit → Act → World → Prop} {E : Prop} {d s : Operand} {dp sp : Option Addr} {dLen dCap sLen sCap : Nat} (g off : Nat) {t : TypeId} {cur ys : List UInt8}
    (hb : Blk w g t (cA cur)) (hsrc : Src w sp sLen ys) (hgd : o.guard = none)
    (ho : o.op = .call { callee := .builtin .copy, args := #[d, s], argTypes := #[57, 57] }) (hd : a.eval d = .slice dp dLen dCap) (hs : a.eval s = .slice sp sLen sCap) (hle : sLen ≤ dLen)
    (hdp : 0 < sLen → dp = some ⟨g, off, none⟩) (hfit : off + sLen ≤ cur.length)
    (h : ∀ w', RowKit.Hid (Blk w' g t (cA (splB cur off ys))) → RowKit.Hid (RowKit.Below g w w') → K (a.put o.dst (goInt sLen)) w') :
    if Region.wanted o (yielded ops a.tmps) = true then Oper.wp Tryz.prog o a w K Q else E := by
  have hl := hsrc.1
  refine step_copy_splice hgd d s 57 57 ho 5 Tryz.underlying57 size8 dp sp dLen dCap sLen sCap hd hs g off (cellsOf cur) t hb (cellsOf ys)
    (by rw [cellsOf_length, hl]; exact (Nat.min_eq_left hle).symm) ?_ (by rw [cellsOf_length, cellsOf_length, hl]; exact hfit) (cellsOf_one ys) g w (Below.refl _ _) (Nat.le_refl _) ?_
  · intro h0
    rw [cellsOf_length, hl] at h0
    obtain ⟨ad, e, hlt, hc⟩ := hsrc.2 h0
    refine ⟨hdp h0, ad, e, fun j v hv => ?_⟩
    simp only [cellsOf, List.getElem?_map, Option.map_eq_some_iff] at hv
    obtain ⟨x, hx, rfl⟩ := hv
    exact hc j x hx
  · intro w' hg' hb'
    rw [cellsOf_length, hl]
    exact h w' (by have := hg'.out; rw [← splB_cells] at this; exact this) hb'

theorem lastS_len {a : List UInt8} (ha : a.length = 16) : (lastS a).length = 4 := by simp [lastS, ha]
theorem src_last {w : World} {g t : Nat} {a : List UInt8} (h : Blk w g t (cA a)) (ha : a.length = 16) : Src w (some ⟨g, 12, none⟩) 4 (lastS a) := by
  have := Src.of_blk (off := 12) (xs := lastS a) h (fun j c hj => by
    simp only [lastS, List.getElem?_drop] at hj
    simp only [List.getElem?_toArray, cellsOf, List.getElem?_map, hj, Option.map_some])
  rwa [lastS_len ha] at this

theorem lastOf_any (a : List UInt8) (ha : a.length = 16) (w : World) :
    Calls Tryz.prog 78 #[.agg (cA a)] w fun e w' => e = .returned (.agg (cA (lastS a))) ∧ Below w.heap.size w w' := by
  have hl4 := lastS_len ha
  go_enter Tryz.func78, Tryz.ntmps78
  go_wp2_with fail
  have b0 : Blk (((w.alloc (.cells (cA a) 63)).alloc (.cells (cA (List.replicate 4 0)) 88)).alloc (.cells (cA (List.replicate 4 0)) 88)) w.heap.size 63 (cA a) := ((Blk.new _ _ _).alloc _).alloc _
  have b1 : Blk (((w.alloc (.cells (cA a) 63)).alloc (.cells (cA (List.replicate 4 0)) 88)).alloc (.cells (cA (List.replicate 4 0)) 88)) (w.heap.size + 1) 88 (cA (List.replicate 4 0)) := (blk_at _ _ _ _ _ (by rw [alloc_size]) rfl).alloc _
  have b2 : Blk (((w.alloc (.cells (cA a) 63)).alloc (.cells (cA (List.replicate 4 0)) 88)).alloc (.cells (cA (List.replicate 4 0)) 88)) (w.heap.size + 1 + 1) 88 (cA (List.replicate 4 0)) := blk_at _ _ _ _ _ (by rw [alloc_size, alloc_size]) rfl
  have hbel : Below w.heap.size w (((w.alloc (.cells (cA a) 63)).alloc (.cells (cA (List.replicate 4 0)) 88)).alloc (.cells (cA (List.replicate 4 0)) 88)) := ((((Below.refl _ _).alloc (Nat.le_refl _) _).alloc (by simp) _).alloc (by simp; omega) _)
  rw [show #[Value.int .u8 0, .int .u8 0, .int .u8 0, .int .u8 0] = cA (List.replicate 4 0) from rfl]
  generalize (((w.alloc (.cells (cA a) 63)).alloc (.cells (cA (List.replicate 4 0)) 88)).alloc (.cells (cA (List.replicate 4 0)) 88)) = w1 at *
  have hs := src_last (w := w1.drew) b0 ha
  have HS := Lib.hid hs
  have HB1 := Lib.hid b1
  have HB2 := Lib.hid b2
  have HL := Lib.hid hbel
  clear b0 b1 b2 hbel hs
  go_region_law (refine step_cp (w.heap.size + 1 + 1) 0 (by exact HB2.out) HS.out rfl rfl rfl rfl (by omega) (fun _ => rfl) (by simp) ?_; intro w4 hg4 hb4)
  have e4 : splB (List.replicate 4 0) 0 (lastS a) = lastS a := by simp [splB, hl4]
  have b2 := hg4.out
  rw [e4] at b2
  have hb := hb4.out
  have b1 := Blk.below (w := w1.drew) HB1.out hb (by omega)
  have hbel : Below w.heap.size w w4 := HL.out.trans ((Below.refl _ _).drew.trans (hb.mono (by omega)))
  clear hg4 hb4 HS hb e4
  go_wp2_with (first
    | (refine go_ld 88 b2 und4 rfl info4 (by rw [cA_size, hl4]) rfl rfl rfl ?_)
    | (refine go_st 88 b1 info4 rfl (by rw [cA_size, hl4]) (cA_one _) rfl rfl rfl rfl ?_))
  exact ret_row Tryz.results78 b1 und4 rfl info4 (by rw [cA_size, hl4]) rfl ⟨rfl, setRow_below hbel b1 (by omega) _⟩ rfl

theorem of4S_len {b : List UInt8} (hb : b.length = 4) : (of4S b).length = 16 := by simp [of4S, hb]
def ffS : List UInt8 := [0, 0, 0, 0, 0, 0, 0, 0, 0, 0, 255, 255, 0, 0, 0, 0]
theorem src_all {w : World} {g t : Nat} {a : List UInt8} (h : Blk w g t (cA a)) : Src w (some ⟨g, 0, none⟩) a.length a := 
  Src.of_blk (off := 0) (xs := a) h (fun j c hj => by
    simp only [Nat.zero_add, List.getElem?_toArray, cellsOf, List.getElem?_map, hj, Option.map_some])

theorem of4_any (b : List UInt8) (hb : b.length = 4) (w : World) :
    Calls Tryz.prog 76 #[.agg (cA b)] w fun e w' => e = .returned (.agg (cA (of4S b))) ∧ Below w.heap.size w w' := by
  have hl16 := of4S_len hb
  go_enter Tryz.func76, Tryz.ntmps76
  go_wp2_with fail
  rw [show #[Value.int .u8 0, .int .u8 0, .int .u8 0, .int .u8 0, .int .u8 0, .int .u8 0, .int .u8 0, .int .u8 0, .int .u8 0, .int .u8 0, .int .u8 0, .int .u8 0, .int .u8 0, .int .u8 0, .int .u8 0, .int .u8 0] = cA (List.replicate 16 0) from rfl,
    show #[Value.int .u8 0, .int .u8 0, .int .u8 0, .int .u8 0, .int .u8 0, .int .u8 0, .int .u8 0, .int .u8 0, .int .u8 0, .int .u8 0, .int .u8 255, .int .u8 255, .int .u8 0, .int .u8 0, .int .u8 0, .int .u8 0] = cA ffS from rfl]
  have b0 : Blk (((w.alloc (.cells (cA b) 88)).alloc (.cells (cA (List.replicate 16 0)) 63)).alloc (.cells (cA ffS) 63)) w.heap.size 88 (cA b) := ((Blk.new _ _ _).alloc _).alloc _
  have b1 : Blk (((w.alloc (.cells (cA b) 88)).alloc (.cells (cA (List.replicate 16 0)) 63)).alloc (.cells (cA ffS) 63)) (w.heap.size + 1) 63 (cA (List.replicate 16 0)) := (blk_at _ _ _ _ _ (by rw [alloc_size]) rfl).alloc _
  have b2 : Blk (((w.alloc (.cells (cA b) 88)).alloc (.cells (cA (List.replicate 16 0)) 63)).alloc (.cells (cA ffS) 63)) (w.heap.size + 1 + 1) 63 (cA ffS) := blk_at _ _ _ _ _ (by rw [alloc_size, alloc_size]) rfl
  have hbel : Below w.heap.size w (((w.alloc (.cells (cA b) 88)).alloc (.cells (cA (List.replicate 16 0)) 63)).alloc (.cells (cA ffS) 63)) := ((((Below.refl _ _).alloc (Nat.le_refl _) _).alloc (by simp) _).alloc (by simp; omega) _)
  generalize (((w.alloc (.cells (cA b) 88)).alloc (.cells (cA (List.replicate 16 0)) 63)).alloc (.cells (cA ffS) 63)) = w1 at *
  have hs := src_all (w := w1.drew) b0
  rw [hb] at hs
  have HS := Lib.hid hs
  have HB1 := Lib.hid b1
  have HB2 := Lib.hid b2
  have HL := Lib.hid hbel
  clear b0 b1 b2 hbel hs
  go_region_law (refine step_cp (w.heap.size + 1 + 1) 12 (by exact HB2.out) HS.out rfl rfl rfl rfl (by omega) (fun _ => rfl) (by decide) ?_; intro w4 hg4 hb4)
  have e4 : splB ffS 12 b = of4S b := by simp [splB, ffS, of4S, hb]
  have b2 := hg4.out
  rw [e4] at b2
  have hbb := hb4.out
  have b1 := Blk.below (w := w1.drew) HB1.out hbb (by omega)
  have hbel : Below w.heap.size w w4 := HL.out.trans ((Below.refl _ _).drew.trans (hbb.mono (by omega)))
  clear hg4 hb4 HS hbb e4
  go_wp2_with (first
    | (refine go_ld 63 b2 und16 rfl info16 (by rw [cA_size, hl16]) rfl rfl rfl ?_)
    | (refine go_st 63 b1 info16 rfl (by rw [cA_size, hl16]) (cA_one _) rfl rfl rfl rfl ?_))
  exact ret_row Tryz.results76 b1 und16 rfl info16 (by rw [cA_size, hl16]) rfl ⟨rfl, setRow_below hbel b1 (by omega) _⟩ rfl

end Go.Proofs.YtgpgkfbbpiialaaGreatDoor.Ad

/-
  Contract of package addr's Four over this seat's translation.
-/
namespace Go.Proofs.YtgpgkfbbpiialaaGreatDoor.Ad
open Go.RowKit Go.Proofs.YtgpgkfbbpiialaaGreatDoor.Wd

theorem rangeA {w : World} {g t : Nat} {l : List UInt8} (h : Blk w g t (cA l)) : w.rangeAt g 0 (cellsOf l) := fun j v hv => by
  rw [Nat.zero_add, h.cell]
  simpa using hv

/-- the cells of a variable, as the walk asks them -/
theorem lcf {w : World} {g off n : Nat} {cs : List Value} (h : w.rangeAt g off cs) (hn : cs.length = n) : (loadCellsFrom ⟨g, off, none⟩ 0 n #[]).run Tryz.prog w = .ok cs.toArray w := by
  subst hn
  have := run_loadCells_list (P := Tryz.prog) w ⟨g, off, none⟩ cs (fun j v hv => by rw [Addr.add_mid]; exact h j v hv)
  simpa [loadCells] using this

/-- one operation of a drawn region taken first, its place given -/
theorem hd_take {P : Program} {ops : Array Oper} {Q : Exit → Act → World → Prop} {md : Region.Mode} {S : World → Prop} (i : Nat) (dst : Option Tmp) (v : Value) {oi : Oper} {fuel : Nat} {listed : Array Bool} {a : Act} {w : World} (hi : ops[i]? = some oi) (hd : oi.dst = dst)
    (hs : Region.noSelect ops = true) (hf : Region.free md ops listed i = true) (hr : (Region.ready md ops listed).contains i = true)
    (hQ : ∀ c a w, Q (.panic c) (a.put oi.dst v) w → Q (.panic c) a w) (hy : YieldsIf P ops S oi v a) (hS : S w)
    (h : wpAnyH P md ops Q S fuel (listed.setIfInBounds i true) (a.put dst v) w) : wpAnyH P md ops Q S (fuel + 1) listed a w := by
  subst hd
  exact wpAnyH_take hi hs hf hr hQ hy hS h

set_option linter.unusedSimpArgs false in
set_option maxRecDepth 100000 in
set_option maxHeartbeats 1000000 in
theorem four_any (a : List UInt8) (ha : a.length = 16) (w : World) :
    Calls Tryz.prog 77 #[.agg (cA a)] w fun e w' => e = .returned (.bool (fourS a)) ∧ Below w.heap.size w w' := by
  have hl4 := lastS_len ha
  have hl16 := of4S_len hl4
  have hn16 : (cellsOf a).length = 16 := by rw [cellsOf_length, ha]
  have heq := eql16 a (of4S (lastS a)) ha hl16
  have HF := Lib.hid (show (a == of4S (lastS a)) = fourS a from rfl)
  go_enter Tryz.func77, Tryz.ntmps77
  go_wp2_with fail
  have b0 := Blk.new w 63 (cA a)
  have hbel : Below w.heap.size w (w.alloc (.cells (cA a) 63)) := (Below.refl _ _).alloc (Nat.le_refl _) _
  have hlt := b0.lt
  generalize w.alloc (.cells (cA a) 63) = w1 at *
  generalize hG : w.heap.size = G at *
  have HL := Lib.hid hbel
  have HR := Lib.hid (rangeA (w := w1.drew) b0)
  have HB := Lib.hid b0
  have hi : (Tryz.prog.info? 63).map (·.size) = some (cellsOf a).length := by rw [hn16]; exact info16
  clear b0 hbel
  refine wp_region_held_drew (S := fun w' => w'.rangeAt G 0 (cellsOf a)) (by kernel_rfl) HR.out (fun h0 => ?_)
  refine hd_take 0 (some 3) (.agg (cellsOf a).toArray) rfl rfl (by kernel_rfl) (by kernel_rfl) (by kernel_rfl) (fun _ _ _ h => h) (yieldsIf_load_mid (by rfl) _ _ rfl G 0 rfl (cellsOf a) _ (fun _ h => h) und16 rfl hi) h0 ?_
  simp only [Act.put, List.setIfInBounds_toArray, List.set_cons_zero, List.set_cons_succ]
  refine hd_take 1 (some 4) (.agg (cellsOf a).toArray) rfl rfl (by kernel_rfl) (by kernel_rfl) (by kernel_rfl) (fun _ _ _ h => h) (yieldsIf_load_mid (by rfl) _ _ rfl G 0 rfl (cellsOf a) _ (fun _ h => h) und16 rfl hi) h0 ?_
  simp only [Act.put, List.setIfInBounds_toArray, List.set_cons_zero, List.set_cons_succ]
  refine wpAnyH_ready (rs := [2]) (by kernel_rfl) (by simp) (AllReadyH.cons rfl (fun K hK => ?_) AllReadyH.nil)
  go_simp
  go_wp2_with (go_at_call 78; refine (lastOf_any a ha _).mono ?_; rintro e w2 ⟨rfl, hb2⟩; have HB2 := Lib.hid hb2; have b2 : Blk w2 G _ _ := Blk.below (w := w1.drew) HB.out hb2 hlt; have HR2 := Lib.hid (rangeA b2); clear b2 hb2)
  refine hK.out _ _ HR2.out (fun h2 => ?_)
  clear hK K
  refine wpAnyH_ready (rs := [3]) (by kernel_rfl) (by simp) (AllReadyH.cons rfl (fun K hK => ?_) AllReadyH.nil)
  go_simp
  go_wp2_with (go_at_call 76; refine (of4_any (lastS a) hl4 _).mono ?_; rintro e w3 ⟨rfl, hb3⟩; have HB3 := Lib.hid hb3; have b3 : Blk w3 G _ _ := Blk.below (w := w1.drew) HB.out (HB2.out.trans (hb3.mono HB2.out.size)) hlt; have HR3 := Lib.hid (rangeA b3); clear b3 hb3)
  refine hK.out _ _ HR3.out (fun h3 => ?_)
  clear hK K
  refine hd_take 4 (some 7) (.bool (a == of4S (lastS a))) rfl rfl (by kernel_rfl) (by kernel_rfl) (by kernel_rfl) (fun _ _ _ h => h) (Or.inl ⟨by rfl, fun w hw => by go_simp⟩) h3 ?_
  simp only [Act.put, List.setIfInBounds_toArray, List.set_cons_zero, List.set_cons_succ]
  refine hd_take 5 (some 2) (.bool (a == of4S (lastS a))) rfl rfl (by kernel_rfl) (by kernel_rfl) (by kernel_rfl) (fun _ _ _ h => h) (Or.inl ⟨by rfl, fun w hw => by go_simp⟩) h3 ?_
  simp only [Act.put, List.setIfInBounds_toArray, List.set_cons_zero, List.set_cons_succ]
  refine wpAnyH_done (by kernel_rfl) ?_ _
  all_goals (go_wp2_with fail; go_ret; rw [HF.out]; refine ⟨rfl, ?_⟩; rw [hG]; exact HL.out.trans ((Below.refl _ _).drew.trans ((HB2.out.trans (HB3.out.mono HB2.out.size)).mono (by show G ≤ w1.heap.size; omega))))
end Go.Proofs.YtgpgkfbbpiialaaGreatDoor.Ad

/-
  Contracts of package cidr's Right and Has over this seat's translation.
-/
namespace Go.Proofs.YtgpgkfbbpiialaaGreatDoor.Ad
open Go.RowKit Go.Proofs.YtgpgkfbbpiialaaGreatDoor.Wd

abbrev cL (c : C) : List Value := cellsOf c.a ++ [Value.int .i64 c.n]
theorem cL_len (c : C) (h : c.a.length = 16) : (cL c).length = 17 := by simp [cellsOf_length, h]
theorem rangeC {w : World} {g t : Nat} {c : C} (h : Blk w g t c.cells) : w.rangeAt g 0 (cL c) := fun j v hv => by
  rw [Nat.zero_add, h.cell]
  simpa [C.cells] using hv
theorem range_a {w : World} {g : Nat} {c : C} (h : w.rangeAt g 0 (cL c)) : w.rangeAt g 0 (cellsOf c.a) := fun j v hv =>
  h j v (by rw [List.getElem?_append_left (List.getElem?_eq_some_iff.1 hv).1]; exact hv)
theorem range_n {w : World} {g : Nat} {c : C} (h : w.rangeAt g 0 (cL c)) (hc : c.a.length = 16) : w.cell? ⟨g, 16, none⟩ = some (.int .i64 c.n) := by
  have := h 16 (.int .i64 c.n) (by rw [List.getElem?_append_right (by rw [cellsOf_length, hc]; omega), cellsOf_length, hc]; rfl)
  simpa using this


end Go.Proofs.YtgpgkfbbpiialaaGreatDoor.Ad
