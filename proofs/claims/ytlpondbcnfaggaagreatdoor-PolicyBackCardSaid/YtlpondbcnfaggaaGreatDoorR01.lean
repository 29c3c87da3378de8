/-
  Words for memory, used by the contracts of this seat: a block that is known whole, a row of bytes that a slice leads to. Plain lemmas, no condition.
-/
import Derived.Test.YtlpondbcnfaggaaGreatDoorRows
import Derived.WalkKit
import Derived.Below
import Derived.Laws.OwnMore
import Derived.Deep.Draws
import Derived.Laws.Rows
import Derived.Lib.Hide
import Derived.Laws.CopyOwn
import Derived.WalkLawsBesides
import Derived.WalkSpells
import Derived.Laws.AppendOwn
import Derived.Laws.BytesArg
import Derived.Lib.SlBytesConst
import Derived.RegionTactic
import Derived.ChangeAlike
import Derived.Deep.MidRow
import Derived.BigQuiet
import Derived.DeepKeys
import Derived.ChangeKeysEq
import Derived.Deep.QuietTactic
namespace Go.Proofs.YtlpondbcnfaggaaGreatDoor.Wd
open Go.RowKit

/-- a byte as a value -/
def b8 (c : UInt8) : Value := .int .u8 (c.toNat : Int)
def cellsOf (xs : List UInt8) : List Value := xs.map b8
theorem cellsOf_length (xs : List UInt8) : (cellsOf xs).length = xs.length := by simp [cellsOf]
theorem cellsOf_append (xs ys : List UInt8) : cellsOf (xs ++ ys) = cellsOf xs ++ cellsOf ys := by simp [cellsOf]
theorem cellsOf_one (xs : List UInt8) : ∀ v ∈ cellsOf xs, v.oneCell' = true := by
  intro v hv
  simp only [cellsOf, List.mem_map] at hv
  obtain ⟨c, _, rfl⟩ := hv
  rfl
theorem cellsOf_get {xs : List UInt8} {j : Nat} {c : UInt8} (h : xs[j]? = some c) : (cellsOf xs)[j]? = some (b8 c) := by
  simp [cellsOf, List.getElem?_map, h]
theorem cellsOf_zero (n : Nat) : cellsOf (List.replicate n 0) = List.replicate n (.int .u8 0) := by simp [cellsOf, b8]

/-- block g is just the cells cs of element type t, none frozen -/
def Blk (w : World) (g : Nat) (t : TypeId) (cs : Array Value) : Prop := w.heap[g]? = some (.cells cs t (0, 0))
section
variable {w w' : World} {g : Nat} {t : TypeId} {cs : Array Value}
theorem Blk.lt (h : Blk w g t cs) : g < w.heap.size := by
  rcases Nat.lt_or_ge g w.heap.size with hlt | hge
  · exact hlt
  · unfold Blk at h; rw [Array.getElem?_eq_none hge] at h; cases h
theorem Blk.heap (h : Blk w g t cs) : w.heap[g]? = some (.cells cs t (0, 0)) := h
theorem Blk.cell (h : Blk w g t cs) (i : Nat) : w.cell? ⟨g, i, none⟩ = cs[i]? := cell_of_row w g i cs t (0, 0) h
theorem Blk.frozen (h : Blk w g t cs) (i : Nat) : w.frozen? ⟨g, i, none⟩ = false := by
  unfold Blk at h
  simp [World.frozen?, h]
theorem Blk.new (w : World) (t : TypeId) (cs : Array Value) : Blk (w.alloc (.cells cs t)) w.heap.size t cs := heap_alloc_new w _
theorem Blk.alloc (h : Blk w g t cs) (o : Obj) : Blk (w.alloc o) g t cs := (Below.heap_alloc w o g h.lt).trans h
theorem Blk.set_ (h : Blk w g t cs) (i : Nat) (u : Value) : Blk (w.setCell ⟨g, i, none⟩ u) g t (cs.setIfInBounds i u) := by
  unfold Blk at h ⊢
  simp [World.setCell, Array.getElem?_modify, h]
theorem Blk.far (h : Blk w g t cs) {p : Addr} (hp : g ≠ p.block) (u : Value) : Blk (w.setCell p u) g t cs := (Below.heap_setCell w p u g hp).trans h
theorem Blk.below {B : Nat} (h : Blk w g t cs) (hb : Below B w w') (hg : g < B) : Blk w' g t cs := (hb.block g hg).trans h
theorem Blk.grown {row : Option Nat} (h : Blk w g t cs) (hb : w.grownBy w' row) (hg : some g ≠ row) : Blk w' g t cs := (hb.block g h.lt hg).trans h
theorem Blk.ne_ {g' : Nat} {t' : TypeId} {cs' : Array Value} (h : Blk w g t cs) (h' : Blk w g' t' cs') (hne : t ≠ t') : g ≠ g' := by
  rintro rfl
  unfold Blk at h h'
  rw [h] at h'
  injection h' with h'
  injection h' with _ ht
  exact hne ht
end

/-- 'only block g, and what is new, has turned' -/
theorem only_alloc {a w : World} {row : Option Nat} (h : a.grownBy w row) (o : Obj) : a.grownBy (w.alloc o) row :=
  ⟨h.os, h.tape, h.output, Nat.le_trans h.size (by simp), fun i hi hne => (Below.heap_alloc w o i (Nat.lt_of_lt_of_le hi h.size)).trans (h.block i hi hne)⟩
theorem only_setCell {a w : World} {g : Nat} (h : a.grownBy w (some g)) {p : Addr} (hp : p.block = g ∨ a.heap.size ≤ p.block) (u : Value) : a.grownBy (w.setCell p u) (some g) :=
  ⟨h.os, h.tape, h.output, by simpa [World.setCell] using h.size, fun i hi hne => (Below.heap_setCell w p u i (by
    rintro rfl
    rcases hp with hp | hp
    · exact hne (by rw [hp])
    · omega)).trans (h.block i hi hne)⟩
theorem only_of_below {a w : World} (h : Below a.heap.size a w) (row : Option Nat) : a.grownBy w row := ⟨h.os, h.tape, h.output, h.size, fun i hi _ => h.block i hi⟩
theorem only_refl (w : World) (row : Option Nat) : w.grownBy w row := World.grownBy.refl w _
theorem only_trans {a b c : World} {row : Option Nat} (h : a.grownBy b row) (k : b.grownBy c row) : a.grownBy c row :=
  ⟨k.os.trans h.os, k.tape.trans h.tape, k.output.trans h.output, Nat.le_trans h.size k.size, fun i hi hne => (k.block i (Nat.lt_of_lt_of_le hi h.size) hne).trans (h.block i hi hne)⟩
theorem below_of_only {B : Nat} {a b c : World} {g : Nat} (h : Below B a b) (k : b.grownBy c (some g)) (hB : B ≤ b.heap.size) (hg : B ≤ g) : Below B a c :=
  h.grown k hB (fun x hx => by injection hx with hx; omega)

/-- what a slice leads to: n bytes, as cells, nil let in -/
def Src (w : World) (A : Option Addr) (n : Nat) (xs : List UInt8) : Prop :=
  xs.length = n ∧ (0 < n → ∃ ad, A = some ad ∧ ad.block < w.heap.size ∧ ∀ j c, xs[j]? = some c → w.cell? (ad.add j) = some (b8 c))
theorem block_of_add (a : Addr) (n : Nat) : (a.add n).block = a.block := by unfold Addr.add; split <;> rfl
theorem add_of_add (a : Addr) (i j : Nat) : (a.add i).add j = a.add (i + j) := by
  unfold Addr.add
  by_cases hi : i = 0 <;> by_cases hj : j = 0 <;> simp [hi, hj, Nat.add_assoc]
theorem add_none (g off j : Nat) : (Addr.mk g off none).add j = ⟨g, off + j, none⟩ := by
  unfold Addr.add; by_cases hj : j = 0 <;> simp [hj]
theorem Src.nil (w : World) : Src w none 0 [] := ⟨rfl, fun h => absurd h (by omega)⟩
theorem Src.below {w w' : World} {A : Option Addr} {n : Nat} {xs : List UInt8} (h : Src w A n xs) (hb : Below w.heap.size w w') : Src w' A n xs :=
  ⟨h.1, fun hn => by
    obtain ⟨ad, e, hlt, hc⟩ := h.2 hn
    exact ⟨ad, e, Nat.lt_of_lt_of_le hlt hb.size, fun j c hj => (hb.cell (by rw [block_of_add]; exact hlt)).trans (hc j c hj)⟩⟩
theorem Src.of_blk {w : World} {g off t : Nat} {cs : Array Value} {xs : List UInt8} (h : Blk w g t cs) (hc : ∀ j c, xs[j]? = some c → cs[off + j]? = some (b8 c)) :
    Src w (some ⟨g, off, none⟩) xs.length xs :=
  ⟨rfl, fun _ => ⟨_, rfl, h.lt, fun j c hj => by rw [add_none, h.cell, hc j c hj]⟩⟩

theorem Src.marked (w : World) (C : Array Value) (t : TypeId) (fr : Nat × Nat) (xs : List UInt8) (h : C = (cellsOf xs).toArray) : Src (w.alloc (.cells C t fr)) (some ⟨w.heap.size, 0, none⟩) xs.length xs :=
  ⟨rfl, fun _ => ⟨_, rfl, by simp, fun j c hj => by
    rw [add_none, Nat.zero_add, World.cell?_alloc_mark, h]
    simpa using cellsOf_get hj⟩⟩
theorem Src.alloc {w : World} {A : Option Addr} {n : Nat} {xs : List UInt8} (h : Src w A n xs) (o : Obj) : Src (w.alloc o) A n xs := h.below ((Below.refl _ _).alloc (Nat.le_refl _) _)

/-- a slice of the call's own (or nil): its bytes -/
def Sl (w : World) (v : Value) (xs : List UInt8) : Prop :=
  (xs = [] ∧ v = .slice none 0 0) ∨ ∃ g, v = .slice (some ⟨g, 0, none⟩) xs.length xs.length ∧ Blk w g 5 (cellsOf xs).toArray
theorem Sl.src {w : World} {v : Value} {xs : List UInt8} (h : Sl w v xs) : ∃ A c, v = .slice A xs.length c ∧ xs.length ≤ c ∧ Src w A xs.length xs := by
  rcases h with ⟨rfl, rfl⟩ | ⟨g, rfl, hb⟩
  · exact ⟨none, 0, rfl, Nat.le_refl _, Src.nil w⟩
  · exact ⟨_, _, rfl, Nat.le_refl _, Src.of_blk hb (fun j c hj => by simpa using cellsOf_get hj)⟩
theorem Sl.below {w w' : World} {v : Value} {xs : List UInt8} (h : Sl w v xs) (hb : Below w.heap.size w w') : Sl w' v xs := by
  rcases h with ⟨rfl, rfl⟩ | ⟨g, rfl, hg⟩
  · exact .inl ⟨rfl, rfl⟩
  · exact .inr ⟨g, rfl, hg.below hb hg.lt⟩
theorem Sl.grown {w w' : World} {v : Value} {xs : List UInt8} {r t : Nat} {cs : Array Value} (h : Sl w v xs) (hr : Blk w r t cs) (hne : 5 ≠ t) (hb : w.grownBy w' (some r)) : Sl w' v xs := by
  rcases h with ⟨rfl, rfl⟩ | ⟨g, rfl, hg⟩
  · exact .inl ⟨rfl, rfl⟩
  · exact .inr ⟨g, rfl, hg.grown hb (by have := hg.ne_ hr hne; simp [this])⟩

/-- string(b) -/
theorem conv_src {P : Program} {w : World} {A : Option Addr} {n c : Nat} {xs : List UInt8} (h : Src w A n xs) {src e dst : TypeId} (hs : P.underlying src = some (.slice e)) (he : P.underlying e = some (.int .u8)) (hd : P.underlying dst = some .string) :
    (convert src dst (.slice A n c)).run P w = .ok (.string ⟨xs.toArray⟩) w := by
  obtain ⟨hl, hc⟩ := h
  subst hl
  cases A with
  | none =>
    have : xs = [] := by
      cases xs with
      | nil => rfl
      | cons x xs => obtain ⟨ad, e, _⟩ := hc (by simp); cases e
    subst this
    exact run_convert_bytes_nil w src e hs he 0 c dst hd
  | some ad =>
    have hcell : ∀ (j : Nat) v, ((xs.map fun x => (x.toNat : Int)).map (Value.int .u8))[j]? = some v → w.cell? (ad.add j) = some v := by
      intro j v hj
      rw [List.map_map, List.getElem?_map] at hj
      cases hx : xs[j]? with
      | none => rw [hx] at hj; cases hj
      | some x =>
        rw [hx] at hj
        injection hj with hj
        subst hj
        have hp : 0 < xs.length := by have := (List.getElem?_eq_some_iff.1 hx).1; omega
        obtain ⟨ad', e, _, hc'⟩ := hc hp
        injection e with e
        subst e
        exact hc' j x hx
    have hl := run_loadCells_list (P := P) w ad _ hcell
    rw [List.length_map, List.length_map] at hl
    rw [run_convert_bytes_string w src dst e _ _ c hs he hd, run_bytesToString w ad _ c _ hl, foldl_push_bytes]
    congr 2
    simp [ByteArray.empty, ByteArray.emptyWithCapacity, Function.comp_def]
    rfl
end Go.Proofs.YtlpondbcnfaggaaGreatDoor.Wd

/-
  Plain facts on addresses and Cidrs, used by the contracts of packages addr and cidr. No condition.
-/
namespace Go.Proofs.YtlpondbcnfaggaaGreatDoor.Ad
open Go Go.Proofs.YtlpondbcnfaggaaGreatDoor.Wd

def withinI (n lo hi : Int) : Int := if n < lo then lo else if hi < n then hi else n
/-- how many bits count -/
def bitN (n : Int) : Nat := (withinI n 0 128).toNat
theorem bitN_is (n : Int) : withinI n 0 128 = (bitN n : Int) := by
  unfold bitN
  have : 0 ≤ withinI n 0 128 := by unfold withinI; split <;> (try split) <;> omega
  omega
theorem bitN_le (n : Int) : bitN n ≤ 128 := by unfold bitN withinI; split <;> (try split) <;> omega
theorem bitN_mono {n m : Int} (h : m ≤ n) : bitN m ≤ bitN n := by
  unfold bitN withinI; repeat' split
  all_goals omega
theorem bitN_nat {k : Nat} (h : k ≤ 128) : bitN (k : Int) = k := by
  unfold bitN withinI; repeat' split
  all_goals omega
theorem bitN_self (n : Int) : bitN (bitN n : Int) = bitN n := bitN_nat (bitN_le n)

/-- the first n bits of a byte -/
def maskB (c : UInt8) (n : Nat) : UInt8 := c &&& ~~~(255 >>> UInt8.ofNat n)
/-- the first n bits of bytes, all others 0 -/
def maskS : List UInt8 → Nat → List UInt8
  | [], _ => []
  | c :: r, n => if n < 8 then maskB c n :: List.replicate r.length 0 else c :: maskS r (n - 8)

theorem maskS_length : ∀ (l : List UInt8) (n : Nat), (maskS l n).length = l.length
  | [], _ => rfl
  | c :: r, n => by
    unfold maskS
    split
    · simp
    · simp [maskS_length r]
theorem maskB_zero (c : UInt8) : maskB c 0 = 0 := by
  unfold maskB
  rw [show ~~~((255 : UInt8) >>> UInt8.ofNat 0) = 0 by decide]
  simp
theorem maskS_zero : ∀ (l : List UInt8), maskS l 0 = List.replicate l.length 0
  | [] => rfl
  | c :: r => by
    unfold maskS
    rw [if_pos (by omega), maskB_zero]
    rfl
theorem maskS_all : ∀ (l : List UInt8) (n : Nat), 8 * l.length ≤ n → maskS l n = l
  | [], _, _ => rfl
  | c :: r, n, h => by
    unfold maskS
    simp only [List.length_cons] at h
    rw [if_neg (by omega), maskS_all r (n - 8) (by omega)]
theorem maskB_tab : ∀ n : Fin 8, ∀ m : Fin 8, m ≤ n → (~~~((255 : UInt8) >>> UInt8.ofNat n.1)) &&& (~~~((255 : UInt8) >>> UInt8.ofNat m.1)) = ~~~((255 : UInt8) >>> UInt8.ofNat m.1) := by decide
theorem maskB_less (c : UInt8) {n m : Nat} (hn : n < 8) (h : m ≤ n) : maskB (maskB c n) m = maskB c m := by
  unfold maskB
  rw [UInt8.and_assoc, maskB_tab ⟨n, hn⟩ ⟨m, by omega⟩ h]
theorem maskS_rep (k n : Nat) : maskS (List.replicate k 0) n = List.replicate k 0 := by
  induction k generalizing n with
  | zero => rfl
  | succ k ih =>
    rw [List.replicate_succ]
    unfold maskS
    split
    · rw [show maskB 0 n = 0 by simp [maskB]]
      simp
    · rw [ih]
theorem maskS_less : ∀ (l : List UInt8) {n m : Nat}, m ≤ n → maskS (maskS l n) m = maskS l m
  | [], _, _, _ => rfl
  | c :: r, n, m, h => by
    by_cases hn : n < 8
    · rw [maskS, if_pos hn, maskS, if_pos (by omega), maskS, if_pos (by omega), maskB_less c hn h, List.length_replicate]
    · rw [maskS, if_neg hn, maskS]
      by_cases hm : m < 8
      · rw [if_pos hm, maskS, if_pos hm, maskS_length]
      · rw [if_neg hm, maskS, if_neg hm, maskS_less r (by omega)]

theorem maskS_at : ∀ (l : List UInt8) (k m : Nat) (c : UInt8), l[k]? = some c → m < 8 → maskS l (8 * k + m) = l.take k ++ maskB c m :: List.replicate (l.length - k - 1) 0
  | [], k, m, c, h, _ => by simp at h
  | d :: r, 0, m, c, h, hm => by
    simp at h
    subst h
    unfold maskS
    rw [if_pos (by omega)]
    simp
  | d :: r, k + 1, m, c, h, hm => by
    unfold maskS
    rw [if_neg (by omega), show 8 * (k + 1) + m - 8 = 8 * k + m by omega, maskS_at r k m c (by simpa using h) hm]
    simp

/-- the bytes of an array as its cells -/
abbrev cA (l : List UInt8) : Array Value := (cellsOf l).toArray
theorem cA_set (l : List UInt8) (k : Nat) (v : UInt8) : (cA l).setIfInBounds k (Value.int .u8 (v.toNat : Int)) = cA (l.set k v) := by
  apply Array.ext'
  simp [cellsOf, List.map_set, b8]
theorem set_mid {α : Type} (l : List α) (k n : Nat) (z v : α) (hk : l.length = k) (hn : 0 < n) : (l ++ List.replicate n z).set k v = l ++ v :: List.replicate (n - 1) z := by
  subst hk
  rw [List.set_append_right _ _ (Nat.le_refl _), Nat.sub_self]
  cases n with
  | zero => omega
  | succ n => simp [List.replicate_succ]
/-- a Cidr: its bytes, its bits -/
structure C where
  a : List UInt8
  n : Int
deriving DecidableEq
def C.cells (c : C) : Array Value := (cellsOf c.a ++ [Value.int .i64 c.n]).toArray
def ofS (a : List UInt8) (n : Int) : C := ⟨maskS a (bitN n), bitN n⟩
def rightS (c : C) : Bool := c == ofS c.a c.n
def hasS (c : C) (a : List UInt8) : Bool := rightS c && c.a == maskS a (bitN c.n)
end Go.Proofs.YtlpondbcnfaggaaGreatDoor.Ad

/-
  Contracts of limit.Within and of package addr's Mask over this seat's translation.
-/
namespace Go.Proofs.YtlpondbcnfaggaaGreatDoor.Ad
open Go.RowKit Go.Proofs.YtlpondbcnfaggaaGreatDoor.Wd

theorem within_any (n lo hi : Int) (w : World) : Calls Tryz.prog 168 #[.int .i64 n, .int .i64 lo, .int .i64 hi] w fun e w' => e = .returned (.int .i64 (withinI n lo hi)) ∧ w' = w := by
  by_cases h1 : n < lo
  · have H := Lib.hid (show withinI n lo hi = lo by rw [withinI, if_pos h1])
    go_enter Tryz.func168, Tryz.ntmps168
    go_wp2
    go_ret
    rw [H.out]; exact ⟨rfl, rfl⟩
  · by_cases h2 : hi < n
    · have H := Lib.hid (show withinI n lo hi = hi by rw [withinI, if_neg h1, if_pos h2])
      go_enter Tryz.func168, Tryz.ntmps168
      go_wp2
      go_ret
      rw [H.out]; exact ⟨rfl, rfl⟩
    · have H := Lib.hid (show withinI n lo hi = n by rw [withinI, if_neg h1, if_neg h2])
      go_enter Tryz.func168, Tryz.ntmps168
      go_wp2
      go_ret
      rw [H.out]; exact ⟨rfl, rfl⟩

theorem info16 : (Tryz.prog.info? 48).map (·.size) = some 16 := by kernel_rfl
theorem und16 : Tryz.prog.underlying 48 = some (.array 16 5) := by kernel_rfl
theorem cA_size (l : List UInt8) : (cA l).size = l.length := by simp [cellsOf_length]
theorem cA_one (l : List UInt8) : (cA l).all (·.oneCell') = true := all_oneCell_toArray (cellsOf_one l)
/-- a variable of n cells is loaded whole -/
theorem go_ld {ops : Array Oper} {rest : List Oper} {o : Oper} {a : Act} {w : World} {Q : Exit → Act → World → Prop} {x : Operand} {g t n : Nat} {C : Array Value} {d : TypeDesc} (ty : TypeId) (hb : Blk w g t C) (hu : Tryz.prog.underlying ty = some d)
    (hd : d.isRow = true) (hi : (Tryz.prog.info? ty).map (·.size) = some n) (hn : C.size = n) (hgd : o.guard = none) (ho : o.op = .load ty x)
    (hx : a.eval x = .pointer (some ⟨g, 0, none⟩)) (h : wpList Tryz.prog ops Q rest (a.put o.dst (.agg C)) w) : wpList Tryz.prog ops Q (o :: rest) a w :=
  wpList_load_row hgd ty x ho g hx t C (0, 0) d hb hu (by cases d <;> first | rfl | cases hd) (by rw [hi, hn]) h
/-- a variable of n cells is stored whole -/
theorem go_st {ops : Array Oper} {rest : List Oper} {o : Oper} {a : Act} {w : World} {Q : Exit → Act → World → Prop} {x y : Operand} {g t n : Nat} {C D : Array Value} (ty : TypeId) (hb : Blk w g t C)
    (hi : (Tryz.prog.info? ty).map (·.size) = some n) (hn : C.size = n) (hm : D.size = n) (h1 : D.all (·.oneCell') = true) (hgd : o.guard = none) (ho : o.op = .store ty x y)
    (hx : a.eval x = .pointer (some ⟨g, 0, none⟩)) (hy : a.eval y = .agg D) (h : wpList Tryz.prog ops Q rest (a.put o.dst undef) (w.setRow g D)) : wpList Tryz.prog ops Q (o :: rest) a w :=
  wpList_store_row hgd ty x y ho g D hx hy t C hb (by rw [hi, hm]) (by rw [hn, hm]) h1 h
/-- an address is loaded whole -/
theorem ld16 {w : World} {g : Nat} {t : TypeId} {l : List UInt8} (h : Blk w g t (cA l)) (hl : l.length = 16) :
    (Instr.loadAt 48 (.pointer (some ⟨g, 0, none⟩))).run Tryz.prog w = .ok (.agg (cA l)) w := by
  simp only [Instr.loadAt, Instr.sureAddr, Sem.run_bind, Sem.run_pure, Result.andThen_ok]
  exact run_loadVar_row w g t _ (cA l) (0, 0) _ h und16 rfl (by rw [info16, cA_size, hl])
theorem setRow_blk {w : World} {g : Nat} {t : TypeId} {old new : Array Value} (h : Blk w g t old) : Blk (w.setRow g new) g t new := by
  have h' : w.heap[g]? = some (.cells old t (0, 0)) := h
  have hg := h.lt
  unfold Blk
  simp only [World.setRow]
  rw [Array.getElem?_modify]
  simp [h']
theorem setRow_far {w : World} {g k : Nat} (hk : k ≠ g) (new : Array Value) : (w.setRow g new).heap[k]? = w.heap[k]? := by
  simp only [World.setRow]
  rw [Array.getElem?_modify, if_neg (fun e => hk e.symm)]
theorem setRow_below {B g : Nat} {a w : World} {t : TypeId} {old : Array Value} (h : Below B a w) (_hb : Blk w g t old) (hg : B ≤ g) (new : Array Value) : Below B a (w.setRow g new) := by
  refine ⟨h.os, h.tape, h.output, ?_, fun i hi => ?_⟩
  · have := h.size
    simpa [World.setRow] using this
  · rw [setRow_far (by omega)]
    exact h.block i hi

/-- the one result lies in a block that was stored whole -/
theorem ret_row {fn : Func} {p : Tmp} {ty t : TypeId} {a : Act} {w : World} {g n : Nat} {old C : Array Value} {d : TypeDesc} {R : Ending → World → Prop} (hf : fn.results = #[.cell p ty]) (hb : Blk w g t old) (hu : Tryz.prog.underlying ty = some d)
    (hd : d.isRow = true) (hi : (Tryz.prog.info? ty).map (·.size) = some n) (hn : C.size = n) (hp : a.tmps.getD p undef = .pointer (some ⟨g, 0, none⟩)) (h : R (.returned (.agg C)) (w.setRow g C)) (hdf : a.defers = []) : bodyPost Tryz.prog fn R .ret a (w.setRow g C) :=
  bodyPost_ret (results_cell_row hf _ _ g t C (0, 0) d hp (setRow_blk hb) hu (by cases d <;> first | rfl | cases hd) (by rw [hi, hn])) hdf h
theorem blk_at (w : World) (t : TypeId) (cs cs' : Array Value) (g : Nat) (hg : g = w.heap.size) (hc : cs = cs') : Blk (w.alloc (.cells cs t)) g t cs' := by
  subst hg hc
  exact Blk.new w t cs
theorem alloc_size (w : World) (o : Obj) : (w.alloc o).heap.size = w.heap.size + 1 := by simp

theorem cell_a {w : World} {g : Nat} {t : TypeId} {l : List UInt8} (h : Blk w g t (cA l)) (k : Nat) : w.cell? ⟨g, k, none⟩ = (l[k]?).map fun c => Value.int .u8 (c.toNat : Int) := by
  rw [h.cell]; simp [cellsOf]; rfl

/-- what Mask has laid behind k whole bytes -/
def rowM (a : List UInt8) (k : Nat) : List UInt8 := a.take k ++ List.replicate (16 - k) 0
theorem rowM_length {a : List UInt8} (ha : a.length = 16) {k : Nat} (hk : k ≤ 16) : (rowM a k).length = 16 := by simp [rowM, ha]; omega

theorem rowM_set {a : List UInt8} (ha : a.length = 16) {k : Nat} (hk : k < 16) (v : UInt8) : (rowM a k).set k v = a.take k ++ v :: List.replicate (15 - k) 0 := by
  rw [rowM, set_mid _ _ _ _ _ (by simp [ha]; omega) (by omega), show 16 - k - 1 = 15 - k by omega]
theorem rowM_next {a : List UInt8} (ha : a.length = 16) {k : Nat} (hk : k < 16) (c : UInt8) (hc : a[k]? = some c) : (rowM a k).set k c = rowM a (k + 1) := by
  rw [rowM_set ha hk, rowM, List.take_add_one, hc, show 16 - (k + 1) = 15 - k by omega]
  simp
theorem rowM_last {a : List UInt8} (ha : a.length = 16) {k : Nat} (hk : k < 16) (c : UInt8) (hc : a[k]? = some c) (m : Nat) (hm : m < 8) : (rowM a k).set k (maskB c m) = maskS a (8 * k + m) := by
  rw [rowM_set ha hk, maskS_at a k m c hc hm, ha, show 16 - k - 1 = 15 - k by omega]
theorem andNot_mask (c : UInt8) (m : Nat) (hm : m < 8) : bits .andNot .u8 (c.toNat : Int) (255 / 2 ^ m) = ((maskB c m).toNat : Int) := by
  have hc : c.toNat < 256 := c.toNat_lt
  have hd : ((255 : Int) / 2 ^ m) = ((255 / 2 ^ m : Nat) : Int) := by simp
  rw [hd, u8_andNot_nat c.toNat (255 / 2 ^ m) hc (Nat.lt_of_le_of_lt (Nat.div_le_self _ _) (by omega))]
  have hm' : ∀ m : Fin 8, (255 - 255 / 2 ^ m.1 : Nat) = (~~~((255 : UInt8) >>> UInt8.ofNat m.1)).toNat := by decide
  have := hm' ⟨m, hm⟩
  simp only at this
  rw [this, maskB, UInt8.toNat_and]

def MaskAt (a : List UInt8) (N : Nat) (w : World) (x i : Value) (w' : World) : Prop :=
  ∃ k m : Nat, k ≤ 16 ∧ 8 * k + m = N ∧ i = .int .i64 k ∧ x = .int .i64 (m : Int) ∧ Blk w' w.heap.size 48 (cA a) ∧ Blk w' (w.heap.size + 1) 48 (cA (List.replicate 16 0)) ∧
    Blk w' (w.heap.size + 2) 48 (cA (rowM a k)) ∧ Below w.heap.size w w'

set_option maxHeartbeats 1000000 in
theorem mask_in (a : List UInt8) (ha : a.length = 16) (n : Int) (N : Nat) (hN : N ≤ 128) (hI : withinI n 0 128 = (N : Int)) (w : World) :
    Calls Tryz.prog 169 #[.agg (cA a), .int .i64 n] w fun e w' => e = .returned (.agg (cA (maskS a N))) ∧ Below w.heap.size w w' := by
  have HI := Lib.hid hI
  clear hI
  go_enter Tryz.func169, Tryz.ntmps169
  go_wp2_with (go_at_call 168; refine (within_any _ _ _ _).mono ?_; rintro e w' ⟨rfl, rfl⟩; rw [HI.out])
  clear HI
  go_loopw [6, 10] (fun x i w' => MaskAt a N w x i w') (fun _ i _ => 16 - (intOf i).toNat)
  case atStart => exact ⟨0, N, by omega, by omega, rfl, rfl, ((Blk.new _ _ _).alloc _).alloc _, (blk_at _ _ _ _ _ (by rw [alloc_size]) rfl).alloc _, blk_at _ _ _ _ _ (by rw [alloc_size, alloc_size]) (by simp [rowM]; rfl), ((((Below.refl _ _).alloc (Nat.le_refl _) _).alloc (by simp) _).alloc (by simp; omega) _)⟩
  case round =>
    obtain ⟨k, m, hk, h8, rfl, rfl, b0, b1, b2, hbel⟩ := hrel
    have c0 := cell_a b0 k
    have c2 := cell_a b2 k
    have f2 := b2.frozen k
    by_cases hlt : k < 16
    · have e0 : a[k]? = some (a[k]'(by omega)) := List.getElem?_eq_getElem (by omega)
      have e2 : (rowM a k)[k]? = some 0 := by
        rw [rowM, List.getElem?_append_right (by rw [List.length_take]; omega), List.getElem?_replicate, if_pos (by rw [List.length_take]; omega)]
      have HE := Lib.hid e0
      rw [e0] at c0
      rw [e2] at c2
      simp only [Option.map_some] at c0 c2
      have HB0 := Lib.hid b0
      have HB1 := Lib.hid b1
      have HB2 := Lib.hid b2
      clear b0 b1 b2 e0 e2
      generalize a[k] = c at *
      by_cases h7 : m < 8
      · have HV := Lib.hid (andNot_mask c m h7)
        have HL := Lib.hid (rowM_last ha hlt c HE.out m h7)
        go_wp2_with fail
        go_region
        all_goals (
          rw [HV.out]
          generalize hv : Value.int .u8 ((maskB c m).toNat : Int) = v
          have b2 := (HB2.out).set_ k v
          have b1 := (HB1.out).far (p := ⟨w.heap.size + 1 + 1, k, none⟩) (by simp) v
          have hbel2 := hbel.setCell (p := ⟨w.heap.size + 1 + 1, k, none⟩) (by simp; omega) v
          rw [← hv, cA_set, HL.out, h8, hv] at b2
          have e16 : (maskS a N).length = 16 := by rw [maskS_length, ha]
          clear hv HL HV
          go_wp2_with (first
            | (refine go_ld 48 (by exact b2) und16 rfl info16 (by rw [cA_size, e16]) rfl rfl rfl ?_)
            | (refine go_st 48 (by exact b1) info16 rfl (by rw [cA_size, e16]) (cA_one _) rfl rfl rfl rfl ?_))
          exact ret_row Tryz.results169 (by exact b1) und16 rfl info16 (by rw [cA_size, e16]) rfl ⟨rfl, setRow_below (by exact hbel2.drew) (by exact b1) (by omega) _⟩ rfl)
      · have HN := Lib.hid (rowM_next ha hlt c HE.out)
        go_wp2
        go_roundw
        case rel =>
          have b2 := (HB2.out).set_ k (.int .u8 (c.toNat : Int))
          rw [cA_set, HN.out] at b2
          exact ⟨k + 1, m - 8, by omega, by omega, by go_num, by go_num, (HB0.out).far (by simp; omega) _, (HB1.out).far (by simp) _, b2, hbel.setCell (by simp; omega) _⟩
        case measure => simp [intOf]; omega
    · obtain rfl : k = 16 := by omega
      clear c0 c2 f2
      have e16 : (rowM a 16).length = 16 := rowM_length ha (by omega)
      go_wp2_with (first
        | (refine go_ld 48 b2 und16 rfl info16 (by rw [cA_size, e16]) rfl rfl rfl ?_)
        | (refine go_st 48 b1 info16 rfl (by rw [cA_size, e16]) (cA_one _) rfl rfl rfl rfl ?_))
      have e : rowM a 16 = maskS a N := by
        rw [maskS_all a N (by omega), rowM, List.take_of_length_le (by omega)]; simp
      rw [e]
      exact ret_row Tryz.results169 b1 und16 rfl info16 (by rw [cA_size, ← e, e16]) rfl ⟨rfl, setRow_below hbel b1 (by omega) _⟩ rfl

theorem mask_any (a : List UInt8) (ha : a.length = 16) (n : Int) (w : World) :
    Calls Tryz.prog 169 #[.agg (cA a), .int .i64 n] w fun e w' => e = .returned (.agg (cA (maskS a (bitN n)))) ∧ Below w.heap.size w w' :=
  mask_in a ha n (bitN n) (bitN_le n) (bitN_is n) w
end Go.Proofs.YtlpondbcnfaggaaGreatDoor.Ad

/-
  Contracts of package cidr's Of, Right and Has over this seat's translation.
-/
namespace Go.Proofs.YtlpondbcnfaggaaGreatDoor.Ad
open Go.RowKit Go.Proofs.YtlpondbcnfaggaaGreatDoor.Wd

theorem info17 : (Tryz.prog.info? 95).map (·.size) = some 17 := by kernel_rfl
theorem und17 : Tryz.prog.underlying 95 = some (.struct (Tryz.prog.fieldsOf 95)) := by kernel_rfl
theorem list16 {α : Type} {l : List α} (h : l.length = 16) : ∃ a0 a1 a2 a3 a4 a5 a6 a7 a8 a9 b0 b1 b2 b3 b4 b5 : α, l = [a0, a1, a2, a3, a4, a5, a6, a7, a8, a9, b0, b1, b2, b3, b4, b5] := by
  match l, h with
  | [a0, a1, a2, a3, a4, a5, a6, a7, a8, a9, b0, b1, b2, b3, b4, b5], _ => exact ⟨a0, a1, a2, a3, a4, a5, a6, a7, a8, a9, b0, b1, b2, b3, b4, b5, rfl⟩
theorem built17 (l : List UInt8) (hl : l.length = 16) (n : Int) : Tryz.prog.built 95 [(0, .agg (cA l)), (1, .int .i64 n)] = some (C.cells ⟨l, n⟩) := by
  obtain ⟨a0, a1, a2, a3, a4, a5, a6, a7, a8, a9, b0, b1, b2, b3, b4, b5, rfl⟩ := list16 hl
  kernel_rfl
theorem C_size (c : C) (h : c.a.length = 16) : c.cells.size = 17 := by simp [C.cells, cellsOf_length, h]
theorem C_one (c : C) : c.cells.all (·.oneCell') = true := all_oneCell_toArray (fun v hv => by
  rcases List.mem_append.1 hv with h | h
  · exact cellsOf_one _ v h
  · simp at h; subst h; rfl)
/-- a Cidr is built -/
theorem go_bd17 {ops : Array Oper} {rest : List Oper} {o : Oper} {a : Act} {w : World} {Q : Exit → Act → World → Prop} {x y : Operand} {l : List UInt8} {n : Int} (hl : l.length = 16) (hg : o.guard = none) (ho : o.op = .build 95 #[(0, x), (1, y)])
    (hx : a.eval x = .agg (cA l)) (hy : a.eval y = .int .i64 n) (h : wpList Tryz.prog ops Q rest (a.put o.dst (.agg (C.cells ⟨l, n⟩))) w) : wpList Tryz.prog ops Q (o :: rest) a w := by
  have e : Tryz.prog.built 95 ((#[(0, x), (1, y)] : Array (Nat × Operand)).map fun (i, x) => (i, a.eval x)).toList = some (C.cells ⟨l, n⟩) := by
    simp only [List.map_toArray, List.map_cons, List.map_nil, hx, hy]
    exact built17 l hl n
  refine wpList_build hg _ _ ho (by rw [e]; rfl) ?_
  rw [e]
  exact h

theorem C_zero : C.cells ⟨List.replicate 16 0, 0⟩ = #[Value.int .u8 0, .int .u8 0, .int .u8 0, .int .u8 0, .int .u8 0, .int .u8 0, .int .u8 0, .int .u8 0, .int .u8 0, .int .u8 0, .int .u8 0, .int .u8 0, .int .u8 0, .int .u8 0, .int .u8 0, .int .u8 0, .int .i64 0] := rfl
theorem ofS_len (a : List UInt8) (n : Int) : (ofS a n).a.length = a.length := maskS_length _ _

theorem of_any (a : List UInt8) (ha : a.length = 16) (n : Int) (w : World) :
    Calls Tryz.prog 136 #[.agg (cA a), .int .i64 n] w fun e w' => e = .returned (.agg (ofS a n).cells) ∧ Below w.heap.size w w' := by
  have HI := Lib.hid (bitN_is n)
  have HS := Lib.hid (bitN_self n)
  have hz := ofS_len a n
  rw [ha] at hz
  go_enter Tryz.func136, Tryz.ntmps136
  go_wp2_with fail
  refine (within_any _ _ _ _).mono ?_
  rintro e w1 ⟨rfl, hw⟩
  rw [HI.out]
  have b0 : Blk w1 w.heap.size 48 (cA a) := by rw [hw]; exact (Blk.new _ _ _).alloc _
  have b1 : Blk w1 (w.heap.size + 1) 95 (C.cells ⟨List.replicate 16 0, 0⟩) := by rw [hw]; exact blk_at _ _ _ _ _ (by rw [alloc_size]) rfl
  have hbel : Below w.heap.size w w1 := by rw [hw]; exact ((Below.refl _ _).alloc (Nat.le_refl _) _).alloc (by simp) _
  clear hw
  go_wp2_with (refine go_ld 48 b0 und16 rfl info16 (by rw [cA_size, ha]) rfl rfl rfl ?_)
  refine (mask_any a ha _ _).mono ?_
  rintro e w2 ⟨rfl, hb2⟩
  rw [HS.out]
  have b1' := b1.below hb2 b1.lt
  have hbel2 := hbel.trans (hb2.mono hbel.size)
  clear b0 b1 hbel hb2
  have hbuilt : C.cells ⟨maskS a (bitN n), (bitN n : Int)⟩ = (ofS a n).cells := rfl
  go_wp2_with (first
    | (refine go_bd17 (by exact hz) rfl rfl rfl rfl ?_; rw [hbuilt])
    | (refine go_st 95 b1' info17 (C_size _ rfl) (C_size _ hz) (C_one _) rfl rfl rfl rfl ?_))
  exact ret_row Tryz.results136 b1' und17 rfl info17 (C_size _ hz) rfl ⟨rfl, setRow_below hbel2 b1' (by omega) _⟩ rfl

theorem plain8 : Tryz.prog.plainKey 5 = true := by kernel_rfl
theorem cells8 : Tryz.prog.cellsOf 5 = 1 := by kernel_rfl
theorem items8 (d : Nat) (c e : List UInt8) (w : World) : ∀ is : List Nat, (∀ i ∈ is, i < c.length ∧ i < e.length) → (Op.eqItems (d + 1) 5 1 (cA c) (cA e) is).run Tryz.prog w = .ok (is.all fun i => c[i]? == e[i]?) w
  | [], _ => rfl
  | i :: is, h => by
    obtain ⟨h1, h2⟩ := h i (by simp)
    have x1 : (cA c)[i]? = some (b8 c[i]) := by simp [cellsOf, h1]
    have x2 : (cA e)[i]? = some (b8 e[i]) := by simp [cellsOf, h2]
    have hq : (Op.equalIn (d + 1) 5 (b8 c[i]) (b8 e[i])).run Tryz.prog w = .ok (c[i] == e[i]) w := by
      have hb : (c[i] == e[i]) = ((c[i].toNat : Int) == (e[i].toNat : Int)) := by
        by_cases hce : c[i] = e[i]
        · rw [hce]; simp
        · have : ¬ c[i].toNat = e[i].toNat := fun k => hce (UInt8.toNat.inj k)
          have hn : ¬ (c[i].toNat : Int) = (e[i].toNat : Int) := by omega
          rw [beq_eq_false_iff_ne.2 hce, beq_eq_false_iff_ne.2 hn]
      rw [hb]
      exact run_equalIn_int w d _ .u8 .u8 _ _ Tryz.underlying5
    simp only [Op.eqItems, Sem.run_bind, Nat.mul_one, run_part_plain w plain8 x1, run_part_plain w plain8 x2, Result.andThen_ok, hq]
    rw [List.all_cons, List.getElem?_eq_getElem h1, List.getElem?_eq_getElem h2]
    cases hce : c[i] == e[i]
    · have : (some c[i] == some e[i]) = false := by simpa using hce
      rw [this]; simp
    · have : (some c[i] == some e[i]) = true := by simpa using hce
      rw [this]
      simpa using items8 d c e w is (fun j hj => h j (by simp [hj]))
theorem all_range {c e : List UInt8} {n : Nat} (hc : c.length = n) (he : e.length = n) : ((List.range n).all fun i => c[i]? == e[i]?) = (c == e) := by
  rw [Bool.eq_iff_iff, List.all_eq_true, beq_iff_eq]
  constructor
  · intro h
    apply List.ext_getElem?
    intro i
    by_cases hi : i < n
    · exact beq_iff_eq.1 (h i (by simpa using hi))
    · rw [List.getElem?_eq_none (by omega), List.getElem?_eq_none (by omega)]
  · rintro rfl i _
    simp
theorem info8 : ∃ i, Tryz.prog.info? 5 = some i := by
  cases h : Tryz.prog.info? 5 with
  | none => have : (Tryz.prog.info? 5).isSome = true := by kernel_rfl
            rw [h] at this; cases this
  | some i => exact ⟨i, rfl⟩
theorem eqIn16 (d : Nat) (c e : List UInt8) (hc : c.length = 16) (he : e.length = 16) (w : World) : (Op.equalIn (d + 2) 48 (.agg (cA c)) (.agg (cA e))).run Tryz.prog w = .ok (c == e) w := by
  obtain ⟨i8, hi8⟩ := info8
  rw [run_equalIn_array w (d + 1) (cA c) (cA e) und16 hi8, cells8, items8 d c e w _ (fun i hi => by simp at hi; omega), all_range hc he]
/-- '==' of two addresses -/
theorem eql16 (c e : List UInt8) (hc : c.length = 16) (he : e.length = 16) (w : World) : (binOp .eql 48 (.agg (cA c)) (.agg (cA e))).run Tryz.prog w = .ok (.bool (c == e)) w := by
  rw [run_eql_struct, eqIn16 9998 c e hc he w]; rfl
theorem fields17 : ∃ f g : Field, (Tryz.prog.fieldsOf 95).toList = [f, g] ∧ f.type = 48 ∧ f.offset = 0 ∧ f.name ≠ "_" ∧ g.type = 3 ∧ g.offset = 16 ∧ g.name ≠ "_" := by
  simp only [Program.fieldsOf, Tryz.underlying95]
  exact ⟨_, _, rfl, rfl, rfl, by decide, rfl, rfl, by decide⟩
theorem stood17 : Tryz.prog.stoodInHeld 95 = false := by kernel_rfl
theorem part_row {c : C} (hc : c.a.length = 16) (w : World) : (part 48 c.cells 0).run Tryz.prog w = .ok (.agg (cA c.a)) w := by
  have hagg : (isAgg 48).run Tryz.prog w = .ok true w := by
    unfold isAgg
    rw [Sem.run_bind, run_underlying und16 w]
    rfl
  cases hq : Tryz.prog.info? 48 with
  | none => have := info16; rw [hq] at this; cases this
  | some i =>
    have hs : i.size = 16 := by have := info16; rw [hq] at this; simpa using this
    simp [part, Sem.run_bind, hagg, sizeOf, typeInfo, hq, hs]
    apply Array.ext'
    simp [C.cells, cellsOf_length, hc]
theorem part_bits {c : C} (hc : c.a.length = 16) (w : World) : (part 3 c.cells 16).run Tryz.prog w = .ok (.int .i64 c.n) w :=
  run_part_plain w (by kernel_rfl) (by simp [C.cells, cellsOf_length, hc])
theorem C_beq (c d : C) : (c == d) = (c.a == d.a && c.n == d.n) := by
  rw [Bool.eq_iff_iff, Bool.and_eq_true, beq_iff_eq, beq_iff_eq, beq_iff_eq]
  constructor
  · rintro rfl; exact ⟨rfl, rfl⟩
  · intro ⟨h1, h2⟩; cases c; cases d; simp_all
theorem eqFields17 (k : Nat) (f g : Field) (f1 : f.type = 48) (f2 : f.offset = 0) (f3 : f.name ≠ "_") (g1 : g.type = 3) (g2 : g.offset = 16) (g3 : g.name ≠ "_") (c d : C) (hc : c.a.length = 16) (hd : d.a.length = 16) (w : World) : (Op.eqFields (k + 2) c.cells d.cells [f, g]).run Tryz.prog w = .ok (c.a == d.a && c.n == d.n) w := by
  have p1 : (part f.type c.cells f.offset).run Tryz.prog w = .ok (.agg (cA c.a)) w := by rw [f1, f2]; exact part_row hc w
  have p2 : (part f.type d.cells f.offset).run Tryz.prog w = .ok (.agg (cA d.a)) w := by rw [f1, f2]; exact part_row hd w
  have p3 : (Op.equalIn (k + 2) f.type (.agg (cA c.a)) (.agg (cA d.a))).run Tryz.prog w = .ok (c.a == d.a) w := by rw [f1]; exact eqIn16 k c.a d.a hc hd w
  have q1 : (part g.type c.cells g.offset).run Tryz.prog w = .ok (.int .i64 c.n) w := by rw [g1, g2]; exact part_bits hc w
  have q2 : (part g.type d.cells g.offset).run Tryz.prog w = .ok (.int .i64 d.n) w := by rw [g1, g2]; exact part_bits hd w
  have q3 : (Op.equalIn (k + 2) g.type (.int .i64 c.n) (.int .i64 d.n)).run Tryz.prog w = .ok (c.n == d.n) w := by rw [g1]; exact run_equalIn_int w (k + 1) _ .i64 .i64 c.n d.n Tryz.underlying3
  clear f1 f2 g1 g2
  generalize k + 2 = K at *
  generalize (Value.agg (cA c.a)) = A1 at *
  generalize (Value.agg (cA d.a)) = A2 at *
  generalize (c.a == d.a) = r1 at *
  generalize (c.n == d.n) = r2 at *
  simp only [Op.eqFields, f3, g3, ne_eq, not_false_eq_true, if_true, Sem.run_bind, p1, p2, p3, Result.andThen_ok]
  cases r1
  · simp
  · simp only [Bool.not_true, Bool.false_eq_true, if_false, Sem.run_bind, q1, q2, q3, Result.andThen_ok, Bool.true_and]
    cases r2 <;> simp
theorem eqIn17 (k : Nat) (c d : C) (hc : c.a.length = 16) (hd : d.a.length = 16) (w : World) : (Op.equalIn (k + 3) 95 (.agg c.cells) (.agg d.cells)).run Tryz.prog w = .ok (c == d) w := by
  obtain ⟨f, g, hfs, f1, f2, f3, g1, g2, g3⟩ := fields17
  rw [run_equalIn_struct w (k + 2) _ _ _ und17 stood17, hfs, C_beq]
  exact eqFields17 k f g f1 f2 f3 g1 g2 g3 c d hc hd w
theorem eqIn17n (n : Nat) (h : 3 ≤ n) (c d : C) (hc : c.a.length = 16) (hd : d.a.length = 16) (w : World) : (Op.equalIn n 95 (.agg c.cells) (.agg d.cells)).run Tryz.prog w = .ok (c == d) w := by
  obtain ⟨k, rfl⟩ : ∃ k, n = k + 3 := ⟨n - 3, by omega⟩
  exact eqIn17 k c d hc hd w
/-- '==' of two Cidrs -/
theorem eql17 (c d : C) (hc : c.a.length = 16) (hd : d.a.length = 16) (w : World) : (binOp .eql 95 (.agg c.cells) (.agg d.cells)).run Tryz.prog w = .ok (.bool (c == d)) w := by
  rw [run_eql_struct, eqIn17n _ (by omega) c d hc hd w, Result.andThen_ok]

/-- what a block that holds a Cidr yields -/
theorem ld17 {w : World} {g t : Nat} {c : C} (h : Blk w g t c.cells) (hc : c.a.length = 16) :
    (Instr.loadAt 95 (.pointer (some ⟨g, 0, none⟩))).run Tryz.prog w = .ok (.agg c.cells) w := by
  simp only [Instr.loadAt, Instr.sureAddr, Sem.run_bind, Sem.run_pure, Result.andThen_ok]
  exact run_loadVar_row w g t _ c.cells (0, 0) _ h und17 rfl (by rw [info17, C_size c hc])
theorem ld17a {w : World} {g t : Nat} {c : C} (h : Blk w g t c.cells) (hc : c.a.length = 16) :
    (Instr.loadAt 48 (.pointer (some ⟨g, 0, none⟩))).run Tryz.prog w = .ok (.agg (cA c.a)) w :=
  run_loadAt_mid w g 0 _ (cellsOf c.a) _ (fun j v hv => by
    rw [Nat.zero_add, h.cell]
    have hj : j < (cellsOf c.a).length := (List.getElem?_eq_some_iff.1 hv).1
    simp only [C.cells, List.getElem?_toArray]
    rw [List.getElem?_append_left hj, hv]) und16 rfl (by rw [info16, cellsOf_length, hc])
theorem ld17n {w : World} {g t : Nat} {c : C} (h : Blk w g t c.cells) (hc : c.a.length = 16) : w.cell? ⟨g, 16, none⟩ = some (.int .i64 c.n) := by
  rw [h.cell]; simp [C.cells, cellsOf_length, hc]

end Go.Proofs.YtlpondbcnfaggaaGreatDoor.Ad
