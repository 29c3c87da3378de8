/-
  A hello as it lies in memory: a row of numbers, a row of extensions, a struct of 38 cells; structs loaded and stored whole; bytes.IndexByte. Plain lemmas, no condition.
-/
import Derived.Test.YtajmdchidmamcaaHeTell
import Derived.Test.YtajmdchidmamcaaOwn
import Derived.Lib.BytesEntry
import Derived.Deep.MidRow
namespace Go.Proofs.Ytajmdchidmamcaa.He
open Go.RowKit Go.Proofs.Ytajmdchidmamcaa.Wd Go.Proofs.Ytajmdchidmamcaa.Be

theorem infH : (Try.prog.info? 44).map (·.size) = some 38 := by kernel_rfl
theorem undH : Try.prog.underlying 44 = some (.struct (Try.prog.fieldsOf 44)) := by kernel_rfl
/-- a variable of n cells is loaded whole -/
theorem go_ld {ops : Array Oper} {rest : List Oper} {o : Oper} {a : Act} {w : World} {Q : Exit → Act → World → Prop} {x : Operand} {g t n : Nat} {C : Array Value} {d : TypeDesc} (ty : TypeId) (hb : Blk w g t C) (hu : Try.prog.underlying ty = some d)
    (hd : d.isRow = true) (hi : (Try.prog.info? ty).map (·.size) = some n) (hn : C.size = n) (hw : Region.wanted o (yielded ops a.tmps) = true) (ho : o.op = .load ty x)
    (hx : a.eval x = .pointer (some ⟨g, 0, none⟩)) (h : wpList Try.prog ops Q rest (a.put o.dst (.agg C)) w) : wpList Try.prog ops Q (o :: rest) a w := by
  show if Region.wanted o (yielded ops a.tmps) = true then _ else _
  rw [if_pos hw]
  exact .inl (wp_load_row ty x ho g hx t C (0, 0) d hb hu (by cases d <;> first | rfl | cases hd) (by rw [hi, hn]) h)
/-- a variable of n cells is stored whole -/
theorem go_st {ops : Array Oper} {rest : List Oper} {o : Oper} {a : Act} {w : World} {Q : Exit → Act → World → Prop} {x y : Operand} {g t n : Nat} {C D : Array Value} (ty : TypeId) (hb : Blk w g t C)
    (hi : (Try.prog.info? ty).map (·.size) = some n) (hn : C.size = n) (hm : D.size = n) (h1 : D.all (·.oneCell') = true) (hgd : o.guard = none) (ho : o.op = .store ty x y)
    (hx : a.eval x = .pointer (some ⟨g, 0, none⟩)) (hy : a.eval y = .agg D) (h : wpList Try.prog ops Q rest (a.put o.dst undef) (w.setRow g D)) : wpList Try.prog ops Q (o :: rest) a w :=
  wpList_store_row hgd ty x y ho g D hx hy t C hb (by rw [hi, hm]) (by rw [hn, hm]) h1 h
theorem setRow_blk {w : World} {g : Nat} {t : TypeId} {old new : Array Value} (h : Blk w g t old) : Blk (w.setRow g new) g t new := by
  have h' : w.heap[g]? = some (.cells old t (0, 0)) := h
  have hg := h.lt
  unfold Blk
  simp only [World.setRow]
  rw [Array.getElem?_modify]
  simp [h']
theorem setRow_far {w : World} {g k : Nat} (hk : k ≠ g) (new : Array Value) : (w.setRow g new).heap[k]? = w.heap[k]? := by
  simp only [World.setRow]
  rw [Array.getElem?_modify, if_neg (fun e => hk e.symm)]
theorem setRow_below {B g : Nat} {a w : World} (h : Below B a w) (hg : B ≤ g) (new : Array Value) : Below B a (w.setRow g new) := by
  refine ⟨h.os, h.tape, h.output, ?_, fun i hi => ?_⟩
  · have := h.size
    simpa [World.setRow] using this
  · rw [setRow_far (by omega)]
    exact h.block i hi
theorem setRow_size (w : World) (g : Nat) (new : Array Value) : (w.setRow g new).heap.size = w.heap.size := by simp [World.setRow]
theorem Blk.row_far {w : World} {g g' t : Nat} {cs : Array Value} (h : Blk w g t cs) (hne : g ≠ g') (new : Array Value) : Blk (w.setRow g' new) g t cs := (setRow_far hne new).trans h
theorem blk_at (w : World) (t : TypeId) (cs cs' : Array Value) (g : Nat) (hg : g = w.heap.size) (hc : cs = cs') : Blk (w.alloc (.cells cs t)) g t cs' := by
  subst hg hc
  exact Blk.new w t cs
theorem alloc_size (w : World) (o : Obj) : (w.alloc o).heap.size = w.heap.size + 1 := by simp

/-- numbers that a slice leads to -/
def SrcI (w : World) (A : Option Addr) (l : List Int) : Prop :=
  ∀ (k : Nat) (x : Int), l[k]? = some x → ∃ g o, A = some ⟨g, o, none⟩ ∧ g < w.heap.size ∧ w.cell? ⟨g, o + k, none⟩ = some (.int .i64 x)
theorem SrcI.below {w w' : World} {A : Option Addr} {l : List Int} (h : SrcI w A l) (hb : Below w.heap.size w w') : SrcI w' A l := fun k x hx => by
  obtain ⟨g, o, hA, hg, hc⟩ := h k x hx
  exact ⟨g, o, hA, Nat.lt_of_lt_of_le hg hb.size, (hb.cell (p := ⟨g, _, none⟩) hg).trans hc⟩
theorem SrcI.nil (w : World) (A : Option Addr) : SrcI w A [] := fun k x h => by cases k <;> cases h
/-- one extension: Kind, Data -/
structure Xt where
  kind : Int
  A : Option Addr
  n : Nat
  c : Nat
  b : List UInt8
instance : Inhabited Xt := ⟨⟨0, none, 0, 0, []⟩⟩
structure Xt.Ok (w : World) (x : Xt) : Prop where
  k1 : -9223372036854775808 ≤ x.kind ∧ x.kind ≤ 9223372036854775807
  nc : x.n ≤ x.c
  src : Src w x.A x.n x.b
  small : x.n ≤ 140737488351232
/-- a row of extensions that a slice leads to -/
def SrcX (w : World) (A : Option Addr) (l : List Xt) : Prop :=
  ∀ (i : Nat) (x : Xt), l[i]? = some x → x.Ok w ∧ ∃ g o, A = some ⟨g, o, none⟩ ∧ g < w.heap.size ∧ w.cell? ⟨g, o + i * 2, none⟩ = some (.int .i64 x.kind) ∧ w.cell? ⟨g, o + i * 2 + 1, none⟩ = some (.slice x.A x.n x.c)
theorem Xt.Ok.below {w w' : World} {x : Xt} (h : x.Ok w) (hb : Below w.heap.size w w') : x.Ok w' := ⟨h.k1, h.nc, h.src.below hb, h.small⟩
theorem SrcX.below {w w' : World} {A : Option Addr} {l : List Xt} (h : SrcX w A l) (hb : Below w.heap.size w w') : SrcX w' A l := fun i x hx => by
  obtain ⟨hok, g, o, hA, hg, h0, h1⟩ := h i x hx
  exact ⟨hok.below hb, g, o, hA, Nat.lt_of_lt_of_le hg hb.size, (hb.cell (p := ⟨g, _, none⟩) hg).trans h0, (hb.cell (p := ⟨g, _, none⟩) hg).trans h1⟩
theorem SrcX.nil (w : World) (A : Option Addr) : SrcX w A [] := fun k x h => by cases k <;> cases h

/-- a hello as it lies in memory -/
structure Hv where
  ver : Int
  rnd : List UInt8
  sA : Option Addr
  sc : Nat
  ses : List UInt8
  cA : Option Addr
  cc : Nat
  cph : List Int
  mA : Option Addr
  mc : Nat
  met : List UInt8
  has : Bool
  xA : Option Addr
  xc : Nat
  xs : List Xt
def Hv.L (H : Hv) : List Value := .int .i64 H.ver :: (cellsOf H.rnd ++ [.slice H.sA H.ses.length H.sc, .slice H.cA H.cph.length H.cc, .slice H.mA H.met.length H.mc, .bool H.has, .slice H.xA H.xs.length H.xc])
def Hv.C (H : Hv) : Array Value := H.L.toArray
def ext (x : Xt) : Int × List UInt8 := (x.kind, x.b)
def Hv.hel (H : Hv) : Hel := ⟨H.ver, H.rnd, H.ses, H.cph, H.met, H.has, H.xs.map ext⟩
structure Hv.Ok (w : World) (H : Hv) : Prop where
  ver : -9223372036854775808 ≤ H.ver ∧ H.ver ≤ 9223372036854775807
  rnd : H.rnd.length = 32
  s1 : H.ses.length ≤ H.sc ∧ H.ses.length ≤ 140737488351232
  ses : Src w H.sA H.ses.length H.ses
  c1 : H.cph.length ≤ H.cc ∧ H.cph.length ≤ 140737488351232
  c2 : ∀ n ∈ H.cph, -9223372036854775808 ≤ n ∧ n ≤ 9223372036854775807
  cph : SrcI w H.cA H.cph
  m1 : H.met.length ≤ H.mc ∧ H.met.length ≤ 140737488351232
  met : Src w H.mA H.met.length H.met
  x1 : H.xs.length ≤ H.xc ∧ H.xs.length ≤ 140737488351232
  xs : SrcX w H.xA H.xs
theorem Hv.Ok.below {w w' : World} {H : Hv} (h : H.Ok w) (hb : Below w.heap.size w w') : H.Ok w' :=
  ⟨h.ver, h.rnd, h.s1, h.ses.below hb, h.c1, h.c2, h.cph.below hb, h.m1, h.met.below hb, h.x1, h.xs.below hb⟩
theorem Hv.size {H : Hv} (h : H.rnd.length = 32) : H.C.size = 38 := by simp [Hv.C, Hv.L, cellsOf_length, h]
theorem Hv.one (H : Hv) : H.C.all (·.oneCell') = true := by
  simp only [Hv.C, List.all_toArray', List.all_eq_true]
  intro v hv
  rcases List.mem_cons.1 hv with rfl | hv
  · rfl
  · rcases List.mem_append.1 hv with hv | hv
    · exact cellsOf_one _ v hv
    · simp at hv
      rcases hv with rfl | rfl | rfl | rfl | rfl <;> rfl
theorem Hv.at_ {H : Hv} (h : H.rnd.length = 32) (j : Nat) : H.C[33 + j]? = [Value.slice H.sA H.ses.length H.sc, .slice H.cA H.cph.length H.cc, .slice H.mA H.met.length H.mc, .bool H.has, .slice H.xA H.xs.length H.xc][j]? := by
  have e : H.C[33 + j]? = H.L[33 + j]? := by simp [Hv.C]
  rw [e, Hv.L, show 33 + j = (32 + j) + 1 by omega, List.getElem?_cons_succ, List.getElem?_append_right (by rw [cellsOf_length]; omega), cellsOf_length, h, show 32 + j - 32 = j by omega]
theorem Hv.at0 (H : Hv) : H.C[0]? = some (.int .i64 H.ver) := by simp [Hv.C, Hv.L]
theorem Hv.atR {H : Hv} (_h : H.rnd.length = 32) {j : Nat} {c : UInt8} (hj : H.rnd[j]? = some c) : H.C[1 + j]? = some (b8 c) := by
  have hl := (List.getElem?_eq_some_iff.1 hj).1
  have e : H.C[1 + j]? = H.L[1 + j]? := by simp [Hv.C]
  rw [e, Hv.L, show 1 + j = j + 1 by omega, List.getElem?_cons_succ, List.getElem?_append_left (by rw [cellsOf_length]; omega)]
  exact cellsOf_get hj
section
variable {w : World} {g t : Nat} {H : Hv}
theorem cell_ver (h : Blk w g t H.C) : w.cell? ⟨g, 0, none⟩ = some (.int .i64 H.ver) := by rw [h.cell]; exact H.at0
theorem cell_ses (h : Blk w g t H.C) (hr : H.rnd.length = 32) : w.cell? ⟨g, 33, none⟩ = some (.slice H.sA H.ses.length H.sc) := by rw [h.cell]; exact Hv.at_ hr 0
theorem cell_cph (h : Blk w g t H.C) (hr : H.rnd.length = 32) : w.cell? ⟨g, 34, none⟩ = some (.slice H.cA H.cph.length H.cc) := by rw [h.cell]; exact Hv.at_ hr 1
theorem cell_met (h : Blk w g t H.C) (hr : H.rnd.length = 32) : w.cell? ⟨g, 35, none⟩ = some (.slice H.mA H.met.length H.mc) := by rw [h.cell]; exact Hv.at_ hr 2
theorem cell_has (h : Blk w g t H.C) (hr : H.rnd.length = 32) : w.cell? ⟨g, 36, none⟩ = some (.bool H.has) := by rw [h.cell]; exact Hv.at_ hr 3
theorem cell_xs (h : Blk w g t H.C) (hr : H.rnd.length = 32) : w.cell? ⟨g, 37, none⟩ = some (.slice H.xA H.xs.length H.xc) := by rw [h.cell]; exact Hv.at_ hr 4
theorem src_rnd (h : Blk w g t H.C) (hr : H.rnd.length = 32) : Src w (some ⟨g, 1, none⟩) 32 H.rnd := by
  have := Src.of_blk (xs := H.rnd) (off := 1) h (fun j c hj => Hv.atR hr hj)
  rwa [hr] at this
end
/-- the empty hello -/
def Hv.zero : Hv := ⟨0, List.replicate 32 0, none, 0, [], none, 0, [], none, 0, [], false, none, 0, []⟩
theorem Hv.zero_ok (w : World) : Hv.zero.Ok w :=
  ⟨by show (-9223372036854775808 : Int) ≤ 0 ∧ (0 : Int) ≤ _; omega, rfl, ⟨Nat.le_refl _, Nat.zero_le _⟩, Src.nil w, ⟨Nat.le_refl _, Nat.zero_le _⟩, fun _ h => absurd h List.not_mem_nil, SrcI.nil w _, ⟨Nat.le_refl _, Nat.zero_le _⟩, Src.nil w, ⟨Nat.le_refl _, Nat.zero_le _⟩, SrcX.nil w _⟩
theorem Hv.zero_hel : Hv.zero.hel = Hel.zero := rfl

/-- the one result of two that lies in a block that was stored whole; the other in a slot -/
theorem add_flat (g o k : Nat) : (⟨g, o, none⟩ : Addr).add k = ⟨g, o + k, none⟩ := by
  unfold Addr.add
  split <;> simp_all

/-- the model's entry at bytes that a slice leads to -/
theorem run_index {P : Program} {w : World} {A : Option Addr} {n c : Nat} {xs : List UInt8} (h : Src w A n xs) (cv : Int) :
    (Extern.BytealgIndexByte.indexByte #[.slice A n c, .int .u8 cv]).run P w = .ok (.int .i64 (Lib.indexByte xs cv.toNat.toUInt8)) w := by
  obtain ⟨hl, hc⟩ := h
  cases A with
  | none =>
    have : xs = [] := by
      rcases Nat.eq_zero_or_pos n with h0 | h0
      · exact List.eq_nil_of_length_eq_zero (by omega)
      · obtain ⟨ad, e, _⟩ := hc h0; cases e
    subst this
    exact Lib.run_indexByteNil w n c cv
  | some ad =>
    have hcell : ∀ j x, (xs.map fun c => (c.toNat : Int))[j]? = some x → w.cell? (ad.add j) = some (.int .u8 x) := by
      intro j x hj
      rw [List.getElem?_map, Option.map_eq_some_iff] at hj
      obtain ⟨y, hy, rfl⟩ := hj
      have hp := (List.getElem?_eq_some_iff.1 hy).1
      obtain ⟨ad', e, _, hc'⟩ := hc (by omega)
      injection e with e
      subst e
      exact hc' j y hy
    have hl2 := Lib.run_loadBytesX (P := P) w (xs.map fun c => (c.toNat : Int)) ad .empty hcell
    have hb : Lib.bytesOf (xs.map fun c => (c.toNat : Int)) = xs := by
      simp [Lib.bytesOf, List.map_map, Function.comp_def]
    rw [List.length_map, hl, hb] at hl2
    have hs := Lib.run_indexByteString (P := P) ⟨xs.toArray⟩ cv w
    have he : (⟨ByteArray.empty.data ++ xs.toArray⟩ : ByteArray) = ⟨xs.toArray⟩ := by
      apply ByteArray.ext
      show (#[] : Array UInt8) ++ xs.toArray = xs.toArray
      simp
    rw [he] at hl2
    change Sem.run P (do
      let b ← Extern.Bytes.bytesOf (.slice (some ad) n c)
      let c ← Extern.Bytes.asByte (.int .u8 cv)
      match (List.range b.size).find? fun i => b[i]! == c with
      | some i => pure (goInt i)
      | none => pure (goInt (-1))) w = _
    change Sem.run P (do
      let b ← Extern.Bytes.bytesOf (.string ⟨xs.toArray⟩)
      let c ← Extern.Bytes.asByte (.int .u8 cv)
      match (List.range b.size).find? fun i => b[i]! == c with
      | some i => pure (goInt i)
      | none => pure (goInt (-1))) w = _ at hs
    simp only [Extern.Bytes.bytesOf, Sem.run_bind, Sem.run_pure, hl2, Result.andThen] at hs ⊢
    exact hs

theorem index_neg (xs : List UInt8) (c : UInt8) : (Lib.indexByte xs c < 0) ↔ c ∉ xs := by
  induction xs with
  | nil => simp [Lib.indexByte]
  | cons b l ih =>
    have hg := Lib.indexByte_ge l c
    unfold Lib.indexByte
    by_cases hb : b = c
    · subst hb; simp
    · have hb' : (b == c) = false := by simpa using hb
      have hb2 : ¬ c = b := fun e => hb e.symm
      rw [hb']
      simp only [Bool.false_eq_true, if_false, List.mem_cons, not_or]
      by_cases h1 : Lib.indexByte l c = -1
      · rw [h1]
        simp only [beq_self_eq_true, if_true]
        exact ⟨fun _ => ⟨hb2, ih.1 (by omega)⟩, fun _ => by omega⟩
      · have h2 : (Lib.indexByte l c == -1) = false := by simpa using h1
        rw [h2]
        simp only [Bool.false_eq_true, if_false]
        exact ⟨fun h => by omega, fun h => by have := ih.2 h.2; omega⟩
end Go.Proofs.Ytajmdchidmamcaa.He
