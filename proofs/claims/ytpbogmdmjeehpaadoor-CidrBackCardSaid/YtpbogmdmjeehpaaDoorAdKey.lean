/-
  Cidrs as keys of a map; a set of Cidrs, as it lies in memory.
-/
import Derived.Test.YtpbogmdmjeehpaaDoorAdHas
import Derived.Test.YtpbogmdmjeehpaaDoorAdShort
import Derived.Maps.OwnSet
import Derived.Maps.Views
import Derived.WideKeyElems3
import Derived.DeepKeys4
import Derived.WalkArith
import Derived.MapViews
namespace Go.Proofs.YtpbogmdmjeehpaaDoor.Ad
open Go.RowKit Go.Proofs.YtpbogmdmjeehpaaDoor.Wd Go.Maps

structure OkC (c : C) : Prop where
  len : c.a.length = 16
  lo : -9223372036854775808 ≤ c.n
  hi : c.n ≤ 9223372036854775807
theorem ofS_ok {a : List UInt8} (ha : a.length = 16) (n : Int) : OkC (ofS a n) :=
  ⟨by rw [ofS_len, ha], by show _ ≤ ((bitN n : Nat) : Int); omega, by have := bitN_le n; show ((bitN n : Nat) : Int) ≤ _; omega⟩

theorem laidOut : laidOutB Tryd.prog = true := by kernel_rfl
theorem rowC : (25 : TypeId) < Tryd.prog.types.size := of_decide_eq_true (by kernel_rfl)
theorem deepC : Tryd.prog.keyTypeAt (Tryd.prog.types.size + 1) 25 = true := by kernel_rfl
theorem wideC : (match Tryd.prog.underlying 25 with | some (.array _ _) | some (.struct _) => true | _ => false) = true := by kernel_rfl
set_option maxRecDepth 100000 in
theorem lawC : Go.WideMaps.KeyLaw Tryd.prog 25 := deep_law_laid laidOut (m := 4) (by omega) rowC (by kernel_rfl) wideC
theorem keyedC : Keyed Tryd.prog 25 := Keyed.of_law lawC

theorem wf8 (c : UInt8) : (Lit.int .u8 (c.toNat : Int)).wf = true := WalkArith.wf_u8 (by have := c.toNat_lt; omega)
theorem kl8 (D : Nat) (c : UInt8) : Tryd.prog.keyLits (D + 1) 5 [b8 c] = some [.int .u8 (c.toNat : Int)] := by
  simp [Program.keyLits, Tryd.underlying5, b8, wf8]
theorem cells16' : Tryd.prog.cellsOf 23 = 16 := by kernel_rfl
theorem cells17' : Tryd.prog.cellsOf 25 = 17 := by kernel_rfl
def lits (c : C) : List Lit := (c.a.map fun x => Lit.int .u8 (x.toNat : Int)) ++ [.int .i64 c.n]
theorem kl16 (D : Nat) (l : List UInt8) (h : l.length = 16) : Tryd.prog.keyLits (D + 2) 23 (cellsOf l) = some (l.map fun x => Lit.int .u8 (x.toNat : Int)) := by
  obtain ⟨x0, x1, x2, x3, x4, x5, x6, x7, x8, x9, x10, x11, x12, x13, x14, x15, rfl⟩ := list16 h
  unfold Program.keyLits
  rw [und16]
  simp only [cells16', cells8, cellsOf, List.map_cons, List.map_nil]
  rw [show List.range 16 = [0, 1, 2, 3, 4, 5, 6, 7, 8, 9, 10, 11, 12, 13, 14, 15] from rfl]
  simp [kl8]
theorem kl64 (D : Nat) (n : Int) (h0 : -9223372036854775808 ≤ n) (h1 : n ≤ 9223372036854775807) : Tryd.prog.keyLits (D + 1) 3 [.int .i64 n] = some [.int .i64 n] := by
  simp [Program.keyLits, Tryd.underlying3, WalkArith.wf_i64 ⟨h0, h1⟩]
theorem cells64 : Tryd.prog.cellsOf 3 = 1 := by kernel_rfl
theorem kl17 (D : Nat) (c : C) (h : OkC c) : Tryd.prog.keyLits (D + 3) 25 (cL c) = some (lits c) := by
  have h1 : (cL c).take 16 = cellsOf c.a := by
    rw [List.take_append_of_le_length (by rw [cellsOf_length, h.len]; omega), List.take_of_length_le (by rw [cellsOf_length, h.len]; omega)]
  have h2 : ((cL c).drop 16).take 1 = [.int .i64 c.n] := by
    rw [List.drop_append_of_le_length (by rw [cellsOf_length, h.len]; omega), List.drop_of_length_le (by rw [cellsOf_length, h.len]; omega)]
    rfl
  have k1 := kl16 D c.a h.len
  have k2 := kl64 (D + 1) c.n h.lo h.hi
  unfold Program.keyLits
  rw [Tryd.underlying25]
  simp only [cells17', cL_len c h.len]
  simp [cells16', cells64, h1, h2, k1, k2, lits]
/-- a Cidr's key -/
def kC (c : C) : Lit := .string (keyBytes (lits c))
theorem keyC (c : C) (h : OkC c) : keyOf Tryd.prog 25 (.agg c.cells) = some (kC c) := by
  have hk := kl17 (Tryd.prog.types.size - 2) c h
  have hT : 2 < Tryd.prog.types.size := of_decide_eq_true (by kernel_rfl)
  rw [show Tryd.prog.types.size - 2 + 3 = Tryd.prog.types.size + 1 by omega] at hk
  have hkt : Tryd.prog.keyType 25 = true := by kernel_rfl
  have hf : (Value.agg c.cells).formed Tryd.prog 25 = true := by
    simp [Value.formed, Tryd.underlying25, cells17', C_size c h.len]
  have hcl : (Value.agg c.cells).cells.toList = cL c := by simp [Value.cells, C.cells]
  unfold keyOf
  rw [Tryd.underlying25]
  show (if (Tryd.prog.keyType 25 && (Value.agg c.cells).formed Tryd.prog 25) = true then (Tryd.prog.keyLits (Tryd.prog.types.size + 1) 25 (Value.agg c.cells).cells.toList).map (fun ls => Lit.string (keyBytes ls)) else none) = _
  rw [hkt, hf, hcl, hk]
  rfl
theorem cells_inj {c d : C} (hc : c.a.length = d.a.length) (h : c.cells = d.cells) : c = d := by
  have h' : cL c = cL d := by
    have := congrArg Array.toList h
    simpa [C.cells] using this
  obtain ⟨h1, h2⟩ := List.append_inj h' (by rw [cellsOf_length, cellsOf_length, hc])
  have h3 : c.a = d.a := by
    have : ∀ l l' : List UInt8, cellsOf l = cellsOf l' → l = l' := by
      intro l
      induction l with
      | nil => intro l' h; cases l' with | nil => rfl | cons => simp [cellsOf] at h
      | cons x l ih =>
        intro l' h
        cases l' with
        | nil => simp [cellsOf] at h
        | cons y l' =>
          simp only [cellsOf, List.map_cons, List.cons.injEq, b8] at h
          have hx : x = y := by
            have h0 : (x.toNat : Int) = (y.toNat : Int) := by injection h.1
            exact UInt8.toNat.inj (by omega)
          rw [hx, ih l' h.2]
    exact this _ _ h1
  cases c; cases d
  simp at h2 h3
  simp [h2, h3]
theorem kC_inj {c d : C} (hc : OkC c) (hd : OkC d) (h : kC c = kC d) : c = d := by
  have h1 := keyC c hc
  have h2 := keyC d hd
  have h3 : Value.agg c.cells = Value.agg d.cells := keyedC.inj h1 (h2.trans (congrArg some h.symm))
  exact cells_inj (by rw [hc.len, hd.len]) (Value.agg.inj h3)
theorem kC_key (c : C) (h : OkC c) : WideAt.IsKeyLit (kC c) := keyedC.key (keyC c h)

/-- a set of Cidrs, as it lies in memory -/
structure SetIs (w : World) (s b n : Nat) (D : DataW Unit) (L : List C) : Prop where
  cell : Blk w s 53 #[.map (some b)]
  own : w.ownsMap Tryd.prog 25 (unitElem (H := Unit)) b n D
  has : ∀ kl, Maps.has D kl = true ↔ ∃ c ∈ L, kC c = kl
  ok : ∀ c ∈ L, OkC c
  nodup : L.Nodup
  size : Maps.size D = L.length
set_option maxRecDepth 100000 in
theorem SetIs.ne {w : World} {s b n : Nat} {D : DataW Unit} {L : List C} (h : SetIs w s b n D L) : s ≠ b := by
  rintro rfl
  obtain ⟨es, clock, hb, _⟩ := h.own
  have h2 := h.cell.heap
  rw [hb] at h2
  injection h2 with h2
  exact absurd h2 (by intro h; cases h)
theorem SetIs.in_ {w : World} {s b n : Nat} {D : DataW Unit} {L : List C} (h : SetIs w s b n D L) (c : C) (hc : OkC c) : Maps.has D (kC c) = decide (c ∈ L) := by
  rw [Bool.eq_iff_iff, h.has, decide_eq_true_iff]
  constructor
  · rintro ⟨d, hd, he⟩; rwa [kC_inj hc (h.ok d hd) he.symm]
  · intro hm; exact ⟨c, hm, rfl⟩
theorem SetIs.below {w w' : World} {s b n B : Nat} {D : DataW Unit} {L : List C} (h : SetIs w s b n D L) (hb : Below B w w') (h1 : s < B) (h2 : b < B) : SetIs w' s b n D L where
  cell := h.cell.below hb h1
  own := by
    obtain ⟨es, clock, hh, r⟩ := h.own
    exact ⟨es, clock, (hb.block b h2).trans hh, r⟩
  has := h.has
  ok := h.ok
  nodup := h.nodup
  size := h.size
theorem SetIs.on {w w' : World} {s b n : Nat} {D : DataW Unit} {L : List C} (h : SetIs w s b n D L) (hb : Below w.heap.size w w') : SetIs w' s b n D L := h.below hb h.cell.lt h.own.lt
end Go.Proofs.YtpbogmdmjeehpaaDoor.Ad
