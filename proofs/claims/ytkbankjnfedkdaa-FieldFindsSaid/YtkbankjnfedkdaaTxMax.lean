/-
  What internal/bytealg.MaxLen holds where a call begins: some number; what stands of it behind; strings.Cut so (for seats whose rows name that variable and no other).
-/
import Derived.Test.YtkbankjnfedkdaaTx
import Derived.Test.YtkbankjnfedkdaaRgMem
import Derived.Test.YtkbankjnfedkdaaShelf
namespace Go.Proofs.Ytkbankjnfedkdaa.Tx
open Go.RowKit Go.Proofs.Ytkbankjnfedkdaa.Wd Go.Proofs.Ytkbankjnfedkdaa.Asc

structure Env (B : Nat) (w : World) : Prop where
  max : ∃ m, w.cell? ⟨0, 0, none⟩ = some (.int .i64 m)
  low : 0 < B
  le : B ≤ w.heap.size
theorem Env.below {B : Nat} {w w' : World} (h : Env B w) (hb : Below B w w') : Env B w' where
  max := by
    obtain ⟨m, hm⟩ := h.max
    exact ⟨m, (hb.cell (p := ⟨0, 0, none⟩) h.low).trans hm⟩
  low := h.low
  le := Nat.le_trans h.le hb.size
theorem Env.on {B : Nat} {w w' : World} (h : Env B w) (hb : Below w.heap.size w w') : Env B w' := h.below (hb.mono h.le)
theorem Env.fit {B : Nat} {w w' : World} (h : Env B w) {C : Nat} (hb : Below C w w') (hC : B ≤ C) : Env B w' := h.below (hb.mono hC)

theorem below_drewN' (w : World) (n : Nat) : Below w.heap.size w (w.drewN n) := ⟨rfl, rfl, rfl, Nat.le_refl _, fun _ _ => rfl⟩
/-- strings.Cut at a sign that is there -/
theorem cut_yes {B : Nat} (a b : List UInt8) (c : UInt8) (S : ByteArray) (w : World) (hE : Env B w) (hS : str (a ++ c :: b) = S) (hl : S.size < 4294967281) (ha : c ∉ a) :
    Calls Try.prog 16 #[.string S, .string ⟨#[c]⟩] w fun e w' => e = .returned (.tuple #[.string (str a), .string (str b), .bool true]) ∧ Below w.heap.size w w' := by
  obtain ⟨m, hm⟩ := hE.max
  subst hS
  refine (Try.strings_Cut (str (a ++ c :: b)) (str [c]) m w hl hm).mono ?_
  rintro e w' ⟨he, n, rfl⟩
  have h : Lib.cut (str (a ++ c :: b)).data.toList (str [c]).data.toList = (a, b, true) := cut_at ha
  rw [h] at he
  exact ⟨he, below_drewN' w n⟩
/-- strings.Cut at a sign that is not there -/
theorem cut_not {B : Nat} (a : List UInt8) (c : UInt8) (S : ByteArray) (w : World) (hE : Env B w) (hS : str a = S) (hl : S.size < 4294967281) (ha : c ∉ a) :
    Calls Try.prog 16 #[.string S, .string ⟨#[c]⟩] w fun e w' => e = .returned (.tuple #[.string (str a), .string (str []), .bool false]) ∧ Below w.heap.size w w' := by
  obtain ⟨m, hm⟩ := hE.max
  subst hS
  refine (Try.strings_Cut (str a) (str [c]) m w hl hm).mono ?_
  rintro e w' ⟨he, n, rfl⟩
  have h : Lib.cut (str a).data.toList (str [c]).data.toList = (a, [], false) := cut_free ha
  rw [h] at he
  exact ⟨he, below_drewN' w n⟩
end Go.Proofs.Ytkbankjnfedkdaa.Tx
