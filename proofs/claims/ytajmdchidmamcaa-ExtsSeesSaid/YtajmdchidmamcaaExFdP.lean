/-
  Plain facts on what is found of a hello's extensions. No condition.
-/
import Derived.Test.YtajmdchidmamcaaExPut
import Derived.Test.YtajmdchidmamcaaHeFind
import Derived.Test.YtajmdchidmamcaaRet
namespace Go.Proofs.Ytajmdchidmamcaa.Ex
open Go.RowKit Go.Proofs.Ytajmdchidmamcaa.Wd Go.Proofs.Ytajmdchidmamcaa.Be Go.Proofs.Ytajmdchidmamcaa.He Go.Proofs.Ytajmdchidmamcaa.Ro

/-- what is told of what was found -/
def fdS {α : Type} (tell : List UInt8 → List α × Int) (p : List UInt8 × Bool) : List α × Int := if p.2 then tell p.1 else ([], 0)
theorem findL_mem : ∀ (l : List (Int × List UInt8)) (kind : Int), (findL l kind).1 = [] ∨ ∃ x ∈ l, (findL l kind).1 = x.2
  | [], _ => .inl rfl
  | x :: l, kind => by
    rw [findL]
    split
    · exact .inr ⟨x, by simp, rfl⟩
    · rcases findL_mem l kind with h | ⟨y, hy, h⟩
      · exact .inl h
      · exact .inr ⟨y, by simp [hy], h⟩
theorem findL_len {H : Hv} {w : World} (hH : H.Ok w) (kind : Int) : (findL H.hel.exts kind).1.length ≤ 140737488351232 := by
  rcases findL_mem H.hel.exts kind with h | ⟨x, hx, h⟩
  · rw [h]; exact Nat.zero_le _
  · rw [h]
    have hx' : x ∈ H.xs.map ext := hx
    obtain ⟨y, hy, rfl⟩ := List.mem_map.1 hx'
    obtain ⟨i, hi⟩ := List.mem_iff_getElem?.1 hy
    have hok := (hH.xs i y hi).1
    have h1 := hok.src.1
    have h2 := hok.small
    show y.b.length ≤ _
    omega
/-- strings of the call's own, not too many; numbers likewise -/
def RelN (_ : World) (_ : Nat) (v : Value) (x : List UInt8) : Prop := v = .string (str8 x)
def RelP (w : World) (B : Nat) (v : Value) (l : List (List UInt8)) : Prop := OwnE w elS B v l ∧ l.length ≤ 65535
def RelV (w : World) (B : Nat) (v : Value) (l : List Int) : Prop := OwnE w elI B v l ∧ l.length ≤ 65535

end Go.Proofs.Ytajmdchidmamcaa.Ex
