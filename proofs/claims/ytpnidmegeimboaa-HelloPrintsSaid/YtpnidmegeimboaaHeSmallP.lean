/-
  The small case of the layer's statements: its plain facts.
-/
import Derived.Test.YtpnidmegeimboaaHeFind
namespace Go.Proofs.Ytpnidmegeimboaa.He
open Go.RowKit Go.Proofs.Ytpnidmegeimboaa.Wd Go.Proofs.Ytpnidmegeimboaa.Be

def z32 : List UInt8 := List.replicate 32 0
def h0 : Hel := ⟨771, z32, [], [4865], [0], false, []⟩
def h2 : Hel := ⟨771, z32, [], [4865], [0], true, [(7, [97]), (0, [])]⟩
def h3 : Hel := ⟨771, z32, [], [4865], [0], true, [(7, [97]), (7, [])]⟩
theorem r0 : Right h0 := (print_right rfl).1.1 (by decide +kernel)
theorem r2 : Right h2 := (print_right rfl).1.1 (by decide +kernel)
def b0 : List UInt8 := layS h0
def b2 : List UInt8 := layS h2
theorem p0 : printS h0 = (b0, true) := (print_right rfl).2.1 r0
theorem p2 : printS h2 = (b2, true) := (print_right rfl).2.1 r2
theorem p3 : printS h3 = ([], false) := by
  have : (printS h3).2 = false := by decide +kernel
  refine (print_right rfl).2.2 (fun r => ?_)
  rw [(print_right rfl).1.2 r] at this
  cases this
theorem l0 : b0.length = 41 := by decide +kernel
theorem l2 : b2.length = 52 := by decide +kernel
theorem q0 : parseS b0 = (h0, 0) := parse_lay r0
theorem q2 : parseS b2 = (h2, 0) := parse_lay r2
theorem q40 : (parseS (b0.take 40)).2 = 3 := by decide +kernel
theorem q8 : (parseS (b0.set 40 1)).2 = 8 := by decide +kernel
theorem f7 : findL h2.exts 7 = ([97], true) := by decide +kernel
theorem f9 : findL h2.exts 9 = ([], false) := by decide +kernel
/-- the hello of the small case, as it lies in memory -/
def Hs (gc gm : Nat) (has : Bool) (xA : Option Addr) (xc : Nat) (xs : List Xt) : Hv := ⟨771, z32, none, 0, [], some ⟨gc, 0, none⟩, 1, [4865], some ⟨gm, 0, none⟩, 1, [0], has, xA, xc, xs⟩
theorem builtHs (gc gm : Nat) : Try.prog.built 28 [(0, .int .i64 771), (3, .slice (some ⟨gc, 0, none⟩) 1 1), (4, .slice (some ⟨gm, 0, none⟩) 1 1)] = some (Hs gc gm false none 0 []).C := by kernel_rfl
theorem go_bdH {ops : Array Oper} {rest : List Oper} {o : Oper} {a : Act} {w : World} {Q : Exit → Act → World → Prop} {x y : Operand} (z : Int) (gc gm : Nat) (hz : z = 771) (hg : o.guard = none) (ho : o.op = .build 28 #[(0, .const (.int .i64 z)), (3, x), (4, y)])
    (hx : a.eval x = .slice (some ⟨gc, 0, none⟩) 1 1) (hy : a.eval y = .slice (some ⟨gm, 0, none⟩) 1 1) (h : wpList Try.prog ops Q rest (a.put o.dst (.agg (Hs gc gm false none 0 []).C)) w) : wpList Try.prog ops Q (o :: rest) a w := by
  subst hz
  have e : Try.prog.built 28 ((#[(0, .const (.int .i64 771)), (3, x), (4, y)] : Array (Nat × Operand)).map fun (i, x) => (i, a.eval x)).toList = some (Hs gc gm false none 0 []).C := by
    simp only [List.map_toArray, List.map_cons, List.map_nil, hx, hy]
    exact builtHs gc gm
  refine wpList_build hg _ _ ho (by rw [e]; rfl) ?_
  rw [e]
  exact h
theorem Hs.ok {w : World} {gc gm : Nat} {has : Bool} {xA : Option Addr} {xc : Nat} {xs : List Xt} (h1 : Blk w gc 3 #[.int .i64 4865]) (h2 : Blk w gm 5 #[.int .u8 0]) (hx : SrcX w xA xs) (hl : xs.length ≤ xc) (hm : xs.length ≤ 2) : (Hs gc gm has xA xc xs).Ok w := by
  refine ⟨by show (-9223372036854775808 : Int) ≤ 771 ∧ (771 : Int) ≤ _; omega, rfl, ⟨Nat.le_refl _, Nat.zero_le _⟩, Src.nil w, ⟨Nat.le_refl _, by show 1 ≤ _; omega⟩, fun n hn => ?_, fun k x hk => ?_, ⟨Nat.le_refl _, by show 1 ≤ _; omega⟩, ?_, ⟨hl, by show xs.length ≤ _; omega⟩, hx⟩
  · have : n = 4865 := by simpa [Hs] using hn
    subst this
    omega
  · cases k with
    | zero =>
      have : x = 4865 := by simpa [Hs] using hk.symm
      subst this
      exact ⟨gc, 0, rfl, h1.lt, by rw [h1.cell]; rfl⟩
    | succ k => simp [Hs] at hk
  · exact Src.of_blk (xs := [0]) (off := 0) h2 (fun j c hj => by
      cases j with
      | zero => simp at hj; subst hj; rfl
      | succ j => simp at hj)
theorem Hs.short {gc gm : Nat} {has : Bool} {xA : Option Addr} {xc : Nat} {xs : List Xt} (hm : xs.length ≤ 2) : Short (Hs gc gm has xA xc xs) :=
  ⟨by show 0 ≤ 5000; omega, by show 1 ≤ 5000; omega, by show 1 ≤ 5000; omega, by show xs.length ≤ 5000; omega⟩
end Go.Proofs.Ytpnidmegeimboaa.He
