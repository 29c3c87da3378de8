/-
  The small case of the layer's statements: its values, and what is kept of memory between its calls.
-/
import Derived.Test.YtialcnioeeikpaaGreatDoorAdAll
import Derived.Test.YtialcnioeeikpaaGreatDoorMSet
import Derived.Test.YtialcnioeeikpaaGreatDoorAdCPrint4
import Derived.Test.YtialcnioeeikpaaGreatDoorAdPrint4
namespace Go.Proofs.YtialcnioeeikpaaGreatDoor.Ad
open Go.RowKit Go.Maps Go.Proofs.YtialcnioeeikpaaGreatDoor.Wd

/-- 10.0.0.0/8 · ::/0 · 10.9.0.0 -/
def c1 : C := ⟨[0, 0, 0, 0, 0, 0, 0, 0, 0, 0, 255, 255, 10, 0, 0, 0], 104⟩
def c2 : C := ⟨List.replicate 16 0, 0⟩
def a1 : List UInt8 := [0, 0, 0, 0, 0, 0, 0, 0, 0, 0, 255, 255, 10, 9, 0, 0]
set_option maxRecDepth 100000 in
theorem cp1 : cparseS [49, 48, 46, 49, 46, 50, 46, 51, 47, 56] = some c1 := by kernel_rfl
set_option maxRecDepth 100000 in
theorem cp2 : cparseS [58, 58, 47, 48] = some c2 := by kernel_rfl
set_option maxRecDepth 100000 in
theorem cp3 : cparseS [49, 48, 46, 48, 46, 48, 46, 48, 47, 51, 51] = none := by kernel_rfl
set_option maxRecDepth 100000 in
theorem cp4 : cparseS [58, 58, 49] = none := by kernel_rfl
theorem c1_len : c1.a.length = 16 := rfl
theorem c2_len : c2.a.length = 16 := rfl
theorem a1_len : a1.length = 16 := rfl
theorem c1_ok : OkC c1 := ⟨rfl, by decide, by decide⟩
theorem c2_ok : OkC c2 := ⟨rfl, by decide, by decide⟩
theorem r1 : rightS c1 = true := by kernel_rfl
theorem r2 : rightS c2 = true := by kernel_rfl
theorem r3 : rightS ⟨List.replicate 16 0, 129⟩ = false := by kernel_rfl
theorem h1 : hasS c1 a1 = true := by kernel_rfl
theorem h2 : hasS c1 (List.replicate 16 0) = false := by kernel_rfl
theorem ne12 : c1 ≠ c2 := by intro h; have := congrArg C.n h; exact absurd this (by decide)
theorem al1 : addL [] c1 = [c1] := by unfold addL; rw [r1]; simp
theorem al2 : addL [c1] c1 = [c1] := by unfold addL; simp
theorem al3 : addL [c1] c2 = [c1, c2] := by unfold addL; rw [r2]; simp [ne12.symm]
theorem ab1 : addB [] c1 = true := by unfold addB; rw [r1]; simp
theorem ab2 : addB [c1] c1 = false := by unfold addB; simp
theorem ab3 : addB [c1] c2 = true := by unfold addB; rw [r2]; simp [ne12.symm]
theorem er1 : [c1, c2].erase c1 = [c2] := by simp
theorem mem1 : (decide (c1 ∈ [c1, c2])) = true := by simp
set_option maxRecDepth 1000000 in
theorem f1 : findS [c1, c2] a1 129 = some c1 := by kernel_rfl
set_option maxRecDepth 1000000 in
theorem f2 : findS [c2] a1 129 = some c2 := by kernel_rfl
theorem of41 : of4S [10, 9, 0, 0] = a1 := by kernel_rfl
set_option maxRecDepth 100000 in
theorem four1 : fourS c1.a = true := by kernel_rfl
set_option maxRecDepth 100000 in
theorem txt1 : cprintS (text4 c1.a) c1 = [49, 48, 46, 48, 46, 48, 46, 48, 47, 56] := by kernel_rfl
theorem bit1 : (ofS a1 200).n = 128 := by kernel_rfl

/-- what is kept of memory: some blocks, all that was there, the library's table -/
structure Loc (B : Nat) (w0 w : World) (bs : List (Nat × Nat × Array Value)) : Prop where
  env : Env B w
  low : Below w0.heap.size w0 w
  at_ : ∀ x ∈ bs, Blk w x.1 x.2.1 x.2.2
theorem Loc.on {B : Nat} {w0 w w' : World} {bs : List (Nat × Nat × Array Value)} (h : Loc B w0 w bs) (hb : Below w.heap.size w w') : Loc B w0 w' bs :=
  ⟨h.env.on hb, h.low.trans (hb.mono h.low.size), fun x hx => (h.at_ x hx).below hb (h.at_ x hx).lt⟩
theorem Loc.add {B : Nat} {w0 w : World} {bs : List (Nat × Nat × Array Value)} (h : Loc B w0 w bs) {g t : Nat} {C : Array Value} (hb : Blk w g t C) : Loc B w0 w ((g, t, C) :: bs) :=
  ⟨h.env, h.low, List.forall_mem_cons.2 ⟨hb, h.at_⟩⟩
theorem Loc.new {B : Nat} {w0 w : World} {bs : List (Nat × Nat × Array Value)} (h : Loc B w0 w bs) (t : TypeId) (Z X : Array Value) : Loc B w0 ((w.alloc (.cells Z t)).setRow w.heap.size X) ((w.heap.size, t, X) :: bs) :=
  (h.on (new_below w t Z X)).add (new_blk w t Z X)
theorem Loc.put {B : Nat} {w0 w w' : World} {bs : List (Nat × Nat × Array Value)} (h : Loc B w0 w bs) {b : Nat} (hg : w.grownBy w' (some b)) (hb : w0.heap.size ≤ b) (hB : B ≤ w0.heap.size) (hne : ∀ x ∈ bs, x.1 ≠ b) : Loc B w0 w' bs :=
  ⟨h.env.below (below_of_only (Below.refl B w) hg h.env.le (by omega)), below_of_only h.low hg h.low.size hb, fun x hx => (h.at_ x hx).grown hg (fun e => hne x hx (by injection e))⟩
theorem Loc.drew {B : Nat} {w0 w : World} {bs : List (Nat × Nat × Array Value)} (h : Loc B w0 w bs) : Loc B w0 w.drew bs := h.on (Below.refl _ _).drew
structure LocS (B : Nat) (w0 w : World) (bs : List (Nat × Nat × Array Value)) (s b n : Nat) (L : List C) : Prop where
  loc : Loc B w0 w bs
  ne : ∀ x ∈ bs, x.1 ≠ b
  set : ∃ D, SetIs w s b n D L
  lob : w0.heap.size ≤ b
  hB : B ≤ w0.heap.size
section
variable {B : Nat} {w0 w w' : World} {bs : List (Nat × Nat × Array Value)} {s b n : Nat} {L : List C}
theorem LocS.on (h : LocS B w0 w bs s b n L) (hb : Below w.heap.size w w') : LocS B w0 w' bs s b n L :=
  ⟨h.loc.on hb, h.ne, by obtain ⟨D, hD⟩ := h.set; exact ⟨D, hD.on hb⟩, h.lob, h.hB⟩
theorem LocS.new (h : LocS B w0 w bs s b n L) (t : TypeId) (Z X : Array Value) : LocS B w0 ((w.alloc (.cells Z t)).setRow w.heap.size X) ((w.heap.size, t, X) :: bs) s b n L :=
  ⟨h.loc.new t Z X, List.forall_mem_cons.2 ⟨by obtain ⟨D, hD⟩ := h.set; exact fun e => by have := hD.own.lt; have e : w.heap.size = b := e; omega, h.ne⟩, by obtain ⟨D, hD⟩ := h.set; exact ⟨D, hD.on (new_below w t Z X)⟩, h.lob, h.hB⟩
theorem LocS.put (h : LocS B w0 w bs s b n L) {n' : Nat} {L' : List C} (hs : ∃ D', SetIs w' s b n' D' L') (hg : w.grownBy w' (some b)) : LocS B w0 w' bs s b n' L' :=
  ⟨h.loc.put hg h.lob h.hB h.ne, h.ne, hs, h.lob, h.hB⟩
theorem LocS.start {B : Nat} {w0 w : World} {w' : World} {bs : List (Nat × Nat × Array Value)} (h : Loc B w0 w bs) (hS : SetIs w' (w.heap.size + 1) w.heap.size 0 (.map []) []) (hb : Below w.heap.size w w') (hB : B ≤ w0.heap.size) : LocS B w0 w' bs (w.heap.size + 1) w.heap.size 0 [] :=
  ⟨h.on hb, fun x hx => Nat.ne_of_lt (h.at_ x hx).lt, ⟨_, hS⟩, h.low.size, hB⟩
theorem LocS.get (h : LocS B w0 w bs s b n L) (g t : Nat) (X : Array Value) (hm : (g, t, X) ∈ bs) : Blk w g t X := h.loc.at_ _ hm
end
structure S18 (B : Nat) (w0 : World) (bs : List (Nat × Nat × Array Value)) (g : Nat) (w : World) : Prop where
  loc : Loc B w0 w bs
  row : w.rangeAt g 0 (cL c2)
  lt : g < w.heap.size
theorem S18.on {B : Nat} {w0 w w' : World} {bs : List (Nat × Nat × Array Value)} {g : Nat} (h : S18 B w0 bs g w) (hb : Below w.heap.size w w') : S18 B w0 bs g w' :=
  ⟨h.loc.on hb, fun j v hj => (hb.cell (p := ⟨g, 0 + j, none⟩) h.lt).trans (h.row j v hj), Nat.lt_of_lt_of_le h.lt hb.size⟩
theorem S18.c {B : Nat} {w0 w : World} {bs : List (Nat × Nat × Array Value)} {g : Nat} (h : S18 B w0 bs g w) (k t : Nat) (c : C) (hm : (k, t, c.cells) ∈ bs) : w.rangeAt k 0 (cL c) := rangeC (h.loc.at_ _ hm)
theorem S18.a {B : Nat} {w0 w : World} {bs : List (Nat × Nat × Array Value)} {g : Nat} (h : S18 B w0 bs g w) (k t : Nat) (a : List UInt8) (hm : (k, t, cA a) ∈ bs) : w.rangeAt k 0 (cellsOf a) := rangeA (h.loc.at_ _ hm)
theorem S18.n {B : Nat} {w0 w : World} {bs : List (Nat × Nat × Array Value)} {g : Nat} (h : S18 B w0 bs g w) (k t : Nat) (c : C) (hc : c.a.length = 16) (hm : (k, t, c.cells) ∈ bs) : w.cell? ⟨k, 16, none⟩ = some (.int .i64 c.n) := range_n (h.c k t c hm) hc
end Go.Proofs.YtialcnioeeikpaaGreatDoor.Ad
