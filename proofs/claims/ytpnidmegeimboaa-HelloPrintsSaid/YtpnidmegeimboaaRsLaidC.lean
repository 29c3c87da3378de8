/-
  Where the document's own laid is while it reads the ciphers. No condition.
-/
import Derived.Test.YtpnidmegeimboaaRsLaidP
namespace Go.Proofs.Ytpnidmegeimboaa.He
open Go.RowKit Go.Proofs.Ytpnidmegeimboaa.Wd Go.Proofs.Ytpnidmegeimboaa.Be

theorem HOwq.off0 {w w' : World} {H : Hv} {row : Option Nat} (h : HOwq w H) (h0 : H.cph = []) (hA : H.cA = none) (hc : H.cc = 0) (hb : w.grownBy w' row) (hr : OffT w row TX) : HOwq w' H :=
  ⟨h.rnd, h.ver, Sq.off h.ses hb hr (.inr rfl), h.s1, by rw [h0, hA, hc]; exact OwnI.nil w' 0, h.c1, h.c2, Sq.off h.met hb hr (.inr rfl), h.m1, h.xs.off hb hr, h.x1⟩
def bare (H : Hv) : Prop := H.cph = [] ∧ H.cA = none ∧ H.cc = 0
structure LcAt (w0 : World) (g y : Nat) (H : Hv) (st : Option (List UInt8)) (A8 : Option Addr) (n8 c8 : Nat) (cs : List UInt8) (A : Option Addr) (c : Nat) (m : List Int) (w : World) : Prop where
  own : HOwq w H
  bare : bare H
  cph : OwnI w (w0.heap.size + 1) (.slice A m.length c) m
  blk : Blk w g 28 ({ H with cA := A, cc := c, cph := m } : Hv).C
  rd : Rq (w0.heap.size + 1) w y st
  res : Blk w w0.heap.size 28 Hv.zero.C
  bel : Below w0.heap.size w0 w
  gB : w0.heap.size + 1 < g
  ne : y < g
  sq : Sq w (.slice A8 n8 c8) cs
section
variable {w0 w w' : World} {g y : Nat} {H : Hv} {st : Option (List UInt8)} {A8 : Option Addr} {n8 c8 : Nat} {cs : List UInt8} {A : Option Addr} {c : Nat} {m : List Int}
theorem LdAt.start (h : LdAt w0 g y H st w) (hb : bare H) (hs : Sq w (.slice A8 n8 c8) cs) : LcAt w0 g y H st A8 n8 c8 cs none 0 [] w := by
  refine ⟨h.at_.own, hb, OwnI.nil _ _, ?_, h.rd, h.res, h.bel, h.gB, h.ne, hs⟩
  have e : ({ H with cA := none, cc := 0, cph := [] } : Hv) = H := by
    obtain ⟨h1, h2, h3⟩ := hb
    rw [← h1, ← h2, ← h3]
  rw [e]
  exact h.at_.blk
theorem LcAt.below (h : LcAt w0 g y H st A8 n8 c8 cs A c m w) (hb : Below w.heap.size w w') : LcAt w0 g y H st A8 n8 c8 cs A c m w' :=
  ⟨h.own.below hb, h.bare, h.cph.off (only_of_below hb none) (OffT.none _ _), h.blk.below hb h.blk.lt, h.rd.below hb, h.res.below hb h.res.lt, h.bel.trans (hb.mono h.bel.size), h.gB, h.ne, h.sq.below hb⟩
/-- a number behind them: the row turned, the field not yet -/
theorem LcAt.row {A' : Option Addr} {c' : Nat} {m' : List Int} (h : LcAt w0 g y H st A8 n8 c8 cs A c m w) (hg : w.grownBy w' (Value.slice A m.length c).ownBlock) (_ho : OwnI w' (w0.heap.size + 1) (.slice A' m'.length c') m') :
    HOwq w' H ∧ Blk w' g 28 ({ H with cA := A, cc := c, cph := m } : Hv).C ∧ Rq (w0.heap.size + 1) w' y st ∧ Blk w' w0.heap.size 28 Hv.zero.C ∧ Below w0.heap.size w0 w' ∧ Sq w' (.slice A8 n8 c8) cs := by
  have hge := OwnI.ge h.cph
  have h1 := h.cph.block (T := TX) (by unfold TX; decide)
  have h2 := h.cph.block (T := (· = 28)) (by decide)
  have h3 := h.cph.block (T := (· = 70)) (by decide)
  obtain ⟨cr, hk⟩ := h.rd.blk
  exact ⟨h.own.off0 h.bare.1 h.bare.2.1 h.bare.2.2 hg h1, h.blk.grown hg (h2.far h.blk rfl), h.rd.off hg (fun j hj => ⟨hge j hj, fun e => h3.far hk rfl (by rw [e, hj])⟩), h.res.grown hg (h2.far h.res rfl),
    h.bel.grown hg h.bel.size (fun j hj => by have := hge j hj; omega), Sq.off h.sq hg h1 (.inr rfl)⟩
theorem LcAt.push {A' : Option Addr} {c' : Nat} {m' : List Int} (h : LcAt w0 g y H st A8 n8 c8 cs A c m w) (hg : w.grownBy w' (Value.slice A m.length c).ownBlock) (ho : OwnI w' (w0.heap.size + 1) (.slice A' m'.length c') m') :
    LcAt w0 g y H st A8 n8 c8 cs A' c' m' (w'.setCell ⟨g, 34, none⟩ (.slice A' m'.length c')) := by
  obtain ⟨k1, k2, k3, k4, k5, k6⟩ := h.row hg ho
  have hs := only_setCell (p := ⟨g, 34, none⟩) (only_refl w' (some g)) (.inl rfl) (.slice A' m'.length c')
  have hB := h.gB
  have hN := h.ne
  refine ⟨k1.off hs (OffT.of_blk k2 (by unfold TW; decide)), h.bare, ho.off hs (OffT.of_blk k2 (by decide)), ?_, k3.off hs (fun j hj => by injection hj with hj; exact ⟨by omega, by omega⟩), k4.grown hs (fun e => by injection e with e; omega),
    k5.grown hs k5.size (fun j hj => by injection hj with hj; omega), hB, hN, Sq.off (T := (· = 5)) k6 hs (OffT.of_blk k2 (by decide)) rfl⟩
  have := k2.set_ 34 (.slice A' m'.length c')
  rw [C_set, show (34 : Nat) = 33 + 1 from rfl, L_set (H := { H with cA := A, cc := c, cph := m }) h.own.rnd] at this
  exact this
theorem LcAt.done (h : LcAt w0 g y H st A8 n8 c8 cs A c m w) (hl : m.length < 65536) (h2 : ∀ n ∈ m, In2 n) : LdAt w0 g y { H with cA := A, cc := c, cph := m } st w :=
  ⟨⟨h.blk, ⟨h.own.rnd, h.own.ver, h.own.ses, h.own.s1, h.cph.lower (Nat.zero_le _), hl, h2, h.own.met, h.own.m1, h.own.xs, h.own.x1⟩⟩, h.rd, h.res, h.bel, h.gB, h.ne⟩
end
end Go.Proofs.Ytpnidmegeimboaa.He
