/-
 What the document's own laid asks, in plain words, and where it is in memory. No condition.
-/
import Derived.Test.YthfknndjdfofgaaGreatDoorQ23
namespace Go.Proofs.YthfknndjdfofgaaGreatDoor.He
open Go.RowKit Go.Proofs.YthfknndjdfofgaaGreatDoor.Wd Go.Proofs.YthfknndjdfofgaaGreatDoor.Be

set_option linter.unusedSimpArgs false
theorem two_of (a b : UInt8) : two ((a.toNat : Int) * 256 + (b.toNat : Int)) = [a, b] := by
 have h1 : two ((a.toNat : Int) * 256 + (b.toNat : Int)) = [Go.Proofs.YthfknndjdfofgaaGreatDoor.Be.byteOf (((a.toNat : Int) * 256 + (b.toNat : Int)) / 256), Go.Proofs.YthfknndjdfofgaaGreatDoor.Be.byteOf ((a.toNat : Int) * 256 + (b.toNat : Int))] := rfl
 have ha := a.toNat_lt
 have hb := b.toNat_lt
 rw [h1]
 unfold Go.Proofs.YthfknndjdfofgaaGreatDoor.Be.byteOf
 rw [show (((a.toNat : Int) * 256 + (b.toNat : Int)) / 256 % 256).toNat = a.toNat by omega, show (((a.toNat : Int) * 256 + (b.toNat : Int)) % 256).toNat = b.toNat by omega]
 rw [UInt8.ofNat_toNat, UInt8.ofNat_toNat]
theorem pairs : ∀ (c : List UInt8), c.length % 2 = 0 → ∃ l : List Int, c = numsB l ∧ (∀ n ∈ l, In2 n) ∧ c.length = 2 * l.length ∧ ∀ (k : Nat) (a b : UInt8), c[2 * k]? = some a → c[2 * k + 1]? = some b → l[k]? = some ((a.toNat : Int) * 256 + (b.toNat : Int))
 | [], _ => ⟨[], rfl, fun _ h => absurd h List.not_mem_nil, rfl, fun k a b h => by simp at h⟩
 | [a], h => by simp at h
 | a :: b :: r, h => by
   obtain ⟨l, h1, h2, h3, h4⟩ := pairs r (by simp only [List.length_cons] at h; omega)
   refine ⟨((a.toNat : Int) * 256 + (b.toNat : Int)) :: l, ?_, fun n hn => ?_, by simp only [List.length_cons, h3]; omega, fun k x y hx hy => ?_⟩
   · rw [show numsB (((a.toNat : Int) * 256 + (b.toNat : Int)) :: l) = two ((a.toNat : Int) * 256 + (b.toNat : Int)) ++ numsB l by simp [numsB], two_of, ← h1]
     rfl
   · rcases List.mem_cons.1 hn with rfl | hn
     · have ha := a.toNat_lt
       have hb := b.toNat_lt
       unfold In2
       omega
     · exact h2 n hn
   · match k with
     | 0 =>
       have e1 : a = x := by simpa using hx
       have e2 : b = y := by simpa using hy
       rw [e1, e2]
       rfl
     | k + 1 =>
       rw [List.getElem?_cons_succ]
       refine h4 k x y ?_ ?_
       · rw [show 2 * (k + 1) = 2 * k + 1 + 1 by omega, List.getElem?_cons_succ, List.getElem?_cons_succ] at hx; exact hx
       · rw [show 2 * (k + 1) + 1 = 2 * k + 1 + 1 + 1 by omega, List.getElem?_cons_succ, List.getElem?_cons_succ] at hy; exact hy
theorem nums_even {c : List UInt8} (h : (numsS c).2 = true) : c.length = 2 * (numsS c).1.length := by
 have := congrArg List.length (numsS_inv h).1
 rwa [numsB_len] at this
def go1 (xs : List UInt8) : Bool := !(sM xs).2.isNone && (decide (2 ≤ (sC xs).1.length) && (decide ((sC xs).1.length % 2 = 0) && decide (0 < (sM xs).1.length)))
theorem ok_go1 {xs : List UInt8} (h : go1 xs = false) : okS xs = false := by
 refine Bool.eq_false_iff.2 (fun hk => ?_)
 unfold okS at hk
 simp only [Bool.and_eq_true, decide_eq_true_iff] at hk
 obtain ⟨⟨⟨h1, h2⟩, h3⟩, h4, h5⟩ := hk
 have he := nums_even h2
 have hn : (sM xs).2.isNone = false := by
   cases hm : (sM xs).2 with
   | some r => rfl
   | none =>
     have hh : hasS xs = false := by unfold hasS; rw [hm]; rfl
     unfold sX at h1
     rw [hh, hm] at h1
     cases h1
 unfold go1 at h
 rw [hn, decide_eq_true (show 2 ≤ (sC xs).1.length by omega), decide_eq_true (show (sC xs).1.length % 2 = 0 by omega), decide_eq_true h5] at h
 cases h
theorem go1_is {xs : List UInt8} (h : go1 xs = true) : (sM xs).2.isNone = false ∧ 2 ≤ (sC xs).1.length ∧ (sC xs).1.length % 2 = 0 ∧ 0 < (sM xs).1.length := by
 unfold go1 at h
 simpa using h
theorem done_iff {st : Option (List UInt8)} : doneS st = true ↔ st.isNone = false ∧ leftS st = 0 := by
 cases st with
 | none => exact ⟨(fun h => by cases h), (fun h => by cases h.1)⟩
 | some r =>
   cases r with
   | nil => exact ⟨fun _ => ⟨rfl, rfl⟩, fun _ => rfl⟩
   | cons a r => exact ⟨(fun h => by cases h), (fun h => by cases h.2)⟩
theorem go1_nums {xs : List UInt8} (h : go1 xs = true) : ∃ l : List Int, numsS (sC xs).1 = (l, true) ∧ (∀ n ∈ l, In2 n) ∧ (sC xs).1.length = 2 * l.length ∧ 0 < l.length ∧ ∀ (k : Nat) (a b : UInt8), (sC xs).1[2 * k]? = some a → (sC xs).1[2 * k + 1]? = some b → l[k]? = some ((a.toNat : Int) * 256 + (b.toNat : Int)) := by
 obtain ⟨h1, h2, h3, h4⟩ := go1_is h
 obtain ⟨l, e1, e2, e3, e4⟩ := pairs _ h3
 refine ⟨l, ?_, e2, e3, by omega, e4⟩
 rw [e1]
 exact numsS_in l e2
theorem ok_bare {xs : List UInt8} (h : go1 xs = true) (hl : leftS (sM xs).2 = 0) : okS xs = true ∧ hasS xs = false ∧ (eS xs).1 = [] := by
 obtain ⟨l, e1, _, _, e4, _⟩ := go1_nums h
 obtain ⟨h1, h2, h3, h4⟩ := go1_is h
 have hh : hasS xs = false := by unfold hasS; rw [hl]; rfl
 have hd : doneS (sM xs).2 = true := done_iff.2 ⟨h1, hl⟩
 refine ⟨?_, hh, by unfold eS; rw [hh]; rfl⟩
 unfold okS sX eS
 rw [hh, e1]
 simp only [Bool.false_eq_true, if_false, hd, Bool.and_self, Bool.and_true, Bool.true_and, decide_eq_true e4, decide_eq_true h4]
theorem ok_more {xs : List UInt8} (h : go1 xs = true) (hl : 0 < leftS (sM xs).2) : hasS xs = true ∧ sX xs = vecS (sM xs).2 2 ∧ eS xs = extsS (vecS (sM xs).2 2).1 ∧
   (okS xs = true ↔ (vecS (sM xs).2 2).2.isNone = false ∧ leftS (vecS (sM xs).2 2).2 = 0 ∧ (extsS (vecS (sM xs).2 2).1).2 = true) := by
 obtain ⟨l, e1, _, _, e4, _⟩ := go1_nums h
 obtain ⟨h1, h2, h3, h4⟩ := go1_is h
 have hh : hasS xs = true := by unfold hasS; exact decide_eq_true hl
 have hx : sX xs = vecS (sM xs).2 2 := by unfold sX; rw [hh, if_pos rfl]
 have he : eS xs = extsS (vecS (sM xs).2 2).1 := by unfold eS; rw [hh, if_pos rfl, hx]
 refine ⟨hh, hx, he, ?_⟩
 unfold okS
 rw [hx, he, e1, decide_eq_true e4, decide_eq_true h4]
 simp only [Bool.and_true, Bool.and_eq_true, done_iff]
 constructor
 · rintro ⟨⟨a, b⟩, c⟩; exact ⟨a, b, c⟩
 · rintro ⟨a, b, c⟩; exact ⟨⟨a, b⟩, c⟩

structure LdAt (w0 : World) (g y : Nat) (H : Hv) (st : Option (List UInt8)) (w : World) : Prop where
 at_ : HAq w g H
 rd : Rq (w0.heap.size + 1) w y st
 res : Blk w w0.heap.size 68 Hv.zero.C
 bel : Below w0.heap.size w0 w
 gB : w0.heap.size + 1 < g
 ne : y < g
section
variable {w0 w w' : World} {g y : Nat} {H H' : Hv} {st st' : Option (List UInt8)}
theorem LdAt.read (h : LdAt w0 g y H st w) (hr : Rq (w0.heap.size + 1) w' y st') (hg : w.grownBy w' (some y)) : LdAt w0 g y H st' w' := by
 obtain ⟨cs, hb⟩ := h.rd.blk
 have := h.rd.far
 exact ⟨h.at_.off hg (OffT.of_blk hb (by unfold TA TW; decide)), hr, h.res.grown hg (fun e => by injection e with e; omega), h.bel.grown hg h.bel.size (fun j hj => by injection hj with hj; omega), h.gB, h.ne⟩
theorem LdAt.more (h : LdAt w0 g y H st w) (hb : Below w.heap.size w w') : LdAt w0 g y H st w' :=
 ⟨h.at_.below hb, h.rd.below hb, h.res.below hb h.res.lt, h.bel.trans (hb.mono h.bel.size), h.gB, h.ne⟩
theorem LdAt.turn (h : LdAt w0 g y H st w) (hh : HAq w' g H') (hg : w.grownBy w' (some g)) : LdAt w0 g y H' st w' :=
 ⟨hh, h.rd.off hg (fun j hj => by injection hj with hj; have := h.gB; have := h.ne; exact ⟨by omega, by omega⟩), h.res.grown hg (fun e => by injection e with e; have := h.gB; omega), h.bel.grown hg h.bel.size (fun j hj => by injection hj with hj; have := h.gB; omega), h.gB, h.ne⟩
theorem LdAt.set_ (h : LdAt w0 g y H st w) (i : Nat) (u : Value) (hh : HAq (w.setCell ⟨g, i, none⟩ u) g H') : LdAt w0 g y H' st (w.setCell ⟨g, i, none⟩ u) :=
 h.turn hh (only_setCell (p := ⟨g, i, none⟩) (only_refl w (some g)) (.inl rfl) u)
theorem LdAt.drew (h : LdAt w0 g y H st w) : LdAt w0 g y H st w.drew := h.more (Below.refl _ _).drew
end
theorem wp_appI {o : Oper} {a : Act} {w : World} {K : Act → World → Prop} {Q : Exit → Act → World → Prop} (s x : Operand)
   (ho : o.op = .call { callee := .builtin .append, args := #[s, x], argTypes := #[27, 27] })
   (B : Nat) (v : Value) (l : List Int) (hs : a.eval s = v) (hown : OwnI w B v l) (g c : Nat) (z : Int) (hx : a.eval x = .slice (some ⟨g, 0, none⟩) 1 c) (hsrc : w.cell? ⟨g, 0, none⟩ = some (.int .i64 z))
   (hlen : l.length + 1 ≤ 4294967296) (hB : B ≤ w.heap.size)
   (h : ∀ v' w', Hid (OwnI w' B v' (l ++ [z])) → Hid (w.grownBy w' v.ownBlock) → K (a.put o.dst v') w') : Oper.wp Tryz.prog o a w K Q := by
 obtain ⟨i0, hi, hz0, hz1, hz2⟩ := info_parts infI
 obtain ⟨v', w', hrun, h2, h3, _, _⟩ := run_append_own_at (P := Tryz.prog) w B 27 o.type 3 i0 (.int .i64 0) 1 8 Tryz.underlying27 hi hz0 hz1 hz2 rfl (by omega) v l.length (l.map (.int .i64)) hown ⟨g, 0, none⟩ 1 c [.int .i64 z] rfl
   (fun j u hu => by
     cases j with
     | zero => simp at hu; subst hu; exact hsrc
     | succ j => simp at hu) (by simp [Value.oneCell']) (by unfold maxLen; omega) (by omega) hB
 have e1 : OwnI w' B v' (l ++ [z]) := by
   unfold OwnI
   rw [List.length_append, List.map_append]
   exact h2
 unfold Oper.wp execOp
 simp only [ho, resolve, invoke, builtin, Sem.run_bind, Sem.run_pure, Result.andThen_ok, List.map_toArray, List.map_cons, List.map_nil, hs, hx, hrun]
 exact h v' w' (Lib.hid e1) (Lib.hid h3)
end Go.Proofs.YthfknndjdfofgaaGreatDoor.He

/-
 Where the document's own laid is while it reads the ciphers. No condition.
-/
namespace Go.Proofs.YthfknndjdfofgaaGreatDoor.He
open Go.RowKit Go.Proofs.YthfknndjdfofgaaGreatDoor.Wd Go.Proofs.YthfknndjdfofgaaGreatDoor.Be

theorem HOwq.off0 {w w' : World} {H : Hv} {row : Option Nat} (h : HOwq w H) (h0 : H.cph = []) (hA : H.cA = none) (hc : H.cc = 0) (hb : w.grownBy w' row) (hr : OffT w row TX) : HOwq w' H :=
 ⟨h.rnd, h.ver, Sq.off h.ses hb hr (.inr rfl), h.s1, by rw [h0, hA, hc]; exact OwnI.nil w' 0, h.c1, h.c2, Sq.off h.met hb hr (.inr rfl), h.m1, h.xs.off hb hr, h.x1⟩
def bare (H : Hv) : Prop := H.cph = [] ∧ H.cA = none ∧ H.cc = 0
structure LcAt (w0 : World) (g y : Nat) (H : Hv) (st : Option (List UInt8)) (A8 : Option Addr) (n8 c8 : Nat) (cs : List UInt8) (A : Option Addr) (c : Nat) (m : List Int) (w : World) : Prop where
 own : HOwq w H
 bare : bare H
 cph : OwnI w (w0.heap.size + 1) (.slice A m.length c) m
 blk : Blk w g 68 ({ H with cA := A, cc := c, cph := m } : Hv).C
 rd : Rq (w0.heap.size + 1) w y st
 res : Blk w w0.heap.size 68 Hv.zero.C
 bel : Below w0.heap.size w0 w
 gB : w0.heap.size + 1 < g
 ne : y < g
 sq : Sq w (.slice A8 n8 c8) cs
section
variable {w0 w w' : World} {g y : Nat} {H : Hv} {st : Option (List UInt8)} {A8 : Option Addr} {n8 c8 : Nat} {cs : List UInt8} {A : Option Addr} {c : Nat} {m : List Int}
theorem LdAt.start (h : LdAt w0 g y H st w) (hb : bare H) (hs : Sq w (.slice A8 n8 c8) cs) : LcAt w0 g y H st A8 n8 c8 cs none 0 [] w := by
 refine ⟨h.at_.own, hb, OwnI.nil _ _, ?_, h.rd, h.res, h.bel, h.gB, h.ne, hs⟩
 have e : ({ H with cA := none, cc := 0, cph := [] } : Hv) = H := by
   obtain ⟨h1, h2, h3⟩ := hb
   rw [← h1, ← h2, ← h3]
 rw [e]
 exact h.at_.blk
theorem LcAt.below (h : LcAt w0 g y H st A8 n8 c8 cs A c m w) (hb : Below w.heap.size w w') : LcAt w0 g y H st A8 n8 c8 cs A c m w' :=
 ⟨h.own.below hb, h.bare, h.cph.off (only_of_below hb none) (OffT.none _ _), h.blk.below hb h.blk.lt, h.rd.below hb, h.res.below hb h.res.lt, h.bel.trans (hb.mono h.bel.size), h.gB, h.ne, h.sq.below hb⟩
theorem LcAt.row {A' : Option Addr} {c' : Nat} {m' : List Int} (h : LcAt w0 g y H st A8 n8 c8 cs A c m w) (hg : w.grownBy w' (Value.slice A m.length c).ownBlock) (_ho : OwnI w' (w0.heap.size + 1) (.slice A' m'.length c') m') :
   HOwq w' H ∧ Blk w' g 68 ({ H with cA := A, cc := c, cph := m } : Hv).C ∧ Rq (w0.heap.size + 1) w' y st ∧ Blk w' w0.heap.size 68 Hv.zero.C ∧ Below w0.heap.size w0 w' ∧ Sq w' (.slice A8 n8 c8) cs := by
 have hge := OwnI.ge h.cph
 have h1 := h.cph.block (T := TX) (by unfold TX; decide)
 have h2 := h.cph.block (T := (· = 68)) (by decide)
 have h3 := h.cph.block (T := (· = 160)) (by decide)
 obtain ⟨cr, hk⟩ := h.rd.blk
 exact ⟨h.own.off0 h.bare.1 h.bare.2.1 h.bare.2.2 hg h1, h.blk.grown hg (h2.far h.blk rfl), h.rd.off hg (fun j hj => ⟨hge j hj, fun e => h3.far hk rfl (by rw [e, hj])⟩), h.res.grown hg (h2.far h.res rfl),
   h.bel.grown hg h.bel.size (fun j hj => by have := hge j hj; omega), Sq.off h.sq hg h1 (.inr rfl)⟩
theorem LcAt.push {A' : Option Addr} {c' : Nat} {m' : List Int} (h : LcAt w0 g y H st A8 n8 c8 cs A c m w) (hg : w.grownBy w' (Value.slice A m.length c).ownBlock) (ho : OwnI w' (w0.heap.size + 1) (.slice A' m'.length c') m') :
   LcAt w0 g y H st A8 n8 c8 cs A' c' m' (w'.setCell ⟨g, 34, none⟩ (.slice A' m'.length c')) := by
 obtain ⟨k1, k2, k3, k4, k5, k6⟩ := h.row hg ho
 have hs := only_setCell (p := ⟨g, 34, none⟩) (only_refl w' (some g)) (.inl rfl) (.slice A' m'.length c')
 have hB := h.gB
 have hN := h.ne
 refine ⟨k1.off hs (OffT.of_blk k2 (by unfold TW; decide)), h.bare, ho.off hs (OffT.of_blk k2 (by decide)), ?_, k3.off hs (fun j hj => by injection hj with hj; exact ⟨by omega, by omega⟩), k4.grown hs (fun e => by injection e with e; omega),
   k5.grown hs k5.size (fun j hj => by injection hj with hj; omega), hB, hN, Sq.off (T := (· = 5)) k6 hs (OffT.of_blk k2 (by decide)) rfl⟩
 have := k2.set_ 34 (.slice A' m'.length c')
 rw [C_set, show (34 : Nat) = 33 + 1 from rfl, L_set (H := { H with cA := A, cc := c, cph := m }) h.own.rnd] at this
 exact this
theorem LcAt.done (h : LcAt w0 g y H st A8 n8 c8 cs A c m w) (hl : m.length < 65536) (h2 : ∀ n ∈ m, In2 n) : LdAt w0 g y { H with cA := A, cc := c, cph := m } st w :=
 ⟨⟨h.blk, ⟨h.own.rnd, h.own.ver, h.own.ses, h.own.s1, h.cph.lower (Nat.zero_le _), hl, h2, h.own.met, h.own.m1, h.own.xs, h.own.x1⟩⟩, h.rd, h.res, h.bel, h.gB, h.ne⟩
end
end Go.Proofs.YthfknndjdfofgaaGreatDoor.He
