/-
 Bytes, extensions and a hello that a call made by appends (the document's own answers), as they lie in memory; the document's reader. Plain lemmas, no condition.
-/
import Derived.Test.YthfknndjdfofgaaGreatDoorQ20
import Derived.Test.YthfknndjdfofgaaGreatDoorQ21
import Derived.Test.YthfknndjdfofgaaGreatDoorQ09
import Derived.LoopTactic
namespace Go.Proofs.YthfknndjdfofgaaGreatDoor.He
set_option maxRecDepth 100000
open Go.RowKit Go.Proofs.YthfknndjdfofgaaGreatDoor.Wd Go.Proofs.YthfknndjdfofgaaGreatDoor.Be

def Sq (w : World) (v : Value) (xs : List UInt8) : Prop := Own w 0 v xs
theorem Sq.nil (w : World) : Sq w (.slice none 0 0) [] := ⟨rfl, .inl ⟨rfl, rfl⟩⟩
theorem Sq.of {w : World} {B : Nat} {v : Value} {xs : List UInt8} (h : Own w B v xs) : Sq w v xs := Own.lower h (Nat.zero_le _)
theorem Sq.src {w : World} {v : Value} {xs : List UInt8} (h : Sq w v xs) : ∃ A c, v = .slice A xs.length c ∧ xs.length ≤ c ∧ Src w A xs.length xs := Own.src h
theorem Sq.nc {w : World} {A : Option Addr} {n c : Nat} {xs : List UInt8} (h : Sq w (.slice A n c) xs) : n = xs.length ∧ n ≤ c ∧ Src w A n xs := by
 obtain ⟨A', c', e, h1, h2⟩ := h.src
 injection e with e1 e2 e3
 subst e1 e2 e3
 exact ⟨rfl, h1, h2⟩
theorem Sq.form {w : World} {v : Value} {xs : List UInt8} (h : Sq w v xs) : ∃ A c, v = .slice A xs.length c := by
 obtain ⟨A, c, e, _⟩ := h.src; exact ⟨A, c, e⟩
theorem Sq.off {w w' : World} {v : Value} {xs : List UInt8} {row : Option Nat} {T : TypeId → Prop} (h : Sq w v xs) (hb : w.grownBy w' row) (hr : OffT w row T) (ht : T 5) : Sq w' v xs := by
 obtain ⟨hl, h0 | ⟨g, cap, cur, hv, hg, hh, r⟩⟩ := h
 · exact ⟨hl, .inl h0⟩
 · have hbk : Blk w g 5 cur := hh
   exact ⟨hl, .inr ⟨g, cap, cur, hv, hg, hbk.grown hb (hr.far hbk ht), r⟩⟩
theorem Sq.below {w w' : World} {v : Value} {xs : List UInt8} (h : Sq w v xs) (hb : Below w.heap.size w w') : Sq w' v xs :=
 Sq.off (T := fun _ => True) h (only_of_below hb none) (OffT.none _ _) trivial

structure Xt.MineQ (w : World) (x : Xt) : Prop where
 sl : Sq w (.slice x.A x.n x.c) x.b
 n : x.n = x.b.length
 small : x.b.length < 65536
 k : 0 ≤ x.kind ∧ x.kind < 65536
structure OwnXq (w : World) (B : Nat) (v : Value) (l : List Xt) : Prop where
 row : w.ownsRow B 70 2 v l.length (flat l)
 each : ∀ x ∈ l, x.MineQ w
theorem OwnXq.nil (w : World) (B : Nat) : OwnXq w B (.slice none 0 0) [] := ⟨⟨rfl, .inl ⟨rfl, rfl⟩⟩, fun _ h => absurd h List.not_mem_nil⟩
theorem OwnXq.block {w : World} {B : Nat} {v : Value} {l : List Xt} (h : OwnXq w B v l) {T : TypeId → Prop} (hT : ¬ T 70) : OffT w v.ownBlock T := by
 obtain ⟨hl, ⟨rfl, h0⟩ | ⟨g, cap, cur, rfl, hg, hh, r⟩⟩ := h.row
 · exact fun g e => by cases e
 · exact OffT.of_blk (t := 70) (cs := cur) hh hT
theorem OwnXq.ge {w : World} {B : Nat} {v : Value} {l : List Xt} (h : OwnXq w B v l) : ∀ g, v.ownBlock = some g → B ≤ g := by
 obtain ⟨hl, ⟨rfl, h0⟩ | ⟨g, cap, cur, rfl, hg, hh, r⟩⟩ := h.row
 · exact fun g e => by cases e
 · exact fun g' e => by
     have e' : g = g' := Option.some.inj e
     rw [← e']; exact hg
theorem OwnXq.off {w w' : World} {B : Nat} {v : Value} {l : List Xt} {row : Option Nat} (h : OwnXq w B v l) (hb : w.grownBy w' row) (hr : OffT w row TX) : OwnXq w' B v l := by
 refine ⟨?_, fun x hx => ?_⟩
 · obtain ⟨hl, h0 | ⟨g, cap, cur, hv, hg, hh, r⟩⟩ := h.row
   · exact ⟨hl, .inl h0⟩
   · have hbk : Blk w g 70 cur := hh
     exact ⟨hl, .inr ⟨g, cap, cur, hv, hg, hbk.grown hb (hr.far hbk (.inl rfl)), r⟩⟩
 · have := h.each x hx
   exact ⟨Sq.off this.sl hb hr (.inr rfl), this.n, this.small, this.k⟩
theorem Xt.MineQ.ok {w : World} {x : Xt} (h : x.MineQ w) : x.Ok w := by
 obtain ⟨A', c', e, h1, h2⟩ := h.sl.src
 injection e with e1 e2 e3
 rw [← e1, ← e2] at h2
 have := h.n
 have := h.small
 have := h.k
 exact ⟨by omega, by omega, h2, by omega⟩
theorem OwnXq.src {w : World} {B : Nat} {v : Value} {l : List Xt} (h : OwnXq w B v l) : ∃ A c, v = .slice A l.length c ∧ l.length ≤ c ∧ SrcX w A l := by
 obtain ⟨hl, ⟨rfl, h0⟩ | ⟨g, cap, cur, rfl, hg, hh, hc, _, hz, ht⟩⟩ := h.row
 · have : l = [] := List.eq_nil_of_length_eq_zero h0
   subst this
   exact ⟨none, 0, rfl, Nat.le_refl _, SrcX.nil w _⟩
 · have hget : ∀ (k : Nat) (u : Value), (flat l)[k]? = some u → w.cell? ⟨g, 0 + k, none⟩ = some u := fun k u hk => by
     rw [Nat.zero_add, Blk.cell (t := 70) (cs := cur) hh, ← Array.getElem?_toList]
     rw [← ht, List.getElem?_take] at hk
     split at hk
     · exact hk
     · cases hk
   refine ⟨_, cap, rfl, hc, fun k x hk => ⟨(h.each x (List.mem_of_getElem? hk)).ok, g, 0, rfl, Blk.lt (t := 70) (cs := cur) hh, ?_, ?_⟩⟩
   · exact hget _ _ (flat_get l k x hk).1
   · exact hget _ _ (flat_get l k x hk).2

theorem wpList_appXq {ops : Array Oper} {rest : List Oper} {o : Oper} {a : Act} {w : World} {Q : Exit → Act → World → Prop} (hgd : o.guard = none) (s x : Operand)
   (ho : o.op = .call { callee := .builtin .append, args := #[s, x], argTypes := #[66, 66] })
   (B : Nat) (v : Value) (l : List Xt) (hs : a.eval s = v) (hown : OwnXq w B v l) (g c : Nat) (z : Xt) (hx : a.eval x = .slice (some ⟨g, 0, none⟩) 1 c) (hm : z.MineQ w)
   (h0 : w.cell? ⟨g, 0, none⟩ = some (.int .i64 z.kind)) (h1 : w.cell? ⟨g, 1, none⟩ = some (.slice z.A z.n z.c))
   (hlen : l.length + 1 ≤ 4294967296) (hB : B ≤ w.heap.size)
   (h : ∀ v' w', Hid (OwnXq w' B v' (l ++ [z])) → Hid (w.grownBy w' v.ownBlock) → wpList Tryz.prog ops Q rest (a.put o.dst v') w') : wpList Tryz.prog ops Q (o :: rest) a w := by
 obtain ⟨i0, hi, hz0, hz1, hz2⟩ := info_parts infX
 obtain ⟨v', w', hrun, h2, h3, _, _⟩ := run_append_own_at (P := Tryz.prog) w B 66 o.type 70 i0 (.agg #[.int .i64 0, .slice none 0 0]) 2 32 Tryz.underlying66 hi hz0 hz1 hz2 rfl (by omega) v l.length (flat l) hown.row ⟨g, 0, none⟩ 1 c (xc z) rfl
   (fun j u hu => by
     match j with
     | 0 => simp [xc] at hu; subst hu; exact h0
     | 1 => simp [xc] at hu; subst hu; exact h1
     | j + 2 => simp [xc] at hu) (by simp [xc, Value.oneCell']) (by unfold maxLen; omega) (by omega) hB
 have e1 : OwnXq w' B v' (l ++ [z]) := by
   refine ⟨?_, fun y hy => ?_⟩
   · rw [List.length_append, flat_snoc]
     exact h2
   · have hy' : y.MineQ w := by
       rcases List.mem_append.1 hy with hy | hy
       · exact hown.each y hy
       · simp at hy; subst hy; exact hm
     exact ⟨Sq.off hy'.sl h3 (hown.block (T := (· = 5)) (by decide)) rfl, hy'.n, hy'.small, hy'.k⟩
 refine wpList_plain hgd fun K hK => ?_
 unfold Oper.wp execOp
 simp only [ho, resolve, invoke, builtin, Sem.run_bind, Sem.run_pure, Result.andThen_ok, List.map_toArray, List.map_cons, List.map_nil, hs, hx, hrun]
 exact hK _ _ (h v' w' (Lib.hid e1) (Lib.hid h3))
structure HOwq (w : World) (H : Hv) : Prop where
 rnd : H.rnd.length = 32
 ver : 0 ≤ H.ver ∧ H.ver < 65536
 ses : Sq w (.slice H.sA H.ses.length H.sc) H.ses
 s1 : H.ses.length < 65536
 cph : OwnI w 0 (.slice H.cA H.cph.length H.cc) H.cph
 c1 : H.cph.length < 65536
 c2 : ∀ n ∈ H.cph, In2 n
 met : Sq w (.slice H.mA H.met.length H.mc) H.met
 m1 : H.met.length < 65536
 xs : OwnXq w 0 (.slice H.xA H.xs.length H.xc) H.xs
 x1 : H.xs.length < 65536
theorem HOwq.off {w w' : World} {H : Hv} {row : Option Nat} (h : HOwq w H) (hb : w.grownBy w' row) (hr : OffT w row TW) : HOwq w' H :=
 ⟨h.rnd, h.ver, Sq.off h.ses hb hr (.inl rfl), h.s1, h.cph.off hb (hr.mono fun _ e => .inr (.inl e)), h.c1, h.c2, Sq.off h.met hb hr (.inl rfl), h.m1,
   h.xs.off hb (hr.mono fun _ e => e.elim (fun e => .inr (.inr e)) (fun e => .inl e)), h.x1⟩
theorem HOwq.below {w w' : World} {H : Hv} (h : HOwq w H) (hb : Below w.heap.size w w') : HOwq w' H := h.off (only_of_below hb none) (OffT.none _ _)
theorem OwnXq.nc {w : World} {B : Nat} {A : Option Addr} {n c : Nat} {l : List Xt} (h : OwnXq w B (.slice A n c) l) : n = l.length ∧ n ≤ c ∧ SrcX w A l := by
 obtain ⟨A', c', e, h1, h2⟩ := h.src
 injection e with e1 e2 e3
 subst e1 e2 e3
 exact ⟨rfl, h1, h2⟩
theorem HOwq.ok {w : World} {H : Hv} (h : HOwq w H) : H.Ok w := by
 have a1 := Sq.nc h.ses
 have a2 := OwnI.nc h.cph
 have a3 := Sq.nc h.met
 have a4 := OwnXq.nc h.xs
 have := h.ver
 have := h.s1
 have := h.c1
 have := h.m1
 have := h.x1
 exact ⟨by omega, h.rnd, ⟨a1.2.1, by omega⟩, a1.2.2, ⟨a2.2.1, by omega⟩, fun n hn => by have := h.c2 n hn; unfold In2 at this; omega, a2.2.2, ⟨a3.2.1, by omega⟩, a3.2.2, ⟨a4.2.1, by omega⟩, a4.2.2⟩
theorem HOwq.zero (w : World) : HOwq w Hv.zero :=
 ⟨rfl, ⟨Int.le_refl _, by decide⟩, .nil w, by decide, OwnI.nil w 0, by decide, fun _ h => absurd h List.not_mem_nil, .nil w, by decide, OwnXq.nil w 0, by decide⟩
theorem OwnXq.lower {w : World} {B B' : Nat} {v : Value} {l : List Xt} (h : OwnXq w B v l) (hB : B' ≤ B) : OwnXq w B' v l := by
 obtain ⟨⟨hl, h0 | ⟨g, cap, cur, hv, hg, r⟩⟩, h2⟩ := h
 · exact ⟨⟨hl, .inl h0⟩, h2⟩
 · exact ⟨⟨hl, .inr ⟨g, cap, cur, hv, Nat.le_trans hB hg, r⟩⟩, h2⟩
theorem OwnXq.form {w : World} {B : Nat} {v : Value} {l : List Xt} (h : OwnXq w B v l) : ∃ A c, v = .slice A l.length c := by
 obtain ⟨A, c, e, _⟩ := h.src; exact ⟨A, c, e⟩

structure HAq (w : World) (g : Nat) (H : Hv) : Prop where
 blk : Blk w g 68 H.C
 own : HOwq w H
theorem HAq.off {w w' : World} {g : Nat} {H : Hv} {row : Option Nat} (h : HAq w g H) (hb : w.grownBy w' row) (hr : OffT w row TA) : HAq w' g H :=
 ⟨h.blk.grown hb (hr.far h.blk (.inr rfl)), h.own.off hb (hr.mono fun _ e => .inl e)⟩
theorem HAq.below {w w' : World} {g : Nat} {H : Hv} (h : HAq w g H) (hb : Below w.heap.size w w') : HAq w' g H := ⟨h.blk.below hb h.blk.lt, h.own.below hb⟩
theorem HOwq.set_ {w : World} {g i : Nat} {H : Hv} {cs : Array Value} (h : HOwq w H) (hb : Blk w g 68 cs) (u : Value) : HOwq (w.setCell ⟨g, i, none⟩ u) H :=
 h.off (only_setCell (p := ⟨g, i, none⟩) (only_refl w (some g)) (.inl rfl) u) (OffT.of_blk hb (by unfold TW; decide))
section
variable {w : World} {g : Nat} {H : Hv}
theorem HAq.set_ver (h : HAq w g H) (v : Int) (hv : 0 ≤ v ∧ v < 65536) : HAq (w.setCell ⟨g, 0, none⟩ (.int .i64 v)) g { H with ver := v } := by
 refine ⟨?_, ?_⟩
 · have := h.blk.set_ 0 (.int .i64 v)
   rw [C_set] at this
   exact this
 · have h' := h.own.set_ (i := 0) h.blk (.int .i64 v)
   exact ⟨h'.rnd, hv, h'.ses, h'.s1, h'.cph, h'.c1, h'.c2, h'.met, h'.m1, h'.xs, h'.x1⟩
theorem HAq.set_ses (h : HAq w g H) (A : Option Addr) (c : Nat) (x : List UInt8) (hx : Sq w (.slice A x.length c) x) (hl : x.length < 65536) : HAq (w.setCell ⟨g, 33, none⟩ (.slice A x.length c)) g { H with sA := A, sc := c, ses := x } := by
 refine ⟨?_, ?_⟩
 · have := h.blk.set_ 33 (.slice A x.length c)
   rw [C_set, show (33 : Nat) = 33 + 0 from rfl, L_set h.own.rnd] at this
   exact this
 · have h' := h.own.set_ (i := 33) h.blk (.slice A x.length c)
   exact ⟨h'.rnd, h'.ver, Sq.off hx (only_setCell (p := ⟨g, 33, none⟩) (only_refl w (some g)) (.inl rfl) _) (OffT.of_blk h.blk (T := TW) (by unfold TW; decide)) (.inl rfl), hl, h'.cph, h'.c1, h'.c2, h'.met, h'.m1, h'.xs, h'.x1⟩
theorem HAq.set_met (h : HAq w g H) (A : Option Addr) (c : Nat) (x : List UInt8) (hx : Sq w (.slice A x.length c) x) (hl : x.length < 65536) : HAq (w.setCell ⟨g, 35, none⟩ (.slice A x.length c)) g { H with mA := A, mc := c, met := x } := by
 refine ⟨?_, ?_⟩
 · have := h.blk.set_ 35 (.slice A x.length c)
   rw [C_set, show (35 : Nat) = 33 + 2 from rfl, L_set h.own.rnd] at this
   exact this
 · have h' := h.own.set_ (i := 35) h.blk (.slice A x.length c)
   exact ⟨h'.rnd, h'.ver, h'.ses, h'.s1, h'.cph, h'.c1, h'.c2, Sq.off hx (only_setCell (p := ⟨g, 35, none⟩) (only_refl w (some g)) (.inl rfl) _) (OffT.of_blk h.blk (T := TW) (by unfold TW; decide)) (.inl rfl), hl, h'.xs, h'.x1⟩
theorem HAq.set_has (h : HAq w g H) (b : Bool) : HAq (w.setCell ⟨g, 36, none⟩ (.bool b)) g { H with has := b } := by
 refine ⟨?_, ?_⟩
 · have := h.blk.set_ 36 (.bool b)
   rw [C_set, show (36 : Nat) = 33 + 3 from rfl, L_set h.own.rnd] at this
   exact this
 · have h' := h.own.set_ (i := 36) h.blk (.bool b)
   exact ⟨h'.rnd, h'.ver, h'.ses, h'.s1, h'.cph, h'.c1, h'.c2, h'.met, h'.m1, h'.xs, h'.x1⟩
theorem HAq.set_xs (h : HAq w g H) (A : Option Addr) (c : Nat) (x : List Xt) (hx : OwnXq w 0 (.slice A x.length c) x) (hl : x.length < 65536) : HAq (w.setCell ⟨g, 37, none⟩ (.slice A x.length c)) g { H with xA := A, xc := c, xs := x } := by
 refine ⟨?_, ?_⟩
 · have := h.blk.set_ 37 (.slice A x.length c)
   rw [C_set, show (37 : Nat) = 33 + 4 from rfl, L_set h.own.rnd] at this
   exact this
 · have h' := h.own.set_ (i := 37) h.blk (.slice A x.length c)
   exact ⟨h'.rnd, h'.ver, h'.ses, h'.s1, h'.cph, h'.c1, h'.c2, h'.met, h'.m1, hx.off (only_setCell (p := ⟨g, 37, none⟩) (only_refl w (some g)) (.inl rfl) _) (OffT.of_blk h.blk (by unfold TX; decide)), hl⟩
end
theorem run_copy_rndq {w : World} {g : Nat} {H : Hv} (h : HAq w g H) (h0 : H.rnd = List.replicate 32 0) {ty : TypeId} {A : Option Addr} {m c d : Nat} {xs : List UInt8} (hs : Src w A m xs) (hm : m ≤ 32) :
   ∃ w' N, (Builtin.copy_ #[22, 22] ty #[.slice (some ⟨g, 1, none⟩) 32 d, .slice A m c]).run Tryz.prog w = .ok N w' ∧ HAq w' g { H with rnd := rowR xs } ∧ w.grownBy w' (some g) := by
 have hl := hs.1
 have hu : Tryz.prog.underlying 22 = some (.slice 5) := Tryz.underlying22
 have hz : (Tryz.prog.info? 5).map (·.size) = some 1 := by kernel_rfl
 have hrow : (rowR xs).length = 32 := by simp [rowR]; omega
 by_cases e0 : m = 0
 · have hx : xs = [] := List.eq_nil_of_length_eq_zero (by omega)
   refine ⟨w, _, run_copy_none w 22 22 ty 5 (some ⟨g, 1, none⟩) A 32 d m c hu hz (by show min m 32 = 0; omega), ?_, only_refl _ _⟩
   have : ({ H with rnd := rowR xs } : Hv) = H := by
     subst hx
     show ({ H with rnd := List.replicate 32 0 } : Hv) = H
     rw [← h0]
   rw [this]
   exact h
 · obtain ⟨ad, rfl, _, hc⟩ := hs.2 (by omega)
   have hlen : (cellsOf xs).length = min m 32 := by rw [cellsOf_length, hl]; omega
   have hrun := run_copy_row (P := Tryz.prog) w 22 22 ty 5 g 1 32 d ad m c H.C 68 (cellsOf xs) hu hz h.blk hlen (fun j v hj => by
       simp only [cellsOf, List.getElem?_map, Option.map_eq_some_iff] at hj
       obtain ⟨x, hx, rfl⟩ := hj
       exact hc j x hx) (by rw [hlen, Hv.size h.own.rnd]; omega) (cellsOf_one _)
   have hbk := setRow_heap w g H.C ((H.C.toList.take 1 ++ cellsOf xs ++ H.C.toList.drop (1 + (cellsOf xs).length)).toArray) 68 (0, 0) h.blk
   have hC : (H.C.toList.take 1 ++ cellsOf xs ++ H.C.toList.drop (1 + (cellsOf xs).length)).toArray = ({ H with rnd := rowR xs } : Hv).C := by
     simp only [Hv.C, Hv.L]
     congr 1
     rw [h0, cellsOf_length, Nat.add_comm 1, List.drop_succ_cons, List.drop_append_of_le_length (by simp [cellsOf]; omega)]
     simp only [rowR, cellsOf, List.map_append, List.map_replicate, List.drop_replicate, List.take_succ_cons, List.take_zero, List.append_assoc, List.cons_append, List.nil_append]
   have hg : w.grownBy (w.setRow g ((H.C.toList.take 1 ++ cellsOf xs ++ H.C.toList.drop (1 + (cellsOf xs).length)).toArray)) (some g) := by
     have hB := (But.refl [g] w).row (g := g) (.inl (List.mem_singleton.2 rfl)) ((H.C.toList.take 1 ++ cellsOf xs ++ H.C.toList.drop (1 + (cellsOf xs).length)).toArray)
     exact ⟨hB.os, hB.tape, hB.output, hB.size, fun i hi hn => hB.block i hi (fun hm => hn (by rw [List.mem_singleton.1 hm]))⟩
   refine ⟨_, _, hrun, ⟨?_, ?_⟩, hg⟩
   · rw [← hC]
     exact hbk
   · have h' := h.own.off hg (OffT.of_blk h.blk (by unfold TW; decide))
     exact ⟨hrow, h'.ver, h'.ses, h'.s1, h'.cph, h'.c1, h'.c2, h'.met, h'.m1, h'.xs, h'.x1⟩
theorem step_copy_rndq {ops : Array Oper} {o : Oper} {a : Act} {w : World} {K : Act → World → Prop} {Q : Exit → Act → World → Prop} {E : Prop} (dst : Option Tmp) (hdst : o.dst = dst) (hgd : o.guard = none) (d s : Operand)
   (ho : o.op = .call { callee := .builtin .copy, args := #[d, s], argTypes := #[22, 22] }) (g dc m c : Nat) (A : Option Addr) (xs : List UInt8) (H : Hv) (hd : a.eval d = .slice (some ⟨g, 1, none⟩) 32 dc) (hx : a.eval s = .slice A m c)
   (hH : HAq w g H) (h0 : H.rnd = List.replicate 32 0) (hs : Src w A m xs) (hm : m ≤ 32)
   (h : ∀ w' N, Hid (HAq w' g { H with rnd := rowR xs }) → Hid (w.grownBy w' (some g)) → K (a.put dst N) w') :
   if Region.wanted o (yielded ops a.tmps) = true then Oper.wp Tryz.prog o a w K Q else E := by
 subst hdst
 have hw : Region.wanted o (yielded ops a.tmps) = true := by simp [Region.wanted, hgd]
 rw [if_pos hw]
 obtain ⟨w', N, hrun, h2, h3⟩ := run_copy_rndq (ty := o.type) (c := c) (d := dc) hH h0 hs hm
 unfold Oper.wp execOp
 simp only [ho, resolve, invoke, builtin, Sem.run_bind, Sem.run_pure, Result.andThen_ok, List.map_toArray, List.map_cons, List.map_nil, hd, hx, hrun]
 exact h w' N (Lib.hid h2) (Lib.hid h3)

theorem Xt.MineQ.below {w w' : World} {x : Xt} (h : x.MineQ w) (hb : Below w.heap.size w w') : x.MineQ w' := ⟨h.sl.below hb, h.n, h.small, h.k⟩
theorem OwnXq.alloc {w : World} {B : Nat} {v : Value} {l : List Xt} (h : OwnXq w B v l) (o : Obj) : OwnXq (w.alloc o) B v l :=
 ⟨World.ownsRow.alloc h.row o, fun x hx => (h.each x hx).below ((Below.refl _ _).alloc (Nat.le_refl _) o)⟩

open Go.Proofs.YthfknndjdfofgaaGreatDoor.RefBe in
def Rq (B : Nat) (w : World) (y : Nat) (st : Option (List UInt8)) : Prop :=
 ∃ A n c xs, RR w y A n c xs st ∧ n ≤ 100000 ∧ n ≤ c ∧ c ≤ 9223372036854775807 ∧ Src w A n xs ∧ (0 < n → ∀ ad, A = some ad → ad.block < B) ∧ B ≤ y
section
open Go.Proofs.YthfknndjdfofgaaGreatDoor.RefBe
variable {B : Nat} {w w' : World} {y : Nat} {st : Option (List UInt8)}
theorem Rq.blk (h : Rq B w y st) : ∃ cs, Blk w y 160 cs := by
 obtain ⟨A, n, c, xs, h, _⟩ := h; exact h.blk
theorem Rq.far (h : Rq B w y st) : B ≤ y := by
 obtain ⟨A, n, c, xs, _, _, _, _, _, _, h⟩ := h; exact h
theorem Rq.bd (h : Rq B w y st) : leftS st ≤ 100000 := by
 obtain ⟨A, n, c, xs, ⟨a, off, _, _, rfl⟩, h1, _, _, h2, _⟩ := h
 cases off with
 | true => exact Nat.zero_le _
 | false => show (xs.drop a).length ≤ _; rw [List.length_drop, h2.1]; omega
theorem Rq.off {row : Option Nat} (h : Rq B w y st) (hb : w.grownBy w' row) (hr : ∀ g, row = some g → B ≤ g ∧ y ≠ g) : Rq B w' y st := by
 obtain ⟨A, n, c, xs, ⟨a, off, hk, ha, e⟩, h1, h2, h3, h4, h5, h6⟩ := h
 refine ⟨A, n, c, xs, ⟨a, off, hk.grown hb (fun e => (hr _ e.symm).2 rfl), ha, e⟩, h1, h2, h3, ⟨h4.1, fun hn => ?_⟩, h5, h6⟩
 obtain ⟨ad, e, hlt, hc⟩ := h4.2 hn
 refine ⟨ad, e, Nat.lt_of_lt_of_le hlt hb.size, fun j x hj => ?_⟩
 rw [World.cell?_of_block (w := w) (hb.block (ad.add j).block (by rw [block_of_add]; exact hlt) (by
   rw [block_of_add]
   intro e2
   have := (hr _ e2.symm).1
   have := h5 hn ad e
   omega))]
 exact hc j x hj
theorem Rq.below (h : Rq B w y st) (hb : Below w.heap.size w w') : Rq B w' y st := h.off (only_of_below hb none) (fun g e => by cases e)
theorem Rq.new {A : Option Addr} {n c : Nat} {xs : List UInt8} (hs : Src w A n xs) (hn : n ≤ 100000) (hnc : n ≤ c) (hc : c ≤ 9223372036854775807) (hB : w.heap.size = B) :
   Rq B (w.alloc (.cells #[.slice A n c, .int .i64 0, .bool false] 160)) w.heap.size (some xs) :=
 ⟨A, n, c, xs, ⟨0, false, Blk.new _ _ _, Nat.zero_le _, rfl⟩, hn, hnc, hc, hs.alloc _, fun h0 ad e => by
   obtain ⟨ad', e', hlt, _⟩ := hs.2 h0
   rw [e] at e'
   injection e' with e'
   rw [e', ← hB]; exact hlt, by omega⟩
theorem qleft_any (h : Rq B w y st) : Calls Tryz.prog 136 #[.pointer (some ⟨y, 0, none⟩)] w fun e w' => e = .returned (.int .i64 (leftS st : Int)) ∧ ∃ k, w' = w.drewN k := by
 obtain ⟨A, n, c, xs, h, h1, _, _, h2, _⟩ := h
 exact rleft_any y A n c xs st w h h2.1 h1
theorem qnum_any (h : Rq B w y st) (size : Int) : Calls Tryz.prog 133 #[.pointer (some ⟨y, 0, none⟩), .int .i64 size] w fun e w' => e = .returned (.int .i64 ((numS st size).1 : Int)) ∧ Rq B w' y (numS st size).2 ∧ w.grownBy w' (some y) := by
 obtain ⟨A, n, c, xs, h, h1, h2, h3, h4, h5, h6⟩ := h
 refine (rnum_any y A n c xs st size w h h1 h2 h3 h4).mono ?_
 rintro e w' ⟨rfl, hr, hg⟩
 exact ⟨rfl, ⟨A, n, c, xs, hr, h1, h2, h3, Src.grown_far h4 (fun h0 ad e e2 => by have := h5 h0 ad e; omega) hg, h5, h6⟩, hg⟩
def QPost (B : Nat) (w : World) (y : Nat) (p : List UInt8 × Option (List UInt8)) (e : Ending) (w' : World) : Prop :=
 ∃ v, e = .returned v ∧ Sq w' v p.1 ∧ Rq B w' y p.2 ∧ w.grownBy w' (some y)
theorem qtake_any (h : Rq B w y st) (q : Int) : Calls Tryz.prog 134 #[.pointer (some ⟨y, 0, none⟩), .int .i64 q] w (QPost B w y (takeS st q)) := by
 obtain ⟨A, n, c, xs, h, h1, h2, h3, h4, h5, h6⟩ := h
 refine (rtake_any y A n c xs st q w h h1 h2 h3 h4).mono ?_
 rintro e w' ⟨v, rfl, ho, hr, hg⟩
 exact ⟨v, rfl, Sq.of ho, ⟨A, n, c, xs, hr, h1, h2, h3, Src.grown_far h4 (fun h0 ad e e2 => by have := h5 h0 ad e; omega) hg, h5, h6⟩, hg⟩
theorem qvec_any (h : Rq B w y st) (size : Int) : Calls Tryz.prog 135 #[.pointer (some ⟨y, 0, none⟩), .int .i64 size] w (QPost B w y (vecS st size)) := by
 obtain ⟨A, n, c, xs, h, h1, h2, h3, h4, h5, h6⟩ := h
 refine (rrvec_any y A n c xs st size w h h1 h2 h3 h4 (fun h0 ad e e2 => by have := h5 h0 ad e; omega)).mono ?_
 rintro e w' ⟨v, rfl, ho, hr, hg⟩
 exact ⟨v, rfl, Sq.of ho, ⟨A, n, c, xs, hr, h1, h2, h3, Src.grown_far h4 (fun h0 ad e e2 => by have := h5 h0 ad e; omega) hg, h5, h6⟩, hg⟩
theorem Rq.bad (h : Rq B w y st) : w.cell? ⟨y, 2, none⟩ = some (.bool st.isNone) := by
 obtain ⟨A, n, c, xs, ⟨a, off, hk, _, rfl⟩, _⟩ := h
 rw [hk.cell]
 cases off <;> rfl
end
end Go.Proofs.YthfknndjdfofgaaGreatDoor.He

/-
 law09's Few over this seat's translation: is a hello short?
-/
namespace Go.Proofs.YthfknndjdfofgaaGreatDoor.He
open Go.RowKit Go.Proofs.YthfknndjdfofgaaGreatDoor.Wd Go.Proofs.YthfknndjdfofgaaGreatDoor.Be

def xsum (l : List Xt) : Nat := (l.map fun x => 4 + x.n).sum
theorem xsum_snoc {l : List Xt} {k : Nat} {x : Xt} (h : l[k]? = some x) : xsum (l.take (k + 1)) = xsum (l.take k) + (4 + x.n) := by
 unfold xsum
 rw [List.take_add_one, h]
 simp
theorem xsum_take (l : List Xt) (k : Nat) : xsum (l.take k) ≤ xsum l := by
 have h : xsum l = xsum (l.take k) + xsum (l.drop k) := by
   unfold xsum
   rw [← List.sum_append, ← List.map_append, List.take_append_drop]
 omega
def weigh (H : Hv) : Nat := H.ses.length + 2 * H.cph.length + H.met.length + xsum H.xs
end Go.Proofs.YthfknndjdfofgaaGreatDoor.He

/-
 Plain facts on hellos that the layer's laws want: finding by kinds, cutting, a bare hello. No condition.
-/
namespace Go.Proofs.YthfknndjdfofgaaGreatDoor.He
open Go.RowKit Go.Proofs.YthfknndjdfofgaaGreatDoor.Wd Go.Proofs.YthfknndjdfofgaaGreatDoor.Be

end Go.Proofs.YthfknndjdfofgaaGreatDoor.He
