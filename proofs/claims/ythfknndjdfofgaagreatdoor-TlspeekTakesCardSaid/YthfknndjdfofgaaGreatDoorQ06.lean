/-
 Rows of elements of whatever kind (so many cells each): of the call's own, or that a slice leads to; append onto them. Plain lemmas, no condition.
-/
import Derived.Test.YthfknndjdfofgaaGreatDoorQ05
import Derived.Deep.RegionHeldLaw
import Derived.Deep.RegionHeld3
namespace Go.Proofs.YthfknndjdfofgaaGreatDoor.Ro
open Go.RowKit Go.Proofs.YthfknndjdfofgaaGreatDoor.Wd Go.Proofs.YthfknndjdfofgaaGreatDoor.He

structure El (α : Type) where
 ty : TypeId
 n : Nat
 c : α → List Value
structure El.Fine {α : Type} (e : El α) (sl : TypeId) (z : Value) (bytes : Nat) : Prop where
 und : Tryz.prog.underlying sl = some (.slice e.ty)
 info : (Tryz.prog.info? e.ty).map (fun i => (i.zero, i.size, i.bytes)) = some (some z, e.n, bytes)
 zs : z.cells.size = e.n
 pos : 0 < e.n
 len : ∀ x, (e.c x).length = e.n
 one : ∀ x, ∀ v ∈ e.c x, v.oneCell' = true
section
variable {α : Type} {e : El α} {sl : TypeId} {z : Value} {bytes : Nat}
def flat (e : El α) (l : List α) : List Value := l.flatMap e.c
theorem flat_app (l m : List α) : flat e (l ++ m) = flat e l ++ flat e m := by simp [flat]
theorem flat_one (x : α) : flat e [x] = e.c x := by simp [flat]
theorem flat_len (F : e.Fine sl z bytes) (l : List α) : (flat e l).length = l.length * e.n := by
 induction l with
 | nil => simp [flat]
 | cons x l ih => rw [show flat e (x :: l) = e.c x ++ flat e l by simp [flat], List.length_append, ih, F.len, List.length_cons, Nat.add_mul]; omega
theorem flat_at (F : e.Fine sl z bytes) : ∀ (l : List α) (i : Nat) (x : α), l[i]? = some x → ∀ (j : Nat) (v : Value), (e.c x)[j]? = some v → (flat e l)[i * e.n + j]? = some v
 | [], i, x, h, _, _, _ => by simp at h
 | y :: l, 0, x, h, j, v, hv => by
   simp at h
   subst h
   rw [show flat e (y :: l) = e.c y ++ flat e l by simp [flat], List.getElem?_append_left (by have := (List.getElem?_eq_some_iff.1 hv).1; omega), Nat.zero_mul, Nat.zero_add]
   exact hv
 | y :: l, i + 1, x, h, j, v, hv => by
   rw [show flat e (y :: l) = e.c y ++ flat e l by simp [flat], List.getElem?_append_right (by rw [F.len, Nat.add_mul]; omega), F.len, show (i + 1) * e.n + j - e.n = i * e.n + j by rw [Nat.add_mul]; omega]
   exact flat_at F l i x (by simpa using h) j v hv
theorem flat_mem {l : List α} {v : Value} (h : v ∈ flat e l) : ∃ x ∈ l, v ∈ e.c x := by
 simpa [flat] using h
theorem flat_ones (F : e.Fine sl z bytes) (l : List α) : ∀ v ∈ flat e l, v.oneCell' = true := fun v h => by
 obtain ⟨x, _, hv⟩ := flat_mem h
 exact F.one x v hv

def SrcE (w : World) (e : El α) (A : Option Addr) (l : List α) : Prop :=
 ∀ (i : Nat) (x : α), l[i]? = some x → ∃ g o, A = some ⟨g, o, none⟩ ∧ g < w.heap.size ∧ ∀ (j : Nat) (v : Value), (e.c x)[j]? = some v → w.cell? ⟨g, o + (i * e.n + j), none⟩ = some v
theorem SrcE.below {w w' : World} {A : Option Addr} {l : List α} (h : SrcE w e A l) (hb : Below w.heap.size w w') : SrcE w' e A l := fun i x hx => by
 obtain ⟨g, o, hA, hg, hc⟩ := h i x hx
 exact ⟨g, o, hA, Nat.lt_of_lt_of_le hg hb.size, fun j v hv => (hb.cell (p := ⟨g, _, none⟩) hg).trans (hc j v hv)⟩
theorem SrcE.nil (w : World) (A : Option Addr) : SrcE w e A [] := fun i x h => by simp at h
theorem SrcE.new (F : e.Fine sl z bytes) (w : World) (l : List α) (C : Array Value) (hC : C = (flat e l).toArray) (t : TypeId) : SrcE (w.alloc (.cells C t)) e (some ⟨w.heap.size, 0, none⟩) l := fun i x hx =>
 ⟨_, 0, rfl, by simp, fun j v hv => by
   rw [Blk.cell (Blk.new w t C), hC, Nat.zero_add]
   simpa using flat_at F l i x hx j v hv⟩

def OwnE (w : World) (e : El α) (B : Nat) (v : Value) (l : List α) : Prop := w.ownsRow B e.ty e.n v l.length (flat e l)
theorem OwnE.nil (w : World) (e : El α) (B : Nat) : OwnE w e B (.slice none 0 0) [] := ⟨by simp [flat], .inl ⟨rfl, rfl⟩⟩
theorem OwnE.off {w w' : World} {B : Nat} {v : Value} {l : List α} {row : Option Nat} (h : OwnE w e B v l) (hb : w.grownBy w' row) (hr : OffT w row (· = e.ty)) : OwnE w' e B v l := by
 obtain ⟨hl, h0 | ⟨g, cap, cur, hv, hg, hh, r⟩⟩ := h
 · exact ⟨hl, .inl h0⟩
 · have hbk : Blk w g e.ty cur := hh
   exact ⟨hl, .inr ⟨g, cap, cur, hv, hg, hbk.grown hb (hr.far hbk rfl), r⟩⟩
theorem OwnE.below {w w' : World} {B : Nat} {v : Value} {l : List α} (h : OwnE w e B v l) (hb : Below w.heap.size w w') : OwnE w' e B v l := h.off (only_of_below hb none) (OffT.none _ _)
theorem OwnE.alloc {w : World} {B : Nat} {v : Value} {l : List α} (h : OwnE w e B v l) (o : Obj) : OwnE (w.alloc o) e B v l := World.ownsRow.alloc h o
theorem OwnE.lower {w : World} {B B' : Nat} {v : Value} {l : List α} (h : OwnE w e B v l) (hB : B' ≤ B) : OwnE w e B' v l := by
 obtain ⟨hl, h0 | ⟨g, cap, cur, hv, hg, r⟩⟩ := h
 · exact ⟨hl, .inl h0⟩
 · exact ⟨hl, .inr ⟨g, cap, cur, hv, Nat.le_trans hB hg, r⟩⟩
theorem OwnE.block {w : World} {B : Nat} {v : Value} {l : List α} (h : OwnE w e B v l) {T : TypeId → Prop} (hT : ¬ T e.ty) : OffT w v.ownBlock T := by
 obtain ⟨hl, ⟨rfl, h0⟩ | ⟨g, cap, cur, rfl, hg, hh, r⟩⟩ := h
 · exact fun g e => by cases e
 · exact OffT.of_blk (t := e.ty) (cs := cur) hh hT
theorem OwnE.ge {w : World} {B : Nat} {v : Value} {l : List α} (h : OwnE w e B v l) : ∀ g, v.ownBlock = some g → B ≤ g := by
 obtain ⟨hl, ⟨rfl, h0⟩ | ⟨g, cap, cur, rfl, hg, hh, r⟩⟩ := h
 · exact fun g e => by cases e
 · exact fun g' e => by
     have e' : g = g' := Option.some.inj e
     rw [← e']; exact hg
theorem OwnE.row {w : World} {B : Nat} {v : Value} {l : List α} (h : OwnE w e B v l) :
   (v = .slice none 0 0 ∧ l = []) ∨ ∃ g cap cur, v = .slice (some ⟨g, 0, none⟩) l.length cap ∧ B ≤ g ∧ Blk w g e.ty cur ∧ l.length ≤ cap ∧ cap ≤ maxLen ∧ cur.size = cap * e.n ∧ cur.toList.take (l.length * e.n) = flat e l := by
 obtain ⟨hl, ⟨rfl, h0⟩ | ⟨g, cap, cur, rfl, hg, hh, hc, hm, hz, ht⟩⟩ := h
 · exact .inl ⟨rfl, List.eq_nil_of_length_eq_zero h0⟩
 · exact .inr ⟨g, cap, cur, rfl, hg, hh, hc, hm, hz, ht⟩
theorem OwnE.src (F : e.Fine sl z bytes) {w : World} {B : Nat} {v : Value} {l : List α} (h : OwnE w e B v l) : ∃ A c, v = .slice A l.length c ∧ l.length ≤ c ∧ c ≤ maxLen ∧ SrcE w e A l := by
 rcases h.row with ⟨rfl, rfl⟩ | ⟨g, cap, cur, rfl, hg, hh, hc, hm, hz, ht⟩
 · exact ⟨none, 0, rfl, Nat.le_refl _, Nat.zero_le _, SrcE.nil w _⟩
 · refine ⟨_, cap, rfl, hc, hm, fun i x hx => ⟨g, 0, rfl, hh.lt, fun j v hv => ?_⟩⟩
   rw [Nat.zero_add, hh.cell, ← Array.getElem?_toList]
   have h2 := flat_at F l i x hx j v hv
   rw [← ht, List.getElem?_take] at h2
   split at h2
   · exact h2
   · cases h2
theorem OwnE.form {w : World} {B : Nat} {v : Value} {l : List α} (h : OwnE w e B v l) : ∃ A c, v = .slice A l.length c := by
 rcases h.row with ⟨rfl, rfl⟩ | ⟨g, cap, cur, rfl, _⟩
 · exact ⟨none, 0, rfl⟩
 · exact ⟨_, cap, rfl⟩

set_option maxRecDepth 100000 in
theorem run_appE (F : e.Fine sl z bytes) {w : World} {B : Nat} {v : Value} {l m : List α} (hown : OwnE w e B v l) {A : Option Addr} {c : Nat} (hs : SrcE w e A m) (hlen : l.length + m.length ≤ 4294967296) (hby : bytes ≤ 32768) (hB : B ≤ w.heap.size) (ty : TypeId) (hm : m = [] → A = none → B ≤ w.heap.size) :
   m ≠ [] → ∃ v' w', (Builtin.append_ #[sl, sl] ty #[v, .slice A m.length c]).run Tryz.prog w = .ok v' w' ∧ OwnE w' e B v' (l ++ m) ∧ w.grownBy w' v.ownBlock ∧ (v'.ownBlock = v.ownBlock ∨ v'.ownBlock = some w.heap.size) := by
 intro hne
 obtain ⟨i0, hi, hz0, hz1, hz2⟩ := info_parts F.info
 obtain ⟨x0, hx0⟩ : ∃ x, m[0]? = some x := by cases m with
   | nil => exact absurd rfl hne
   | cons x m => exact ⟨x, rfl⟩
 obtain ⟨g, o, rfl, hg, _⟩ := hs 0 x0 hx0
 have hcells : ∀ (j : Nat) (u : Value), (flat e m)[j]? = some u → w.cell? ((⟨g, o, none⟩ : Addr).add j) = some u := by
   intro j u hu
   have hj := (List.getElem?_eq_some_iff.1 hu).1
   rw [flat_len F] at hj
   have hp := F.pos
   have hi' : j / e.n < m.length := (Nat.div_lt_iff_lt_mul hp).2 hj
   have hd := Nat.div_add_mod j e.n
   have hr := Nat.mod_lt j hp
   obtain ⟨x, hx⟩ : ∃ x, m[j / e.n]? = some x := ⟨_, List.getElem?_eq_getElem hi'⟩
   obtain ⟨g', o', hA, _, hc⟩ := hs _ x hx
   injection hA with hA
   injection hA with h1 h2
   subst h1 h2
   have hjl : j % e.n < (e.c x).length := by rw [F.len]; exact hr
   have h1 := hc (j % e.n) _ (List.getElem?_eq_getElem hjl)
   have h2 := flat_at F m _ x hx (j % e.n) _ (List.getElem?_eq_getElem hjl)
   have e1 : j / e.n * e.n + j % e.n = j := by rw [Nat.mul_comm]; exact hd
   rw [e1] at h1 h2
   rw [h2] at hu
   injection hu with hu
   rw [add_flat, h1, hu]
 have hb2 : (l.length + m.length) * bytes ≤ 140737488355328 := by
   have := Nat.mul_le_mul hlen hby
   omega
 obtain ⟨v', w', hrun, h2, h3, _, h5⟩ := run_append_own_at (P := Tryz.prog) w B sl ty e.ty i0 z e.n bytes F.und hi hz0 hz1 hz2 F.zs F.pos v l.length (flat e l) hown ⟨g, o, none⟩ m.length c (flat e m) (flat_len F m) hcells (flat_ones F m) (by unfold maxLen; omega) hb2 hB
 refine ⟨v', w', hrun, ?_, h3, h5⟩
 unfold OwnE
 rw [List.length_append, flat_app]
 exact h2
theorem wpList_appE (F : e.Fine sl z bytes) {ops : Array Oper} {rest : List Oper} {o : Oper} {a : Act} {w : World} {Q : Exit → Act → World → Prop} (hgd : o.guard = none) (s x : Operand)
   (ho : o.op = .call { callee := .builtin .append, args := #[s, x], argTypes := #[sl, sl] })
   (B : Nat) (v : Value) (l : List α) (hs : a.eval s = v) (hown : OwnE w e B v l) (A : Option Addr) (n c : Nat) (m : List α) (hx : a.eval x = .slice A n c) (hn : n = m.length) (hne : m ≠ []) (hsrc : SrcE w e A m)
   (hlen : l.length + m.length ≤ 4294967296) (hby : bytes ≤ 32768) (hB : B ≤ w.heap.size)
   (h : ∀ v' w', Hid (OwnE w' e B v' (l ++ m)) → Hid (w.grownBy w' v.ownBlock) → wpList Tryz.prog ops Q rest (a.put o.dst v') w') : wpList Tryz.prog ops Q (o :: rest) a w := by
 subst hn
 obtain ⟨v', w', hrun, h2, h3, _⟩ := run_appE F hown (c := c) hsrc hlen hby hB o.type (fun _ _ => hB) hne
 refine wpList_plain hgd fun K hK => ?_
 unfold Oper.wp execOp
 simp only [ho, resolve, invoke, builtin, Sem.run_bind, Sem.run_pure, Result.andThen_ok, List.map_toArray, List.map_cons, List.map_nil, hs, hx, hrun]
 exact hK _ _ (h v' w' (Lib.hid h2) (Lib.hid h3))
end
def elS : El (List UInt8) := ⟨9, 1, fun x => [.string (str8 x)]⟩
theorem fineS : elS.Fine 26 (.string .empty) 16 := ⟨Tryz.underlying26, by kernel_rfl, rfl, Nat.one_pos, fun _ => rfl, fun x v h => by
 simp [elS] at h; subst h; rfl⟩
def elI : El Int := ⟨3, 1, fun n => [.int .i64 n]⟩
theorem fineI : elI.Fine 27 (.int .i64 0) 8 := ⟨Tryz.underlying27, by kernel_rfl, rfl, Nat.one_pos, fun _ => rfl, fun x v h => by
 simp [elI] at h; subst h; rfl⟩
def elT : El (Int × List UInt8) := ⟨188, 2, fun x => [.int .i64 x.1, .string (str8 x.2)]⟩
theorem fineT : elT.Fine 184 (.agg #[.int .i64 0, .string .empty]) 24 := ⟨Tryz.underlying184, by kernel_rfl, rfl, Nat.two_pos, fun _ => rfl, fun x v h => by
 simp [elT] at h; rcases h with rfl | rfl <;> rfl⟩
end Go.Proofs.YthfknndjdfofgaaGreatDoor.Ro

/-
 Results that are structs, in a block; one operation of a region that draws, taken by hand; what stays while a row is stored whole. Plain lemmas, no condition.
-/
namespace Go.Proofs.YthfknndjdfofgaaGreatDoor.Ro
open Go.RowKit Go.Proofs.YthfknndjdfofgaaGreatDoor.Wd Go.Proofs.YthfknndjdfofgaaGreatDoor.He

theorem ret_one {fn : Func} {p : Tmp} {ty t : TypeId} {a : Act} {w : World} {g n : Nat} {C : Array Value} {d : TypeDesc} {R : Ending → World → Prop} (hf : fn.results = #[.cell p ty]) (hb : Blk w g t C) (hu : Tryz.prog.underlying ty = some d)
   (hd : d.isRow = true) (hi : (Tryz.prog.info? ty).map (·.size) = some n) (hn : C.size = n) (hp : a.tmps.getD p undef = .pointer (some ⟨g, 0, none⟩)) (h : R (.returned (.agg C)) w) (hdf : a.defers = []) : bodyPost Tryz.prog fn R .ret a w :=
 bodyPost_ret (results_cell_row hf _ _ g t C (0, 0) d hp hb hu (by cases d <;> first | rfl | cases hd) (by rw [hi, hn])) hdf h
theorem ret_two {fn : Func} {p q : Tmp} {ty t : TypeId} {a : Act} {w : World} {g n : Nat} {C : Array Value} {v : Value} {d : TypeDesc} {R : Ending → World → Prop} (hf : fn.results = #[.cell p ty, .tmp q]) (hb : Blk w g t C) (hu : Tryz.prog.underlying ty = some d)
   (hd : d.isRow = true) (hi : (Tryz.prog.info? ty).map (·.size) = some n) (hn : C.size = n) (hp : a.tmps.getD p undef = .pointer (some ⟨g, 0, none⟩)) (hq : a.tmps.getD q undef = v) (h : R (.returned (.tuple #[.agg C, v])) w) (hdf : a.defers = []) : bodyPost Tryz.prog fn R .ret a w := by
 have hp' : a.tmps[p]?.getD undef = .pointer (some ⟨g, 0, none⟩) := by simpa using hp
 have hq' : a.tmps[q]?.getD undef = v := by simpa using hq
 have hl := run_loadVar_row w g t ty C (0, 0) d hb hu (by cases d <;> first | rfl | cases hd) (by rw [hi, hn])
 exact bodyPost_ret (v := .tuple #[.agg C, v]) (by simp [results, hf, hp', hq', asAddr, hl]) hdf h
theorem hd_take {P : Program} {ops : Array Oper} {Q : Exit → Act → World → Prop} {md : Region.Mode} {S : World → Prop} (i : Nat) (dst : Option Tmp) (v : Value) {oi : Oper} {fuel : Nat} {listed : Array Bool} {a : Act} {w : World} (hi : ops[i]? = some oi) (hd : oi.dst = dst)
   (hs : Region.noSelect ops = true) (hf : Region.free md ops listed i = true) (hr : (Region.ready md ops listed).contains i = true)
   (hQ : ∀ c a w, Q (.panic c) (a.put oi.dst v) w → Q (.panic c) a w) (hy : YieldsIf P ops S oi v a) (hS : S w)
   (h : wpAnyH P md ops Q S fuel (listed.setIfInBounds i true) (a.put dst v) w) : wpAnyH P md ops Q S (fuel + 1) listed a w := by
 subst hd
 exact wpAnyH_take hi hs hf hr hQ hy hS h
theorem only_new {a w w' : World} {row : Option Nat} {g : Nat} (h : a.grownBy w row) (hb : w.grownBy w' (some g)) (hg : a.heap.size ≤ g) : a.grownBy w' row :=
 ⟨hb.os.trans h.os, hb.tape.trans h.tape, hb.output.trans h.output, Nat.le_trans h.size hb.size, fun i hi hne => (hb.block i (Nat.lt_of_lt_of_le hi h.size) (fun e => by injection e with e; omega)).trans (h.block i hi hne)⟩
end Go.Proofs.YthfknndjdfofgaaGreatDoor.Ro

/-
 Contracts of package exts' readers of one item over this seat's translation: readTyped, readProtocol, readVersion.
-/
namespace Go.Proofs.YthfknndjdfofgaaGreatDoor.Ex
open Go.RowKit Go.Proofs.YthfknndjdfofgaaGreatDoor.Wd Go.Proofs.YthfknndjdfofgaaGreatDoor.Be Go.Proofs.YthfknndjdfofgaaGreatDoor.He Go.Proofs.YthfknndjdfofgaaGreatDoor.Ro

def OneP {α : Type} (val : α → Value) (r : Nat) (w : World) (p : α × Option (List UInt8)) (e : Ending) (w' : World) : Prop := e = .returned (val p.1) ∧ Rd w' r p.2 ∧ w.grownBy w' (some r)
def valS (x : List UInt8) : Value := .string (str8 x)
def valI (n : Int) : Value := .int .i64 n
def valT (x : Int × List UInt8) : Value := .agg #[.int .i64 x.1, .string (str8 x.2)]

theorem undT : Tryz.prog.underlying 188 = some (.struct (Tryz.prog.fieldsOf 188)) := by kernel_rfl
theorem infT : (Tryz.prog.info? 188).map (·.size) = some 2 := by kernel_rfl

set_option maxHeartbeats 400000 in
theorem ver_any (r : Nat) (st : Option (List UInt8)) (w : World) (hr : Rd w r st) (hl : leftS st ≤ 65535) :
   Calls Tryz.prog 177 #[.pointer (some ⟨r, 0, none⟩)] w (OneP valI r w (verO st)) := by
 go_enter Tryz.func177, Tryz.ntmps177
 go_wp2_with fail
 refine (num_any r 2 st w hr (left_bd (by omega))).mono ?_
 rintro e w1 ⟨rfl, hrd, hg⟩
 have H := Lib.hid hrd
 clear hrd hr
 go_wp2_with fail
 go_ret
 exact ⟨rfl, H.out, hg⟩

set_option maxHeartbeats 400000 in
theorem pro_any (r : Nat) (st : Option (List UInt8)) (w : World) (hr : Rd w r st) (hl : leftS st ≤ 65535) :
   Calls Tryz.prog 174 #[.pointer (some ⟨r, 0, none⟩)] w (OneP valS r w (proO st)) := by
 go_enter Tryz.func174, Tryz.ntmps174
 go_wp2_with fail
 refine (rvec_any r 1 st w hr (left_bd (by omega))).mono ?_
 rintro e w1 ⟨v, rfl, hsl, hrd, hg⟩
 obtain ⟨A, c, rfl, _, hs⟩ := hsl.src
 have hcv := con8 (c := c) hs
 have H := Lib.hid hrd
 have HG := Lib.hid hg
 have HV := Lib.hid (show proO st = vecS st 1 from rfl)
 clear hrd hr hsl hs hg
 generalize vecS st 1 = p at *
 go_wp2_with fail
 go_ret
 rw [HV.out]
 exact ⟨rfl, H.out, HG.out⟩

set_option maxRecDepth 100000 in
set_option maxHeartbeats 800000 in
theorem typ_any (r : Nat) (st : Option (List UInt8)) (w : World) (hr : Rd w r st) (hl : leftS st ≤ 65535) :
   Calls Tryz.prog 170 #[.pointer (some ⟨r, 0, none⟩)] w (OneP valT r w (typO st)) := by
 have HT := Lib.hid (show typO st = ((((numS st 1).1 : Int), (vecS (numS st 1).2 2).1), (vecS (numS st 1).2 2).2) from rfl)
 have hl2 : leftS (numS st 1).2 ≤ 65535 := Nat.le_trans (take_less _ _) hl
 have HR := Lib.hid hr
 have hlt := hr.lt
 clear hr
 go_enter Tryz.func170, Tryz.ntmps170
 go_wp2_with fail
 refine (num_any r 1 st _ (HR.out.below ((Below.refl w.heap.size w).alloc (Nat.le_refl _) _) (Nat.le_refl _)) (left_bd (by omega))).mono ?_
 rintro e w1 ⟨rfl, hrd, hg⟩
 have hb0 : Blk w1 w.heap.size 188 #[.int .i64 0, .string .empty] := (Blk.new w 188 #[.int .i64 0, .string .empty]).grown hg (by simp; omega)
 have hg1 : w.grownBy w1 (some r) := only_trans (only_alloc (only_refl w (some r)) _) hg
 have H := Lib.hid hrd
 have HG := Lib.hid hg1
 have HB := Lib.hid hb0
 clear hrd hg hg1 hb0 HR
 generalize numS st 1 = p at *
 go_wp2_with fail
 refine (rvec_any r 2 p.2 w1 H.out (left_bd (by omega))).mono ?_
 rintro e w2 ⟨v, rfl, hsl, hrd, hg⟩
 obtain ⟨A, c, rfl, _, hs⟩ := hsl.src
 have hcv := con8 (c := c) hs
 have hne : w.heap.size ≠ r := by omega
 have hb2 : Blk w2 w.heap.size 188 #[.int .i64 0, .string .empty] := HB.out.grown hg (by simp [hne])
 have HB2 := Lib.hid hb2
 have hc0 := hb2.cell 0
 have hc1 := hb2.cell 1
 have hf0 := hb2.frozen 0
 have hf1 := hb2.frozen 1
 have H2 := Lib.hid hrd
 have HG2 := Lib.hid (only_trans HG.out hg)
 clear hrd hsl hs hg HB HG H hb2
 generalize vecS p.2 2 = q at *
 go_wp2_with fail
 have hb3 := (HB2.out.set_ 0 (.int .i64 (p.1 : Int))).set_ 1 (.string ⟨q.1.toArray⟩)
 rw [set2_0, set2_1] at hb3
 have hgg := only_setCell (p := ⟨w.heap.size, 1, none⟩) (only_setCell (p := ⟨w.heap.size, 0, none⟩) (only_refl w2 (some w.heap.size)) (.inl rfl) (.int .i64 (p.1 : Int))) (.inl rfl) (.string ⟨q.1.toArray⟩)
 have hrd3 := Rd.off (T := TB) H2.out hgg (OffT.of_blk HB2.out (by unfold TB; decide)) (.inl rfl) (.inr rfl)
 have hg3 := only_new HG2.out hgg (Nat.le_refl _)
 refine ret_one Tryz.results170 hb3 undT rfl infT rfl rfl ?_ rfl
 rw [HT.out]
 exact ⟨rfl, hrd3, hg3⟩
end Go.Proofs.YthfknndjdfofgaaGreatDoor.Ex

/-
 Contract of package exts' read over this seat's translation, at []exts.typed.
-/
namespace Go.Proofs.YthfknndjdfofgaaGreatDoor.Ex
open Go.RowKit Go.Proofs.YthfknndjdfofgaaGreatDoor.Wd Go.Proofs.YthfknndjdfofgaaGreatDoor.Be Go.Proofs.YthfknndjdfofgaaGreatDoor.He Go.Proofs.YthfknndjdfofgaaGreatDoor.Ro

structure rdTAt (w : World) (B r1 r : Nat) (st1 : Option (List UInt8)) (xs : List UInt8) (v : Value) (st : Option (List UInt8)) (wr : World) : Prop where
 rd : Rd wr r st
 whole : Rd wr r1 st1
 all : ∃ l f, OwnE wr elT B v l ∧ leftS st < f ∧ itemsS typO xs = (l ++ (itemsF typO f st).1, (itemsF typO f st).2) ∧ l.length + leftS st ≤ 65535
 bel : Below w.heap.size w wr

set_option maxRecDepth 100000 in
set_option maxHeartbeats 1000000 in
theorem rdT_any (A : Option Addr) (n c : Nat) (size : Int) (xs : List UInt8) (w : World) (hs : Src w A n xs) (hn : n ≤ 140737488355320) (hz : size = 1 ∨ size = 2) :
   Calls Tryz.prog 169 #[.slice A n c, .int .i64 size, .func (.func 170) #[] #[]] w fun e w' => ∃ v, e = .returned (.tuple #[v, .bool (readS typO size xs).2]) ∧ OwnE w' elT w.heap.size v (readS typO size xs).1 ∧ (readS typO size xs).1.length ≤ 65535 ∧ Below w.heap.size w w' := by
 have HR := Lib.hid (show readS typO size xs = ((itemsS typO (vecS (some xs) size).1).1, doneS (vecS (some xs) size).2 && (itemsS typO (vecS (some xs) size).1).2 && decide (0 < (itemsS typO (vecS (some xs) size).1).1.length)) from rfl)
 have hsm : (vecS (some xs) size).1.length ≤ 65535 := by
   rcases hz with rfl | rfl
   · have := vec_small1 (some xs); omega
   · have := vec_small (some xs); omega
 have hrest := Lib.hid (show leftS (vecS (some xs) size).2 ≤ 140737488355320 from Nat.le_trans (Nat.le_trans (take_less _ _) (take_less _ _)) (by show xs.length ≤ _; rw [hs.1]; exact hn))
 go_enter Tryz.func169, Tryz.ntmps169
 go_wp2_with fail
 refine (read_any A n c xs w hs hn).mono ?_
 rintro e w1 ⟨r1, rfl, hr1, hrd1, hb1⟩
 have H1 := Lib.hid hrd1
 have HB1 := Lib.hid hb1
 clear hrd1 hb1
 go_wp2_with fail
 refine (rvec_any r1 size (some xs) w1 H1.out (fun rest h => by injection h with h; subst h; rw [hs.1]; exact hn)).mono ?_
 rintro e w2 ⟨v2, rfl, hsl, hrd2, hg2⟩
 generalize vecS (some xs) size = p at *
 have H2 := Lib.hid hrd2
 have HB2 := Lib.hid (HB1.out.grown hg2 HB1.out.size (fun j hj => by injection hj with hj; omega))
 obtain ⟨A2, c2, rfl, _, hs2⟩ := hsl.src
 clear hrd2 hg2 hsl H1 HB1 hs
 go_wp2_with fail
 refine (read_any A2 _ c2 p.1 w2 hs2 (by omega)).mono ?_
 rintro e w3 ⟨r, rfl, hr, hrd, hb3⟩
 have hlt := H2.out.lt
 have hr1r : r1 ≠ r := by omega
 have hwr : w.heap.size ≤ r := Nat.le_trans HB2.out.size hr
 have H0 : Hid (rdTAt w w.heap.size r1 r p.2 p.1 (.slice none 0 0) (some p.1) w3) := ⟨hrd, H2.out.below hb3 (Nat.le_refl _), ⟨[], p.1.length + 1, OwnE.nil _ _ _, by show p.1.length < _; omega, rfl, by show 0 + p.1.length ≤ _; omega⟩, HB2.out.trans (hb3.mono HB2.out.size)⟩
 clear hrd hb3 H2 HB2 hs2 hlt hr
 go_wp2_with fail
 go_loopw [10] (fun v wr => ∃ st, Hid (rdTAt w w.heap.size r1 r p.2 p.1 v st wr)) (fun _ wr => lenAt wr r)
 case atStart => exact ⟨_, H0⟩
 case round =>
   clear H0
   obtain ⟨st, HN⟩ := hrel
   go_wp2_with fail
   refine (left_any r st wr HN.out.rd).mono ?_
   rintro e w4 ⟨rfl, rfl⟩
   by_cases h0 : 0 < leftS st
   · have h0' : (0 : Int) < (leftS st : Int) := by omega
     have HL := Lib.hid h0
     have hk := Lib.hid (Rd.lenAt HN.out.rd)
     generalize hq : leftS st = q at *
     have HQ := Lib.hid hq
     clear hq
     go_wp2_with fail
     refine (typ_any r st wr HN.out.rd (by have := HQ.out; obtain ⟨l, f, _, _, _, h⟩ := HN.out.all; omega)).mono ?_
     rintro e w4 ⟨rfl, hrd4, hg4⟩
     obtain ⟨cs, hblk⟩ := HN.out.rd.blk
     have HK := Lib.hid (show leftS (typO st).2 < q from by have := typO_less st (by rw [HQ.out]; exact HL.out); rw [HQ.out] at this; exact this)
     obtain ⟨l, f, hOw, hf, hall, hlen⟩ := HN.out.all
     have HOw := Lib.hid (hOw.off hg4 (OffT.of_blk hblk (by decide)))
     obtain ⟨f', rfl⟩ : ∃ f', f = f' + 1 := ⟨f - 1, by omega⟩
     have HA : Hid (itemsS typO p.1 = ((l ++ [(typO st).1]) ++ (itemsF typO f' (typO st).2).1, (itemsF typO f' (typO st).2).2)) := by
       rw [hall, itemsF_step (by rw [HQ.out]; exact HL.out), List.append_assoc]; rfl
     have HF := Lib.hid (show leftS (typO st).2 < f' by have := HK.out; have := HQ.out; omega)
     have HLn := Lib.hid (show (l ++ [(typO st).1]).length + leftS (typO st).2 ≤ 65535 by rw [List.length_append]; have := HK.out; have := HQ.out; simp only [List.length_cons, List.length_nil]; omega)
     have hlen' : l.length ≤ 65535 := by omega
     have HW := Lib.hid (HN.out.whole.grown hblk hr1r hg4)
     have HB4 := Lib.hid (HN.out.bel.grown hg4 HN.out.bel.size (fun j hj => by injection hj with hj; omega))
     have HRd := Lib.hid hrd4
     have hsz := HB4.out.size
     clear hrd4 hg4 hOw hf hall hlen hblk h0 h0' HN HQ HL
     generalize typO st = y at *
     obtain ⟨x, st'⟩ := y
     simp only at HRd HK HA HF HLn
     have hC : (#[.int .i64 x.1, .string (str8 x.2)] : Array Value) = (Ro.flat elT [x]).toArray := by rw [Ro.flat_one]; rfl
     have HSr := Lib.hid (SrcE.new fineT w4 [x] #[.int .i64 x.1, .string (str8 x.2)] hC 188)
     have HOa := Lib.hid (HOw.out.alloc (.cells #[.int .i64 x.1, .string (str8 x.2)] 188))
     have HGe := Lib.hid (OwnE.ge HOa.out)
     have HOff := Lib.hid (HOa.out.block (T := TB) (by unfold TB; decide))
     have HBa := Lib.hid (HB4.out.alloc hsz (.cells #[.int .i64 x.1, .string (str8 x.2)] 188))
     have HRa := Lib.hid (HRd.out.below (Below.refl w4.heap.size w4 |>.alloc (Nat.le_refl _) (.cells #[.int .i64 x.1, .string (str8 x.2)] 188)) (Nat.le_refl _))
     have HWa := Lib.hid (HW.out.below (Below.refl w4.heap.size w4 |>.alloc (Nat.le_refl _) (.cells #[.int .i64 x.1, .string (str8 x.2)] 188)) (Nat.le_refl _))
     clear HW HB4 HRd HOw hC
     unfold valT
     go_wp2_with (at_builtin; refine wpList_appE fineT rfl _ _ rfl w.heap.size _ l rfl (by exact HOa.out) _ 1 1 [x] rfl rfl (by simp) (by exact HSr.out) (by simp; omega) (by decide) (by simp; omega) ?_; intro v5 w5 ho5 hg5)
     have HB5 := Lib.hid (HBa.out.grown hg5.out (by simp; omega) (fun j hj => HGe.out j hj))
     have HRd5 := Lib.hid (Rd.off (T := TB) HRa.out hg5.out HOff.out (.inl rfl) (.inr rfl))
     have HWd5 := Lib.hid (Rd.off (T := TB) HWa.out hg5.out HOff.out (.inl rfl) (.inr rfl))
     clear hg5 HBa HRa HWa HGe HOff HSr HOa
     go_roundw
     case rel => exact ⟨st', Lib.hid ⟨HRd5.out, HWd5.out, ⟨_, f', ho5.out, HF.out, HA.out, HLn.out⟩, HB5.out⟩⟩
     case measure => rw [Rd.lenAt HRd5.out, hk.out]; exact HK.out
   · have hz0 : leftS st = 0 := by omega
     have HZ := Lib.hid hz0
     have h0' : ¬ (0 : Int) < (leftS st : Int) := by omega
     obtain ⟨l, f, hOw, hf, hall, hlen⟩ := HN.out.all
     have HE := Lib.hid (show itemsS typO p.1 = (l, doneS st) by rw [hall, itemsF_end HZ.out, List.append_nil])
     have HOw := Lib.hid hOw
     have HLn := Lib.hid (show l.length ≤ 65535 by omega)
     obtain ⟨A5, c5, hv5⟩ := hOw.form
     subst hv5
     have HN1 := Lib.hid HN.out.rd
     have HN2 := Lib.hid HN.out.whole
     have HN3 := Lib.hid HN.out.bel
     clear hOw hall hlen hf HN h0 hz0 hsm
     generalize leftS st = q at *
     rw [HE.out] at HR
     go_wp2_with fail
     refine (done_any r1 p.2 wr HN2.out).mono ?_
     rintro e w4 ⟨rfl, rfl⟩
     obtain ⟨b1, hb1⟩ : ∃ b, doneS p.2 = b := ⟨_, rfl⟩
     rw [hb1] at HR ⊢
     obtain ⟨m, hm⟩ : ∃ m, l.length = m := ⟨_, rfl⟩
     rw [hm]
     have HM := Lib.hid hm
     have HB1 := Lib.hid hb1
     clear hm hb1
     cases b1 with
     | false =>
       go_wp2_with fail
       go_ret2
       rw [HR.out]
       exact ⟨.slice A5 m c5, rfl, by rw [← HM.out]; exact HOw.out, HLn.out, HN3.out⟩
     | true =>
       go_wp2_with fail
       refine (done_any r st wr HN1.out).mono ?_
       rintro e w4 ⟨rfl, rfl⟩
       obtain ⟨b2, hb2⟩ : ∃ b, doneS st = b := ⟨_, rfl⟩
       rw [hb2] at HR HE ⊢
       clear hb2
       cases b2 with
       | false =>
         go_wp2_with fail
         go_ret2
         rw [HR.out]
         exact ⟨.slice A5 m c5, rfl, by rw [← HM.out]; exact HOw.out, HLn.out, HN3.out⟩
       | true =>
         by_cases hm0 : 0 < m
         · have hmi : (0 : Int) < (m : Int) := by omega
           have HD := Lib.hid (show (true && true && decide (0 < l.length)) = true by rw [HM.out]; simpa using hm0)
           simp only [HD.out] at HR
           go_wp2_with fail
           go_ret2
           rw [HR.out]
           exact ⟨.slice A5 m c5, rfl, by rw [← HM.out]; exact HOw.out, HLn.out, HN3.out⟩
         · have hmi : ¬ (0 : Int) < (m : Int) := by omega
           have HD := Lib.hid (show (true && true && decide (0 < l.length)) = false by rw [HM.out]; simpa using hm0)
           simp only [HD.out] at HR
           go_wp2_with fail
           go_ret2
           rw [HR.out]
           exact ⟨.slice A5 m c5, rfl, by rw [← HM.out]; exact HOw.out, HLn.out, HN3.out⟩
end Go.Proofs.YthfknndjdfofgaaGreatDoor.Ex
