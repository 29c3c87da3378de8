/-
  Rows of numbers, and of extensions, of the call's own; what keeps a reader, and bytes, while such a row turns. Plain lemmas, no condition.
-/
import Derived.Test.YtajmdchidmamcaaHeMem
import Derived.Maps.AppendAt
namespace Go.Proofs.Ytajmdchidmamcaa.He
open Go.RowKit Go.Proofs.Ytajmdchidmamcaa.Wd Go.Proofs.Ytajmdchidmamcaa.Be

/-- what turned is one block, of another type (or none) -/
def OffT (w : World) (row : Option Nat) (T : TypeId → Prop) : Prop := ∀ g, row = some g → w.heap.size ≤ g ∨ ∃ t cs, Blk w g t cs ∧ ¬ T t
theorem OffT.far {w : World} {row : Option Nat} {T : TypeId → Prop} (h : OffT w row T) {g t : Nat} {cs : Array Value} (hb : Blk w g t cs) (ht : T t) : some g ≠ row := by
  intro e
  rcases h g e.symm with h | ⟨t', cs', hb', hn⟩
  · have := hb.lt; omega
  · have h1 := hb.heap.symm.trans hb'.heap
    injection h1 with h1
    injection h1 with _ h2
    subst h2
    exact hn ht
theorem OffT.of_blk {w : World} {g t : Nat} {cs : Array Value} {T : TypeId → Prop} (hb : Blk w g t cs) (hn : ¬ T t) : OffT w (some g) T := fun g' e => by
  injection e with e; subst e; exact .inr ⟨t, cs, hb, hn⟩
theorem OffT.none (w : World) (T : TypeId → Prop) : OffT w Option.none T := fun g e => by cases e
theorem Sl.off {w w' : World} {v : Value} {xs : List UInt8} {row : Option Nat} {T : TypeId → Prop} (h : Sl w v xs) (hb : w.grownBy w' row) (hr : OffT w row T) (ht : T 5) : Sl w' v xs := by
  rcases h with ⟨rfl, rfl⟩ | ⟨g, rfl, hg⟩
  · exact .inl ⟨rfl, rfl⟩
  · exact .inr ⟨g, rfl, hg.grown hb (hr.far hg ht)⟩
theorem Rd.off {w w' : World} {r : Nat} {st : Option (List UInt8)} {row : Option Nat} {T : TypeId → Prop} (h : Rd w r st) (hb : w.grownBy w' row) (hr : OffT w row T) (ht : T 5) (ht2 : T 100) : Rd w' r st := by
  cases st with
  | none => exact Blk.grown h hb (hr.far h ht2)
  | some rest =>
    obtain ⟨g, off, cs, h1, h2, h3⟩ := h
    exact ⟨g, off, cs, h1.grown hb (hr.far h1 ht2), h2.grown hb (hr.far h2 ht), h3⟩
/-- bytes, and readers -/
def TB (t : TypeId) : Prop := t = 5 ∨ t = 100

/-- how many bytes are left, as it lies in memory -/
def lenAt (w : World) (r : Nat) : Nat := match w.cell? ⟨r, 0, none⟩ with
  | some (.slice _ n _) => n
  | _ => 0
theorem Rd.lenAt {w : World} {r : Nat} {st : Option (List UInt8)} (h : Rd w r st) : He.lenAt w r = leftS st := by
  unfold He.lenAt
  cases st with
  | none => rw [Blk.cell h 0]; rfl
  | some rest => obtain ⟨g, off, cs, hb, _⟩ := h; rw [hb.cell 0]; rfl
theorem take_less (st : Option (List UInt8)) (n : Int) : leftS (takeS st n).2 ≤ leftS st := by
  cases st with
  | none => exact Nat.zero_le _
  | some xs =>
    by_cases hn : 0 ≤ n ∧ n ≤ xs.length
    · obtain ⟨k, rfl⟩ := Int.eq_ofNat_of_zero_le hn.1
      rw [takeS_in _ _ (by omega)]
      simp [leftS]
    · rw [takeS_out _ _ hn]; exact Nat.zero_le _
theorem num_less (st : Option (List UInt8)) (h : 0 < leftS st) : leftS (numS st 2).2 < leftS st := by
  cases st with
  | none => exact absurd h (by simp [leftS])
  | some xs =>
    show leftS (takeS (some xs) (clampI 2)).2 < _
    by_cases hn : 2 ≤ xs.length
    · rw [show clampI 2 = ((2 : Nat) : Int) by decide, takeS_in _ _ hn]
      have : 0 < xs.length := h
      simp [leftS]; omega
    · rw [takeS_out _ _ (by rw [show clampI 2 = (2 : Int) by decide]; omega)]; exact h
theorem vec_less (st : Option (List UInt8)) (k : Int) : leftS (vecS st k).2 ≤ leftS st := Nat.le_trans (take_less _ _) (take_less _ _)
theorem num_small (st : Option (List UInt8)) : (numS st 2).1 < 65536 := by
  have h := natOf_lt (takeS st (clampI 2)).1
  have h2 := takeS_len st (clampI 2) (by decide)
  have e : (clampI 2).toNat = 2 := by decide
  rw [e] at h2
  exact Nat.lt_of_lt_of_le h (Nat.pow_le_pow_right (n := 256) (by omega) h2)
theorem vec_small (st : Option (List UInt8)) : (vecS st 2).1.length < 65536 := by
  have h1 := num_small st
  have h2 := takeS_len (numS st 2).2 ((numS st 2).1 : Int) (by omega)
  show (takeS (numS st 2).2 ((numS st 2).1 : Int)).1.length < _
  omega
theorem left_bd {st : Option (List UInt8)} {B : Nat} (h : leftS st ≤ B) : ∀ rest, st = some rest → rest.length ≤ B := fun rest e => by subst e; exact h

/-- the slice v owns the numbers l, in blocks from B on -/
def OwnI (w : World) (B : Nat) (v : Value) (l : List Int) : Prop := w.ownsRow B 3 1 v l.length (l.map (.int .i64))
theorem infI : (Try.prog.info? 3).map (fun i => (i.zero, i.size, i.bytes)) = some (some (.int .i64 0), 1, 8) := by kernel_rfl
theorem OwnI.nil (w : World) (B : Nat) : OwnI w B (.slice none 0 0) [] := ⟨rfl, .inl ⟨rfl, rfl⟩⟩
theorem OwnI.off {w w' : World} {B : Nat} {v : Value} {l : List Int} {row : Option Nat} (h : OwnI w B v l) (hb : w.grownBy w' row) (hr : OffT w row (· = 3)) : OwnI w' B v l := by
  obtain ⟨hl, h0 | ⟨g, cap, cur, hv, hg, hh, r⟩⟩ := h
  · exact ⟨hl, .inl h0⟩
  · have hbk : Blk w g 3 cur := hh
    exact ⟨hl, .inr ⟨g, cap, cur, hv, hg, hbk.grown hb (hr.far hbk rfl), r⟩⟩
theorem OwnI.block {w : World} {B : Nat} {v : Value} {l : List Int} (h : OwnI w B v l) {T : TypeId → Prop} (hT : ¬ T 3) : OffT w v.ownBlock T := by
  obtain ⟨hl, ⟨rfl, h0⟩ | ⟨g, cap, cur, rfl, hg, hh, r⟩⟩ := h
  · exact fun g e => by cases e
  · exact OffT.of_blk (t := 3) (cs := cur) hh hT
theorem OwnI.ge {w : World} {B : Nat} {v : Value} {l : List Int} (h : OwnI w B v l) : ∀ g, v.ownBlock = some g → B ≤ g := by
  obtain ⟨hl, ⟨rfl, h0⟩ | ⟨g, cap, cur, rfl, hg, hh, r⟩⟩ := h
  · exact fun g e => by cases e
  · exact fun g' e => by
      have e' : g = g' := Option.some.inj e
      rw [← e']; exact hg
theorem OwnI.src {w : World} {B : Nat} {v : Value} {l : List Int} (h : OwnI w B v l) : ∃ A c, v = .slice A l.length c ∧ l.length ≤ c ∧ SrcI w A l := by
  obtain ⟨hl, ⟨rfl, h0⟩ | ⟨g, cap, cur, rfl, hg, hh, hc, _, hz, ht⟩⟩ := h
  · have : l = [] := List.eq_nil_of_length_eq_zero h0
    subst this
    exact ⟨none, 0, rfl, Nat.le_refl _, SrcI.nil w _⟩
  · refine ⟨_, cap, rfl, hc, fun k x hk => ⟨g, 0, rfl, Blk.lt (t := 3) (cs := cur) hh, ?_⟩⟩
    rw [Nat.zero_add, Blk.cell (t := 3) (cs := cur) hh, ← Array.getElem?_toList]
    have h2 : (l.map (Value.int .i64))[k]? = some (.int .i64 x) := by simp [hk]
    rw [← ht, Nat.mul_one, List.getElem?_take] at h2
    split at h2
    · exact h2
    · cases h2

/-- append of one number onto a row of the call's own -/
theorem wpList_appI {ops : Array Oper} {rest : List Oper} {o : Oper} {a : Act} {w : World} {Q : Exit → Act → World → Prop} (hgd : o.guard = none) (s x : Operand)
    (ho : o.op = .call { callee := .builtin .append, args := #[s, x], argTypes := #[30, 30] })
    (B : Nat) (v : Value) (l : List Int) (hs : a.eval s = v) (hown : OwnI w B v l) (g c : Nat) (z : Int) (hx : a.eval x = .slice (some ⟨g, 0, none⟩) 1 c) (hsrc : w.cell? ⟨g, 0, none⟩ = some (.int .i64 z))
    (hlen : l.length + 1 ≤ 4294967296) (hB : B ≤ w.heap.size)
    (h : ∀ v' w', Hid (OwnI w' B v' (l ++ [z])) → Hid (w.grownBy w' v.ownBlock) → wpList Try.prog ops Q rest (a.put o.dst v') w') : wpList Try.prog ops Q (o :: rest) a w := by
  obtain ⟨i0, hi, hz0, hz1, hz2⟩ := info_parts infI
  obtain ⟨v', w', hrun, h2, h3, _, _⟩ := run_append_own_at (P := Try.prog) w B 30 o.type 3 i0 (.int .i64 0) 1 8 Try.underlying30 hi hz0 hz1 hz2 rfl (by omega) v l.length (l.map (.int .i64)) hown ⟨g, 0, none⟩ 1 c [.int .i64 z] rfl
    (fun j u hu => by
      cases j with
      | zero => simp at hu; subst hu; exact hsrc
      | succ j => simp at hu) (by simp [Value.oneCell']) (by unfold maxLen; omega) (by omega) hB
  have e1 : OwnI w' B v' (l ++ [z]) := by
    unfold OwnI
    rw [List.length_append, List.map_append]
    exact h2
  refine wpList_plain hgd fun K hK => ?_
  unfold Oper.wp execOp
  simp only [ho, resolve, invoke, builtin, Sem.run_bind, Sem.run_pure, Result.andThen_ok, List.map_toArray, List.map_cons, List.map_nil, hs, hx, hrun]
  exact hK _ _ (h v' w' (Lib.hid e1) (Lib.hid h3))

/-- the cells of extensions -/
def xc (x : Xt) : List Value := [.int .i64 x.kind, .slice x.A x.n x.c]
def flat (l : List Xt) : List Value := l.flatMap xc
theorem flat_snoc (l : List Xt) (x : Xt) : flat (l ++ [x]) = flat l ++ xc x := by simp [flat]
theorem flat_len (l : List Xt) : (flat l).length = l.length * 2 := by
  induction l with
  | nil => rfl
  | cons x l ih => rw [show flat (x :: l) = xc x ++ flat l by simp [flat], List.length_append, ih]; simp [xc]; omega
theorem flat_get : ∀ (l : List Xt) (i : Nat) (x : Xt), l[i]? = some x → (flat l)[i * 2]? = some (.int .i64 x.kind) ∧ (flat l)[i * 2 + 1]? = some (.slice x.A x.n x.c)
  | [], i, x, h => by simp at h
  | y :: l, 0, x, h => by
    simp at h; subst h
    exact ⟨rfl, rfl⟩
  | y :: l, i + 1, x, h => by
    have ih := flat_get l i x (by simpa using h)
    have e : flat (y :: l) = xc y ++ flat l := by simp [flat]
    have e2 : (xc y).length = 2 := rfl
    rw [e]
    constructor
    · rw [List.getElem?_append_right (by rw [e2]; omega), e2, show (i + 1) * 2 - 2 = i * 2 by omega]; exact ih.1
    · rw [List.getElem?_append_right (by rw [e2]; omega), e2, show (i + 1) * 2 + 1 - 2 = i * 2 + 1 by omega]; exact ih.2
/-- an extension whose bytes are the call's own -/
structure Xt.Mine (w : World) (x : Xt) : Prop where
  sl : Sl w (.slice x.A x.n x.c) x.b
  n : x.n = x.b.length
  small : x.b.length < 65536
  k : 0 ≤ x.kind ∧ x.kind < 65536
/-- the slice v owns the extensions l -/
structure OwnX (w : World) (B : Nat) (v : Value) (l : List Xt) : Prop where
  row : w.ownsRow B 53 2 v l.length (flat l)
  each : ∀ x ∈ l, x.Mine w
theorem infX : (Try.prog.info? 53).map (fun i => (i.zero, i.size, i.bytes)) = some (some (.agg #[.int .i64 0, .slice none 0 0]), 2, 32) := by kernel_rfl
theorem OwnX.nil (w : World) (B : Nat) : OwnX w B (.slice none 0 0) [] := ⟨⟨rfl, .inl ⟨rfl, rfl⟩⟩, fun _ h => absurd h List.not_mem_nil⟩
theorem OwnX.block {w : World} {B : Nat} {v : Value} {l : List Xt} (h : OwnX w B v l) {T : TypeId → Prop} (hT : ¬ T 53) : OffT w v.ownBlock T := by
  obtain ⟨hl, ⟨rfl, h0⟩ | ⟨g, cap, cur, rfl, hg, hh, r⟩⟩ := h.row
  · exact fun g e => by cases e
  · exact OffT.of_blk (t := 53) (cs := cur) hh hT
theorem OwnX.ge {w : World} {B : Nat} {v : Value} {l : List Xt} (h : OwnX w B v l) : ∀ g, v.ownBlock = some g → B ≤ g := by
  obtain ⟨hl, ⟨rfl, h0⟩ | ⟨g, cap, cur, rfl, hg, hh, r⟩⟩ := h.row
  · exact fun g e => by cases e
  · exact fun g' e => by
      have e' : g = g' := Option.some.inj e
      rw [← e']; exact hg
def TX (t : TypeId) : Prop := t = 53 ∨ t = 5
theorem OwnX.off {w w' : World} {B : Nat} {v : Value} {l : List Xt} {row : Option Nat} (h : OwnX w B v l) (hb : w.grownBy w' row) (hr : OffT w row TX) : OwnX w' B v l := by
  refine ⟨?_, fun x hx => ?_⟩
  · obtain ⟨hl, h0 | ⟨g, cap, cur, hv, hg, hh, r⟩⟩ := h.row
    · exact ⟨hl, .inl h0⟩
    · have hbk : Blk w g 53 cur := hh
      exact ⟨hl, .inr ⟨g, cap, cur, hv, hg, hbk.grown hb (hr.far hbk (.inl rfl)), r⟩⟩
  · have := h.each x hx
    exact ⟨Sl.off this.sl hb hr (.inr rfl), this.n, this.small, this.k⟩
theorem Xt.Mine.ok {w : World} {x : Xt} (h : x.Mine w) : x.Ok w := by
  obtain ⟨A', c', e, h1, h2⟩ := h.sl.src
  injection e with e1 e2 e3
  rw [← e1, ← e2] at h2
  have := h.n
  have := h.small
  have := h.k
  exact ⟨by omega, by omega, h2, by omega⟩
theorem OwnX.src {w : World} {B : Nat} {v : Value} {l : List Xt} (h : OwnX w B v l) : ∃ A c, v = .slice A l.length c ∧ l.length ≤ c ∧ SrcX w A l := by
  obtain ⟨hl, ⟨rfl, h0⟩ | ⟨g, cap, cur, rfl, hg, hh, hc, _, hz, ht⟩⟩ := h.row
  · have : l = [] := List.eq_nil_of_length_eq_zero h0
    subst this
    exact ⟨none, 0, rfl, Nat.le_refl _, SrcX.nil w _⟩
  · have hget : ∀ (k : Nat) (u : Value), (flat l)[k]? = some u → w.cell? ⟨g, 0 + k, none⟩ = some u := fun k u hk => by
      rw [Nat.zero_add, Blk.cell (t := 53) (cs := cur) hh, ← Array.getElem?_toList]
      rw [← ht, List.getElem?_take] at hk
      split at hk
      · exact hk
      · cases hk
    refine ⟨_, cap, rfl, hc, fun k x hk => ⟨(h.each x (List.mem_of_getElem? hk)).ok, g, 0, rfl, Blk.lt (t := 53) (cs := cur) hh, ?_, ?_⟩⟩
    · exact hget _ _ (flat_get l k x hk).1
    · exact hget _ _ (flat_get l k x hk).2

/-- append of one extension onto a row of the call's own -/
theorem wpList_appX {ops : Array Oper} {rest : List Oper} {o : Oper} {a : Act} {w : World} {Q : Exit → Act → World → Prop} (hgd : o.guard = none) (s x : Operand)
    (ho : o.op = .call { callee := .builtin .append, args := #[s, x], argTypes := #[42, 42] })
    (B : Nat) (v : Value) (l : List Xt) (hs : a.eval s = v) (hown : OwnX w B v l) (g c : Nat) (z : Xt) (hx : a.eval x = .slice (some ⟨g, 0, none⟩) 1 c) (hm : z.Mine w)
    (h0 : w.cell? ⟨g, 0, none⟩ = some (.int .i64 z.kind)) (h1 : w.cell? ⟨g, 1, none⟩ = some (.slice z.A z.n z.c))
    (hlen : l.length + 1 ≤ 4294967296) (hB : B ≤ w.heap.size)
    (h : ∀ v' w', Hid (OwnX w' B v' (l ++ [z])) → Hid (w.grownBy w' v.ownBlock) → wpList Try.prog ops Q rest (a.put o.dst v') w') : wpList Try.prog ops Q (o :: rest) a w := by
  obtain ⟨i0, hi, hz0, hz1, hz2⟩ := info_parts infX
  obtain ⟨v', w', hrun, h2, h3, _, _⟩ := run_append_own_at (P := Try.prog) w B 42 o.type 53 i0 (.agg #[.int .i64 0, .slice none 0 0]) 2 32 Try.underlying42 hi hz0 hz1 hz2 rfl (by omega) v l.length (flat l) hown.row ⟨g, 0, none⟩ 1 c (xc z) rfl
    (fun j u hu => by
      match j with
      | 0 => simp [xc] at hu; subst hu; exact h0
      | 1 => simp [xc] at hu; subst hu; exact h1
      | j + 2 => simp [xc] at hu) (by simp [xc, Value.oneCell']) (by unfold maxLen; omega) (by omega) hB
  have e1 : OwnX w' B v' (l ++ [z]) := by
    refine ⟨?_, fun y hy => ?_⟩
    · rw [List.length_append, flat_snoc]
      exact h2
    · have hy' : y.Mine w := by
        rcases List.mem_append.1 hy with hy | hy
        · exact hown.each y hy
        · simp at hy; subst hy; exact hm
      exact ⟨Sl.off hy'.sl h3 (hown.block (T := (· = 5)) (by decide)) rfl, hy'.n, hy'.small, hy'.k⟩
  refine wpList_plain hgd fun K hK => ?_
  unfold Oper.wp execOp
  simp only [ho, resolve, invoke, builtin, Sem.run_bind, Sem.run_pure, Result.andThen_ok, List.map_toArray, List.map_cons, List.map_nil, hs, hx, hrun]
  exact hK _ _ (h v' w' (Lib.hid e1) (Lib.hid h3))
end Go.Proofs.Ytajmdchidmamcaa.He
