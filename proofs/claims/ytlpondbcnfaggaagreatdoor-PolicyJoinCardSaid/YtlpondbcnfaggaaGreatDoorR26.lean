/-
  Bytes of a call's own: their block by name, append onto them as a step of a walk, with a frame that names that one block; limit.Within; bytes.Clone. Plain lemmas, no condition.
-/
import Derived.Test.YtlpondbcnfaggaaGreatDoorR12
import Derived.RegionTactic
import Derived.IntWalk
import Derived.Deep.Cut
import Derived.WalkSpells
import Derived.Lib.SliceRun
namespace Go.Proofs.YtlpondbcnfaggaaGreatDoor.Wd
open Go.RowKit

theorem und8 : Tryz.prog.underlying 110 = some (.slice 5) := Tryz.underlying110
theorem inf8 : (Tryz.prog.info? 5).map (fun i => (i.zero, i.size, i.bytes)) = some (some (.int .u8 0), 1, 1) := by kernel_rfl
theorem siz8 : (Tryz.prog.info? 5).map (·.size) = some 1 := by kernel_rfl
theorem con8 {w : World} {A : Option Addr} {n c : Nat} {xs : List UInt8} (h : Src w A n xs) : (convert 110 9 (.slice A n c)).run Tryz.prog w = .ok (.string ⟨xs.toArray⟩) w :=
  conv_src h Tryz.underlying110 Tryz.underlying5 Tryz.underlying9
theorem cst_world (w : World) (C : Array Value) (fr : Nat × Nat) (xs : List UInt8) (h : C = (cellsOf xs).toArray) :
    Src (w.alloc (.cells C 5 fr)) (some ⟨w.heap.size, 0, none⟩) xs.length xs ∧ But [] w (w.alloc (.cells C 5 fr)) := ⟨Src.marked w C _ fr xs h, (But.refl [] w).alloc _⟩

theorem Own.cut_ {w : World} {B : Nat} {v : Value} {xs : List UInt8} (h : Own w B v xs) : ∃ A c, v = .slice A xs.length c ∧ xs.length ≤ c ∧ Src w A xs.length xs ∧ ∀ x, A = some x → B ≤ x.block := by
  obtain ⟨A, c, rfl, hc, hs⟩ := h.src
  refine ⟨A, c, rfl, hc, hs, fun x hx => ?_⟩
  subst hx
  obtain ⟨_, ⟨h0, _⟩ | ⟨g, cap, cur, hv, hB, _⟩⟩ := h
  · cases h0
  · injection hv with hv _ _
    injection hv with hv
    subst hv
    exact hB
/-- the address of a block's beginning -/
def ad (p : Option Nat) : Option Addr := p.map fun b => ⟨b, 0, none⟩
theorem ad_some {p : Option Nat} {b : Nat} (h : p = some b) : ad p = some ⟨b, 0, none⟩ := by rw [h]; rfl
/-- the bytes bs in a block p of the call's own (nil: none), with room for c -/
structure At (w : World) (p : Option Nat) (c : Nat) (bs : List UInt8) : Prop where
  own : Own w 0 (.slice (ad p) bs.length c) bs
theorem At.src {w : World} {p : Option Nat} {c : Nat} {bs : List UInt8} (h : At w p c bs) : bs.length ≤ c ∧ Src w (ad p) bs.length bs := by
  obtain ⟨A', c', e, h1, h2⟩ := h.own.src
  injection e with e1 e2 e3
  rw [← e1] at h2
  exact ⟨by omega, h2⟩
theorem At.nil (w : World) : At w none 0 [] := ⟨rfl, .inl ⟨rfl, rfl⟩⟩
theorem At.row {w : World} {p : Option Nat} {c : Nat} {bs : List UInt8} (h : At w p c bs) {b : Nat} (hb : p = some b) : ∃ cur, Blk w b 5 cur ∧ bs.length ≤ cur.size := by
  subst hb
  obtain ⟨⟨hl, ⟨h0, _⟩ | ⟨g, cap, cur, hv, hg, hh, hn, _, hz, _⟩⟩⟩ := h
  · cases h0
  · injection hv with hv _ _
    injection hv with hv
    injection hv with hv _ _
    subst hv
    exact ⟨cur, hh, by omega⟩
theorem At.lt {w : World} {p : Option Nat} {c : Nat} {bs : List UInt8} (h : At w p c bs) {b : Nat} (hb : p = some b) : b < w.heap.size := by
  obtain ⟨cur, hc, _⟩ := h.row hb
  exact hc.lt
theorem At.but {S : List Nat} {w w' : World} {p : Option Nat} {c : Nat} {bs : List UInt8} (h : At w p c bs) (k : But S w w') (hp : ∀ b, p = some b → b ∉ S) : At w' p c bs := by
  cases p with
  | none =>
    obtain ⟨⟨hl, h0 | ⟨g, cap, cur, hv, _⟩⟩⟩ := h
    · exact ⟨⟨hl, .inl h0⟩⟩
    · cases hv
  | some b =>
    have hlt := h.lt rfl
    obtain ⟨⟨hl, ⟨h0, _⟩ | ⟨g, cap, cur, hv, hg, hh, r⟩⟩⟩ := h
    · cases h0
    · have e : b = g := by injection hv with hv _ _; injection hv with hv; injection hv
      subst e
      exact ⟨⟨hl, .inr ⟨b, cap, cur, hv, hg, (k.block b hlt (hp b rfl)).trans hh, r⟩⟩⟩
theorem At.ne {w : World} {p : Option Nat} {c g t : Nat} {bs : List UInt8} {cs : Array Value} (h : At w p c bs) (hg : Blk w g t cs) (ht : 5 ≠ t) : p ≠ some g := by
  intro e
  obtain ⟨cur, hc, _⟩ := h.row e
  exact hc.ne_ hg ht rfl

theorem Own.at_row {w : World} {B : Nat} {v : Value} {xs : List UInt8} (h : Own w B v xs) : ∃ q c, v = .slice (ad q) xs.length c ∧ At w q c xs ∧ ∀ b, q = some b → B ≤ b := by
  obtain ⟨hl, ⟨rfl, h0⟩ | ⟨g, cap, cur, rfl, hg, r⟩⟩ := h
  · exact ⟨none, 0, by rw [h0]; rfl, ⟨⟨hl, .inl ⟨by rw [h0]; rfl, h0⟩⟩⟩, fun b hb => (by cases hb)⟩
  · exact ⟨some g, cap, rfl, ⟨⟨hl, .inr ⟨g, cap, cur, rfl, Nat.zero_le _, r⟩⟩⟩, fun b hb => by injection hb with hb; omega⟩

section
variable {P : Program} {w : World}
theorem run_app_at {t ty : TypeId} {i : TypeInfo} (ht : P.underlying t = some (.slice 5)) (hi : P.info? 5 = some i) (hz : i.zero = some (.int .u8 0)) (hs1 : i.size = 1) (hb1 : i.bytes = 1)
    {p : Option Nat} {c : Nat} {xs ys : List UInt8} (hat : At w p c xs) {A2 : Option Addr} {m c2 : Nat} (hsrc : Src w A2 m ys) (hlen : xs.length + m ≤ 140737488355328) :
    ∃ p' c' w', (Builtin.append_ #[t, t] ty #[.slice (ad p) xs.length c, .slice A2 m c2]).run P w = .ok (.slice (ad p') (xs.length + m) c') w' ∧ At w' p' c' (xs ++ ys) ∧ (p' = p ∨ p' = some w.heap.size) ∧ But p.toList w w' := by
  have hm := hsrc.1
  cases A2 with
  | none =>
    have h0 : m = 0 := by
      rcases Nat.eq_zero_or_pos m with h | h
      · exact h
      · obtain ⟨ad, e, _⟩ := hsrc.2 h; cases e
    subst h0
    have : ys = [] := List.eq_nil_of_length_eq_zero hm
    subst this
    exact ⟨p, c, w, run_app_nil ht hi hat.own c2, by rw [List.append_nil]; exact hat, .inl rfl, But.refl _ _⟩
  | some a2 =>
    have hcells : ∀ j u, (cellsOf ys)[j]? = some u → w.cell? (a2.add j) = some u := by
      intro j u hu
      simp only [cellsOf, List.getElem?_map, Option.map_eq_some_iff] at hu
      obtain ⟨x, hx, rfl⟩ := hu
      have hp : 0 < m := by have := (List.getElem?_eq_some_iff.1 hx).1; omega
      obtain ⟨ad', e, _, hc⟩ := hsrc.2 hp
      injection e with e
      subst e
      exact hc j x hx
    obtain ⟨v', w', hrun, h2, h3, h4, h5⟩ := run_append_own_at (P := P) w 0 t ty 5 i (.int .u8 0) 1 1 ht hi hz hs1 hb1 rfl (by omega) (.slice (ad p) xs.length c) xs.length (cellsOf xs) hat.own a2 m c2 (cellsOf ys) (by rw [cellsOf_length, hm, Nat.mul_one]) hcells (cellsOf_one ys)
      (by unfold maxLen; omega) (by omega) (Nat.zero_le _)
    have hown : Own w' 0 v' (xs ++ ys) := by
      unfold Own
      rw [List.length_append, cellsOf_append, hm]
      exact h2
    have hob : ∀ q, (Value.slice (ad p) xs.length c).ownBlock = some q → p = some q := by
      intro q hq
      cases p with
      | none => cases hq
      | some b => injection hq with hq; rw [← hq]
    have hbut : But p.toList w w' := ⟨h3.os, h3.tape, h3.output, h3.size, fun i hi hn => h3.block i hi (fun e => hn (by rw [hob i e.symm]; simp))⟩
    have hl : (xs ++ ys).length = xs.length + m := by rw [List.length_append, hm]
    obtain ⟨hl0, ⟨rfl, h0⟩ | ⟨g, cap, cur, rfl, hg, r⟩⟩ := hown
    · refine ⟨none, 0, w', by rw [← hl, h0]; exact hrun, ⟨⟨hl0, .inl ⟨by rw [h0]; rfl, h0⟩⟩⟩, .inl ?_, hbut⟩
      obtain ⟨e, _⟩ := h4.1 rfl
      injection e with e _ _
      cases p with
      | none => rfl
      | some b => cases e
    · refine ⟨some g, cap, w', by rw [← hl]; exact hrun, ⟨⟨hl0, .inr ⟨g, cap, cur, rfl, hg, r⟩⟩⟩, ?_, hbut⟩
      rcases h5 with h5 | h5
      · exact .inl (hob _ h5.symm).symm
      · injection h5 with h5; exact .inr (by rw [← h5])

/-- append as one step of a region that draws -/
theorem step_app_at {ops : Array Oper} {o : Oper} {a : Act} {K : Act → World → Prop} {Q : Exit → Act → World → Prop} {E : Prop} (dst : Option Tmp) (hdst : o.dst = dst) (hgd : o.guard = none) (s x : Operand) (t : TypeId)
    (ho : o.op = .call { callee := .builtin .append, args := #[s, x], argTypes := #[t, t] }) (ht : P.underlying t = some (.slice 5)) (hinfo : (P.info? 5).map (fun i => (i.zero, i.size, i.bytes)) = some (some (.int .u8 0), 1, 1))
    (p : Option Nat) (n c : Nat) (xs : List UInt8) (hs : a.eval s = .slice (ad p) n c) (hn : n = xs.length) (hat : At w p c xs) (A2 : Option Addr) (m c2 : Nat) (ys : List UInt8) (hx : a.eval x = .slice A2 m c2) (hsrc : Src w A2 m ys)
    (hlen : n + m ≤ 140737488355328)
    (h : ∀ p' c' w', Hid (At w' p' c' (xs ++ ys)) → Hid (p' = p ∨ p' = some w.heap.size) → Hid (But p.toList w w') → K (a.put dst (.slice (ad p') (n + m) c')) w') :
    if Region.wanted o (yielded ops a.tmps) = true then Oper.wp P o a w K Q else E := by
  subst hdst hn
  have hw : Region.wanted o (yielded ops a.tmps) = true := by simp [Region.wanted, hgd]
  rw [if_pos hw]
  obtain ⟨i0, hi, hz0, hz1, hz2⟩ := info_parts hinfo
  obtain ⟨p', c', w', hrun, h2, h3, h4⟩ := run_app_at (ty := o.type) ht hi hz0 hz1 hz2 hat (c2 := c2) hsrc hlen
  unfold Oper.wp execOp
  simp only [ho, resolve, invoke, builtin, Sem.run_bind, Sem.run_pure, Result.andThen_ok, List.map_toArray, List.map_cons, List.map_nil, hs, hx, hrun]
  exact h p' c' w' h2 h3 h4
/-- append onto bytes of the call's own, as one step of a region that draws -/
theorem step_own_app {ops : Array Oper} {o : Oper} {a : Act} {K : Act → World → Prop} {Q : Exit → Act → World → Prop} {E : Prop} (dst : Option Tmp) (hdst : o.dst = dst) (hgd : o.guard = none) (s x : Operand) (t : TypeId)
    (ho : o.op = .call { callee := .builtin .append, args := #[s, x], argTypes := #[t, t] }) (ht : P.underlying t = some (.slice 5)) (hinfo : (P.info? 5).map (fun i => (i.zero, i.size, i.bytes)) = some (some (.int .u8 0), 1, 1))
    (B : Nat) (v : Value) (xs : List UInt8) (hs : a.eval s = v) (hown : Own w B v xs) (A : Option Addr) (m c : Nat) (ys : List UInt8) (hx : a.eval x = .slice A m c) (hsrc : Src w A m ys)
    (hlen : xs.length + m ≤ 140737488355328) (hB : B ≤ w.heap.size)
    (h : ∀ v' w', Hid (Own w' B v' (xs ++ ys)) → Below B w w' → K (a.put dst v') w') :
    if Region.wanted o (yielded ops a.tmps) = true then Oper.wp P o a w K Q else E := by
  subst hdst
  have hw : Region.wanted o (yielded ops a.tmps) = true := by simp [Region.wanted, hgd]
  rw [if_pos hw]
  obtain ⟨i0, hi, hz0, hz1, hz2⟩ := info_parts hinfo
  obtain ⟨v', w', hrun, h2, h3⟩ := run_app (ty := o.type) ht hi hz0 hz1 hz2 hown (c := c) hsrc hlen hB
  unfold Oper.wp execOp
  simp only [ho, resolve, invoke, builtin, Sem.run_bind, Sem.run_pure, Result.andThen_ok, List.map_toArray, List.map_cons, List.map_nil, hs, hx, hrun]
  exact h v' w' h2 h3
end
theorem Own.but_ {S : List Nat} {w w' : World} {B : Nat} {v : Value} {xs : List UInt8} (h : Own w B v xs) (k : But S w w') (hS : ∀ i ∈ S, i < B) : Own w' B v xs := by
  obtain ⟨hl, h0 | ⟨g, cap, cur, hv, hg, hh, r⟩⟩ := h
  · exact ⟨hl, .inl h0⟩
  · have hlt := Blk.lt (t := 5) (cs := cur) hh
    exact ⟨hl, .inr ⟨g, cap, cur, hv, hg, (k.block g hlt (fun hm => by have := hS g hm; omega)).trans hh, r⟩⟩

theorem Own.lower {w : World} {B B' : Nat} {v : Value} {xs : List UInt8} (h : Own w B v xs) (hB : B' ≤ B) : Own w B' v xs := by
  obtain ⟨hl, h0 | ⟨g, cap, cur, hv, hg, r⟩⟩ := h
  · exact ⟨hl, .inl h0⟩
  · exact ⟨hl, .inr ⟨g, cap, cur, hv, Nat.le_trans hB hg, r⟩⟩
/-- what is cut of bytes, from l up to h -/
theorem cut_mid {w : World} {A : Option Addr} {n c l h : Nat} {xs : List UInt8} (hs : Src w A n xs) (h1 : l ≤ h) (h2 : h ≤ n) (hc : n ≤ c) : Src w (slid A c l) (h - l) ((xs.drop l).take (h - l)) := by
  have := hs.cut (m := c) (l := l) (hi := h) h1 h2 hc
  rwa [List.drop_take] at this

def withI (n lo hi : Int) : Int := if n < lo then lo else if hi < n then hi else n
theorem with_any (n lo hi : Int) (w : World) : Calls Tryz.prog 168 #[.int .i64 n, .int .i64 lo, .int .i64 hi] w fun e w' => e = .returned (.int .i64 (withI n lo hi)) ∧ w = w' := by
  by_cases h1 : n < lo
  · have H := Lib.hid (show withI n lo hi = lo by rw [withI, if_pos h1])
    go_enter Tryz.func168, Tryz.ntmps168
    go_wp2
    go_ret
    rw [H.out]; exact ⟨rfl, rfl⟩
  · by_cases h2 : hi < n
    · have H := Lib.hid (show withI n lo hi = hi by rw [withI, if_neg h1, if_pos h2])
      go_enter Tryz.func168, Tryz.ntmps168
      go_wp2
      go_ret
      rw [H.out]; exact ⟨rfl, rfl⟩
    · have H := Lib.hid (show withI n lo hi = n by rw [withI, if_neg h1, if_neg h2])
      go_enter Tryz.func168, Tryz.ntmps168
      go_wp2
      go_ret
      rw [H.out]; exact ⟨rfl, rfl⟩
/-- a number from 0 to hi -/
def clampK (n : Int) (hi : Nat) : Nat := (withI n 0 hi).toNat
theorem clampK_eq (n : Int) (hi : Nat) : withI n 0 hi = ((clampK n hi : Nat) : Int) := by
  unfold clampK withI
  split
  · rfl
  · split <;> omega
theorem clampK_le (n : Int) (hi : Nat) : clampK n hi ≤ hi := by
  unfold clampK withI
  split
  · simp
  · split <;> omega
theorem clampK_len (m hi : Nat) : clampK (m : Int) hi = min m hi := by
  unfold clampK withI
  rw [if_neg (by omega)]
  split <;> omega

end Go.Proofs.YtlpondbcnfaggaaGreatDoor.Wd
