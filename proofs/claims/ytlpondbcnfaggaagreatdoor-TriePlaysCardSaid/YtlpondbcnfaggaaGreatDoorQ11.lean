/-
  What the code's words over texts come to: what stands between dots, a dot behind, digits trimmed, labels of small letters. Plain lemmas, no condition.
-/
import Derived.Test.YtlpondbcnfaggaaGreatDoorQ09
import Derived.Lib.SplitLaws
import Derived.Lib.SlTrimSet
import Derived.Lib.Strings
import Derived.Test.YtlpondbcnfaggaaGreatDoorQ01
import Derived.RegionTactic
import Derived.IntWalk
import Derived.Deep.Cut
import Derived.WalkSpells
import Derived.Lib.SliceRun
namespace Go.Proofs.YtlpondbcnfaggaaGreatDoor.Nm
open Go Go.Proofs.YtlpondbcnfaggaaGreatDoor.Asc Go.Proofs.YtlpondbcnfaggaaGreatDoor.Ad

/-- Split, over lists -/
theorem splitK_is (c : UInt8) : ∀ (n : Nat) (l : List UInt8), l.length ≤ n → Lib.splitK [c] 0 (Lib.count l [c]) l = splitS c l := by
  intro n
  induction n with
  | zero =>
    intro l h
    have : l = [] := List.eq_nil_of_length_eq_zero (by omega)
    subst this
    rfl
  | succ n ih =>
    intro l h
    rcases first_of (c := c) l with hf | ⟨a, b, rfl, hf⟩
    · rw [splitS_free hf, Lib.count_one, List.count_eq_zero.2 hf]
      rfl
    · have hk : Lib.count (a ++ c :: b) [c] = Lib.count b [c] + 1 := by
        rw [Lib.count_one, Lib.count_one, List.count_append, List.count_eq_zero.2 hf, List.count_cons_self]
        omega
      have hi : Lib.index (a ++ c :: b) [c] = (a.length : Int) := by rw [Lib.index_one, ib_at hf]
      have hne : ((a.length : Int) == -1) = false := by rw [beq_eq_false_iff_ne]; omega
      rw [hk, splitS_at hf, Lib.splitK, hi, hne, Int.toNat_natCast]
      rw [if_neg (by simp), Nat.add_zero, List.take_left' rfl, List.length_cons, List.length_nil, Nat.zero_add,
        show List.drop (a.length + 1) (a ++ c :: b) = b by rw [← List.drop_drop, List.drop_left' rfl]; rfl,
        ih b (by rw [List.length_append, List.length_cons] at h; omega)]
/-- Split's pieces, as cells -/
theorem split_cells (s : ByteArray) (c : UInt8) : (Lib.splitB ⟨#[c]⟩ 0 (Lib.countB s ⟨#[c]⟩) s).map Value.string = (splitS c (bs s)).map fun l => Value.string (str l) := by
  have h := Lib.splitB_data ⟨#[c]⟩ 0 (Lib.countB s ⟨#[c]⟩) s
  rw [show Lib.splitK (⟨#[c]⟩ : ByteArray).data.toList 0 (Lib.countB s ⟨#[c]⟩) s.data.toList = splitS c (bs s) from splitK_is c _ (bs s) (Nat.le_refl _)] at h
  rw [← h, List.map_map]
  refine List.map_congr_left fun x _ => ?_
  show Value.string x = Value.string (str (bs x))
  rw [str_bs]
theorem split_count (s : ByteArray) (c : UInt8) : Lib.countB s ⟨#[c]⟩ + 1 = (splitS c (bs s)).length := by
  have h := congrArg List.length (split_cells s c)
  rw [List.length_map, List.length_map, Lib.splitB_all ⟨#[c]⟩ (Nat.le_refl 1) 0 _ s rfl] at h
  exact h

/-- a sign behind -/
theorem suf_one (c : UInt8) (l : List UInt8) : Lib.hasSuffix l [c] = decide (l.getLast? = some c) := by
  rw [Lib.hasSuffix, Bool.eq_iff_iff, List.isSuffixOf_iff_suffix, decide_eq_true_eq, List.getLast?_eq_some_iff]
  exact ⟨fun ⟨t, h⟩ => ⟨t, h.symm⟩, fun ⟨t, h⟩ => ⟨t, h.symm⟩⟩
theorem pre_one (c : UInt8) (b : List UInt8) : Lib.hasPrefix b [c] = decide (b.head? = some c) := by
  cases b with
  | nil => rfl
  | cons x l =>
    by_cases h : x = c
    · subst h; simp [Lib.hasPrefix]
    · have h' : (c == x) = false := by rw [beq_eq_false_iff_ne]; exact fun e => h e.symm
      simp [Lib.hasPrefix, List.isPrefixOf, h, h']
theorem cut_dot (l : List UInt8) : Lib.trimSuffix l [46] = trimS l := by
  unfold Lib.trimSuffix trimS
  rw [suf_one]
  by_cases h : l.getLast? = some 46
  · rw [decide_eq_true h, if_pos rfl, if_pos h, List.dropLast_eq_take]; rfl
  · rw [decide_eq_false h, if_neg (by simp), if_neg h]

/-! digits, trimmed -/
abbrev digN : List UInt8 := [48, 49, 50, 51, 52, 53, 54, 55, 56, 57]
theorem dig_all : ∀ c : Fin 256, digN.contains (UInt8.ofNat c.1) = digB (UInt8.ofNat c.1) := by decide +kernel
theorem dig_is (c : UInt8) : digN.contains c = digB c := by
  have := dig_all ⟨c.toNat, c.toNat_lt⟩
  rwa [UInt8.ofNat_toNat] at this
theorem drop_nil (f : UInt8 → Bool) : ∀ l : List UInt8, l.dropWhile f = [] ↔ ∀ x ∈ l, f x = true
  | [] => by simp
  | x :: l => by
    rw [List.dropWhile_cons]
    by_cases h : f x = true
    · rw [if_pos h, drop_nil f l]; simp [h]
    · rw [if_neg h]
      exact ⟨fun e => (by cases e), fun e => absurd (e x (by simp)) h⟩
theorem trim_digs (p : List UInt8) : Lib.trimS p digN = [] ↔ digS p = true := by
  have hP : (fun c : UInt8 => digN.contains c) = digB := funext dig_is
  unfold Lib.trimS Lib.trimLeftS Lib.trimRightS digS
  rw [hP, drop_nil, List.all_eq_true]
  constructor
  · intro h
    have h2 : p.reverse.dropWhile digB = [] := by
      cases hd : p.reverse.dropWhile digB with
      | nil => rfl
      | cons x r =>
        have h3 := List.head?_dropWhile_not digB p.reverse
        rw [hd] at h3
        have h4 := h x (by rw [hd]; simp)
        simp at h3
        rw [h3] at h4
        cases h4
    rw [drop_nil] at h2
    exact fun x hx => h2 x (List.mem_reverse.2 hx)
  · intro h x hx
    rw [List.mem_reverse] at hx
    exact h x (List.mem_reverse.1 ((List.dropWhile_suffix digB).subset hx))

/-! labels of small letters -/
def maB (c : UInt8) : Bool := decide ((97 ≤ c.toNat ∧ c.toNat ≤ 122) ∨ (48 ≤ c.toNat ∧ c.toNat ≤ 57) ∨ c.toNat = 45 ∨ c.toNat = 95)
def mayS (p : List UInt8) : Bool := decide (1 ≤ p.length) && decide (p.length ≤ 63) && p.all maB && decide (p.head? ≠ some 45) && decide (p.getLast? ≠ some 45)
def labsN : List UInt8 := [97, 98, 99, 100, 101, 102, 103, 104, 105, 106, 107, 108, 109, 110, 111, 112, 113, 114, 115, 116, 117, 118, 119, 120, 121, 122, 95, 48, 49, 50, 51, 52, 53, 54, 55, 56, 57, 45]
theorem ma_all : ∀ c : Fin 256, labB (lowB (UInt8.ofNat c.1)) = maB (lowB (UInt8.ofNat c.1)) ∧ decide (0 ≤ Lib.indexByte labsN (UInt8.ofNat c.1)) = maB (UInt8.ofNat c.1) := by decide +kernel
theorem ma_low (c : UInt8) : labB (lowB c) = maB (lowB c) := by
  have := (ma_all ⟨c.toNat, c.toNat_lt⟩).1
  rwa [UInt8.ofNat_toNat] at this
theorem ma_idx (c : UInt8) : decide (0 ≤ Lib.indexByte labsN c) = maB c := by
  have := (ma_all ⟨c.toNat, c.toNat_lt⟩).2
  rwa [UInt8.ofNat_toNat] at this
theorem ma_asc (c : UInt8) (h : 128 ≤ c.toNat) : maB c = false := by
  unfold maB
  rw [decide_eq_false_iff_not]
  omega
theorem may_low (q : List UInt8) : mayS (q.map lowB) = labS (q.map lowB) := by
  have h : (q.map lowB).all maB = (q.map lowB).all labB := by
    rw [List.all_map, List.all_map]
    exact congrArg q.all (funext fun c => (ma_low c).symm)
  unfold mayS labS
  rw [h]
theorem may_split (l : List UInt8) : (splitS 46 (trimS (l.map lowB))).all mayS = (splitS 46 (trimS (l.map lowB))).all labS := by
  rw [trim_low, split_low46, List.all_map, List.all_map]
  exact congrArg (List.all _) (funext fun q => may_low q)
theorem may_asc {p : List UInt8} (h : mayS p = true) : ∀ c ∈ p, c.toNat < 128 := fun c hc => by
  unfold mayS at h
  simp only [Bool.and_eq_true, List.all_eq_true] at h
  have h1 := h.1.1.2 c hc
  refine Nat.lt_of_not_le fun h2 => ?_
  rw [ma_asc c h2] at h1
  cases h1
/-- what isName asks -/
def isN (x : List UInt8) : Bool := (splitS 46 x).all mayS && !digS (lastS x)
theorem name_code (l : List UInt8) : nameS (trimS (l.map lowB)) = if trimS (l.map lowB) = [] then ([], 8) else if 253 < (trimS (l.map lowB)).length then ([], 6) else if isN (trimS (l.map lowB)) = false then ([], 9) else (trimS (l.map lowB), 0) := by
  unfold nameS isN
  rw [may_split]
  have e : ∀ a b : Bool, (a = false ∨ b = true) ↔ ((a && !b) = false) := by decide
  simp only [e]

/-! signs, one by one -/
theorem all_no (s : ByteArray) (f : UInt8 → Bool) (pos : Nat) (h : ¬ pos < s.size) (ht : ((bs s).take pos).all f = true) : (bs s).all f = true := by
  rwa [List.take_of_length_le (by rw [bs_length]; omega)] at ht
theorem all_hit (s : ByteArray) (f : UInt8 → Bool) (pos : Nat) (h : pos < s.size) (hc : f (s[pos]'h) = false) : (bs s).all f = false :=
  List.all_eq_false.2 ⟨s[pos]'h, List.getElem_mem (by rw [bs_length]; exact h), by rw [hc]; simp⟩
theorem all_step (s : ByteArray) (f : UInt8 → Bool) (pos : Nat) (h : pos < s.size) (ht : ((bs s).take pos).all f = true) (hc : f (s[pos]'h) = true) : ((bs s).take (pos + 1)).all f = true := by
  rw [bs_take s pos h, List.all_append, ht]; simpa using hc
end Go.Proofs.YtlpondbcnfaggaaGreatDoor.Nm

/-
  Bytes of a call's own: their block by name, append onto them as a step of a walk, with a frame that names that one block; limit.Within; bytes.Clone. Plain lemmas, no condition.
-/
namespace Go.Proofs.YtlpondbcnfaggaaGreatDoor.Wd
open Go.RowKit

theorem und8 : Tryz.prog.underlying 110 = some (.slice 5) := Tryz.underlying110
theorem inf8 : (Tryz.prog.info? 5).map (fun i => (i.zero, i.size, i.bytes)) = some (some (.int .u8 0), 1, 1) := by kernel_rfl
theorem siz8 : (Tryz.prog.info? 5).map (·.size) = some 1 := by kernel_rfl
theorem con8 {w : World} {A : Option Addr} {n c : Nat} {xs : List UInt8} (h : Src w A n xs) : (convert 110 9 (.slice A n c)).run Tryz.prog w = .ok (.string ⟨xs.toArray⟩) w :=
  conv_src h Tryz.underlying110 Tryz.underlying5 Tryz.underlying9
theorem cst_world (w : World) (C : Array Value) (fr : Nat × Nat) (xs : List UInt8) (h : C = (cellsOf xs).toArray) :
    Src (w.alloc (.cells C 5 fr)) (some ⟨w.heap.size, 0, none⟩) xs.length xs ∧ But [] w (w.alloc (.cells C 5 fr)) := ⟨Src.marked w C _ fr xs h, (But.refl [] w).alloc _⟩

theorem Own.cut_ {w : World} {B : Nat} {v : Value} {xs : List UInt8} (h : Own w B v xs) : ∃ A c, v = .slice A xs.length c ∧ xs.length ≤ c ∧ Src w A xs.length xs ∧ ∀ x, A = some x → B ≤ x.block := by
  obtain ⟨A, c, rfl, hc, hs⟩ := h.src
  refine ⟨A, c, rfl, hc, hs, fun x hx => ?_⟩
  subst hx
  obtain ⟨_, ⟨h0, _⟩ | ⟨g, cap, cur, hv, hB, _⟩⟩ := h
  · cases h0
  · injection hv with hv _ _
    injection hv with hv
    subst hv
    exact hB
/-- the address of a block's beginning -/
def ad (p : Option Nat) : Option Addr := p.map fun b => ⟨b, 0, none⟩
theorem ad_some {p : Option Nat} {b : Nat} (h : p = some b) : ad p = some ⟨b, 0, none⟩ := by rw [h]; rfl
/-- the bytes bs in a block p of the call's own (nil: none), with room for c -/
structure At (w : World) (p : Option Nat) (c : Nat) (bs : List UInt8) : Prop where
  own : Own w 0 (.slice (ad p) bs.length c) bs
theorem At.src {w : World} {p : Option Nat} {c : Nat} {bs : List UInt8} (h : At w p c bs) : bs.length ≤ c ∧ Src w (ad p) bs.length bs := by
  obtain ⟨A', c', e, h1, h2⟩ := h.own.src
  injection e with e1 e2 e3
  rw [← e1] at h2
  exact ⟨by omega, h2⟩
theorem At.nil (w : World) : At w none 0 [] := ⟨rfl, .inl ⟨rfl, rfl⟩⟩
theorem At.row {w : World} {p : Option Nat} {c : Nat} {bs : List UInt8} (h : At w p c bs) {b : Nat} (hb : p = some b) : ∃ cur, Blk w b 5 cur ∧ bs.length ≤ cur.size := by
  subst hb
  obtain ⟨⟨hl, ⟨h0, _⟩ | ⟨g, cap, cur, hv, hg, hh, hn, _, hz, _⟩⟩⟩ := h
  · cases h0
  · injection hv with hv _ _
    injection hv with hv
    injection hv with hv _ _
    subst hv
    exact ⟨cur, hh, by omega⟩
theorem At.lt {w : World} {p : Option Nat} {c : Nat} {bs : List UInt8} (h : At w p c bs) {b : Nat} (hb : p = some b) : b < w.heap.size := by
  obtain ⟨cur, hc, _⟩ := h.row hb
  exact hc.lt
theorem At.but {S : List Nat} {w w' : World} {p : Option Nat} {c : Nat} {bs : List UInt8} (h : At w p c bs) (k : But S w w') (hp : ∀ b, p = some b → b ∉ S) : At w' p c bs := by
  cases p with
  | none =>
    obtain ⟨⟨hl, h0 | ⟨g, cap, cur, hv, _⟩⟩⟩ := h
    · exact ⟨⟨hl, .inl h0⟩⟩
    · cases hv
  | some b =>
    have hlt := h.lt rfl
    obtain ⟨⟨hl, ⟨h0, _⟩ | ⟨g, cap, cur, hv, hg, hh, r⟩⟩⟩ := h
    · cases h0
    · have e : b = g := by injection hv with hv _ _; injection hv with hv; injection hv
      subst e
      exact ⟨⟨hl, .inr ⟨b, cap, cur, hv, hg, (k.block b hlt (hp b rfl)).trans hh, r⟩⟩⟩
theorem At.ne {w : World} {p : Option Nat} {c g t : Nat} {bs : List UInt8} {cs : Array Value} (h : At w p c bs) (hg : Blk w g t cs) (ht : 5 ≠ t) : p ≠ some g := by
  intro e
  obtain ⟨cur, hc, _⟩ := h.row e
  exact hc.ne_ hg ht rfl

theorem Own.at_row {w : World} {B : Nat} {v : Value} {xs : List UInt8} (h : Own w B v xs) : ∃ q c, v = .slice (ad q) xs.length c ∧ At w q c xs ∧ ∀ b, q = some b → B ≤ b := by
  obtain ⟨hl, ⟨rfl, h0⟩ | ⟨g, cap, cur, rfl, hg, r⟩⟩ := h
  · exact ⟨none, 0, by rw [h0]; rfl, ⟨⟨hl, .inl ⟨by rw [h0]; rfl, h0⟩⟩⟩, fun b hb => (by cases hb)⟩
  · exact ⟨some g, cap, rfl, ⟨⟨hl, .inr ⟨g, cap, cur, rfl, Nat.zero_le _, r⟩⟩⟩, fun b hb => by injection hb with hb; omega⟩

section
variable {P : Program} {w : World}
theorem run_app_at {t ty : TypeId} {i : TypeInfo} (ht : P.underlying t = some (.slice 5)) (hi : P.info? 5 = some i) (hz : i.zero = some (.int .u8 0)) (hs1 : i.size = 1) (hb1 : i.bytes = 1)
    {p : Option Nat} {c : Nat} {xs ys : List UInt8} (hat : At w p c xs) {A2 : Option Addr} {m c2 : Nat} (hsrc : Src w A2 m ys) (hlen : xs.length + m ≤ 140737488355328) :
    ∃ p' c' w', (Builtin.append_ #[t, t] ty #[.slice (ad p) xs.length c, .slice A2 m c2]).run P w = .ok (.slice (ad p') (xs.length + m) c') w' ∧ At w' p' c' (xs ++ ys) ∧ (p' = p ∨ p' = some w.heap.size) ∧ But p.toList w w' := by
  have hm := hsrc.1
  cases A2 with
  | none =>
    have h0 : m = 0 := by
      rcases Nat.eq_zero_or_pos m with h | h
      · exact h
      · obtain ⟨ad, e, _⟩ := hsrc.2 h; cases e
    subst h0
    have : ys = [] := List.eq_nil_of_length_eq_zero hm
    subst this
    exact ⟨p, c, w, run_app_nil ht hi hat.own c2, by rw [List.append_nil]; exact hat, .inl rfl, But.refl _ _⟩
  | some a2 =>
    have hcells : ∀ j u, (cellsOf ys)[j]? = some u → w.cell? (a2.add j) = some u := by
      intro j u hu
      simp only [cellsOf, List.getElem?_map, Option.map_eq_some_iff] at hu
      obtain ⟨x, hx, rfl⟩ := hu
      have hp : 0 < m := by have := (List.getElem?_eq_some_iff.1 hx).1; omega
      obtain ⟨ad', e, _, hc⟩ := hsrc.2 hp
      injection e with e
      subst e
      exact hc j x hx
    obtain ⟨v', w', hrun, h2, h3, h4, h5⟩ := run_append_own_at (P := P) w 0 t ty 5 i (.int .u8 0) 1 1 ht hi hz hs1 hb1 rfl (by omega) (.slice (ad p) xs.length c) xs.length (cellsOf xs) hat.own a2 m c2 (cellsOf ys) (by rw [cellsOf_length, hm, Nat.mul_one]) hcells (cellsOf_one ys)
      (by unfold maxLen; omega) (by omega) (Nat.zero_le _)
    have hown : Own w' 0 v' (xs ++ ys) := by
      unfold Own
      rw [List.length_append, cellsOf_append, hm]
      exact h2
    have hob : ∀ q, (Value.slice (ad p) xs.length c).ownBlock = some q → p = some q := by
      intro q hq
      cases p with
      | none => cases hq
      | some b => injection hq with hq; rw [← hq]
    have hbut : But p.toList w w' := ⟨h3.os, h3.tape, h3.output, h3.size, fun i hi hn => h3.block i hi (fun e => hn (by rw [hob i e.symm]; simp))⟩
    have hl : (xs ++ ys).length = xs.length + m := by rw [List.length_append, hm]
    obtain ⟨hl0, ⟨rfl, h0⟩ | ⟨g, cap, cur, rfl, hg, r⟩⟩ := hown
    · refine ⟨none, 0, w', by rw [← hl, h0]; exact hrun, ⟨⟨hl0, .inl ⟨by rw [h0]; rfl, h0⟩⟩⟩, .inl ?_, hbut⟩
      obtain ⟨e, _⟩ := h4.1 rfl
      injection e with e _ _
      cases p with
      | none => rfl
      | some b => cases e
    · refine ⟨some g, cap, w', by rw [← hl]; exact hrun, ⟨⟨hl0, .inr ⟨g, cap, cur, rfl, hg, r⟩⟩⟩, ?_, hbut⟩
      rcases h5 with h5 | h5
      · exact .inl (hob _ h5.symm).symm
      · injection h5 with h5; exact .inr (by rw [← h5])

/-- append as one step of a region that draws -/
theorem step_app_at {ops : Array Oper} {o : Oper} {a : Act} {K : Act → World → Prop} {Q : Exit → Act → World → Prop} {E : Prop} (dst : Option Tmp) (hdst : o.dst = dst) (hgd : o.guard = none) (s x : Operand) (t : TypeId)
    (ho : o.op = .call { callee := .builtin .append, args := #[s, x], argTypes := #[t, t] }) (ht : P.underlying t = some (.slice 5)) (hinfo : (P.info? 5).map (fun i => (i.zero, i.size, i.bytes)) = some (some (.int .u8 0), 1, 1))
    (p : Option Nat) (n c : Nat) (xs : List UInt8) (hs : a.eval s = .slice (ad p) n c) (hn : n = xs.length) (hat : At w p c xs) (A2 : Option Addr) (m c2 : Nat) (ys : List UInt8) (hx : a.eval x = .slice A2 m c2) (hsrc : Src w A2 m ys)
    (hlen : n + m ≤ 140737488355328)
    (h : ∀ p' c' w', Hid (At w' p' c' (xs ++ ys)) → Hid (p' = p ∨ p' = some w.heap.size) → Hid (But p.toList w w') → K (a.put dst (.slice (ad p') (n + m) c')) w') :
    if Region.wanted o (yielded ops a.tmps) = true then Oper.wp P o a w K Q else E := by
  subst hdst hn
  have hw : Region.wanted o (yielded ops a.tmps) = true := by simp [Region.wanted, hgd]
  rw [if_pos hw]
  obtain ⟨i0, hi, hz0, hz1, hz2⟩ := info_parts hinfo
  obtain ⟨p', c', w', hrun, h2, h3, h4⟩ := run_app_at (ty := o.type) ht hi hz0 hz1 hz2 hat (c2 := c2) hsrc hlen
  unfold Oper.wp execOp
  simp only [ho, resolve, invoke, builtin, Sem.run_bind, Sem.run_pure, Result.andThen_ok, List.map_toArray, List.map_cons, List.map_nil, hs, hx, hrun]
  exact h p' c' w' h2 h3 h4
/-- append onto bytes of the call's own, as one step of a region that draws -/
theorem step_own_app {ops : Array Oper} {o : Oper} {a : Act} {K : Act → World → Prop} {Q : Exit → Act → World → Prop} {E : Prop} (dst : Option Tmp) (hdst : o.dst = dst) (hgd : o.guard = none) (s x : Operand) (t : TypeId)
    (ho : o.op = .call { callee := .builtin .append, args := #[s, x], argTypes := #[t, t] }) (ht : P.underlying t = some (.slice 5)) (hinfo : (P.info? 5).map (fun i => (i.zero, i.size, i.bytes)) = some (some (.int .u8 0), 1, 1))
    (B : Nat) (v : Value) (xs : List UInt8) (hs : a.eval s = v) (hown : Own w B v xs) (A : Option Addr) (m c : Nat) (ys : List UInt8) (hx : a.eval x = .slice A m c) (hsrc : Src w A m ys)
    (hlen : xs.length + m ≤ 140737488355328) (hB : B ≤ w.heap.size)
    (h : ∀ v' w', Hid (Own w' B v' (xs ++ ys)) → Below B w w' → K (a.put dst v') w') :
    if Region.wanted o (yielded ops a.tmps) = true then Oper.wp P o a w K Q else E := by
  subst hdst
  have hw : Region.wanted o (yielded ops a.tmps) = true := by simp [Region.wanted, hgd]
  rw [if_pos hw]
  obtain ⟨i0, hi, hz0, hz1, hz2⟩ := info_parts hinfo
  obtain ⟨v', w', hrun, h2, h3⟩ := run_app (ty := o.type) ht hi hz0 hz1 hz2 hown (c := c) hsrc hlen hB
  unfold Oper.wp execOp
  simp only [ho, resolve, invoke, builtin, Sem.run_bind, Sem.run_pure, Result.andThen_ok, List.map_toArray, List.map_cons, List.map_nil, hs, hx, hrun]
  exact h v' w' h2 h3
end
theorem Own.but_ {S : List Nat} {w w' : World} {B : Nat} {v : Value} {xs : List UInt8} (h : Own w B v xs) (k : But S w w') (hS : ∀ i ∈ S, i < B) : Own w' B v xs := by
  obtain ⟨hl, h0 | ⟨g, cap, cur, hv, hg, hh, r⟩⟩ := h
  · exact ⟨hl, .inl h0⟩
  · have hlt := Blk.lt (t := 5) (cs := cur) hh
    exact ⟨hl, .inr ⟨g, cap, cur, hv, hg, (k.block g hlt (fun hm => by have := hS g hm; omega)).trans hh, r⟩⟩

theorem Own.lower {w : World} {B B' : Nat} {v : Value} {xs : List UInt8} (h : Own w B v xs) (hB : B' ≤ B) : Own w B' v xs := by
  obtain ⟨hl, h0 | ⟨g, cap, cur, hv, hg, r⟩⟩ := h
  · exact ⟨hl, .inl h0⟩
  · exact ⟨hl, .inr ⟨g, cap, cur, hv, Nat.le_trans hB hg, r⟩⟩
/-- what is cut of bytes, from l up to h -/
theorem cut_mid {w : World} {A : Option Addr} {n c l h : Nat} {xs : List UInt8} (hs : Src w A n xs) (h1 : l ≤ h) (h2 : h ≤ n) (hc : n ≤ c) : Src w (slid A c l) (h - l) ((xs.drop l).take (h - l)) := by
  have := hs.cut (m := c) (l := l) (hi := h) h1 h2 hc
  rwa [List.drop_take] at this

def withI (n lo hi : Int) : Int := if n < lo then lo else if hi < n then hi else n
theorem with_any (n lo hi : Int) (w : World) : Calls Tryz.prog 168 #[.int .i64 n, .int .i64 lo, .int .i64 hi] w fun e w' => e = .returned (.int .i64 (withI n lo hi)) ∧ w = w' := by
  by_cases h1 : n < lo
  · have H := Lib.hid (show withI n lo hi = lo by rw [withI, if_pos h1])
    go_enter Tryz.func168, Tryz.ntmps168
    go_wp2
    go_ret
    rw [H.out]; exact ⟨rfl, rfl⟩
  · by_cases h2 : hi < n
    · have H := Lib.hid (show withI n lo hi = hi by rw [withI, if_neg h1, if_pos h2])
      go_enter Tryz.func168, Tryz.ntmps168
      go_wp2
      go_ret
      rw [H.out]; exact ⟨rfl, rfl⟩
    · have H := Lib.hid (show withI n lo hi = n by rw [withI, if_neg h1, if_neg h2])
      go_enter Tryz.func168, Tryz.ntmps168
      go_wp2
      go_ret
      rw [H.out]; exact ⟨rfl, rfl⟩
/-- a number from 0 to hi -/
def clampK (n : Int) (hi : Nat) : Nat := (withI n 0 hi).toNat
theorem clampK_eq (n : Int) (hi : Nat) : withI n 0 hi = ((clampK n hi : Nat) : Int) := by
  unfold clampK withI
  split
  · rfl
  · split <;> omega
theorem clampK_le (n : Int) (hi : Nat) : clampK n hi ≤ hi := by
  unfold clampK withI
  split
  · simp
  · split <;> omega
theorem clampK_len (m hi : Nat) : clampK (m : Int) hi = min m hi := by
  unfold clampK withI
  rw [if_neg (by omega)]
  split <;> omega

end Go.Proofs.YtlpondbcnfaggaaGreatDoor.Wd
