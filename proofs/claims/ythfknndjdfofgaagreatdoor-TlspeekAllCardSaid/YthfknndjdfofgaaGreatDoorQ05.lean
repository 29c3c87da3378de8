/-
 Rows of numbers, and of extensions, of the call's own; what keeps a reader, and bytes, while such a row turns. Plain lemmas, no condition.
-/
import Derived.Test.YthfknndjdfofgaaGreatDoorQ04
import Derived.Maps.AppendAt
import Derived.Laws.RangeAny
import Derived.Test.YthfknndjdfofgaaGreatDoorQ01
namespace Go.Proofs.YthfknndjdfofgaaGreatDoor.He
open Go.RowKit Go.Proofs.YthfknndjdfofgaaGreatDoor.Wd Go.Proofs.YthfknndjdfofgaaGreatDoor.Be

def OffT (w : World) (row : Option Nat) (T : TypeId → Prop) : Prop := ∀ g, row = some g → w.heap.size ≤ g ∨ ∃ t cs, Blk w g t cs ∧ ¬ T t
theorem OffT.far {w : World} {row : Option Nat} {T : TypeId → Prop} (h : OffT w row T) {g t : Nat} {cs : Array Value} (hb : Blk w g t cs) (ht : T t) : some g ≠ row := by
 intro e
 rcases h g e.symm with h | ⟨t', cs', hb', hn⟩
 · have := hb.lt; omega
 · have h1 := hb.heap.symm.trans hb'.heap
   injection h1 with h1
   injection h1 with _ h2
   subst h2
   exact hn ht
theorem OffT.of_blk {w : World} {g t : Nat} {cs : Array Value} {T : TypeId → Prop} (hb : Blk w g t cs) (hn : ¬ T t) : OffT w (some g) T := fun g' e => by
 injection e with e; subst e; exact .inr ⟨t, cs, hb, hn⟩
theorem OffT.none (w : World) (T : TypeId → Prop) : OffT w Option.none T := fun g e => by cases e
theorem Sl.off {w w' : World} {v : Value} {xs : List UInt8} {row : Option Nat} {T : TypeId → Prop} (h : Sl w v xs) (hb : w.grownBy w' row) (hr : OffT w row T) (ht : T 5) : Sl w' v xs := by
 rcases h with ⟨rfl, rfl⟩ | ⟨g, rfl, hg⟩
 · exact .inl ⟨rfl, rfl⟩
 · exact .inr ⟨g, rfl, hg.grown hb (hr.far hg ht)⟩
theorem Rd.off {w w' : World} {r : Nat} {st : Option (List UInt8)} {row : Option Nat} {T : TypeId → Prop} (h : Rd w r st) (hb : w.grownBy w' row) (hr : OffT w row T) (ht : T 5) (ht2 : T 205) : Rd w' r st := by
 cases st with
 | none => exact Blk.grown h hb (hr.far h ht2)
 | some rest =>
   obtain ⟨g, off, cs, h1, h2, h3⟩ := h
   exact ⟨g, off, cs, h1.grown hb (hr.far h1 ht2), h2.grown hb (hr.far h2 ht), h3⟩
def TB (t : TypeId) : Prop := t = 5 ∨ t = 205

def lenAt (w : World) (r : Nat) : Nat := match w.cell? ⟨r, 0, none⟩ with
 | some (.slice _ n _) => n
 | _ => 0
theorem Rd.lenAt {w : World} {r : Nat} {st : Option (List UInt8)} (h : Rd w r st) : He.lenAt w r = leftS st := by
 unfold He.lenAt
 cases st with
 | none => rw [Blk.cell h 0]; rfl
 | some rest => obtain ⟨g, off, cs, hb, _⟩ := h; rw [hb.cell 0]; rfl
theorem take_less (st : Option (List UInt8)) (n : Int) : leftS (takeS st n).2 ≤ leftS st := by
 cases st with
 | none => exact Nat.zero_le _
 | some xs =>
   by_cases hn : 0 ≤ n ∧ n ≤ xs.length
   · obtain ⟨k, rfl⟩ := Int.eq_ofNat_of_zero_le hn.1
     rw [takeS_in _ _ (by omega)]
     simp [leftS]
   · rw [takeS_out _ _ hn]; exact Nat.zero_le _
theorem num_less (st : Option (List UInt8)) (h : 0 < leftS st) : leftS (numS st 2).2 < leftS st := by
 cases st with
 | none => exact absurd h (by simp [leftS])
 | some xs =>
   show leftS (takeS (some xs) (clampI 2)).2 < _
   by_cases hn : 2 ≤ xs.length
   · rw [show clampI 2 = ((2 : Nat) : Int) by decide, takeS_in _ _ hn]
     have : 0 < xs.length := h
     simp [leftS]; omega
   · rw [takeS_out _ _ (by rw [show clampI 2 = (2 : Int) by decide]; omega)]; exact h
theorem vec_less (st : Option (List UInt8)) (k : Int) : leftS (vecS st k).2 ≤ leftS st := Nat.le_trans (take_less _ _) (take_less _ _)
theorem num_small (st : Option (List UInt8)) : (numS st 2).1 < 65536 := by
 have h := natOf_lt (takeS st (clampI 2)).1
 have h2 := takeS_len st (clampI 2) (by decide)
 have e : (clampI 2).toNat = 2 := by decide
 rw [e] at h2
 exact Nat.lt_of_lt_of_le h (Nat.pow_le_pow_right (n := 256) (by omega) h2)
theorem vec_small (st : Option (List UInt8)) : (vecS st 2).1.length < 65536 := by
 have h1 := num_small st
 have h2 := takeS_len (numS st 2).2 ((numS st 2).1 : Int) (by omega)
 show (takeS (numS st 2).2 ((numS st 2).1 : Int)).1.length < _
 omega
theorem left_bd {st : Option (List UInt8)} {B : Nat} (h : leftS st ≤ B) : ∀ rest, st = some rest → rest.length ≤ B := fun rest e => by subst e; exact h

def OwnI (w : World) (B : Nat) (v : Value) (l : List Int) : Prop := w.ownsRow B 3 1 v l.length (l.map (.int .i64))
theorem infI : (Tryz.prog.info? 3).map (fun i => (i.zero, i.size, i.bytes)) = some (some (.int .i64 0), 1, 8) := by kernel_rfl
theorem OwnI.nil (w : World) (B : Nat) : OwnI w B (.slice none 0 0) [] := ⟨rfl, .inl ⟨rfl, rfl⟩⟩
theorem OwnI.off {w w' : World} {B : Nat} {v : Value} {l : List Int} {row : Option Nat} (h : OwnI w B v l) (hb : w.grownBy w' row) (hr : OffT w row (· = 3)) : OwnI w' B v l := by
 obtain ⟨hl, h0 | ⟨g, cap, cur, hv, hg, hh, r⟩⟩ := h
 · exact ⟨hl, .inl h0⟩
 · have hbk : Blk w g 3 cur := hh
   exact ⟨hl, .inr ⟨g, cap, cur, hv, hg, hbk.grown hb (hr.far hbk rfl), r⟩⟩
theorem OwnI.block {w : World} {B : Nat} {v : Value} {l : List Int} (h : OwnI w B v l) {T : TypeId → Prop} (hT : ¬ T 3) : OffT w v.ownBlock T := by
 obtain ⟨hl, ⟨rfl, h0⟩ | ⟨g, cap, cur, rfl, hg, hh, r⟩⟩ := h
 · exact fun g e => by cases e
 · exact OffT.of_blk (t := 3) (cs := cur) hh hT
theorem OwnI.ge {w : World} {B : Nat} {v : Value} {l : List Int} (h : OwnI w B v l) : ∀ g, v.ownBlock = some g → B ≤ g := by
 obtain ⟨hl, ⟨rfl, h0⟩ | ⟨g, cap, cur, rfl, hg, hh, r⟩⟩ := h
 · exact fun g e => by cases e
 · exact fun g' e => by
     have e' : g = g' := Option.some.inj e
     rw [← e']; exact hg
theorem OwnI.src {w : World} {B : Nat} {v : Value} {l : List Int} (h : OwnI w B v l) : ∃ A c, v = .slice A l.length c ∧ l.length ≤ c ∧ SrcI w A l := by
 obtain ⟨hl, ⟨rfl, h0⟩ | ⟨g, cap, cur, rfl, hg, hh, hc, _, hz, ht⟩⟩ := h
 · have : l = [] := List.eq_nil_of_length_eq_zero h0
   subst this
   exact ⟨none, 0, rfl, Nat.le_refl _, SrcI.nil w _⟩
 · refine ⟨_, cap, rfl, hc, fun k x hk => ⟨g, 0, rfl, Blk.lt (t := 3) (cs := cur) hh, ?_⟩⟩
   rw [Nat.zero_add, Blk.cell (t := 3) (cs := cur) hh, ← Array.getElem?_toList]
   have h2 : (l.map (Value.int .i64))[k]? = some (.int .i64 x) := by simp [hk]
   rw [← ht, Nat.mul_one, List.getElem?_take] at h2
   split at h2
   · exact h2
   · cases h2

theorem wpList_appI {ops : Array Oper} {rest : List Oper} {o : Oper} {a : Act} {w : World} {Q : Exit → Act → World → Prop} (hgd : o.guard = none) (s x : Operand)
   (ho : o.op = .call { callee := .builtin .append, args := #[s, x], argTypes := #[27, 27] })
   (B : Nat) (v : Value) (l : List Int) (hs : a.eval s = v) (hown : OwnI w B v l) (g c : Nat) (z : Int) (hx : a.eval x = .slice (some ⟨g, 0, none⟩) 1 c) (hsrc : w.cell? ⟨g, 0, none⟩ = some (.int .i64 z))
   (hlen : l.length + 1 ≤ 4294967296) (hB : B ≤ w.heap.size)
   (h : ∀ v' w', Hid (OwnI w' B v' (l ++ [z])) → Hid (w.grownBy w' v.ownBlock) → wpList Tryz.prog ops Q rest (a.put o.dst v') w') : wpList Tryz.prog ops Q (o :: rest) a w := by
 obtain ⟨i0, hi, hz0, hz1, hz2⟩ := info_parts infI
 obtain ⟨v', w', hrun, h2, h3, _, _⟩ := run_append_own_at (P := Tryz.prog) w B 27 o.type 3 i0 (.int .i64 0) 1 8 Tryz.underlying27 hi hz0 hz1 hz2 rfl (by omega) v l.length (l.map (.int .i64)) hown ⟨g, 0, none⟩ 1 c [.int .i64 z] rfl
   (fun j u hu => by
     cases j with
     | zero => simp at hu; subst hu; exact hsrc
     | succ j => simp at hu) (by simp [Value.oneCell']) (by unfold maxLen; omega) (by omega) hB
 have e1 : OwnI w' B v' (l ++ [z]) := by
   unfold OwnI
   rw [List.length_append, List.map_append]
   exact h2
 refine wpList_plain hgd fun K hK => ?_
 unfold Oper.wp execOp
 simp only [ho, resolve, invoke, builtin, Sem.run_bind, Sem.run_pure, Result.andThen_ok, List.map_toArray, List.map_cons, List.map_nil, hs, hx, hrun]
 exact hK _ _ (h v' w' (Lib.hid e1) (Lib.hid h3))

def xc (x : Xt) : List Value := [.int .i64 x.kind, .slice x.A x.n x.c]
def flat (l : List Xt) : List Value := l.flatMap xc
theorem flat_snoc (l : List Xt) (x : Xt) : flat (l ++ [x]) = flat l ++ xc x := by simp [flat]
theorem flat_get : ∀ (l : List Xt) (i : Nat) (x : Xt), l[i]? = some x → (flat l)[i * 2]? = some (.int .i64 x.kind) ∧ (flat l)[i * 2 + 1]? = some (.slice x.A x.n x.c)
 | [], i, x, h => by simp at h
 | y :: l, 0, x, h => by
   simp at h; subst h
   exact ⟨rfl, rfl⟩
 | y :: l, i + 1, x, h => by
   have ih := flat_get l i x (by simpa using h)
   have e : flat (y :: l) = xc y ++ flat l := by simp [flat]
   have e2 : (xc y).length = 2 := rfl
   rw [e]
   constructor
   · rw [List.getElem?_append_right (by rw [e2]; omega), e2, show (i + 1) * 2 - 2 = i * 2 by omega]; exact ih.1
   · rw [List.getElem?_append_right (by rw [e2]; omega), e2, show (i + 1) * 2 + 1 - 2 = i * 2 + 1 by omega]; exact ih.2
structure Xt.Mine (w : World) (x : Xt) : Prop where
 sl : Sl w (.slice x.A x.n x.c) x.b
 n : x.n = x.b.length
 small : x.b.length < 65536
 k : 0 ≤ x.kind ∧ x.kind < 65536
structure OwnX (w : World) (B : Nat) (v : Value) (l : List Xt) : Prop where
 row : w.ownsRow B 70 2 v l.length (flat l)
 each : ∀ x ∈ l, x.Mine w
theorem infX : (Tryz.prog.info? 70).map (fun i => (i.zero, i.size, i.bytes)) = some (some (.agg #[.int .i64 0, .slice none 0 0]), 2, 32) := by kernel_rfl
theorem OwnX.nil (w : World) (B : Nat) : OwnX w B (.slice none 0 0) [] := ⟨⟨rfl, .inl ⟨rfl, rfl⟩⟩, fun _ h => absurd h List.not_mem_nil⟩
theorem OwnX.block {w : World} {B : Nat} {v : Value} {l : List Xt} (h : OwnX w B v l) {T : TypeId → Prop} (hT : ¬ T 70) : OffT w v.ownBlock T := by
 obtain ⟨hl, ⟨rfl, h0⟩ | ⟨g, cap, cur, rfl, hg, hh, r⟩⟩ := h.row
 · exact fun g e => by cases e
 · exact OffT.of_blk (t := 70) (cs := cur) hh hT
theorem OwnX.ge {w : World} {B : Nat} {v : Value} {l : List Xt} (h : OwnX w B v l) : ∀ g, v.ownBlock = some g → B ≤ g := by
 obtain ⟨hl, ⟨rfl, h0⟩ | ⟨g, cap, cur, rfl, hg, hh, r⟩⟩ := h.row
 · exact fun g e => by cases e
 · exact fun g' e => by
     have e' : g = g' := Option.some.inj e
     rw [← e']; exact hg
def TX (t : TypeId) : Prop := t = 70 ∨ t = 5
theorem OwnX.off {w w' : World} {B : Nat} {v : Value} {l : List Xt} {row : Option Nat} (h : OwnX w B v l) (hb : w.grownBy w' row) (hr : OffT w row TX) : OwnX w' B v l := by
 refine ⟨?_, fun x hx => ?_⟩
 · obtain ⟨hl, h0 | ⟨g, cap, cur, hv, hg, hh, r⟩⟩ := h.row
   · exact ⟨hl, .inl h0⟩
   · have hbk : Blk w g 70 cur := hh
     exact ⟨hl, .inr ⟨g, cap, cur, hv, hg, hbk.grown hb (hr.far hbk (.inl rfl)), r⟩⟩
 · have := h.each x hx
   exact ⟨Sl.off this.sl hb hr (.inr rfl), this.n, this.small, this.k⟩
theorem Xt.Mine.ok {w : World} {x : Xt} (h : x.Mine w) : x.Ok w := by
 obtain ⟨A', c', e, h1, h2⟩ := h.sl.src
 injection e with e1 e2 e3
 rw [← e1, ← e2] at h2
 have := h.n
 have := h.small
 have := h.k
 exact ⟨by omega, by omega, h2, by omega⟩
theorem OwnX.src {w : World} {B : Nat} {v : Value} {l : List Xt} (h : OwnX w B v l) : ∃ A c, v = .slice A l.length c ∧ l.length ≤ c ∧ SrcX w A l := by
 obtain ⟨hl, ⟨rfl, h0⟩ | ⟨g, cap, cur, rfl, hg, hh, hc, _, hz, ht⟩⟩ := h.row
 · have : l = [] := List.eq_nil_of_length_eq_zero h0
   subst this
   exact ⟨none, 0, rfl, Nat.le_refl _, SrcX.nil w _⟩
 · have hget : ∀ (k : Nat) (u : Value), (flat l)[k]? = some u → w.cell? ⟨g, 0 + k, none⟩ = some u := fun k u hk => by
     rw [Nat.zero_add, Blk.cell (t := 70) (cs := cur) hh, ← Array.getElem?_toList]
     rw [← ht, List.getElem?_take] at hk
     split at hk
     · exact hk
     · cases hk
   refine ⟨_, cap, rfl, hc, fun k x hk => ⟨(h.each x (List.mem_of_getElem? hk)).ok, g, 0, rfl, Blk.lt (t := 70) (cs := cur) hh, ?_, ?_⟩⟩
   · exact hget _ _ (flat_get l k x hk).1
   · exact hget _ _ (flat_get l k x hk).2

theorem wpList_appX {ops : Array Oper} {rest : List Oper} {o : Oper} {a : Act} {w : World} {Q : Exit → Act → World → Prop} (hgd : o.guard = none) (s x : Operand)
   (ho : o.op = .call { callee := .builtin .append, args := #[s, x], argTypes := #[66, 66] })
   (B : Nat) (v : Value) (l : List Xt) (hs : a.eval s = v) (hown : OwnX w B v l) (g c : Nat) (z : Xt) (hx : a.eval x = .slice (some ⟨g, 0, none⟩) 1 c) (hm : z.Mine w)
   (h0 : w.cell? ⟨g, 0, none⟩ = some (.int .i64 z.kind)) (h1 : w.cell? ⟨g, 1, none⟩ = some (.slice z.A z.n z.c))
   (hlen : l.length + 1 ≤ 4294967296) (hB : B ≤ w.heap.size)
   (h : ∀ v' w', Hid (OwnX w' B v' (l ++ [z])) → Hid (w.grownBy w' v.ownBlock) → wpList Tryz.prog ops Q rest (a.put o.dst v') w') : wpList Tryz.prog ops Q (o :: rest) a w := by
 obtain ⟨i0, hi, hz0, hz1, hz2⟩ := info_parts infX
 obtain ⟨v', w', hrun, h2, h3, _, _⟩ := run_append_own_at (P := Tryz.prog) w B 66 o.type 70 i0 (.agg #[.int .i64 0, .slice none 0 0]) 2 32 Tryz.underlying66 hi hz0 hz1 hz2 rfl (by omega) v l.length (flat l) hown.row ⟨g, 0, none⟩ 1 c (xc z) rfl
   (fun j u hu => by
     match j with
     | 0 => simp [xc] at hu; subst hu; exact h0
     | 1 => simp [xc] at hu; subst hu; exact h1
     | j + 2 => simp [xc] at hu) (by simp [xc, Value.oneCell']) (by unfold maxLen; omega) (by omega) hB
 have e1 : OwnX w' B v' (l ++ [z]) := by
   refine ⟨?_, fun y hy => ?_⟩
   · rw [List.length_append, flat_snoc]
     exact h2
   · have hy' : y.Mine w := by
       rcases List.mem_append.1 hy with hy | hy
       · exact hown.each y hy
       · simp at hy; subst hy; exact hm
     exact ⟨Sl.off hy'.sl h3 (hown.block (T := (· = 5)) (by decide)) rfl, hy'.n, hy'.small, hy'.k⟩
 refine wpList_plain hgd fun K hK => ?_
 unfold Oper.wp execOp
 simp only [ho, resolve, invoke, builtin, Sem.run_bind, Sem.run_pure, Result.andThen_ok, List.map_toArray, List.map_cons, List.map_nil, hs, hx, hrun]
 exact hK _ _ (h v' w' (Lib.hid e1) (Lib.hid h3))
end Go.Proofs.YthfknndjdfofgaaGreatDoor.He

/-
 Plain facts on runes, bytes and texts of ASCII, used by the contracts of package ascii. No condition.
-/
namespace Go.Proofs.YthfknndjdfofgaaGreatDoor.Asc
open Go

def digI (r : Int) : Bool := decide (48 ≤ r ∧ r ≤ 57)
def visI (r : Int) : Bool := decide (33 ≤ r ∧ r ≤ 126)
def hexI (r : Int) : Option Int := if 48 ≤ r ∧ r ≤ 57 then some (r - 48) else if 97 ≤ r ∧ r ≤ 102 then some (r - 87) else if 65 ≤ r ∧ r ≤ 70 then some (r - 55) else none

def Low (p : Int → Bool) : Prop := ∀ r, 128 ≤ r → p r = false
theorem vis_low : Low visI := fun r h => by simp [visI]; omega
theorem hex_low (r : Int) (h : 128 ≤ r) : hexI r = none := by unfold hexI; rw [if_neg (by omega), if_neg (by omega), if_neg (by omega)]
theorem hex_bd {r d : Int} (h : hexI r = some d) : 0 ≤ d ∧ d ≤ 15 := by
 unfold hexI at h
 split at h
 · injection h; omega
 · split at h
   · injection h; omega
   · split at h
     · injection h; omega
     · cases h

theorem at_rune {p : Int → Bool} (hp : Low p) (s : ByteArray) (pos : Nat) (h : pos < s.size) :
   p ((Utf8.decode s pos).1 : Int) = p ((s[pos]'h).toNat : Int) ∧ (p ((s[pos]'h).toNat : Int) = true → (Utf8.decode s pos).2 = 1) := by
 by_cases ha : (s[pos]'h).toNat < 128
 · rw [decode_ascii s pos h ha]
   exact ⟨rfl, fun _ => rfl⟩
 · have hd := decode_high s pos h (by omega)
   rw [hp _ (by omega), hp _ (by omega)]
   exact ⟨rfl, fun h => by cases h⟩
theorem at_hex (s : ByteArray) (pos : Nat) (h : pos < s.size) :
   hexI ((Utf8.decode s pos).1 : Int) = hexI ((s[pos]'h).toNat : Int) ∧ (∀ d, hexI ((s[pos]'h).toNat : Int) = some d → (Utf8.decode s pos).2 = 1) := by
 by_cases ha : (s[pos]'h).toNat < 128
 · rw [decode_ascii s pos h ha]
   exact ⟨rfl, fun _ _ => rfl⟩
 · have hd := decode_high s pos h (by omega)
   rw [hex_low _ (by omega), hex_low _ (by omega)]
   exact ⟨rfl, fun _ h => by cases h⟩

theorem get_eq (s : ByteArray) (i : Nat) (h : i < s.size) : s.get! i = s[i]'h := by
 simp [ByteArray.get!, getElem!_pos, h]
 rfl

theorem wide_high (s : ByteArray) (pos : Nat) (h : pos < s.size) (ha : 128 ≤ (s[pos]'h).toNat) :
   pos + (Utf8.decode s pos).2 ≤ s.size ∧ ∀ k, k < (Utf8.decode s pos).2 → 128 ≤ (s.get! (pos + k)).toNat := by
 have h0 : 128 ≤ (s.get! pos).toNat := by rw [get_eq s pos h]; exact ha
 have hn : ¬ (s.get! (pos + 0)).toNat < 128 := by simp only [Nat.add_zero]; omega
 have one : pos + 1 ≤ s.size ∧ ∀ k, k < 1 → 128 ≤ (s.get! (pos + k)).toNat := ⟨by omega, fun k hk => by obtain rfl : k = 0 := (by omega); exact h0⟩
 simp only [Utf8.decode, hn, if_false]
 split
 · rename_i hc
   simp only [Bool.and_eq_true, decide_eq_true_eq, beq_iff_eq] at hc
   split
   · refine ⟨by omega, fun k hk => ?_⟩
     simp only at hk
     obtain rfl | rfl : k = 0 ∨ k = 1 := by omega
     · exact h0
     · omega
   · exact one
 · split
   · rename_i hc
     simp only [Bool.and_eq_true, decide_eq_true_eq, beq_iff_eq] at hc
     split
     · refine ⟨by simp only; omega, fun k hk => ?_⟩
       simp only at hk
       obtain rfl | rfl | rfl : k = 0 ∨ k = 1 ∨ k = 2 := by omega
       · exact h0
       · omega
       · omega
     · exact one
   · split
     · rename_i hc
       simp only [Bool.and_eq_true, decide_eq_true_eq, beq_iff_eq] at hc
       split
       · refine ⟨by simp only; omega, fun k hk => ?_⟩
         simp only at hk
         obtain rfl | rfl | rfl | rfl : k = 0 ∨ k = 1 ∨ k = 2 ∨ k = 3 := by omega
         · exact h0
         · omega
         · omega
         · omega
       · exact one
     · exact one

def bs (s : ByteArray) : List UInt8 := s.data.toList
theorem bs_length (s : ByteArray) : (bs s).length = s.size := rfl
theorem bs_get (s : ByteArray) (k : Nat) (h : k < s.size) : (bs s)[k]'(by rw [bs_length]; exact h) = s[k]'h := rfl
theorem bs_drop (s : ByteArray) (k : Nat) (h : k < s.size) : (bs s).drop k = (s[k]'h) :: (bs s).drop (k + 1) := by
 rw [List.drop_eq_getElem_cons (by rw [bs_length]; exact h)]; rfl
theorem bs_take (s : ByteArray) (k : Nat) (h : k < s.size) : (bs s).take (k + 1) = (bs s).take k ++ [s[k]'h] := by
 rw [List.take_succ_eq_append_getElem (by rw [bs_length]; exact h)]; rfl
theorem bs_end (s : ByteArray) (k : Nat) (h : ¬ k < s.size) : (bs s).drop k = [] := List.drop_of_length_le (by rw [bs_length]; omega)
theorem bs_inj {s t : ByteArray} (h : bs s = bs t) : s = t := by
 cases s; cases t; simp only [bs] at h; congr 1; exact Array.ext' h
theorem bs_nil (s : ByteArray) (h : s.size = 0) : bs s = [] := List.eq_nil_of_length_eq_zero (by rw [bs_length]; exact h)

def allS (p : Int → Bool) (l : List UInt8) : Bool := !l.isEmpty && l.all fun c => p (c.toNat : Int)

def foldv (base : Int) : List UInt8 → Int → Option Int
 | [], n => some n
 | c :: l, n => match hexI (c.toNat : Int) with
   | none => none
   | some d => if d < base then foldv base l (n * base + d) else none
def digitsS (base : Int) (most : Nat) (l : List UInt8) : Option Int := if l.length = 0 ∨ most < l.length then none else foldv base l 0
def numS (l : List UInt8) (most : Int) : Option Int :=
 if 1 < l.length ∧ l[0]? = some 48 then none else match digitsS 10 18 l with | none => none | some n => if most < n then none else some n
def hexS (l : List UInt8) : Option Int := digitsS 16 4 l

def lowB (c : UInt8) : UInt8 := if 65 ≤ c ∧ c ≤ 90 then c + 32 else c
end Go.Proofs.YthfknndjdfofgaaGreatDoor.Asc

/-
 Plain facts: what stands in the data of extensions: names, protocols, versions; what is put. No condition.
-/
namespace Go.Proofs.YthfknndjdfofgaaGreatDoor.Ex
open Go.RowKit Go.Proofs.YthfknndjdfofgaaGreatDoor.Wd Go.Proofs.YthfknndjdfofgaaGreatDoor.Be Go.Proofs.YthfknndjdfofgaaGreatDoor.He

section
variable {α : Type} (one : Option (List UInt8) → α × Option (List UInt8))
def itemsF : Nat → Option (List UInt8) → List α × Bool
 | 0, st => ([], doneS st)
 | f + 1, st => if leftS st = 0 then ([], doneS st) else ((one st).1 :: (itemsF f (one st).2).1, (itemsF f (one st).2).2)
def itemsS (b : List UInt8) : List α × Bool := itemsF one (b.length + 1) (some b)
variable {one}
theorem itemsF_step {f : Nat} {st : Option (List UInt8)} (h : 0 < leftS st) : itemsF one (f + 1) st = ((one st).1 :: (itemsF one f (one st).2).1, (itemsF one f (one st).2).2) := by rw [itemsF, if_neg (by omega)]
theorem itemsF_end {f : Nat} {st : Option (List UInt8)} (h : leftS st = 0) : itemsF one f st = ([], doneS st) := by
 cases f with
 | zero => rfl
 | succ f => rw [itemsF, if_pos h]
theorem itemsF_none (f : Nat) : itemsF one f none = ([], false) := itemsF_end rfl
end

theorem num_lessG (st : Option (List UInt8)) (size : Int) (h : 0 < leftS st) : leftS (numS st size).2 < leftS st := by
 cases st with
 | none => exact absurd h (by simp [leftS])
 | some xs =>
   have hc := clampI_bd size
   obtain ⟨k, hk⟩ : ∃ k : Nat, clampI size = k := ⟨(clampI size).toNat, by omega⟩
   show leftS (takeS (some xs) (clampI size)).2 < _
   rw [hk]
   by_cases hn : k ≤ xs.length
   · rw [takeS_in _ _ hn]
     have : 0 < xs.length := h
     simp [leftS]; omega
   · rw [takeS_out _ _ (by omega)]; exact h
theorem vec_lessG (st : Option (List UInt8)) (size : Int) (h : 0 < leftS st) : leftS (vecS st size).2 < leftS st := Nat.lt_of_le_of_lt (take_less _ _) (num_lessG st size h)
theorem num_small1 (st : Option (List UInt8)) : (numS st 1).1 < 256 := by
 have h := natOf_lt (takeS st (clampI 1)).1
 have h2 := takeS_len st (clampI 1) (by decide)
 have e : (clampI 1).toNat = 1 := by decide
 rw [e] at h2
 exact Nat.lt_of_lt_of_le h (Nat.pow_le_pow_right (n := 256) (by omega) h2)
theorem vec_small1 (st : Option (List UInt8)) : (vecS st 1).1.length < 256 := by
 have h1 := num_small1 st
 have h2 := takeS_len (numS st 1).2 ((numS st 1).1 : Int) (by omega)
 show (takeS (numS st 1).2 ((numS st 1).1 : Int)).1.length < _
 omega

def typO (st : Option (List UInt8)) : (Int × List UInt8) × Option (List UInt8) := ((((numS st 1).1 : Int), (vecS (numS st 1).2 2).1), (vecS (numS st 1).2 2).2)
def proO (st : Option (List UInt8)) : List UInt8 × Option (List UInt8) := vecS st 1
def verO (st : Option (List UInt8)) : Int × Option (List UInt8) := (((numS st 2).1 : Int), (numS st 2).2)
theorem typO_less (st : Option (List UInt8)) (h : 0 < leftS st) : leftS (typO st).2 < leftS st := Nat.lt_of_le_of_lt (vec_less _ _) (num_lessG st 1 h)
theorem proO_less (st : Option (List UInt8)) (h : 0 < leftS st) : leftS (proO st).2 < leftS st := vec_lessG st 1 h
theorem verO_less (st : Option (List UInt8)) (h : 0 < leftS st) : leftS (verO st).2 < leftS st := num_lessG st 2 h

def readS {α : Type} (one : Option (List UInt8) → α × Option (List UInt8)) (size : Int) (b : List UInt8) : List α × Bool :=
 ((itemsS one (vecS (some b) size).1).1, doneS (vecS (some b) size).2 && (itemsS one (vecS (some b) size).1).2 && decide (0 < (itemsS one (vecS (some b) size).1).1.length))
def hostB (x : Int × List UInt8) : Bool := x.1 == 0
def mayS (s : List UInt8) : Bool := decide (s.length ≤ 255) && Asc.allS Asc.visI s
def nameL : List (Int × List UInt8) → List UInt8 × Int
 | [] => ([], 8)
 | [x] => if mayS x.2 then (x.2, 0) else ([], 9)
 | _ => ([], 7)
def nameS (b : List UInt8) : List UInt8 × Int := if (readS typO 2 b).2 then nameL ((readS typO 2 b).1.filter hostB) else ([], 3)
def protoS (b : List UInt8) : List (List UInt8) × Int := if (readS proO 2 b).2 && !(readS proO 2 b).1.contains [] then ((readS proO 2 b).1, 0) else ([], 3)
def verS (b : List UInt8) : List Int × Int := if (readS verO 1 b).2 then ((readS verO 1 b).1, 0) else ([], 3)

def catO {α : Type} (put : α → Option (List UInt8)) : List α → Option (List UInt8)
 | [] => some []
 | x :: l => match put x, catO put l with
   | some a, some b => some (a ++ b)
   | _, _ => none
def layS {α : Type} (put : α → Option (List UInt8)) (k : Nat) (l : List α) : Option (List UInt8) := match catO put l with
 | none => none
 | some w => if w = [] then none else if w.length < 256 ^ k then some (vecB k w) else none
def putN (s : List UInt8) : Option (List UInt8) := if mayS s then some ((0 : UInt8) :: vecB 2 s) else none
def putP (s : List UInt8) : Option (List UInt8) := if s = [] then none else if s.length < 256 then some (vecB 1 s) else none
def putV (n : Int) : Option (List UInt8) := if 0 ≤ n ∧ n ≤ 65535 then some (bytesOf n 2) else none
section
variable {α : Type} {put : α → Option (List UInt8)}
theorem catO_snoc (x : α) : ∀ (l : List α), catO put (l ++ [x]) = match catO put l, put x with
   | some a, some b => some (a ++ b)
   | _, _ => none
 | [] => by
   simp only [List.nil_append, catO]
   cases put x <;> simp
 | y :: l => by
   simp only [List.cons_append, catO, catO_snoc x l]
   cases put y with
   | none => simp
   | some a => cases catO put l with
     | none => simp
     | some b => cases put x <;> simp
theorem catO_take {l : List α} {k : Nat} {x : α} {w a : List UInt8} (hx : l[k]? = some x) (hw : catO put (l.take k) = some w) (ha : put x = some a) : catO put (l.take (k + 1)) = some (w ++ a) := by
 rw [List.take_add_one, hx]
 simp only [Option.toList_some]
 rw [catO_snoc, hw, ha]
theorem catO_app : ∀ (l m : List α), catO put (l ++ m) = match catO put l, catO put m with
   | some a, some b => some (a ++ b)
   | _, _ => none
 | [], m => by
   simp only [List.nil_append, catO]
   cases catO put m <;> simp
 | y :: l, m => by
   simp only [List.cons_append, catO, catO_app l m]
   cases put y with
   | none => simp
   | some a => cases catO put l with
     | none => simp
     | some b => cases catO put m <;> simp
theorem catO_no {l : List α} {k : Nat} {x : α} (hx : l[k]? = some x) (hn : put x = none) : catO put l = none := by
 obtain ⟨hk, rfl⟩ := List.getElem?_eq_some_iff.1 hx
 have e : l = l.take k ++ l[k] :: l.drop (k + 1) := by rw [← List.drop_eq_getElem_cons hk, List.take_append_drop]
 rw [e, catO_app, catO, hn]
 cases catO put (l.take k) <;> simp
theorem layS_no {l : List α} {k j : Nat} {x : α} (hx : l[k]? = some x) (hn : put x = none) : layS put j l = none := by
 rw [layS, catO_no hx hn]
theorem layS_end {l : List α} {j : Nat} {w : List UInt8} (hw : catO put l = some w) : layS put j l = if w = [] then none else if w.length < 256 ^ j then some (vecB j w) else none := by
 rw [layS, hw]
end
end Go.Proofs.YthfknndjdfofgaaGreatDoor.Ex

/-
 A string's bytes as a list: plain facts, no condition.
-/
namespace Go.Proofs.YthfknndjdfofgaaGreatDoor.Wd
open Go.RowKit

def str8 (l : List UInt8) : ByteArray := ⟨l.toArray⟩
end Go.Proofs.YthfknndjdfofgaaGreatDoor.Wd
