/-
 Words for memory, used by the contracts of this seat: a block that is known whole, a row of bytes that a slice leads to. Plain lemmas, no condition.
-/
import Derived.Test.YthfknndjdfofgaaGreatDoorRows
import Derived.WalkKit
import Derived.Below
import Derived.Laws.OwnMore
import Derived.Deep.Draws
import Derived.Laws.Rows
import Derived.Lib.Hide
import Derived.Laws.CopyOwn
import Derived.WalkLawsBesides
import Derived.WalkSpells
import Derived.Laws.AppendOwn
import Derived.Laws.BytesArg
import Derived.Lib.SlBytesConst
import Derived.Laws.BitsAllLaws
import Derived.Laws.BitsLemmas
namespace Go.Proofs.YthfknndjdfofgaaGreatDoor.Wd
open Go.RowKit

def b8 (c : UInt8) : Value := .int .u8 (c.toNat : Int)
def cellsOf (xs : List UInt8) : List Value := xs.map b8
theorem cellsOf_length (xs : List UInt8) : (cellsOf xs).length = xs.length := by simp [cellsOf]
theorem cellsOf_append (xs ys : List UInt8) : cellsOf (xs ++ ys) = cellsOf xs ++ cellsOf ys := by simp [cellsOf]
theorem cellsOf_one (xs : List UInt8) : ∀ v ∈ cellsOf xs, v.oneCell' = true := by
 intro v hv
 simp only [cellsOf, List.mem_map] at hv
 obtain ⟨c, _, rfl⟩ := hv
 rfl
theorem cellsOf_get {xs : List UInt8} {j : Nat} {c : UInt8} (h : xs[j]? = some c) : (cellsOf xs)[j]? = some (b8 c) := by
 simp [cellsOf, List.getElem?_map, h]
theorem cellsOf_zero (n : Nat) : cellsOf (List.replicate n 0) = List.replicate n (.int .u8 0) := by simp [cellsOf, b8]

def Blk (w : World) (g : Nat) (t : TypeId) (cs : Array Value) : Prop := w.heap[g]? = some (.cells cs t (0, 0))
section
variable {w w' : World} {g : Nat} {t : TypeId} {cs : Array Value}
theorem Blk.lt (h : Blk w g t cs) : g < w.heap.size := by
 rcases Nat.lt_or_ge g w.heap.size with hlt | hge
 · exact hlt
 · unfold Blk at h; rw [Array.getElem?_eq_none hge] at h; cases h
theorem Blk.heap (h : Blk w g t cs) : w.heap[g]? = some (.cells cs t (0, 0)) := h
theorem Blk.cell (h : Blk w g t cs) (i : Nat) : w.cell? ⟨g, i, none⟩ = cs[i]? := cell_of_row w g i cs t (0, 0) h
theorem Blk.frozen (h : Blk w g t cs) (i : Nat) : w.frozen? ⟨g, i, none⟩ = false := by
 unfold Blk at h
 simp [World.frozen?, h]
theorem Blk.new (w : World) (t : TypeId) (cs : Array Value) : Blk (w.alloc (.cells cs t)) w.heap.size t cs := heap_alloc_new w _
theorem Blk.alloc (h : Blk w g t cs) (o : Obj) : Blk (w.alloc o) g t cs := (Below.heap_alloc w o g h.lt).trans h
theorem Blk.set_ (h : Blk w g t cs) (i : Nat) (u : Value) : Blk (w.setCell ⟨g, i, none⟩ u) g t (cs.setIfInBounds i u) := by
 unfold Blk at h ⊢
 simp [World.setCell, Array.getElem?_modify, h]
theorem Blk.far (h : Blk w g t cs) {p : Addr} (hp : g ≠ p.block) (u : Value) : Blk (w.setCell p u) g t cs := (Below.heap_setCell w p u g hp).trans h
theorem Blk.below {B : Nat} (h : Blk w g t cs) (hb : Below B w w') (hg : g < B) : Blk w' g t cs := (hb.block g hg).trans h
theorem Blk.grown {row : Option Nat} (h : Blk w g t cs) (hb : w.grownBy w' row) (hg : some g ≠ row) : Blk w' g t cs := (hb.block g h.lt hg).trans h
theorem Blk.ne_ {g' : Nat} {t' : TypeId} {cs' : Array Value} (h : Blk w g t cs) (h' : Blk w g' t' cs') (hne : t ≠ t') : g ≠ g' := by
 rintro rfl
 unfold Blk at h h'
 rw [h] at h'
 injection h' with h'
 injection h' with _ ht
 exact hne ht
end

theorem only_alloc {a w : World} {row : Option Nat} (h : a.grownBy w row) (o : Obj) : a.grownBy (w.alloc o) row :=
 ⟨h.os, h.tape, h.output, Nat.le_trans h.size (by simp), fun i hi hne => (Below.heap_alloc w o i (Nat.lt_of_lt_of_le hi h.size)).trans (h.block i hi hne)⟩
theorem only_setCell {a w : World} {g : Nat} (h : a.grownBy w (some g)) {p : Addr} (hp : p.block = g ∨ a.heap.size ≤ p.block) (u : Value) : a.grownBy (w.setCell p u) (some g) :=
 ⟨h.os, h.tape, h.output, by simpa [World.setCell] using h.size, fun i hi hne => (Below.heap_setCell w p u i (by
   rintro rfl
   rcases hp with hp | hp
   · exact hne (by rw [hp])
   · omega)).trans (h.block i hi hne)⟩
theorem only_of_below {a w : World} (h : Below a.heap.size a w) (row : Option Nat) : a.grownBy w row := ⟨h.os, h.tape, h.output, h.size, fun i hi _ => h.block i hi⟩
theorem only_refl (w : World) (row : Option Nat) : w.grownBy w row := World.grownBy.refl w _
theorem only_trans {a b c : World} {row : Option Nat} (h : a.grownBy b row) (k : b.grownBy c row) : a.grownBy c row :=
 ⟨k.os.trans h.os, k.tape.trans h.tape, k.output.trans h.output, Nat.le_trans h.size k.size, fun i hi hne => (k.block i (Nat.lt_of_lt_of_le hi h.size) hne).trans (h.block i hi hne)⟩
def Src (w : World) (A : Option Addr) (n : Nat) (xs : List UInt8) : Prop :=
 xs.length = n ∧ (0 < n → ∃ ad, A = some ad ∧ ad.block < w.heap.size ∧ ∀ j c, xs[j]? = some c → w.cell? (ad.add j) = some (b8 c))
theorem block_of_add (a : Addr) (n : Nat) : (a.add n).block = a.block := by unfold Addr.add; split <;> rfl
theorem add_of_add (a : Addr) (i j : Nat) : (a.add i).add j = a.add (i + j) := by
 unfold Addr.add
 by_cases hi : i = 0 <;> by_cases hj : j = 0 <;> simp [hi, hj, Nat.add_assoc]
theorem add_none (g off j : Nat) : (Addr.mk g off none).add j = ⟨g, off + j, none⟩ := by
 unfold Addr.add; by_cases hj : j = 0 <;> simp [hj]
theorem Src.nil (w : World) : Src w none 0 [] := ⟨rfl, fun h => absurd h (by omega)⟩
theorem Src.below {w w' : World} {A : Option Addr} {n : Nat} {xs : List UInt8} (h : Src w A n xs) (hb : Below w.heap.size w w') : Src w' A n xs :=
 ⟨h.1, fun hn => by
   obtain ⟨ad, e, hlt, hc⟩ := h.2 hn
   exact ⟨ad, e, Nat.lt_of_lt_of_le hlt hb.size, fun j c hj => (hb.cell (by rw [block_of_add]; exact hlt)).trans (hc j c hj)⟩⟩
theorem Src.of_blk {w : World} {g off t : Nat} {cs : Array Value} {xs : List UInt8} (h : Blk w g t cs) (hc : ∀ j c, xs[j]? = some c → cs[off + j]? = some (b8 c)) :
   Src w (some ⟨g, off, none⟩) xs.length xs :=
 ⟨rfl, fun _ => ⟨_, rfl, h.lt, fun j c hj => by rw [add_none, h.cell, hc j c hj]⟩⟩

theorem Src.marked (w : World) (C : Array Value) (t : TypeId) (fr : Nat × Nat) (xs : List UInt8) (h : C = (cellsOf xs).toArray) : Src (w.alloc (.cells C t fr)) (some ⟨w.heap.size, 0, none⟩) xs.length xs :=
 ⟨rfl, fun _ => ⟨_, rfl, by simp, fun j c hj => by
   rw [add_none, Nat.zero_add, World.cell?_alloc_mark, h]
   simpa using cellsOf_get hj⟩⟩
theorem Src.alloc {w : World} {A : Option Addr} {n : Nat} {xs : List UInt8} (h : Src w A n xs) (o : Obj) : Src (w.alloc o) A n xs := h.below ((Below.refl _ _).alloc (Nat.le_refl _) _)

def Sl (w : World) (v : Value) (xs : List UInt8) : Prop :=
 (xs = [] ∧ v = .slice none 0 0) ∨ ∃ g, v = .slice (some ⟨g, 0, none⟩) xs.length xs.length ∧ Blk w g 5 (cellsOf xs).toArray
theorem Sl.src {w : World} {v : Value} {xs : List UInt8} (h : Sl w v xs) : ∃ A c, v = .slice A xs.length c ∧ xs.length ≤ c ∧ Src w A xs.length xs := by
 rcases h with ⟨rfl, rfl⟩ | ⟨g, rfl, hb⟩
 · exact ⟨none, 0, rfl, Nat.le_refl _, Src.nil w⟩
 · exact ⟨_, _, rfl, Nat.le_refl _, Src.of_blk hb (fun j c hj => by simpa using cellsOf_get hj)⟩
theorem Sl.below {w w' : World} {v : Value} {xs : List UInt8} (h : Sl w v xs) (hb : Below w.heap.size w w') : Sl w' v xs := by
 rcases h with ⟨rfl, rfl⟩ | ⟨g, rfl, hg⟩
 · exact .inl ⟨rfl, rfl⟩
 · exact .inr ⟨g, rfl, hg.below hb hg.lt⟩
theorem conv_src {P : Program} {w : World} {A : Option Addr} {n c : Nat} {xs : List UInt8} (h : Src w A n xs) {src e dst : TypeId} (hs : P.underlying src = some (.slice e)) (he : P.underlying e = some (.int .u8)) (hd : P.underlying dst = some .string) :
   (convert src dst (.slice A n c)).run P w = .ok (.string ⟨xs.toArray⟩) w := by
 obtain ⟨hl, hc⟩ := h
 subst hl
 cases A with
 | none =>
   have : xs = [] := by
     cases xs with
     | nil => rfl
     | cons x xs => obtain ⟨ad, e, _⟩ := hc (by simp); cases e
   subst this
   exact run_convert_bytes_nil w src e hs he 0 c dst hd
 | some ad =>
   have hcell : ∀ (j : Nat) v, ((xs.map fun x => (x.toNat : Int)).map (Value.int .u8))[j]? = some v → w.cell? (ad.add j) = some v := by
     intro j v hj
     rw [List.map_map, List.getElem?_map] at hj
     cases hx : xs[j]? with
     | none => rw [hx] at hj; cases hj
     | some x =>
       rw [hx] at hj
       injection hj with hj
       subst hj
       have hp : 0 < xs.length := by have := (List.getElem?_eq_some_iff.1 hx).1; omega
       obtain ⟨ad', e, _, hc'⟩ := hc hp
       injection e with e
       subst e
       exact hc' j x hx
   have hl := run_loadCells_list (P := P) w ad _ hcell
   rw [List.length_map, List.length_map] at hl
   rw [run_convert_bytes_string w src dst e _ _ c hs he hd, run_bytesToString w ad _ c _ hl, foldl_push_bytes]
   congr 2
   simp [ByteArray.empty, ByteArray.emptyWithCapacity, Function.comp_def]
   rfl
end Go.Proofs.YthfknndjdfofgaaGreatDoor.Wd

/-
 Rows of records, plain: a step for each byte, what is taken apart, what is framed. Plain facts, no condition.
-/
namespace Go.Proofs.YthfknndjdfofgaaGreatDoor.Rc

structure D where
 a : Nat
 l : Nat
 n : Nat
 e : Nat
def D.st (n : Nat) : D := ⟨0, 0, n, 0⟩

def stepD (d : D) (c : UInt8) : D :=
 if d.e ≠ 0 then d
 else if d.a = 0 then (if c.toNat = 22 then ⟨1, d.l, d.n, 0⟩ else ⟨0, d.l, d.n, 4⟩)
 else if d.a = 1 then (if c.toNat = 3 then ⟨2, d.l, d.n, 0⟩ else ⟨1, d.l, d.n, 5⟩)
 else if d.a = 2 then (if c.toNat ≤ 4 then ⟨3, d.l, d.n, 0⟩ else ⟨2, d.l, d.n, 5⟩)
 else if d.a = 3 then (if c.toNat * 256 ≤ 16384 then ⟨4, c.toNat * 256, d.n, 0⟩ else ⟨3, c.toNat * 256, d.n, 6⟩)
 else if d.a = 4 then (if 1 ≤ d.l + c.toNat ∧ d.l + c.toNat ≤ 16384 then ⟨5, d.l + c.toNat, d.n, 0⟩ else ⟨4, d.l + c.toNat, d.n, 6⟩)
 else if d.l = 1 then ⟨0, 0, d.n + 1, 0⟩ else ⟨5, d.l - 1, d.n, 0⟩
def payD (d : D) : Bool := decide (d.e = 0 ∧ 5 ≤ d.a)
def OkD (d : D) : Prop := d.a ≤ 5 ∧ d.l ≤ 65535 ∧ (d.e = 0 → (d.a = 5 → 1 ≤ d.l) ∧ (d.a = 4 → d.l % 256 = 0 ∧ d.l ≤ 16384)) ∧ d.e ≤ 6
theorem OkD.st (n : Nat) : OkD (D.st n) := by refine ⟨?_, ?_, ?_, ?_⟩ <;> simp [D.st]
theorem stepD_ok {d : D} (h : OkD d) (c : UInt8) : OkD (stepD d c) := by
 obtain ⟨a, l, n, e⟩ := d
 obtain ⟨h1, h2, h3, h4⟩ := h
 have hc := c.toNat_lt
 simp only at h1 h2 h3 h4
 unfold stepD OkD
 simp only
 by_cases he : e = 0
 · subst he
   have h3 := h3 rfl
   rw [if_neg (by simp)]
   repeat' split
   all_goals
     refine ⟨?_, ?_, ?_, ?_⟩ <;> simp only <;> try omega
     try (intro _; constructor <;> omega)
 · rw [if_pos he]
   exact ⟨h1, h2, fun h => absurd h he, h4⟩
theorem stepD_n (d : D) (c : UInt8) : (stepD d c).n ≤ d.n + 1 := by
 unfold stepD
 repeat' split
 all_goals simp
theorem stepD_stay {d : D} (h : d.e ≠ 0) (c : UInt8) : stepD d c = d := by unfold stepD; rw [if_pos h]
theorem payD_no {d : D} (h : d.e ≠ 0) : payD d = false := decide_eq_false (fun h2 => h h2.1)
theorem payD_fault {d : D} (c : UInt8) (h : (stepD d c).e ≠ 0) : payD d = false := by
 by_cases he : d.e = 0
 · refine decide_eq_false (fun h2 => h ?_)
   have h5 := h2.2
   unfold stepD
   rw [if_neg (by omega), if_neg (by omega), if_neg (by omega), if_neg (by omega), if_neg (by omega), if_neg (by omega)]
   split <;> rfl
 · exact payD_no he

def runD (d : D) (xs : List UInt8) : D := xs.foldl stepD d
def outD (d : D) : List UInt8 → List UInt8
 | [] => []
 | c :: cs => (if payD d then [c] else []) ++ outD (stepD d c) cs
theorem runD_nil (d : D) : runD d [] = d := rfl
theorem runD_cons (d : D) (c : UInt8) (cs : List UInt8) : runD d (c :: cs) = runD (stepD d c) cs := rfl
theorem runD_app (d : D) (xs ys : List UInt8) : runD d (xs ++ ys) = runD (runD d xs) ys := by unfold runD; rw [List.foldl_append]
theorem runD_stay {d : D} (h : d.e ≠ 0) (xs : List UInt8) : runD d xs = d := by
 induction xs with
 | nil => rfl
 | cons c cs ih => rw [runD_cons, stepD_stay h, ih]
theorem outD_app (d : D) (xs ys : List UInt8) : outD d (xs ++ ys) = outD d xs ++ outD (runD d xs) ys := by
 induction xs generalizing d with
 | nil => rfl
 | cons c cs ih => rw [List.cons_append, outD, outD, ih, runD_cons, List.append_assoc]
theorem e_of {d : D} {xs : List UInt8} (h : (runD d xs).e = 0) : d.e = 0 := by
 rcases Nat.eq_zero_or_pos d.e with h0 | h0
 · exact h0
 · rw [runD_stay (by omega)] at h; exact h
def hdrS (k : Nat) : List UInt8 := [22, 3, 1, UInt8.ofNat (k / 256), UInt8.ofNat (k % 256)]
theorem hdrS_length (k : Nat) : (hdrS k).length = 5 := rfl
def frameS (m : Nat) (x : List UInt8) : List UInt8 :=
 if _h : x = [] then [] else hdrS (min x.length (m + 1)) ++ x.take (m + 1) ++ frameS m (x.drop (m + 1))
termination_by x.length
decreasing_by
 have : 0 < x.length := List.length_pos_iff.2 (by assumption)
 rw [List.length_drop]; omega
theorem frameS_nil (m : Nat) : frameS m [] = [] := by rw [frameS]; simp
theorem frameS_cons (m : Nat) (x : List UInt8) (h : x ≠ []) : frameS m x = hdrS (min x.length (m + 1)) ++ x.take (m + 1) ++ frameS m (x.drop (m + 1)) := by
 rw [frameS, dif_neg h]

theorem run_hdr (k n : Nat) (h1 : 1 ≤ k) (h2 : k ≤ 16384) : runD (D.st n) (hdrS k) = ⟨5, k, n, 0⟩ ∧ outD (D.st n) (hdrS k) = [] := by
 have e1 : (UInt8.ofNat (k / 256)).toNat = k / 256 := by rw [UInt8.toNat_ofNat']; omega
 have e2 : (UInt8.ofNat (k % 256)).toNat = k % 256 := by rw [UInt8.toNat_ofNat']; omega
 have s1 : stepD ⟨0, 0, n, 0⟩ 22 = ⟨1, 0, n, 0⟩ := rfl
 have s2 : stepD ⟨1, 0, n, 0⟩ 3 = ⟨2, 0, n, 0⟩ := rfl
 have s3 : stepD ⟨2, 0, n, 0⟩ 1 = ⟨3, 0, n, 0⟩ := rfl
 have s4 : stepD ⟨3, 0, n, 0⟩ (UInt8.ofNat (k / 256)) = ⟨4, k / 256 * 256, n, 0⟩ := by
   unfold stepD
   simp only [e1]
   rw [if_neg (by simp), if_neg (by simp), if_neg (by simp), if_neg (by simp), if_pos trivial, if_pos (by omega)]
 have s5 : stepD ⟨4, k / 256 * 256, n, 0⟩ (UInt8.ofNat (k % 256)) = ⟨5, k, n, 0⟩ := by
   unfold stepD
   simp only [e2]
   rw [show k / 256 * 256 + k % 256 = k from by omega]
   rw [if_neg (by simp), if_neg (by simp), if_neg (by simp), if_neg (by simp), if_neg (by simp), if_pos trivial, if_pos (by omega)]
 unfold D.st hdrS
 refine ⟨by rw [runD_cons, s1, runD_cons, s2, runD_cons, s3, runD_cons, s4, runD_cons, s5, runD_nil], ?_⟩
 rw [outD, s1, outD, s2, outD, s3, outD, s4, outD, s5, outD]
 simp [payD]
theorem run_pay (k n : Nat) (xs : List UInt8) (h : xs.length < k) : runD ⟨5, k, n, 0⟩ xs = ⟨5, k - xs.length, n, 0⟩ ∧ outD ⟨5, k, n, 0⟩ xs = xs := by
 induction xs generalizing k with
 | nil => exact ⟨rfl, rfl⟩
 | cons c cs ih =>
   rw [List.length_cons] at h
   have s : stepD ⟨5, k, n, 0⟩ c = ⟨5, k - 1, n, 0⟩ := by
     unfold stepD
     rw [if_neg (by simp), if_neg (by simp), if_neg (by simp), if_neg (by simp), if_neg (by simp), if_neg (by simp), if_neg (by show ¬ k = 1; omega)]
   obtain ⟨i1, i2⟩ := ih (k - 1) (by omega)
   refine ⟨by rw [runD_cons, s, i1, List.length_cons]; congr 1; omega, ?_⟩
   rw [outD, s, i2]
   rfl
theorem run_payload (n : Nat) (xs : List UInt8) (h : xs ≠ []) : runD ⟨5, xs.length, n, 0⟩ xs = D.st (n + 1) ∧ outD ⟨5, xs.length, n, 0⟩ xs = xs := by
 obtain ⟨ys, c, rfl⟩ : ∃ ys c, xs = ys ++ [c] := by
   rcases List.eq_nil_or_concat xs with h0 | ⟨ys, c, h1⟩
   · exact absurd h0 h
   · exact ⟨ys, c, by rw [h1]; simp⟩
 have hl : (ys ++ [c]).length = ys.length + 1 := by simp
 obtain ⟨i1, i2⟩ := run_pay (ys.length + 1) n ys (by omega)
 have s : stepD ⟨5, 1, n, 0⟩ c = D.st (n + 1) := rfl
 rw [hl, runD_app, outD_app, i1, i2, show ys.length + 1 - ys.length = 1 from by omega]
 exact ⟨s, rfl⟩
def recsN (m : Nat) (x : List UInt8) : Nat := (x.length + m) / (m + 1)
theorem recsN_cons (m : Nat) (x : List UInt8) (h : x ≠ []) : recsN m x = recsN m (x.drop (m + 1)) + 1 := by
 have hp : 0 < x.length := List.length_pos_iff.2 h
 unfold recsN
 rw [List.length_drop]
 rcases Nat.le_total x.length (m + 1) with hle | hle
 · rw [Nat.sub_eq_zero_of_le hle, Nat.zero_add, Nat.div_eq_of_lt (by omega : m < m + 1)]
   have : x.length + m = (x.length - 1) + (m + 1) := by omega
   rw [this, Nat.add_div_right _ (by omega), Nat.div_eq_of_lt (by omega)]
 · have : x.length + m = (x.length - (m + 1) + m) + (m + 1) := by omega
   rw [this, Nat.add_div_right _ (by omega)]
theorem run_frame (m : Nat) (hm : m + 1 ≤ 16384) (k : Nat) : ∀ (x : List UInt8) (n : Nat), x.length ≤ k → runD (D.st n) (frameS m x) = D.st (n + recsN m x) ∧ outD (D.st n) (frameS m x) = x ∧ (frameS m x).length = x.length + 5 * recsN m x := by
 induction k with
 | zero =>
   intro x n hx
   have : x = [] := List.eq_nil_of_length_eq_zero (by omega)
   subst this
   have h0 : recsN m [] = 0 := by unfold recsN; rw [List.length_nil, Nat.zero_add]; exact Nat.div_eq_of_lt (by omega)
   rw [frameS_nil, h0]
   exact ⟨rfl, rfl, rfl⟩
 | succ k ih =>
   intro x n hx
   by_cases h : x = []
   · subst h
     exact ih [] n (by simp)
   · have hp : 0 < x.length := List.length_pos_iff.2 h
     have ht : (x.take (m + 1)).length = min x.length (m + 1) := by rw [List.length_take, Nat.min_comm]
     have htn : x.take (m + 1) ≠ [] := by
       intro e
       rw [e, List.length_nil] at ht
       omega
     obtain ⟨r1, r2⟩ := run_hdr (min x.length (m + 1)) n (by omega) (by omega)
     obtain ⟨p1, p2⟩ := run_payload n (x.take (m + 1)) htn
     rw [ht] at p1 p2
     obtain ⟨i1, i2, i3⟩ := ih (x.drop (m + 1)) (n + 1) (by rw [List.length_drop]; omega)
     rw [frameS_cons m x h, runD_app, runD_app, r1, p1, i1, outD_app, outD_app, runD_app, r1, p1, r2, p2, i2, List.length_append, List.length_append, i3, ht, hdrS_length, recsN_cons m x h, List.length_drop, List.nil_append, List.take_append_drop]
     refine ⟨?_, rfl, ?_⟩
     · congr 1; omega
     · omega
end Go.Proofs.YthfknndjdfofgaaGreatDoor.Rc

/-
 A handshake's first message, plain: a step for each byte, when it is whole, its body, how many bytes are missing. Plain facts, no condition.
-/
namespace Go.Proofs.YthfknndjdfofgaaGreatDoor.Sh

structure M where
 h : Nat
 s : Nat
 b : List UInt8
 e : Nat
def M.st : M := ⟨0, 0, [], 0⟩

def stepM (m : M) (c : UInt8) : M :=
 if m.e ≠ 0 then m
 else if m.h = 0 then (if c.toNat = 1 then ⟨1, m.s, m.b, 0⟩ else ⟨0, m.s, m.b, 4⟩)
 else if m.h = 1 then (if c.toNat * 65536 ≤ 16384 then ⟨2, c.toNat * 65536, m.b, 0⟩ else ⟨1, c.toNat * 65536, m.b, 6⟩)
 else if m.h = 2 then (if c.toNat * 256 ≤ 16384 then ⟨3, c.toNat * 256, m.b, 0⟩ else ⟨2, c.toNat * 256, m.b, 6⟩)
 else if m.h = 3 then (if m.s + c.toNat ≤ 16384 then ⟨4, m.s + c.toNat, m.b, 0⟩ else ⟨3, m.s + c.toNat, m.b, 6⟩)
 else if m.b.length < m.s then ⟨4, m.s, m.b ++ [c], 0⟩ else m
def wantM (m : M) : Nat := if m.e ≠ 0 then 0 else if m.h < 4 then 4 - m.h else m.s - m.b.length
def wholeM (m : M) : Bool := decide (m.e = 0 ∧ wantM m = 0)
def bodyM (m : M) : List UInt8 := if wholeM m then m.b else []
structure OkM (m : M) : Prop where
 h4 : m.h ≤ 4
 sz : m.s ≤ 16711680
 bl : m.b.length ≤ 16384
 er : m.e = 0 ∨ m.e = 4 ∨ m.e = 6
 lo : m.e = 0 → m.h ≤ 2 → m.s = 0
 mid : m.e = 0 → m.h = 3 → m.s % 256 = 0
 few : m.e = 0 → m.s ≤ 16384
 bd : m.e = 0 → m.b.length ≤ m.s
 no : m.h < 4 → m.b = []
theorem OkM.st : OkM M.st := by
 refine ⟨?_, ?_, ?_, ?_, ?_, ?_, ?_, ?_, ?_⟩ <;> simp [M.st]
theorem stepM_ok {m : M} (k : OkM m) (c : UInt8) : OkM (stepM m c) := by
 obtain ⟨h, s, b, e⟩ := m
 have k' := k
 obtain ⟨h4, sz, bl, er, lo, mid, few, bd, no⟩ := k
 have hc := c.toNat_lt
 simp only at h4 sz bl er lo mid few bd no
 by_cases he : e = 0
 · subst he
   have lo := lo rfl
   have mid := mid rfl
   have few := few rfl
   have bd := bd rfl
   unfold stepM
   simp only
   rw [if_neg (by simp)]
   by_cases h3 : h < 4
   · have hb := no h3
     subst hb
     repeat' split
     all_goals first
       | exact k'
       | omega
       | (refine ⟨?_, ?_, ?_, ?_, ?_, ?_, ?_, ?_, ?_⟩ <;> simp only [List.length_nil] <;> intros <;> first | omega | rfl | (simp at *; done) | (simp at *; omega))
   · obtain rfl : h = 4 := by omega
     rw [if_neg (by simp), if_neg (by simp), if_neg (by simp), if_neg (by simp)]
     split
     · refine ⟨?_, ?_, ?_, ?_, ?_, ?_, ?_, ?_, ?_⟩ <;> simp only [List.length_append, List.length_cons, List.length_nil] <;> intros <;> first | omega | (simp at *; done)
     · exact k'
 · have : stepM ⟨h, s, b, e⟩ c = ⟨h, s, b, e⟩ := by unfold stepM; rw [if_pos he]
   rw [this]
   exact k'
theorem stepM_bad {m : M} (h : m.e ≠ 0) (c : UInt8) : stepM m c = m := by unfold stepM; rw [if_pos h]
theorem stepM_done {m : M} (h4 : m.h = 4) (h : m.s ≤ m.b.length) (c : UInt8) : stepM m c = m := by
 unfold stepM
 split
 · rfl
 · rw [if_neg (by omega), if_neg (by omega), if_neg (by omega), if_neg (by omega), if_neg (by omega)]
theorem stepM_body {m : M} (he : m.e = 0) (h4 : m.h = 4) (h : m.b.length < m.s) (c : UInt8) : stepM m c = ⟨4, m.s, m.b ++ [c], 0⟩ := by
 unfold stepM
 rw [if_neg (by omega), if_neg (by omega), if_neg (by omega), if_neg (by omega), if_neg (by omega), if_pos h]
theorem whole_bad {m : M} (h : m.e ≠ 0) : wholeM m = false := decide_eq_false (fun k => h k.1)
theorem whole_iff {m : M} (k : OkM m) : wholeM m = true ↔ m.e = 0 ∧ m.h = 4 ∧ m.b.length = m.s := by
 unfold wholeM
 rw [decide_eq_true_iff]
 have := k.bd
 have := k.h4
 constructor
 · rintro ⟨h1, h2⟩
   unfold wantM at h2
   rw [if_neg (by omega)] at h2
   split at h2
   · omega
   · exact ⟨h1, by omega, by have := k.bd h1; omega⟩
 · rintro ⟨h1, h2, h3⟩
   refine ⟨h1, ?_⟩
   unfold wantM
   rw [if_neg (by omega), if_neg (by omega)]
   omega
theorem whole_stay {m : M} (k : OkM m) (h : wholeM m = true) (c : UInt8) : stepM m c = m := by
 obtain ⟨_, h2, h3⟩ := (whole_iff k).1 h
 exact stepM_done h2 (by omega) c

def runM (m : M) (xs : List UInt8) : M := xs.foldl stepM m
theorem runM_nil (m : M) : runM m [] = m := rfl
theorem runM_cons (m : M) (c : UInt8) (cs : List UInt8) : runM m (c :: cs) = runM (stepM m c) cs := rfl
theorem runM_app (m : M) (xs ys : List UInt8) : runM m (xs ++ ys) = runM (runM m xs) ys := by unfold runM; rw [List.foldl_append]
theorem runM_ok {m : M} (h : OkM m) (xs : List UInt8) : OkM (runM m xs) := by
 induction xs generalizing m with
 | nil => exact h
 | cons c cs ih => exact ih (stepM_ok h c)
end Go.Proofs.YthfknndjdfofgaaGreatDoor.Sh

/-
 Contracts of package be's small functions over this seat's translation: clamp, tells, grown.
-/
namespace Go.Proofs.YthfknndjdfofgaaGreatDoor.Be
open Go.RowKit Go.Proofs.YthfknndjdfofgaaGreatDoor.Wd

def clampI (n : Int) : Int := if n < 1 then 1 else if 4 < n then 4 else n
theorem clampI_bd (n : Int) : 1 ≤ clampI n ∧ clampI n ≤ 4 := by unfold clampI; split <;> (try split) <;> omega

theorem clamp_any (n : Int) (w : World) : Calls Tryz.prog 94 #[.int .i64 n] w fun e w' => e = .returned (.int .i64 (clampI n)) ∧ w = w' := by
 by_cases h1 : n < 1
 · go_enter Tryz.func94, Tryz.ntmps94
   go_wp2
   go_ret
   exact ⟨by simp [clampI, h1], rfl⟩
 · by_cases h4 : 4 < n
   · go_enter Tryz.func94, Tryz.ntmps94
     go_wp2
     go_ret
     exact ⟨by simp [clampI, h1, h4], rfl⟩
   · go_enter Tryz.func94, Tryz.ntmps94
     go_wp2
     go_ret
     exact ⟨by unfold clampI; rw [if_neg (by omega), if_neg (by omega)]; rfl, rfl⟩

theorem info8 : (Tryz.prog.info? 5).map (fun i => (i.zero, i.size, i.bytes)) = some (some (.int .u8 0), 1, 1) := by kernel_rfl

theorem made_eq (n : Nat) : madeCells #[.int .u8 0] n = (cellsOf (List.replicate n 0)).toArray := by
 rw [cellsOf_zero, ← toList_madeCells_one]

theorem splice_zero {α : Type} (L cs : List α) : splice L 0 cs = cs ++ L.drop cs.length := by simp [splice]

theorem grown_cells (n more : Nat) (xs : List UInt8) (h : xs.length = n) : splice (cellsOf (List.replicate (n + more) 0)) 0 (cellsOf xs) = cellsOf (xs ++ List.replicate more 0) := by
 subst h
 rw [splice_zero, cellsOf_length, cellsOf_append, cellsOf_zero, cellsOf_zero, List.drop_replicate]
 congr 2
 omega

set_option maxHeartbeats 400000 in
theorem grown_any (A : Option Addr) (n c more : Nat) (xs : List UInt8) (w : World) (hs : Src w A n xs) (hn : n + more ≤ 140737488355328) :
   Calls Tryz.prog 96 #[.slice A n c, .int .i64 (more : Int)] w fun e w' => e = .returned (.slice (some ⟨w.heap.size, 0, none⟩) (n + more) (n + more)) ∧
     Blk w' w.heap.size 5 (cellsOf (xs ++ List.replicate more 0)).toArray ∧ Below w.heap.size w w' := by
 obtain ⟨i0, hi, hz0, hz1, hz2⟩ := info_parts info8
 have hmk : ∀ u : World, (Instr.makeSlice 22 (.int .i64 ((n : Int) + (more : Int))) (.int .i64 ((n : Int) + (more : Int)))).run Tryz.prog u =
     .ok (.slice (some ⟨u.heap.size, 0, none⟩) (n + more) (n + more)) (u.alloc (.cells (cellsOf (List.replicate (n + more) 0)).toArray 5)) := fun u => by
   have h := run_make (P := Tryz.prog) u 22 5 i0 (.int .u8 0) Tryz.underlying22 hi hz0 .i64 .i64 ((n : Int) + (more : Int)) ((n : Int) + (more : Int)) (by omega) (Int.le_refl _) (by rw [hz2]; omega) (by omega)
   have e : ((n : Int) + (more : Int)).toNat = n + more := by omega
   rw [e] at h
   rw [← made_eq]
   simpa [hz1, Value.cells] using h
 have hb0 : Below w.heap.size w (w.alloc (.cells (cellsOf (List.replicate (n + more) 0)).toArray 5)) := (Below.refl _ _).alloc (Nat.le_refl _) _
 have hmin : (cellsOf xs).length = Nat.min n (n + more) := by rw [cellsOf_length, hs.1]; exact (Nat.min_eq_left (by omega)).symm
 have hfit : 0 + (cellsOf xs).length ≤ (cellsOf (List.replicate (n + more) 0)).length := by rw [cellsOf_length, cellsOf_length, List.length_replicate, hs.1]; omega
 have hpos : 0 < (cellsOf xs).length → some (⟨w.heap.size, 0, none⟩ : Addr) = some ⟨w.heap.size, 0, none⟩ ∧ ∃ ad, A = some ad ∧ ∀ j v, (cellsOf xs)[j]? = some v →
     (w.alloc (.cells (cellsOf (List.replicate (n + more) 0)).toArray 5)).cell? (ad.add j) = some v := by
   intro h0
   rw [cellsOf_length, hs.1] at h0
   obtain ⟨ad, e, hlt, hc⟩ := hs.2 h0
   refine ⟨rfl, ad, e, fun j v hv => ?_⟩
   rw [hb0.cell (by rw [block_of_add]; exact hlt)]
   simp only [cellsOf, List.getElem?_map, Option.map_eq_some_iff] at hv
   obtain ⟨x, hx, rfl⟩ := hv
   exact hc j x hx
 have hfin := grown_cells n more xs hs.1
 have Hfin := Lib.hid hfin
 have Hmin := Lib.hid hmin
 have Hpos := Lib.hid hpos
 have Hone := Lib.hid (cellsOf_one xs)
 clear hfin hmin hpos
 go_enter Tryz.func96, Tryz.ntmps96
 go_wp2_with ((with_reducible refine wpList_copy_splice rfl (.tmp 11) (.tmp 12) 22 22 rfl 5 Tryz.underlying22 (by kernel_rfl) _ _ _ _ _ _ rfl rfl w.heap.size 0 (cellsOf (List.replicate (n + more) 0)) 5 (heap_alloc_new w _) (cellsOf xs) Hmin.out Hpos.out hfit Hone.out w.heap.size w hb0 (Nat.le_refl _) ?_); intro w2 HG2 hB2)
 go_ret
 refine ⟨rfl, ?_, hB2⟩
 have := HG2.out
 rw [Hfin.out] at this
 exact this
end Go.Proofs.YthfknndjdfofgaaGreatDoor.Be

/-
 Contracts of package be over this seat's translation: tells, lay, Put, Vec.
-/
namespace Go.Proofs.YthfknndjdfofgaaGreatDoor.Be
open Go.RowKit Go.Proofs.YthfknndjdfofgaaGreatDoor.Wd

def byteOf (n : Int) : UInt8 := UInt8.ofNat (n % 256).toNat
def bytesOf (n : Int) : Nat → List UInt8
 | 0 => []
 | k + 1 => bytesOf (n / 256) k ++ [byteOf n]
theorem bytesOf_length (n : Int) (k : Nat) : (bytesOf n k).length = k := by
 induction k generalizing n with
 | zero => rfl
 | succ k ih => simp [bytesOf, ih]
theorem div_pow (n : Int) (j : Nat) : n / 256 / 256 ^ j = n / 256 ^ (j + 1) := by
 rw [Int.ediv_ediv_of_nonneg (by omega), Int.pow_succ, Int.mul_comm]
theorem bytesOf_cons (n : Int) (j : Nat) : bytesOf n (j + 1) = byteOf (n / 256 ^ j) :: bytesOf n j := by
 induction j generalizing n with
 | zero => simp [bytesOf]
 | succ j ih =>
   rw [bytesOf, ih (n / 256), div_pow]
   rfl
end Go.Proofs.YthfknndjdfofgaaGreatDoor.Be

/-
 Contracts of be.Put and be.Vec over this seat's translation.
-/
namespace Go.Proofs.YthfknndjdfofgaaGreatDoor.Be
open Go.RowKit Go.Proofs.YthfknndjdfofgaaGreatDoor.Wd

end Go.Proofs.YthfknndjdfofgaaGreatDoor.Be
