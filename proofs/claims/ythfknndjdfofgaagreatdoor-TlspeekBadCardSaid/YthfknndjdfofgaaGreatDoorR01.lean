/-
 Words for memory, used by the contracts of this seat: a block that is known whole, a row of bytes that a slice leads to. Plain lemmas, no condition.
-/
import Derived.Test.YthfknndjdfofgaaGreatDoorRows
import Derived.WalkKit
import Derived.Below
import Derived.Laws.OwnMore
import Derived.Deep.Draws
import Derived.Laws.Rows
import Derived.Lib.Hide
import Derived.Laws.CopyOwn
import Derived.WalkLawsBesides
import Derived.WalkSpells
import Derived.Laws.AppendOwn
import Derived.Laws.BytesArg
import Derived.Lib.SlBytesConst
import Derived.Laws.BitsAllLaws
import Derived.Laws.BitsLemmas
namespace Go.Proofs.YthfknndjdfofgaaGreatDoor.Wd
open Go.RowKit

def b8 (c : UInt8) : Value := .int .u8 (c.toNat : Int)
def cellsOf (xs : List UInt8) : List Value := xs.map b8
theorem cellsOf_length (xs : List UInt8) : (cellsOf xs).length = xs.length := by simp [cellsOf]
theorem cellsOf_append (xs ys : List UInt8) : cellsOf (xs ++ ys) = cellsOf xs ++ cellsOf ys := by simp [cellsOf]
theorem cellsOf_one (xs : List UInt8) : ∀ v ∈ cellsOf xs, v.oneCell' = true := by
 intro v hv
 simp only [cellsOf, List.mem_map] at hv
 obtain ⟨c, _, rfl⟩ := hv
 rfl
theorem cellsOf_get {xs : List UInt8} {j : Nat} {c : UInt8} (h : xs[j]? = some c) : (cellsOf xs)[j]? = some (b8 c) := by
 simp [cellsOf, List.getElem?_map, h]
theorem cellsOf_zero (n : Nat) : cellsOf (List.replicate n 0) = List.replicate n (.int .u8 0) := by simp [cellsOf, b8]

def Blk (w : World) (g : Nat) (t : TypeId) (cs : Array Value) : Prop := w.heap[g]? = some (.cells cs t (0, 0))
section
variable {w w' : World} {g : Nat} {t : TypeId} {cs : Array Value}
theorem Blk.lt (h : Blk w g t cs) : g < w.heap.size := by
 rcases Nat.lt_or_ge g w.heap.size with hlt | hge
 · exact hlt
 · unfold Blk at h; rw [Array.getElem?_eq_none hge] at h; cases h
theorem Blk.heap (h : Blk w g t cs) : w.heap[g]? = some (.cells cs t (0, 0)) := h
theorem Blk.cell (h : Blk w g t cs) (i : Nat) : w.cell? ⟨g, i, none⟩ = cs[i]? := cell_of_row w g i cs t (0, 0) h
theorem Blk.frozen (h : Blk w g t cs) (i : Nat) : w.frozen? ⟨g, i, none⟩ = false := by
 unfold Blk at h
 simp [World.frozen?, h]
theorem Blk.new (w : World) (t : TypeId) (cs : Array Value) : Blk (w.alloc (.cells cs t)) w.heap.size t cs := heap_alloc_new w _
theorem Blk.alloc (h : Blk w g t cs) (o : Obj) : Blk (w.alloc o) g t cs := (Below.heap_alloc w o g h.lt).trans h
theorem Blk.set_ (h : Blk w g t cs) (i : Nat) (u : Value) : Blk (w.setCell ⟨g, i, none⟩ u) g t (cs.setIfInBounds i u) := by
 unfold Blk at h ⊢
 simp [World.setCell, Array.getElem?_modify, h]
theorem Blk.far (h : Blk w g t cs) {p : Addr} (hp : g ≠ p.block) (u : Value) : Blk (w.setCell p u) g t cs := (Below.heap_setCell w p u g hp).trans h
theorem Blk.below {B : Nat} (h : Blk w g t cs) (hb : Below B w w') (hg : g < B) : Blk w' g t cs := (hb.block g hg).trans h
theorem Blk.grown {row : Option Nat} (h : Blk w g t cs) (hb : w.grownBy w' row) (hg : some g ≠ row) : Blk w' g t cs := (hb.block g h.lt hg).trans h
theorem Blk.ne_ {g' : Nat} {t' : TypeId} {cs' : Array Value} (h : Blk w g t cs) (h' : Blk w g' t' cs') (hne : t ≠ t') : g ≠ g' := by
 rintro rfl
 unfold Blk at h h'
 rw [h] at h'
 injection h' with h'
 injection h' with _ ht
 exact hne ht
end

theorem only_alloc {a w : World} {row : Option Nat} (h : a.grownBy w row) (o : Obj) : a.grownBy (w.alloc o) row :=
 ⟨h.os, h.tape, h.output, Nat.le_trans h.size (by simp), fun i hi hne => (Below.heap_alloc w o i (Nat.lt_of_lt_of_le hi h.size)).trans (h.block i hi hne)⟩
theorem only_setCell {a w : World} {g : Nat} (h : a.grownBy w (some g)) {p : Addr} (hp : p.block = g ∨ a.heap.size ≤ p.block) (u : Value) : a.grownBy (w.setCell p u) (some g) :=
 ⟨h.os, h.tape, h.output, by simpa [World.setCell] using h.size, fun i hi hne => (Below.heap_setCell w p u i (by
   rintro rfl
   rcases hp with hp | hp
   · exact hne (by rw [hp])
   · omega)).trans (h.block i hi hne)⟩
theorem only_of_below {a w : World} (h : Below a.heap.size a w) (row : Option Nat) : a.grownBy w row := ⟨h.os, h.tape, h.output, h.size, fun i hi _ => h.block i hi⟩
theorem only_refl (w : World) (row : Option Nat) : w.grownBy w row := World.grownBy.refl w _
theorem only_trans {a b c : World} {row : Option Nat} (h : a.grownBy b row) (k : b.grownBy c row) : a.grownBy c row :=
 ⟨k.os.trans h.os, k.tape.trans h.tape, k.output.trans h.output, Nat.le_trans h.size k.size, fun i hi hne => (k.block i (Nat.lt_of_lt_of_le hi h.size) hne).trans (h.block i hi hne)⟩
theorem below_of_only {B : Nat} {a b c : World} {g : Nat} (h : Below B a b) (k : b.grownBy c (some g)) (hB : B ≤ b.heap.size) (hg : B ≤ g) : Below B a c :=
 h.grown k hB (fun x hx => by injection hx with hx; omega)

def Src (w : World) (A : Option Addr) (n : Nat) (xs : List UInt8) : Prop :=
 xs.length = n ∧ (0 < n → ∃ ad, A = some ad ∧ ad.block < w.heap.size ∧ ∀ j c, xs[j]? = some c → w.cell? (ad.add j) = some (b8 c))
theorem block_of_add (a : Addr) (n : Nat) : (a.add n).block = a.block := by unfold Addr.add; split <;> rfl
theorem add_of_add (a : Addr) (i j : Nat) : (a.add i).add j = a.add (i + j) := by
 unfold Addr.add
 by_cases hi : i = 0 <;> by_cases hj : j = 0 <;> simp [hi, hj, Nat.add_assoc]
theorem add_none (g off j : Nat) : (Addr.mk g off none).add j = ⟨g, off + j, none⟩ := by
 unfold Addr.add; by_cases hj : j = 0 <;> simp [hj]
theorem Src.nil (w : World) : Src w none 0 [] := ⟨rfl, fun h => absurd h (by omega)⟩
theorem Src.below {w w' : World} {A : Option Addr} {n : Nat} {xs : List UInt8} (h : Src w A n xs) (hb : Below w.heap.size w w') : Src w' A n xs :=
 ⟨h.1, fun hn => by
   obtain ⟨ad, e, hlt, hc⟩ := h.2 hn
   exact ⟨ad, e, Nat.lt_of_lt_of_le hlt hb.size, fun j c hj => (hb.cell (by rw [block_of_add]; exact hlt)).trans (hc j c hj)⟩⟩
theorem Src.of_blk {w : World} {g off t : Nat} {cs : Array Value} {xs : List UInt8} (h : Blk w g t cs) (hc : ∀ j c, xs[j]? = some c → cs[off + j]? = some (b8 c)) :
   Src w (some ⟨g, off, none⟩) xs.length xs :=
 ⟨rfl, fun _ => ⟨_, rfl, h.lt, fun j c hj => by rw [add_none, h.cell, hc j c hj]⟩⟩

theorem Src.marked (w : World) (C : Array Value) (t : TypeId) (fr : Nat × Nat) (xs : List UInt8) (h : C = (cellsOf xs).toArray) : Src (w.alloc (.cells C t fr)) (some ⟨w.heap.size, 0, none⟩) xs.length xs :=
 ⟨rfl, fun _ => ⟨_, rfl, by simp, fun j c hj => by
   rw [add_none, Nat.zero_add, World.cell?_alloc_mark, h]
   simpa using cellsOf_get hj⟩⟩
theorem Src.alloc {w : World} {A : Option Addr} {n : Nat} {xs : List UInt8} (h : Src w A n xs) (o : Obj) : Src (w.alloc o) A n xs := h.below ((Below.refl _ _).alloc (Nat.le_refl _) _)

def Sl (w : World) (v : Value) (xs : List UInt8) : Prop :=
 (xs = [] ∧ v = .slice none 0 0) ∨ ∃ g, v = .slice (some ⟨g, 0, none⟩) xs.length xs.length ∧ Blk w g 5 (cellsOf xs).toArray
theorem Sl.src {w : World} {v : Value} {xs : List UInt8} (h : Sl w v xs) : ∃ A c, v = .slice A xs.length c ∧ xs.length ≤ c ∧ Src w A xs.length xs := by
 rcases h with ⟨rfl, rfl⟩ | ⟨g, rfl, hb⟩
 · exact ⟨none, 0, rfl, Nat.le_refl _, Src.nil w⟩
 · exact ⟨_, _, rfl, Nat.le_refl _, Src.of_blk hb (fun j c hj => by simpa using cellsOf_get hj)⟩
theorem Sl.below {w w' : World} {v : Value} {xs : List UInt8} (h : Sl w v xs) (hb : Below w.heap.size w w') : Sl w' v xs := by
 rcases h with ⟨rfl, rfl⟩ | ⟨g, rfl, hg⟩
 · exact .inl ⟨rfl, rfl⟩
 · exact .inr ⟨g, rfl, hg.below hb hg.lt⟩
theorem conv_src {P : Program} {w : World} {A : Option Addr} {n c : Nat} {xs : List UInt8} (h : Src w A n xs) {src e dst : TypeId} (hs : P.underlying src = some (.slice e)) (he : P.underlying e = some (.int .u8)) (hd : P.underlying dst = some .string) :
   (convert src dst (.slice A n c)).run P w = .ok (.string ⟨xs.toArray⟩) w := by
 obtain ⟨hl, hc⟩ := h
 subst hl
 cases A with
 | none =>
   have : xs = [] := by
     cases xs with
     | nil => rfl
     | cons x xs => obtain ⟨ad, e, _⟩ := hc (by simp); cases e
   subst this
   exact run_convert_bytes_nil w src e hs he 0 c dst hd
 | some ad =>
   have hcell : ∀ (j : Nat) v, ((xs.map fun x => (x.toNat : Int)).map (Value.int .u8))[j]? = some v → w.cell? (ad.add j) = some v := by
     intro j v hj
     rw [List.map_map, List.getElem?_map] at hj
     cases hx : xs[j]? with
     | none => rw [hx] at hj; cases hj
     | some x =>
       rw [hx] at hj
       injection hj with hj
       subst hj
       have hp : 0 < xs.length := by have := (List.getElem?_eq_some_iff.1 hx).1; omega
       obtain ⟨ad', e, _, hc'⟩ := hc hp
       injection e with e
       subst e
       exact hc' j x hx
   have hl := run_loadCells_list (P := P) w ad _ hcell
   rw [List.length_map, List.length_map] at hl
   rw [run_convert_bytes_string w src dst e _ _ c hs he hd, run_bytesToString w ad _ c _ hl, foldl_push_bytes]
   congr 2
   simp [ByteArray.empty, ByteArray.emptyWithCapacity, Function.comp_def]
   rfl
end Go.Proofs.YthfknndjdfofgaaGreatDoor.Wd

/-
 Rows of records, plain: a step for each byte, what is taken apart, what is framed. Plain facts, no condition.
-/
namespace Go.Proofs.YthfknndjdfofgaaGreatDoor.Rc

structure D where
 a : Nat
 l : Nat
 n : Nat
 e : Nat
def D.st (n : Nat) : D := ⟨0, 0, n, 0⟩

def stepD (d : D) (c : UInt8) : D :=
 if d.e ≠ 0 then d
 else if d.a = 0 then (if c.toNat = 22 then ⟨1, d.l, d.n, 0⟩ else ⟨0, d.l, d.n, 4⟩)
 else if d.a = 1 then (if c.toNat = 3 then ⟨2, d.l, d.n, 0⟩ else ⟨1, d.l, d.n, 5⟩)
 else if d.a = 2 then (if c.toNat ≤ 4 then ⟨3, d.l, d.n, 0⟩ else ⟨2, d.l, d.n, 5⟩)
 else if d.a = 3 then (if c.toNat * 256 ≤ 16384 then ⟨4, c.toNat * 256, d.n, 0⟩ else ⟨3, c.toNat * 256, d.n, 6⟩)
 else if d.a = 4 then (if 1 ≤ d.l + c.toNat ∧ d.l + c.toNat ≤ 16384 then ⟨5, d.l + c.toNat, d.n, 0⟩ else ⟨4, d.l + c.toNat, d.n, 6⟩)
 else if d.l = 1 then ⟨0, 0, d.n + 1, 0⟩ else ⟨5, d.l - 1, d.n, 0⟩
def payD (d : D) : Bool := decide (d.e = 0 ∧ 5 ≤ d.a)
def OkD (d : D) : Prop := d.a ≤ 5 ∧ d.l ≤ 65535 ∧ (d.e = 0 → (d.a = 5 → 1 ≤ d.l) ∧ (d.a = 4 → d.l % 256 = 0 ∧ d.l ≤ 16384)) ∧ d.e ≤ 6
theorem OkD.st (n : Nat) : OkD (D.st n) := by refine ⟨?_, ?_, ?_, ?_⟩ <;> simp [D.st]
theorem stepD_ok {d : D} (h : OkD d) (c : UInt8) : OkD (stepD d c) := by
 obtain ⟨a, l, n, e⟩ := d
 obtain ⟨h1, h2, h3, h4⟩ := h
 have hc := c.toNat_lt
 simp only at h1 h2 h3 h4
 unfold stepD OkD
 simp only
 by_cases he : e = 0
 · subst he
   have h3 := h3 rfl
   rw [if_neg (by simp)]
   repeat' split
   all_goals
     refine ⟨?_, ?_, ?_, ?_⟩ <;> simp only <;> try omega
     try (intro _; constructor <;> omega)
 · rw [if_pos he]
   exact ⟨h1, h2, fun h => absurd h he, h4⟩
theorem stepD_n (d : D) (c : UInt8) : (stepD d c).n ≤ d.n + 1 := by
 unfold stepD
 repeat' split
 all_goals simp
theorem stepD_stay {d : D} (h : d.e ≠ 0) (c : UInt8) : stepD d c = d := by unfold stepD; rw [if_pos h]
theorem payD_no {d : D} (h : d.e ≠ 0) : payD d = false := decide_eq_false (fun h2 => h h2.1)
theorem payD_fault {d : D} (c : UInt8) (h : (stepD d c).e ≠ 0) : payD d = false := by
 by_cases he : d.e = 0
 · refine decide_eq_false (fun h2 => h ?_)
   have h5 := h2.2
   unfold stepD
   rw [if_neg (by omega), if_neg (by omega), if_neg (by omega), if_neg (by omega), if_neg (by omega), if_neg (by omega)]
   split <;> rfl
 · exact payD_no he

def runD (d : D) (xs : List UInt8) : D := xs.foldl stepD d
def outD (d : D) : List UInt8 → List UInt8
 | [] => []
 | c :: cs => (if payD d then [c] else []) ++ outD (stepD d c) cs
theorem runD_nil (d : D) : runD d [] = d := rfl
theorem runD_cons (d : D) (c : UInt8) (cs : List UInt8) : runD d (c :: cs) = runD (stepD d c) cs := rfl
theorem runD_app (d : D) (xs ys : List UInt8) : runD d (xs ++ ys) = runD (runD d xs) ys := by unfold runD; rw [List.foldl_append]
theorem runD_stay {d : D} (h : d.e ≠ 0) (xs : List UInt8) : runD d xs = d := by
 induction xs with
 | nil => rfl
 | cons c cs ih => rw [runD_cons, stepD_stay h, ih]
theorem outD_app (d : D) (xs ys : List UInt8) : outD d (xs ++ ys) = outD d xs ++ outD (runD d xs) ys := by
 induction xs generalizing d with
 | nil => rfl
 | cons c cs ih => rw [List.cons_append, outD, outD, ih, runD_cons, List.append_assoc]
theorem e_of {d : D} {xs : List UInt8} (h : (runD d xs).e = 0) : d.e = 0 := by
 rcases Nat.eq_zero_or_pos d.e with h0 | h0
 · exact h0
 · rw [runD_stay (by omega)] at h; exact h
def hdrS (k : Nat) : List UInt8 := [22, 3, 1, UInt8.ofNat (k / 256), UInt8.ofNat (k % 256)]
theorem hdrS_length (k : Nat) : (hdrS k).length = 5 := rfl
def frameS (m : Nat) (x : List UInt8) : List UInt8 :=
 if _h : x = [] then [] else hdrS (min x.length (m + 1)) ++ x.take (m + 1) ++ frameS m (x.drop (m + 1))
termination_by x.length
decreasing_by
 have : 0 < x.length := List.length_pos_iff.2 (by assumption)
 rw [List.length_drop]; omega
theorem frameS_nil (m : Nat) : frameS m [] = [] := by rw [frameS]; simp
theorem frameS_cons (m : Nat) (x : List UInt8) (h : x ≠ []) : frameS m x = hdrS (min x.length (m + 1)) ++ x.take (m + 1) ++ frameS m (x.drop (m + 1)) := by
 rw [frameS, dif_neg h]

theorem run_hdr (k n : Nat) (h1 : 1 ≤ k) (h2 : k ≤ 16384) : runD (D.st n) (hdrS k) = ⟨5, k, n, 0⟩ ∧ outD (D.st n) (hdrS k) = [] := by
 have e1 : (UInt8.ofNat (k / 256)).toNat = k / 256 := by rw [UInt8.toNat_ofNat']; omega
 have e2 : (UInt8.ofNat (k % 256)).toNat = k % 256 := by rw [UInt8.toNat_ofNat']; omega
 have s1 : stepD ⟨0, 0, n, 0⟩ 22 = ⟨1, 0, n, 0⟩ := rfl
 have s2 : stepD ⟨1, 0, n, 0⟩ 3 = ⟨2, 0, n, 0⟩ := rfl
 have s3 : stepD ⟨2, 0, n, 0⟩ 1 = ⟨3, 0, n, 0⟩ := rfl
 have s4 : stepD ⟨3, 0, n, 0⟩ (UInt8.ofNat (k / 256)) = ⟨4, k / 256 * 256, n, 0⟩ := by
   unfold stepD
   simp only [e1]
   rw [if_neg (by simp), if_neg (by simp), if_neg (by simp), if_neg (by simp), if_pos trivial, if_pos (by omega)]
 have s5 : stepD ⟨4, k / 256 * 256, n, 0⟩ (UInt8.ofNat (k % 256)) = ⟨5, k, n, 0⟩ := by
   unfold stepD
   simp only [e2]
   rw [show k / 256 * 256 + k % 256 = k from by omega]
   rw [if_neg (by simp), if_neg (by simp), if_neg (by simp), if_neg (by simp), if_neg (by simp), if_pos trivial, if_pos (by omega)]
 unfold D.st hdrS
 refine ⟨by rw [runD_cons, s1, runD_cons, s2, runD_cons, s3, runD_cons, s4, runD_cons, s5, runD_nil], ?_⟩
 rw [outD, s1, outD, s2, outD, s3, outD, s4, outD, s5, outD]
 simp [payD]
theorem run_pay (k n : Nat) (xs : List UInt8) (h : xs.length < k) : runD ⟨5, k, n, 0⟩ xs = ⟨5, k - xs.length, n, 0⟩ ∧ outD ⟨5, k, n, 0⟩ xs = xs := by
 induction xs generalizing k with
 | nil => exact ⟨rfl, rfl⟩
 | cons c cs ih =>
   rw [List.length_cons] at h
   have s : stepD ⟨5, k, n, 0⟩ c = ⟨5, k - 1, n, 0⟩ := by
     unfold stepD
     rw [if_neg (by simp), if_neg (by simp), if_neg (by simp), if_neg (by simp), if_neg (by simp), if_neg (by simp), if_neg (by show ¬ k = 1; omega)]
   obtain ⟨i1, i2⟩ := ih (k - 1) (by omega)
   refine ⟨by rw [runD_cons, s, i1, List.length_cons]; congr 1; omega, ?_⟩
   rw [outD, s, i2]
   rfl
theorem run_payload (n : Nat) (xs : List UInt8) (h : xs ≠ []) : runD ⟨5, xs.length, n, 0⟩ xs = D.st (n + 1) ∧ outD ⟨5, xs.length, n, 0⟩ xs = xs := by
 obtain ⟨ys, c, rfl⟩ : ∃ ys c, xs = ys ++ [c] := by
   rcases List.eq_nil_or_concat xs with h0 | ⟨ys, c, h1⟩
   · exact absurd h0 h
   · exact ⟨ys, c, by rw [h1]; simp⟩
 have hl : (ys ++ [c]).length = ys.length + 1 := by simp
 obtain ⟨i1, i2⟩ := run_pay (ys.length + 1) n ys (by omega)
 have s : stepD ⟨5, 1, n, 0⟩ c = D.st (n + 1) := rfl
 rw [hl, runD_app, outD_app, i1, i2, show ys.length + 1 - ys.length = 1 from by omega]
 exact ⟨s, rfl⟩
def recsN (m : Nat) (x : List UInt8) : Nat := (x.length + m) / (m + 1)
theorem recsN_cons (m : Nat) (x : List UInt8) (h : x ≠ []) : recsN m x = recsN m (x.drop (m + 1)) + 1 := by
 have hp : 0 < x.length := List.length_pos_iff.2 h
 unfold recsN
 rw [List.length_drop]
 rcases Nat.le_total x.length (m + 1) with hle | hle
 · rw [Nat.sub_eq_zero_of_le hle, Nat.zero_add, Nat.div_eq_of_lt (by omega : m < m + 1)]
   have : x.length + m = (x.length - 1) + (m + 1) := by omega
   rw [this, Nat.add_div_right _ (by omega), Nat.div_eq_of_lt (by omega)]
 · have : x.length + m = (x.length - (m + 1) + m) + (m + 1) := by omega
   rw [this, Nat.add_div_right _ (by omega)]
theorem run_frame (m : Nat) (hm : m + 1 ≤ 16384) (k : Nat) : ∀ (x : List UInt8) (n : Nat), x.length ≤ k → runD (D.st n) (frameS m x) = D.st (n + recsN m x) ∧ outD (D.st n) (frameS m x) = x ∧ (frameS m x).length = x.length + 5 * recsN m x := by
 induction k with
 | zero =>
   intro x n hx
   have : x = [] := List.eq_nil_of_length_eq_zero (by omega)
   subst this
   have h0 : recsN m [] = 0 := by unfold recsN; rw [List.length_nil, Nat.zero_add]; exact Nat.div_eq_of_lt (by omega)
   rw [frameS_nil, h0]
   exact ⟨rfl, rfl, rfl⟩
 | succ k ih =>
   intro x n hx
   by_cases h : x = []
   · subst h
     exact ih [] n (by simp)
   · have hp : 0 < x.length := List.length_pos_iff.2 h
     have ht : (x.take (m + 1)).length = min x.length (m + 1) := by rw [List.length_take, Nat.min_comm]
     have htn : x.take (m + 1) ≠ [] := by
       intro e
       rw [e, List.length_nil] at ht
       omega
     obtain ⟨r1, r2⟩ := run_hdr (min x.length (m + 1)) n (by omega) (by omega)
     obtain ⟨p1, p2⟩ := run_payload n (x.take (m + 1)) htn
     rw [ht] at p1 p2
     obtain ⟨i1, i2, i3⟩ := ih (x.drop (m + 1)) (n + 1) (by rw [List.length_drop]; omega)
     rw [frameS_cons m x h, runD_app, runD_app, r1, p1, i1, outD_app, outD_app, runD_app, r1, p1, r2, p2, i2, List.length_append, List.length_append, i3, ht, hdrS_length, recsN_cons m x h, List.length_drop, List.nil_append, List.take_append_drop]
     refine ⟨?_, rfl, ?_⟩
     · congr 1; omega
     · omega
end Go.Proofs.YthfknndjdfofgaaGreatDoor.Rc

/-
 A handshake's first message, plain: a step for each byte, when it is whole, its body, how many bytes are missing. Plain facts, no condition.
-/
namespace Go.Proofs.YthfknndjdfofgaaGreatDoor.Sh

structure M where
 h : Nat
 s : Nat
 b : List UInt8
 e : Nat
def M.st : M := ⟨0, 0, [], 0⟩

def stepM (m : M) (c : UInt8) : M :=
 if m.e ≠ 0 then m
 else if m.h = 0 then (if c.toNat = 1 then ⟨1, m.s, m.b, 0⟩ else ⟨0, m.s, m.b, 4⟩)
 else if m.h = 1 then (if c.toNat * 65536 ≤ 16384 then ⟨2, c.toNat * 65536, m.b, 0⟩ else ⟨1, c.toNat * 65536, m.b, 6⟩)
 else if m.h = 2 then (if c.toNat * 256 ≤ 16384 then ⟨3, c.toNat * 256, m.b, 0⟩ else ⟨2, c.toNat * 256, m.b, 6⟩)
 else if m.h = 3 then (if m.s + c.toNat ≤ 16384 then ⟨4, m.s + c.toNat, m.b, 0⟩ else ⟨3, m.s + c.toNat, m.b, 6⟩)
 else if m.b.length < m.s then ⟨4, m.s, m.b ++ [c], 0⟩ else m
def wantM (m : M) : Nat := if m.e ≠ 0 then 0 else if m.h < 4 then 4 - m.h else m.s - m.b.length
def wholeM (m : M) : Bool := decide (m.e = 0 ∧ wantM m = 0)
def bodyM (m : M) : List UInt8 := if wholeM m then m.b else []
structure OkM (m : M) : Prop where
 h4 : m.h ≤ 4
 sz : m.s ≤ 16711680
 bl : m.b.length ≤ 16384
 er : m.e = 0 ∨ m.e = 4 ∨ m.e = 6
 lo : m.e = 0 → m.h ≤ 2 → m.s = 0
 mid : m.e = 0 → m.h = 3 → m.s % 256 = 0
 few : m.e = 0 → m.s ≤ 16384
 bd : m.e = 0 → m.b.length ≤ m.s
 no : m.h < 4 → m.b = []
theorem OkM.st : OkM M.st := by
 refine ⟨?_, ?_, ?_, ?_, ?_, ?_, ?_, ?_, ?_⟩ <;> simp [M.st]
theorem stepM_ok {m : M} (k : OkM m) (c : UInt8) : OkM (stepM m c) := by
 obtain ⟨h, s, b, e⟩ := m
 have k' := k
 obtain ⟨h4, sz, bl, er, lo, mid, few, bd, no⟩ := k
 have hc := c.toNat_lt
 simp only at h4 sz bl er lo mid few bd no
 by_cases he : e = 0
 · subst he
   have lo := lo rfl
   have mid := mid rfl
   have few := few rfl
   have bd := bd rfl
   unfold stepM
   simp only
   rw [if_neg (by simp)]
   by_cases h3 : h < 4
   · have hb := no h3
     subst hb
     repeat' split
     all_goals first
       | exact k'
       | omega
       | (refine ⟨?_, ?_, ?_, ?_, ?_, ?_, ?_, ?_, ?_⟩ <;> simp only [List.length_nil] <;> intros <;> first | omega | rfl | (simp at *; done) | (simp at *; omega))
   · obtain rfl : h = 4 := by omega
     rw [if_neg (by simp), if_neg (by simp), if_neg (by simp), if_neg (by simp)]
     split
     · refine ⟨?_, ?_, ?_, ?_, ?_, ?_, ?_, ?_, ?_⟩ <;> simp only [List.length_append, List.length_cons, List.length_nil] <;> intros <;> first | omega | (simp at *; done)
     · exact k'
 · have : stepM ⟨h, s, b, e⟩ c = ⟨h, s, b, e⟩ := by unfold stepM; rw [if_pos he]
   rw [this]
   exact k'
theorem stepM_bad {m : M} (h : m.e ≠ 0) (c : UInt8) : stepM m c = m := by unfold stepM; rw [if_pos h]
theorem stepM_done {m : M} (h4 : m.h = 4) (h : m.s ≤ m.b.length) (c : UInt8) : stepM m c = m := by
 unfold stepM
 split
 · rfl
 · rw [if_neg (by omega), if_neg (by omega), if_neg (by omega), if_neg (by omega), if_neg (by omega)]
theorem stepM_body {m : M} (he : m.e = 0) (h4 : m.h = 4) (h : m.b.length < m.s) (c : UInt8) : stepM m c = ⟨4, m.s, m.b ++ [c], 0⟩ := by
 unfold stepM
 rw [if_neg (by omega), if_neg (by omega), if_neg (by omega), if_neg (by omega), if_neg (by omega), if_pos h]
theorem whole_bad {m : M} (h : m.e ≠ 0) : wholeM m = false := decide_eq_false (fun k => h k.1)
theorem whole_iff {m : M} (k : OkM m) : wholeM m = true ↔ m.e = 0 ∧ m.h = 4 ∧ m.b.length = m.s := by
 unfold wholeM
 rw [decide_eq_true_iff]
 have := k.bd
 have := k.h4
 constructor
 · rintro ⟨h1, h2⟩
   unfold wantM at h2
   rw [if_neg (by omega)] at h2
   split at h2
   · omega
   · exact ⟨h1, by omega, by have := k.bd h1; omega⟩
 · rintro ⟨h1, h2, h3⟩
   refine ⟨h1, ?_⟩
   unfold wantM
   rw [if_neg (by omega), if_neg (by omega)]
   omega
def runM (m : M) (xs : List UInt8) : M := xs.foldl stepM m
theorem runM_nil (m : M) : runM m [] = m := rfl
theorem runM_cons (m : M) (c : UInt8) (cs : List UInt8) : runM m (c :: cs) = runM (stepM m c) cs := rfl
theorem runM_app (m : M) (xs ys : List UInt8) : runM m (xs ++ ys) = runM (runM m xs) ys := by unfold runM; rw [List.foldl_append]
theorem runM_ok {m : M} (h : OkM m) (xs : List UInt8) : OkM (runM m xs) := by
 induction xs generalizing m with
 | nil => exact h
 | cons c cs ih => exact ih (stepM_ok h c)
end Go.Proofs.YthfknndjdfofgaaGreatDoor.Sh

/-
 Contracts of package be's small functions over this seat's translation: clamp, tells, grown.
-/
namespace Go.Proofs.YthfknndjdfofgaaGreatDoor.Be
open Go.RowKit Go.Proofs.YthfknndjdfofgaaGreatDoor.Wd

def clampI (n : Int) : Int := if n < 1 then 1 else if 4 < n then 4 else n
theorem clampI_bd (n : Int) : 1 ≤ clampI n ∧ clampI n ≤ 4 := by unfold clampI; split <;> (try split) <;> omega

theorem clamp_any (n : Int) (w : World) : Calls Tryz.prog 94 #[.int .i64 n] w fun e w' => e = .returned (.int .i64 (clampI n)) ∧ w = w' := by
 by_cases h1 : n < 1
 · go_enter Tryz.func94, Tryz.ntmps94
   go_wp2
   go_ret
   exact ⟨by simp [clampI, h1], rfl⟩
 · by_cases h4 : 4 < n
   · go_enter Tryz.func94, Tryz.ntmps94
     go_wp2
     go_ret
     exact ⟨by simp [clampI, h1, h4], rfl⟩
   · go_enter Tryz.func94, Tryz.ntmps94
     go_wp2
     go_ret
     exact ⟨by unfold clampI; rw [if_neg (by omega), if_neg (by omega)]; rfl, rfl⟩

theorem info8 : (Tryz.prog.info? 5).map (fun i => (i.zero, i.size, i.bytes)) = some (some (.int .u8 0), 1, 1) := by kernel_rfl

theorem made_eq (n : Nat) : madeCells #[.int .u8 0] n = (cellsOf (List.replicate n 0)).toArray := by
 rw [cellsOf_zero, ← toList_madeCells_one]

theorem splice_zero {α : Type} (L cs : List α) : splice L 0 cs = cs ++ L.drop cs.length := by simp [splice]

theorem grown_cells (n more : Nat) (xs : List UInt8) (h : xs.length = n) : splice (cellsOf (List.replicate (n + more) 0)) 0 (cellsOf xs) = cellsOf (xs ++ List.replicate more 0) := by
 subst h
 rw [splice_zero, cellsOf_length, cellsOf_append, cellsOf_zero, cellsOf_zero, List.drop_replicate]
 congr 2
 omega

set_option maxHeartbeats 400000 in
theorem grown_any (A : Option Addr) (n c more : Nat) (xs : List UInt8) (w : World) (hs : Src w A n xs) (hn : n + more ≤ 140737488355328) :
   Calls Tryz.prog 96 #[.slice A n c, .int .i64 (more : Int)] w fun e w' => e = .returned (.slice (some ⟨w.heap.size, 0, none⟩) (n + more) (n + more)) ∧
     Blk w' w.heap.size 5 (cellsOf (xs ++ List.replicate more 0)).toArray ∧ Below w.heap.size w w' := by
 obtain ⟨i0, hi, hz0, hz1, hz2⟩ := info_parts info8
 have hmk : ∀ u : World, (Instr.makeSlice 22 (.int .i64 ((n : Int) + (more : Int))) (.int .i64 ((n : Int) + (more : Int)))).run Tryz.prog u =
     .ok (.slice (some ⟨u.heap.size, 0, none⟩) (n + more) (n + more)) (u.alloc (.cells (cellsOf (List.replicate (n + more) 0)).toArray 5)) := fun u => by
   have h := run_make (P := Tryz.prog) u 22 5 i0 (.int .u8 0) Tryz.underlying22 hi hz0 .i64 .i64 ((n : Int) + (more : Int)) ((n : Int) + (more : Int)) (by omega) (Int.le_refl _) (by rw [hz2]; omega) (by omega)
   have e : ((n : Int) + (more : Int)).toNat = n + more := by omega
   rw [e] at h
   rw [← made_eq]
   simpa [hz1, Value.cells] using h
 have hb0 : Below w.heap.size w (w.alloc (.cells (cellsOf (List.replicate (n + more) 0)).toArray 5)) := (Below.refl _ _).alloc (Nat.le_refl _) _
 have hmin : (cellsOf xs).length = Nat.min n (n + more) := by rw [cellsOf_length, hs.1]; exact (Nat.min_eq_left (by omega)).symm
 have hfit : 0 + (cellsOf xs).length ≤ (cellsOf (List.replicate (n + more) 0)).length := by rw [cellsOf_length, cellsOf_length, List.length_replicate, hs.1]; omega
 have hpos : 0 < (cellsOf xs).length → some (⟨w.heap.size, 0, none⟩ : Addr) = some ⟨w.heap.size, 0, none⟩ ∧ ∃ ad, A = some ad ∧ ∀ j v, (cellsOf xs)[j]? = some v →
     (w.alloc (.cells (cellsOf (List.replicate (n + more) 0)).toArray 5)).cell? (ad.add j) = some v := by
   intro h0
   rw [cellsOf_length, hs.1] at h0
   obtain ⟨ad, e, hlt, hc⟩ := hs.2 h0
   refine ⟨rfl, ad, e, fun j v hv => ?_⟩
   rw [hb0.cell (by rw [block_of_add]; exact hlt)]
   simp only [cellsOf, List.getElem?_map, Option.map_eq_some_iff] at hv
   obtain ⟨x, hx, rfl⟩ := hv
   exact hc j x hx
 have hfin := grown_cells n more xs hs.1
 have Hfin := Lib.hid hfin
 have Hmin := Lib.hid hmin
 have Hpos := Lib.hid hpos
 have Hone := Lib.hid (cellsOf_one xs)
 clear hfin hmin hpos
 go_enter Tryz.func96, Tryz.ntmps96
 go_wp2_with ((with_reducible refine wpList_copy_splice rfl (.tmp 11) (.tmp 12) 22 22 rfl 5 Tryz.underlying22 (by kernel_rfl) _ _ _ _ _ _ rfl rfl w.heap.size 0 (cellsOf (List.replicate (n + more) 0)) 5 (heap_alloc_new w _) (cellsOf xs) Hmin.out Hpos.out hfit Hone.out w.heap.size w hb0 (Nat.le_refl _) ?_); intro w2 HG2 hB2)
 go_ret
 refine ⟨rfl, ?_, hB2⟩
 have := HG2.out
 rw [Hfin.out] at this
 exact this
end Go.Proofs.YthfknndjdfofgaaGreatDoor.Be

/-
 Contracts of package be over this seat's translation: tells, lay, Put, Vec.
-/
namespace Go.Proofs.YthfknndjdfofgaaGreatDoor.Be
open Go.RowKit Go.Proofs.YthfknndjdfofgaaGreatDoor.Wd

theorem tells_any (k n : Int) (hk : 1 ≤ k ∧ k ≤ 4) (hn : 0 ≤ n) (w : World) :
   Calls Tryz.prog 95 #[.int .i64 k, .int .i64 n] w fun e w' => e = .returned (.bool (decide (n < 256 ^ k.toNat))) ∧ w = w' := by
 obtain rfl | rfl | rfl | rfl : k = 1 ∨ k = 2 ∨ k = 3 ∨ k = 4 := by omega
 all_goals
   go_enter Tryz.func95, Tryz.ntmps95
   go_wp2
   go_ret
   refine ⟨?_, rfl⟩
   show Ending.returned (.bool (_ == (0 : Int))) = _
   congr 2
   rw [Bool.eq_iff_iff]
   simp
   omega

def byteOf (n : Int) : UInt8 := UInt8.ofNat (n % 256).toNat
def bytesOf (n : Int) : Nat → List UInt8
 | 0 => []
 | k + 1 => bytesOf (n / 256) k ++ [byteOf n]
theorem bytesOf_length (n : Int) (k : Nat) : (bytesOf n k).length = k := by
 induction k generalizing n with
 | zero => rfl
 | succ k ih => simp [bytesOf, ih]
theorem div_pow (n : Int) (j : Nat) : n / 256 / 256 ^ j = n / 256 ^ (j + 1) := by
 rw [Int.ediv_ediv_of_nonneg (by omega), Int.pow_succ, Int.mul_comm]
theorem pow_div (n : Int) (j : Nat) : n / 256 ^ j / 256 = n / 256 ^ (j + 1) := by
 have : (0 : Int) ≤ 256 ^ j := Int.pow_nonneg (by omega)
 rw [Int.ediv_ediv_of_nonneg this, Int.pow_succ]
theorem bytesOf_cons (n : Int) (j : Nat) : bytesOf n (j + 1) = byteOf (n / 256 ^ j) :: bytesOf n j := by
 induction j generalizing n with
 | zero => simp [bytesOf]
 | succ j ih =>
   rw [bytesOf, ih (n / 256), div_pow]
   rfl
theorem b8_byteOf (n : Int) : b8 (byteOf n) = .int .u8 (n % 256) := by
 unfold b8 byteOf
 congr 1
 have h1 : 0 ≤ n % 256 := Int.emod_nonneg _ (by omega)
 have h2 : n % 256 < 256 := Int.emod_lt_of_pos _ (by omega)
 simp only [UInt8.toNat_ofNat']
 omega
theorem splice_set (L X : List Value) (o : Nat) (v : Value) (h : o + 1 + X.length ≤ L.length) : (splice L (o + 1) X).toArray.setIfInBounds o v = (splice L o (v :: X)).toArray := by
 have e : o + 1 + X.length = o + (X.length + 1) := by omega
 simp only [List.setIfInBounds_toArray]
 congr 1
 unfold splice
 rw [List.take_add_one, List.getElem?_eq_getElem (by omega : o < L.length)]
 have hl : (L.take o).length = o := by rw [List.length_take]; omega
 simp only [Option.toList_some, List.append_assoc, List.singleton_append, List.length_cons, e]
 rw [List.set_append_right _ _ (by omega), hl, Nat.sub_self]
 rfl
theorem splice_all (L : List Value) (o : Nat) : splice L o [] = L := by simp [splice]
theorem step_cell (L : List Value) (off k j : Nat) (n : Int) (hfit : off + k ≤ L.length) (h : j < k) : ∃ v, (splice L (off + (k - j)) (cellsOf (bytesOf n j))).toArray[off + (k - 1 - j)]? = some v := by
 have hl : (splice L (off + (k - j)) (cellsOf (bytesOf n j))).length = L.length := length_splice _ _ _ (by rw [cellsOf_length, bytesOf_length]; omega)
 exact ⟨_, Array.getElem?_eq_getElem (by simp only [List.size_toArray, hl]; omega)⟩
theorem step_set (L : List Value) (off k j : Nat) (n : Int) (hfit : off + k ≤ L.length) (h : j < k) :
   (splice L (off + (k - j)) (cellsOf (bytesOf n j))).toArray.setIfInBounds (off + (k - 1 - j)) (.int .u8 (n / 256 ^ j % 256)) = (splice L (off + (k - (j + 1))) (cellsOf (bytesOf n (j + 1)))).toArray := by
 have e1 : off + (k - j) = off + (k - 1 - j) + 1 := by omega
 have e2 : off + (k - (j + 1)) = off + (k - 1 - j) := by omega
 rw [e1, e2, splice_set _ _ _ _ (by rw [cellsOf_length, bytesOf_length]; omega), bytesOf_cons, ← b8_byteOf]
 rfl

set_option maxHeartbeats 400000 in
theorem lay_any (g off k c : Nat) (n : Int) (L : List Value) (w : World) (hb : Blk w g 5 L.toArray) (hfit : off + k ≤ L.length) (hk : k ≤ 4) :
   Calls Tryz.prog 97 #[.slice (some ⟨g, off, none⟩) k c, .int .i64 n] w fun e w' => e = .returned (.tuple #[]) ∧ Blk w' g 5 (splice L off (cellsOf (bytesOf n k))).toArray ∧ w.grownBy w' (some g) := by
 go_enter Tryz.func97, Tryz.ntmps97
 go_wp2
 go_loopw [1, 4] (fun m i wr => ∃ j : Nat, j ≤ k ∧ i = .int .i64 ((k : Int) - 1 - j) ∧ m = .int .i64 (n / 256 ^ j) ∧ Blk wr g 5 (splice L (off + (k - j)) (cellsOf (bytesOf n j))).toArray ∧ w.grownBy wr (some g)) (fun _ i _ => (intOf i + 1).toNat)
 case atStart => exact ⟨0, by omega, by simp, by simp, by rw [show cellsOf (bytesOf n 0) = [] from rfl, splice_all]; exact hb, only_refl _ _⟩
 case round =>
   obtain ⟨j, hj, rfl, rfl, hblk, hgr⟩ := hrel
   by_cases hlt : j < k
   · obtain ⟨v0, hv0⟩ := step_cell L off k j n hfit hlt
     have hcell : wr.cell? ⟨g, off + (k - 1 - j), none⟩ = some v0 := by rw [hblk.cell, hv0]
     have hfr := hblk.frozen (off + (k - 1 - j))
     have H := Lib.hid hblk
     clear hblk hv0
     go_wp2
     go_roundw
     case rel =>
       refine ⟨j + 1, by omega, by go_num, by rw [pow_div], ?_, only_setCell hgr (.inl rfl) _⟩
       rw [← step_set L off k j n hfit hlt]
       exact H.out.set_ _ _
     case measure => simp [intOf]; omega
   · obtain rfl : j = k := by omega
     go_wp2
     go_end0
     refine ⟨rfl, ?_, hgr⟩
     simpa using hblk
end Go.Proofs.YthfknndjdfofgaaGreatDoor.Be

/-
 Contracts of be.Put and be.Vec over this seat's translation.
-/
namespace Go.Proofs.YthfknndjdfofgaaGreatDoor.Be
open Go.RowKit Go.Proofs.YthfknndjdfofgaaGreatDoor.Wd

theorem splice_end (L X Z : List Value) (h : Z.length = X.length) : splice (L ++ Z) L.length X = L ++ X := by
 unfold splice
 rw [List.take_append_of_le_length (Nat.le_refl _), List.take_length, List.drop_eq_nil_of_le (by simp [h]), List.append_nil]

set_option maxHeartbeats 400000 in
theorem put_any (A : Option Addr) (n c k : Nat) (m size : Int) (xs : List UInt8) (w : World) (hs : Src w A n xs) (hn : n ≤ 140737488355320) (hk : (clampI size) = k) :
   Calls Tryz.prog 56 #[.slice A n c, .int .i64 m, .int .i64 size] w fun e w' => e = .returned (.slice (some ⟨w.heap.size, 0, none⟩) (n + k) (n + k)) ∧
     Blk w' w.heap.size 5 (cellsOf (xs ++ bytesOf m k)).toArray ∧ Below w.heap.size w w' := by
 have hbd := clampI_bd size
 have hk1 : 1 ≤ k ∧ k ≤ 4 := by omega
 have Hk := Lib.hid hk
 clear hk hbd
 obtain ⟨hk1, hk4⟩ := hk1
 go_enter Tryz.func56, Tryz.ntmps56
 go_wp2_with fail
 refine (clamp_any _ _).mono ?_
 rintro e w1 ⟨rfl, rfl⟩
 rw [Hk.out]
 go_wp2_with fail
 refine (grown_any A n c k xs w hs (by omega)).mono ?_
 rintro e w1 ⟨rfl, hb1, hbel1⟩
 have hsz := hb1.lt
 have H1 := Lib.hid hb1
 clear hb1
 go_wp2_with fail
 have hfit : n + k ≤ (cellsOf (xs ++ List.replicate k 0)).length := by rw [cellsOf_length, List.length_append, List.length_replicate, hs.1]; omega
 refine (lay_any w.heap.size n k k m _ w1 H1.out hfit hk4).mono ?_
 rintro e w2 ⟨rfl, hb2, hg2⟩
 have H2 := Lib.hid hb2
 clear hb2 hfit
 go_wp2_with fail
 go_ret
 refine ⟨rfl, ?_, below_of_only hbel1 hg2 hbel1.size (Nat.le_refl _)⟩
 have h := H2.out
 rw [cellsOf_append, ← hs.1, ← cellsOf_length xs, splice_end _ _ _ (by rw [cellsOf_length, cellsOf_length, bytesOf_length, List.length_replicate]), ← cellsOf_append] at h
 exact h

theorem vec_cells (n k m : Nat) (xs ys : List UInt8) (hx : xs.length = n) (hy : ys.length = m) (l : Int) :
   splice (splice (cellsOf (xs ++ List.replicate (k + m) 0)) n (cellsOf (bytesOf l k))) (n + k) (cellsOf ys) = cellsOf (xs ++ bytesOf l k ++ ys) := by
 subst hx hy
 have e2 : splice (cellsOf (xs ++ List.replicate (k + ys.length) 0)) xs.length (cellsOf (bytesOf l k)) = cellsOf (xs ++ bytesOf l k) ++ cellsOf (List.replicate ys.length (0 : UInt8)) := by
   unfold splice
   rw [cellsOf_length, bytesOf_length, cellsOf_append, cellsOf_append, List.take_append_of_le_length (by rw [cellsOf_length]; omega), List.take_of_length_le (by rw [cellsOf_length]; omega),
     List.drop_append, List.drop_eq_nil_of_le (by rw [cellsOf_length]; omega), cellsOf_zero, cellsOf_zero, List.drop_replicate, cellsOf_length, List.nil_append, List.append_assoc]
   congr 3
   omega
 have e3 : xs.length + k = (cellsOf (xs ++ bytesOf l k)).length := by rw [cellsOf_length, List.length_append, bytesOf_length]
 rw [e2, e3, splice_end _ _ _ (by rw [cellsOf_length, cellsOf_length, List.length_replicate]), ← cellsOf_append]

set_option maxHeartbeats 400000 in
theorem vec_no (A : Option Addr) (n c k : Nat) (B : Option Addr) (m d : Nat) (size : Int) (xs : List UInt8) (w : World) (hs : Src w A n xs) (hn : n ≤ 140737488355320) (hk : clampI size = k) (hm : m ≤ 9223372036854775807) (hlong : ¬ (m : Int) < 256 ^ k) :
   Calls Tryz.prog 54 #[.slice A n c, .int .i64 size, .slice B m d] w fun e w' => e = .returned (.tuple #[.slice (some ⟨w.heap.size, 0, none⟩) n n, .bool false]) ∧
     Blk w' w.heap.size 5 (cellsOf xs).toArray ∧ Below w.heap.size w w' := by
 have hbd := clampI_bd size
 have hk1 : 1 ≤ k ∧ k ≤ 4 := by omega
 have Hk := Lib.hid hk
 have hd : decide ((m : Int) < 256 ^ k) = false := by simpa using hlong
 have Hd := Lib.hid hd
 clear hk hbd hlong hd
 obtain ⟨hk1, hk4⟩ := hk1
 go_enter Tryz.func54, Tryz.ntmps54
 go_wp2_with fail
 refine (clamp_any _ _).mono ?_
 rintro e w1 ⟨rfl, rfl⟩
 rw [Hk.out]
 go_wp2_with fail
 refine (tells_any k m (by omega) (by omega) _).mono ?_
 rintro e w1 ⟨rfl, rfl⟩
 rw [Int.toNat_natCast, Hd.out]
 go_wp2_with fail
 refine (grown_any A n c 0 xs w hs (by omega)).mono ?_
 rintro e w1 ⟨rfl, hb1, hbel1⟩
 have H1 := Lib.hid hb1
 clear hb1
 go_wp2_with fail
 go_ret2
 refine ⟨rfl, ?_, hbel1⟩
 simpa using H1.out

set_option maxHeartbeats 400000 in
theorem vec_yes (A : Option Addr) (n c k : Nat) (B : Option Addr) (m d : Nat) (size : Int) (xs ys : List UInt8) (w : World) (hs : Src w A n xs) (ht : Src w B m ys) (hn : n + m ≤ 140737488355320) (hk : clampI size = k) (hlong : (m : Int) < 256 ^ k) :
   Calls Tryz.prog 54 #[.slice A n c, .int .i64 size, .slice B m d] w fun e w' => e = .returned (.tuple #[.slice (some ⟨w.heap.size, 0, none⟩) (n + (k + m)) (n + (k + m)), .bool true]) ∧
     Blk w' w.heap.size 5 (cellsOf (xs ++ bytesOf m k ++ ys)).toArray ∧ Below w.heap.size w w' := by
 have hbd := clampI_bd size
 have hk1 : 1 ≤ k ∧ k ≤ 4 := by omega
 have Hk := Lib.hid hk
 have hd : decide ((m : Int) < 256 ^ k) = true := by simpa using hlong
 have Hd := Lib.hid hd
 clear hk hbd hlong hd
 obtain ⟨hk1, hk4⟩ := hk1
 go_enter Tryz.func54, Tryz.ntmps54
 go_wp2_with fail
 refine (clamp_any _ _).mono ?_
 rintro e w1 ⟨rfl, rfl⟩
 rw [Hk.out]
 go_wp2_with fail
 refine (tells_any k m (by omega) (by omega) _).mono ?_
 rintro e w1 ⟨rfl, rfl⟩
 rw [Int.toNat_natCast, Hd.out]
 go_wp2_with fail
 rw [show ((k : Int) + (m : Int)) = ((k + m : Nat) : Int) from by omega]
 refine (grown_any A n c (k + m) xs w hs (by omega)).mono ?_
 rintro e w1 ⟨rfl, hb1, hbel1⟩
 have hsz := hb1.lt
 have H1 := Lib.hid hb1
 clear hb1
 go_wp2_with fail
 have hlen : (cellsOf (xs ++ List.replicate (k + m) 0)).length = n + (k + m) := by rw [cellsOf_length, List.length_append, List.length_replicate, hs.1]
 refine (lay_any w.heap.size n k (k + m) m _ w1 H1.out (by omega) hk4).mono ?_
 rintro e w2 ⟨rfl, hb2, hg2⟩
 have hbel2 : Below w.heap.size w w2 := below_of_only hbel1 hg2 hbel1.size (Nat.le_refl _)
 have hlen2 : (splice (cellsOf (xs ++ List.replicate (k + m) 0)) n (cellsOf (bytesOf m k))).length = n + (k + m) := by rw [length_splice _ _ _ (by rw [cellsOf_length, bytesOf_length]; omega), hlen]
 have hmin : (cellsOf ys).length = m := by rw [cellsOf_length, ht.1]
 have Hmin := Lib.hid hmin
 have Hfit : Hid (n + k + (cellsOf ys).length ≤ (splice (cellsOf (xs ++ List.replicate (k + m) 0)) n (cellsOf (bytesOf m k))).length) := by rw [hmin, hlen2]; exact Nat.le_of_eq (by omega)
 have Hpos : Hid (0 < (cellsOf ys).length → ∃ ad, B = some ad ∧ ∀ j v, (cellsOf ys)[j]? = some v → w2.cell? (ad.add j) = some v) := by
   intro h0
   rw [hmin] at h0
   obtain ⟨ad, e, hlt, hc⟩ := (ht.below hbel2).2 h0
   refine ⟨ad, e, fun j v hv => ?_⟩
   simp only [cellsOf, List.getElem?_map, Option.map_eq_some_iff] at hv
   obtain ⟨x, hx, rfl⟩ := hv
   exact hc j x hx
 have Hone := Lib.hid (cellsOf_one ys)
 have Hfin := Lib.hid (vec_cells n k m xs ys hs.1 ht.1 m)
 have H2 := Lib.hid hb2
 clear hb2 hlen hlen2 hmin
 generalize hX : splice (cellsOf (xs ++ List.replicate (k + m) 0)) n (cellsOf (bytesOf m k)) = X at *
 generalize hY : cellsOf ys = Y at *
 clear hX hY
 have Hmin2 : Hid (Y.length = Nat.min m (n + (k + m) - (n + k))) := by rw [Hmin.out, show n + (k + m) - (n + k) = m from by omega]; exact (Nat.min_self _).symm
 by_cases h0 : m = 0
 · subst h0
   go_wp2_with ((with_reducible refine wpList_copy_splice rfl (.tmp 40) (.tmp 41) 22 22 rfl 5 Tryz.underlying22 (by kernel_rfl) _ _ _ _ _ _ rfl rfl w.heap.size (n + k) X 5 H2.out.heap Y (Hmin.out.trans (Nat.zero_min _).symm) (fun h => absurd h (by have := Hmin.out; omega)) Hfit.out Hone.out w.heap.size w hbel2 (Nat.le_refl _) ?_); intro w3 HG3 hB3)
   go_ret2
   exact ⟨rfl, by have h := HG3.out; rw [Hfin.out] at h; exact h, hB3⟩
 · go_wp2_with ((with_reducible refine wpList_copy_splice rfl (.tmp 40) (.tmp 41) 22 22 rfl 5 Tryz.underlying22 (by kernel_rfl) _ _ _ _ _ _ rfl rfl w.heap.size (n + k) X 5 H2.out.heap Y Hmin2.out (fun h => ⟨rfl, Hpos.out h⟩) Hfit.out Hone.out w.heap.size w hbel2 (Nat.le_refl _) ?_); intro w3 HG3 hB3)
   go_ret2
   exact ⟨rfl, by have h := HG3.out; rw [Hfin.out] at h; exact h, hB3⟩
end Go.Proofs.YthfknndjdfofgaaGreatDoor.Be

/-
 Contracts of be.Reader over this seat's translation: Read, Take, Num, Vec, Left, Bad, Done.
-/
namespace Go.Proofs.YthfknndjdfofgaaGreatDoor.Be
open Go.RowKit Go.Proofs.YthfknndjdfofgaaGreatDoor.Wd

def Rd (w : World) (r : Nat) : Option (List UInt8) → Prop
 | some rest => ∃ g off cs, Blk w r 205 #[.slice (some ⟨g, off, none⟩) rest.length rest.length, .bool false] ∧ Blk w g 5 cs ∧ ∀ j c, rest[j]? = some c → cs[off + j]? = some (b8 c)
 | none => Blk w r 205 #[.slice none 0 0, .bool true]
theorem Rd.lt {w : World} {r : Nat} {st : Option (List UInt8)} (h : Rd w r st) : r < w.heap.size := by
 cases st with
 | none => exact Blk.lt h
 | some rest => obtain ⟨g, off, cs, hb, _⟩ := h; exact hb.lt
theorem Rd.below {w w' : World} {r B : Nat} {st : Option (List UInt8)} (h : Rd w r st) (hb : Below B w w') (hB : w.heap.size ≤ B) : Rd w' r st := by
 cases st with
 | none => exact Blk.below h hb (by have := Blk.lt h; omega)
 | some rest => obtain ⟨g, off, cs, h1, h2, h3⟩ := h; exact ⟨g, off, cs, h1.below hb (by have := h1.lt; omega), h2.below hb (by have := h2.lt; omega), h3⟩
theorem Rd.grown {w w' : World} {r r' : Nat} {st : Option (List UInt8)} {cs' : Array Value} (h : Rd w r st) (hr : Blk w r' 205 cs') (hne : r ≠ r') (hb : w.grownBy w' (some r')) : Rd w' r st := by
 cases st with
 | none => exact Blk.grown h hb (by simp [hne])
 | some rest =>
   obtain ⟨g, off, cs, h1, h2, h3⟩ := h
   exact ⟨g, off, cs, h1.grown hb (by simp [hne]), h2.grown hb (by have := h2.ne_ hr (by decide); simp [this]), h3⟩
theorem Rd.blk {w : World} {r : Nat} {st : Option (List UInt8)} (h : Rd w r st) : ∃ cs, Blk w r 205 cs := by
 cases st with
 | none => exact ⟨_, h⟩
 | some rest => obtain ⟨g, off, cs, hb, _⟩ := h; exact ⟨_, hb⟩

set_option maxHeartbeats 400000 in
theorem read_any (A : Option Addr) (n c : Nat) (xs : List UInt8) (w : World) (hs : Src w A n xs) (hn : n ≤ 140737488355320) :
   Calls Tryz.prog 159 #[.slice A n c] w fun e w' => ∃ r, e = .returned (.pointer (some ⟨r, 0, none⟩)) ∧ w.heap.size ≤ r ∧ Rd w' r (some xs) ∧ Below w.heap.size w w' := by
 go_enter Tryz.func159, Tryz.ntmps159
 go_wp2_with fail
 refine (grown_any A n c 0 xs w hs (by omega)).mono ?_
 rintro e w1 ⟨rfl, hb1, hbel1⟩
 have hsz := hb1.lt
 have H1 := Lib.hid hb1
 clear hb1
 go_wp2_with fail
 go_ret
 refine ⟨w1.heap.size, rfl, hbel1.size, ⟨w.heap.size, 0, _, ?_, H1.out.alloc _, ?_⟩, hbel1.alloc hbel1.size _⟩
 · rw [hs.1]; exact Blk.new _ _ _
 · intro j c hj
   simpa using cellsOf_get hj

theorem set2_0 (a b x : Value) : (#[a, b] : Array Value).setIfInBounds 0 x = #[x, b] := by simp
theorem set2_1 (a b x : Value) : (#[a, b] : Array Value).setIfInBounds 1 x = #[a, x] := by simp

set_option maxHeartbeats 400000 in
theorem fail_any (r : Nat) (a b : Value) (w : World) (hb : Blk w r 205 #[a, b]) :
   Calls Tryz.prog 193 #[.pointer (some ⟨r, 0, none⟩)] w fun e w' => e = .returned (.tuple #[]) ∧ Rd w' r none ∧ w.grownBy w' (some r) := by
 have hc0 : w.cell? ⟨r, 0, none⟩ = some a := by rw [hb.cell]; rfl
 have hc1 : w.cell? ⟨r, 1, none⟩ = some b := by rw [hb.cell]; rfl
 have hf0 := hb.frozen 0
 have hf1 := hb.frozen 1
 have H := Lib.hid hb
 clear hb
 go_enter Tryz.func193, Tryz.ntmps193
 go_wp2
 go_end0
 refine ⟨rfl, ?_, ?_⟩
 rotate_left
 · exact only_setCell (p := ⟨r, 0, none⟩) (only_setCell (p := ⟨r, 1, none⟩) (only_refl w (some r)) (.inl rfl) (.bool true)) (.inl rfl) (.slice none 0 0)
 have h := (H.out.set_ 1 (.bool true)).set_ 0 (.slice none 0 0)
 rw [set2_1, set2_0] at h
 exact h

def takeS : Option (List UInt8) → Int → List UInt8 × Option (List UInt8)
 | none, _ => ([], none)
 | some rest, n => if 0 ≤ n ∧ n ≤ rest.length then (rest.take n.toNat, some (rest.drop n.toNat)) else ([], none)
def TakePost (r : Nat) (w : World) (p : List UInt8 × Option (List UInt8)) (e : Ending) (w' : World) : Prop :=
 ∃ v, e = .returned v ∧ Sl w' v p.1 ∧ Rd w' r p.2 ∧ w.grownBy w' (some r)

set_option maxHeartbeats 400000 in
theorem take_bad (r : Nat) (n : Int) (w : World) (hr : Rd w r none) :
   Calls Tryz.prog 161 #[.pointer (some ⟨r, 0, none⟩), .int .i64 n] w (TakePost r w (takeS none n)) := by
 have hb : Blk w r 205 #[.slice none 0 0, .bool true] := hr
 have hc1 : w.cell? ⟨r, 1, none⟩ = some (.bool true) := by rw [hb.cell]; rfl
 have H := Lib.hid hb
 clear hb hr
 go_enter Tryz.func161, Tryz.ntmps161
 go_wp2_with fail
 refine (fail_any r _ _ _ H.out).mono ?_
 rintro e w1 ⟨rfl, hr1, hg1⟩
 have H1 := Lib.hid hr1
 clear hr1
 go_wp2_with fail
 go_ret
 exact ⟨_, rfl, .inl ⟨rfl, rfl⟩, H1.out, hg1⟩

set_option maxHeartbeats 400000 in
theorem take_out (r : Nat) (n : Int) (rest : List UInt8) (w : World) (hr : Rd w r (some rest)) (hn : ¬ (0 ≤ n ∧ n ≤ rest.length)) :
   Calls Tryz.prog 161 #[.pointer (some ⟨r, 0, none⟩), .int .i64 n] w (TakePost r w (takeS (some rest) n)) := by
 obtain ⟨g, off, cs, hb, hg, hcs⟩ := hr
 have Hts : Hid (takeS (some rest) n = ([], none)) := (if_neg hn : (if 0 ≤ n ∧ n ≤ rest.length then (rest.take n.toNat, some (rest.drop n.toNat)) else ([], none)) = (([], none) : List UInt8 × Option (List UInt8)))
 have hc0 : w.cell? ⟨r, 0, none⟩ = some (.slice (some ⟨g, off, none⟩) rest.length rest.length) := by rw [hb.cell]; rfl
 have hc1 : w.cell? ⟨r, 1, none⟩ = some (.bool false) := by rw [hb.cell]; rfl
 have H := Lib.hid hb
 clear hb hcs
 by_cases h0 : n < 0
 · have hd : decide (n < 0) = true := by simpa using h0
   clear hn
   go_enter Tryz.func161, Tryz.ntmps161
   go_wp2_with fail
   refine (fail_any r _ _ _ H.out).mono ?_
   rintro e w1 ⟨rfl, hr1, hg1⟩
   have H1 := Lib.hid hr1
   clear hr1
   go_wp2_with fail
   go_ret
   rw [Hts.out]
   exact ⟨_, rfl, .inl ⟨rfl, rfl⟩, H1.out, hg1⟩
 · have h1 : (rest.length : Int) < n := by omega
   have hd : decide (n < 0) = false := by simpa using h0
   clear hn
   go_enter Tryz.func161, Tryz.ntmps161
   go_wp2_with fail
   refine (fail_any r _ _ _ H.out).mono ?_
   rintro e w1 ⟨rfl, hr1, hg1⟩
   have H1 := Lib.hid hr1
   clear hr1
   go_wp2_with fail
   go_ret
   rw [Hts.out]
   exact ⟨_, rfl, .inl ⟨rfl, rfl⟩, H1.out, hg1⟩

set_option maxHeartbeats 800000 in
theorem take_in (r n : Nat) (rest : List UInt8) (w : World) (hr : Rd w r (some rest)) (hn : n ≤ rest.length) (hl : rest.length ≤ 140737488355320) :
   Calls Tryz.prog 161 #[.pointer (some ⟨r, 0, none⟩), .int .i64 (n : Int)] w (TakePost r w (rest.take n, some (rest.drop n))) := by
 obtain ⟨g, off, cs, hb, hg, hcs⟩ := hr
 have hlt := hb.lt
 have hc0 : w.cell? ⟨r, 0, none⟩ = some (.slice (some ⟨g, off, none⟩) rest.length rest.length) := by rw [hb.cell]; rfl
 have hc1 : w.cell? ⟨r, 1, none⟩ = some (.bool false) := by rw [hb.cell]; rfl
 have hf0 := hb.frozen 0
 have hsrc : Src w (some ⟨g, off, none⟩) n (rest.take n) := by
   have h := Src.of_blk (xs := rest.take n) hg (off := off) (fun j c hj => hcs j c (by
     rw [List.getElem?_take] at hj
     split at hj
     · exact hj
     · cases hj))
   rwa [List.length_take, Nat.min_eq_left hn] at h
 generalize hL : rest.length = L at *
 have HL := Lib.hid hL
 have H := Lib.hid hb
 have HS := Lib.hid hsrc
 have HC := Lib.hid hcs
 clear hb hcs hsrc hL
 go_enter Tryz.func161, Tryz.ntmps161
 go_wp2_with fail
 refine (grown_any _ n L 0 _ w HS.out (by omega)).mono ?_
 rintro e w1 ⟨rfl, hb1, hbel1⟩
 have H1 := Lib.hid hb1
 have hd0 : w1.cell? ⟨r, 0, none⟩ = some (.slice (some ⟨g, off, none⟩) L L) := (hbel1.cell (p := ⟨r, 0, none⟩) hlt).trans hc0
 have hff0 : w1.frozen? ⟨r, 0, none⟩ = false := (hbel1.frozen (p := ⟨r, 0, none⟩) hlt).trans hf0
 clear hb1 hc0 hf0 hc1
 by_cases hnl : n = L
 · subst hnl
   go_wp2_with fail
   go_ret
   refine ⟨_, rfl, .inr ⟨w.heap.size, ?_, ?_⟩, ⟨g, off, cs, ?_, ?_, ?_⟩, only_setCell (p := ⟨r, 0, none⟩) (only_of_below hbel1 _) (.inl rfl) _⟩
   · simp only [List.length_take, HL.out, Nat.min_self]; rfl
   · have h := H1.out; rw [List.replicate_zero, List.append_nil] at h; exact h.far (p := ⟨r, 0, none⟩) (by show w.heap.size ≠ r; omega) _
   · have h := (H.out.below hbel1 hlt).set_ 0 (.slice (some ⟨g, off, none⟩) 0 0)
     rw [set2_0] at h
     simp only [List.length_drop, HL.out, Nat.sub_self]
     exact h
   · exact (hg.below hbel1 hg.lt).far (p := ⟨r, 0, none⟩) (hg.ne_ H.out (by decide)) _
   · intro j c hj
     rw [List.drop_eq_nil_of_le (by rw [HL.out]; omega)] at hj
     simp at hj
 · go_wp2_with fail
   go_ret
   refine ⟨_, rfl, .inr ⟨w.heap.size, ?_, ?_⟩, ⟨g, off + n, cs, ?_, ?_, ?_⟩, only_setCell (p := ⟨r, 0, none⟩) (only_of_below hbel1 _) (.inl rfl) _⟩
   · simp only [List.length_take, HL.out, Nat.min_eq_left hn]; rfl
   · have h := H1.out; rw [List.replicate_zero, List.append_nil] at h; exact h.far (p := ⟨r, 0, none⟩) (by show w.heap.size ≠ r; omega) _
   · have h := (H.out.below hbel1 hlt).set_ 0 (.slice (some ⟨g, off + n, none⟩) (L - n) (L - n))
     rw [set2_0] at h
     simp only [List.length_drop, HL.out]
     exact h
   · exact (hg.below hbel1 hg.lt).far (p := ⟨r, 0, none⟩) (hg.ne_ H.out (by decide)) _
   · intro j c hj
     rw [Nat.add_assoc]
     exact HC.out (n + j) c (by rw [← hj, List.getElem?_drop])

theorem take_any (r : Nat) (n : Int) (st : Option (List UInt8)) (w : World) (hr : Rd w r st) (hl : ∀ rest, st = some rest → rest.length ≤ 140737488355320) :
   Calls Tryz.prog 161 #[.pointer (some ⟨r, 0, none⟩), .int .i64 n] w (TakePost r w (takeS st n)) := by
 cases st with
 | none => exact take_bad r n w hr
 | some rest =>
   by_cases hn : 0 ≤ n ∧ n ≤ rest.length
   · obtain ⟨k, rfl⟩ := Int.eq_ofNat_of_zero_le hn.1
     have e : takeS (some rest) (k : Int) = (rest.take k, some (rest.drop k)) := by
       show (if 0 ≤ (k : Int) ∧ (k : Int) ≤ rest.length then (rest.take (k : Int).toNat, some (rest.drop (k : Int).toNat)) else ([], none)) = _
       rw [if_pos hn, Int.toNat_natCast]
     rw [e]
     exact take_in r k rest w hr (by omega) (hl rest rfl)
   · exact take_out r n rest w hr hn
end Go.Proofs.YthfknndjdfofgaaGreatDoor.Be

/-
 Contracts of be.Reader over this seat's translation: Num, Vec, Left, Bad, Done.
-/
namespace Go.Proofs.YthfknndjdfofgaaGreatDoor.Be
open Go.RowKit Go.Proofs.YthfknndjdfofgaaGreatDoor.Wd

theorem ofInt_i64 (a : Nat) (ha : a < 9223372036854775808) : (BitVec.ofInt 64 (a : Int)).toNat = a := by
 rw [BitVec.ofInt_natCast, BitVec.toNat_ofNat]; exact Nat.mod_eq_of_lt (by omega)
theorem i64_or_nat (a b : Nat) (ha : a < 9223372036854775808) (hb : b < 9223372036854775808) : bits .or .i64 (a : Int) (b : Int) = ((a ||| b : Nat) : Int) := by
 have hx : a ||| b < 2 ^ 63 := Nat.or_lt_two_pow (by omega) (by omega)
 show IntKind.i64.wrap ((BitVec.ofInt 64 (a : Int) ||| BitVec.ofInt 64 (b : Int)).toNat : Int) = _
 rw [BitVec.toNat_or, ofInt_i64 a ha, ofInt_i64 b hb, IntKind.wrap_i64]
 omega
theorem or_byte (a b : Nat) (ha : a < 16777216) (hb : b < 256) : bits .or .i64 ((a : Int) * 256) (b : Int) = (a : Int) * 256 + b := by
 have h := i64_or_nat (a * 256) b (by omega) (by omega)
 rw [show ((a * 256 : Nat) : Int) = (a : Int) * 256 from by omega] at h
 rw [h]
 have := Nat.shiftLeft_add_eq_or_of_lt (i := 8) (b := b) (by omega) a
 rw [Nat.shiftLeft_eq, show (2 : Nat) ^ 8 = 256 from rfl] at this
 omega

def natOf (xs : List UInt8) : Nat := xs.foldl (fun a c => a * 256 + c.toNat) 0
theorem natOf_snoc (xs : List UInt8) (c : UInt8) : natOf (xs ++ [c]) = natOf xs * 256 + c.toNat := by simp [natOf]
theorem natOf_aux (xs : List UInt8) (a : Nat) : xs.foldl (fun a c => a * 256 + c.toNat) a + 1 ≤ (a + 1) * 256 ^ xs.length := by
 induction xs generalizing a with
 | nil => simp
 | cons c xs ih =>
   have h := ih (a * 256 + c.toNat)
   have hc := c.toNat_lt
   have h2 : (a * 256 + c.toNat + 1) * 256 ^ xs.length ≤ ((a + 1) * 256) * 256 ^ xs.length := Nat.mul_le_mul_right _ (by omega)
   rw [List.foldl_cons, List.length_cons, Nat.pow_succ, Nat.mul_comm (256 ^ xs.length) 256, ← Nat.mul_assoc]
   omega
theorem natOf_lt (xs : List UInt8) : natOf xs < 256 ^ xs.length := by
 have h := natOf_aux xs 0
 rw [Nat.zero_add, Nat.one_mul] at h
 exact h

def NumPost (r : Nat) (w : World) (p : Nat × Option (List UInt8)) (e : Ending) (w' : World) : Prop :=
 e = .returned (.int .i64 (p.1 : Int)) ∧ Rd w' r p.2 ∧ w.grownBy w' (some r)
def numS (st : Option (List UInt8)) (size : Int) : Nat × Option (List UInt8) := (natOf (takeS st (clampI size)).1, (takeS st (clampI size)).2)
theorem takeS_len (st : Option (List UInt8)) (n : Int) (_h : 0 ≤ n) : (takeS st n).1.length ≤ n.toNat := by
 cases st with
 | none => simp [takeS]
 | some rest =>
   show (if 0 ≤ n ∧ n ≤ rest.length then (rest.take n.toNat, some (rest.drop n.toNat)) else ([], none)).1.length ≤ n.toNat
   split <;> simp <;> omega

set_option maxHeartbeats 400000 in
theorem num_any (r : Nat) (size : Int) (st : Option (List UInt8)) (w : World) (hr : Rd w r st) (hl : ∀ rest, st = some rest → rest.length ≤ 140737488355320) :
   Calls Tryz.prog 160 #[.pointer (some ⟨r, 0, none⟩), .int .i64 size] w (NumPost r w (numS st size)) := by
 have HL := Lib.hid hl
 have HR := Lib.hid hr
 clear hl hr
 have hcb := clampI_bd size
 go_enter Tryz.func160, Tryz.ntmps160
 go_wp2_with fail
 refine (clamp_any _ _).mono ?_
 rintro e w1 ⟨rfl, rfl⟩
 go_wp2_with fail
 refine (take_any r _ st w HR.out HL.out).mono ?_
 rintro e w1 ⟨v, rfl, hsl, hrd, hgr⟩
 have hlen := takeS_len st (clampI size) (by omega)
 obtain ⟨A, c, rfl, hle, hsrc⟩ := hsl.src
 have Hfin : Hid (numS st size = (natOf (takeS st (clampI size)).1, (takeS st (clampI size)).2)) := rfl
 generalize takeS st (clampI size) = p at *
 obtain ⟨xs, st'⟩ := p
 simp only at hrd hlen hsrc hle Hfin
 have hl4 : xs.length ≤ 4 := by omega
 have HRD := Lib.hid hrd
 have HS := Lib.hid hsrc
 clear hsl hrd hsrc hlen hcb
 go_wp2_with fail
 go_loop [5, 13] (fun m i => ∃ k : Nat, k ≤ xs.length ∧ i = .int .i64 k ∧ m = .int .i64 (natOf (xs.take k) : Int)) (fun _ i => xs.length - (intOf i).toNat)
 case atStart => exact ⟨0, Nat.zero_le _, rfl, rfl⟩
 case round =>
   obtain ⟨k, hk, rfl, rfl⟩ := hrel
   by_cases hlt : k < xs.length
   · obtain ⟨ad, rfl, _, hc⟩ := HS.out.2 (by omega)
     have hcell : w1.cell? (ad.add k) = some (.int .u8 (xs[k].toNat : Int)) := hc k _ (List.getElem?_eq_getElem hlt)
     have hb : xs[k].toNat < 256 := xs[k].toNat_lt
     have hnl := natOf_lt (xs.take k)
     have htl : (xs.take k).length = k := by rw [List.length_take]; omega
     have hn3 : natOf (xs.take k) < 16777216 := by
       rw [htl] at hnl
       exact Nat.lt_of_lt_of_le hnl (Nat.pow_le_pow_right (n := 256) (by omega) (by omega : k ≤ 3))
     clear hnl htl hc
     have hor := or_byte (natOf (xs.take k)) xs[k].toNat hn3 hb
     have hsn : natOf (xs.take (k + 1)) = natOf (xs.take k) * 256 + xs[k].toNat := by
       rw [List.take_add_one, List.getElem?_eq_getElem hlt]; exact natOf_snoc _ _
     have HSN := Lib.hid hsn
     clear hsn
     generalize natOf (xs.take k) = a at *
     generalize xs[k].toNat = b at *
     go_wp2
     go_round
     case rel => exact ⟨k + 1, by omega, by go_num, by rw [HSN.out]; go_num⟩
     case measure => simp [intOf]; omega
   · obtain rfl : k = xs.length := by omega
     go_wp2
     go_ret
     rw [Hfin.out]
     exact ⟨rfl, HRD.out, hgr⟩

theorem takeS_rest {st : Option (List UInt8)} {n : Int} {B : Nat} (hl : ∀ rest, st = some rest → rest.length ≤ B) : ∀ rest, (takeS st n).2 = some rest → rest.length ≤ B := by
 intro rest h
 cases st with
 | none => simp [takeS] at h
 | some l =>
   have h' : (if 0 ≤ n ∧ n ≤ l.length then (l.take n.toNat, some (l.drop n.toNat)) else ([], none)).2 = some rest := h
   split at h'
   · have := hl l rfl
     injection h' with h'
     subst h'
     rw [List.length_drop]
     omega
   · cases h'

def vecS (st : Option (List UInt8)) (size : Int) : List UInt8 × Option (List UInt8) := takeS (numS st size).2 ((numS st size).1 : Int)

set_option maxHeartbeats 400000 in
theorem rvec_any (r : Nat) (size : Int) (st : Option (List UInt8)) (w : World) (hr : Rd w r st) (hl : ∀ rest, st = some rest → rest.length ≤ 140737488355320) :
   Calls Tryz.prog 162 #[.pointer (some ⟨r, 0, none⟩), .int .i64 size] w (TakePost r w (vecS st size)) := by
 have HL := Lib.hid hl
 have HR := Lib.hid hr
 clear hl hr
 go_enter Tryz.func162, Tryz.ntmps162
 go_wp2_with fail
 refine (num_any r _ st w HR.out HL.out).mono ?_
 rintro e w1 ⟨rfl, hrd, hgr⟩
 have HRD := Lib.hid hrd
 have HL2 : Hid (∀ rest, (numS st size).2 = some rest → rest.length ≤ 140737488355320) := takeS_rest HL.out
 have Hv : Hid (vecS st size = takeS (numS st size).2 ((numS st size).1 : Int)) := rfl
 generalize numS st size = p at *
 clear hrd
 go_wp2_with fail
 refine (take_any r _ p.2 w1 HRD.out HL2.out).mono ?_
 rintro e w2 ⟨v, rfl, hsl, hrd2, hgr2⟩
 have HSL := Lib.hid hsl
 have HRD2 := Lib.hid hrd2
 clear hsl hrd2
 go_wp2_with fail
 go_ret
 rw [Hv.out]
 exact ⟨v, rfl, HSL.out, HRD2.out, only_trans hgr hgr2⟩

def leftS : Option (List UInt8) → Nat
 | some rest => rest.length
 | none => 0

theorem left_any (r : Nat) (st : Option (List UInt8)) (w : World) (hr : Rd w r st) :
   Calls Tryz.prog 164 #[.pointer (some ⟨r, 0, none⟩)] w fun e w' => e = .returned (.int .i64 (leftS st : Int)) ∧ w = w' := by
 obtain ⟨A, c, hc⟩ : ∃ A c, w.cell? ⟨r, 0, none⟩ = some (.slice A (leftS st) c) := by
   cases st with
   | none => exact ⟨_, _, (Blk.cell hr 0).trans rfl⟩
   | some rest => obtain ⟨g, off, cs, hb, _⟩ := hr; exact ⟨_, _, (Blk.cell hb 0).trans rfl⟩
 clear hr
 go_enter Tryz.func164, Tryz.ntmps164
 go_wp2
 go_ret
 exact ⟨rfl, rfl⟩

theorem Rd.bad {w : World} {r : Nat} {st : Option (List UInt8)} (hr : Rd w r st) : w.cell? ⟨r, 1, none⟩ = some (.bool st.isNone) := by
 cases st with
 | none => exact (Blk.cell hr 1).trans rfl
 | some rest => obtain ⟨g, off, cs, hb, _⟩ := hr; exact (Blk.cell hb 1).trans rfl


def doneS : Option (List UInt8) → Bool
 | some rest => rest.isEmpty
 | none => false

theorem done_any (r : Nat) (st : Option (List UInt8)) (w : World) (hr : Rd w r st) :
   Calls Tryz.prog 166 #[.pointer (some ⟨r, 0, none⟩)] w fun e w' => e = .returned (.bool (doneS st)) ∧ w = w' := by
 have hc := hr.bad
 cases st with
 | none =>
   have hc1 : w.cell? ⟨r, 1, none⟩ = some (.bool true) := hc
   clear hr hc
   go_enter Tryz.func166, Tryz.ntmps166
   go_wp2
   go_ret
   exact ⟨rfl, rfl⟩
 | some rest =>
   have hc1 : w.cell? ⟨r, 1, none⟩ = some (.bool false) := hc
   obtain ⟨g, off, cs, hb, _⟩ := hr
   have hc0 : w.cell? ⟨r, 0, none⟩ = some (.slice (some ⟨g, off, none⟩) rest.length rest.length) := by rw [hb.cell]; rfl
   have hd : ((rest.length : Int) == 0) = rest.isEmpty := by
     rw [Bool.eq_iff_iff]; simp
   have HD := Lib.hid hd
   clear hb hc hd
   go_enter Tryz.func166, Tryz.ntmps166
   go_wp2
   go_ret
   exact ⟨congrArg (fun b => Ending.returned (.bool b)) HD.out, rfl⟩
end Go.Proofs.YthfknndjdfofgaaGreatDoor.Be
