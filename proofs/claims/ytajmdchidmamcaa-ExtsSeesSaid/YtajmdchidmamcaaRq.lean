/-
  Bytes that a call made by appends (the document's own answers), as they lie in memory; the document's reader. Plain lemmas, no condition.
-/
import Derived.Test.YtajmdchidmamcaaHeRows
import Derived.Test.YtajmdchidmamcaaRefNumF
namespace Go.Proofs.Ytajmdchidmamcaa.He
open Go.RowKit Go.Proofs.Ytajmdchidmamcaa.Wd Go.Proofs.Ytajmdchidmamcaa.Be

/-- a slice of the call's own, whatever room it has -/
def Sq (w : World) (v : Value) (xs : List UInt8) : Prop := Own w 0 v xs
theorem Sq.nil (w : World) : Sq w (.slice none 0 0) [] := ⟨rfl, .inl ⟨rfl, rfl⟩⟩
theorem Sq.of {w : World} {B : Nat} {v : Value} {xs : List UInt8} (h : Own w B v xs) : Sq w v xs := Own.lower h (Nat.zero_le _)
theorem Sq.src {w : World} {v : Value} {xs : List UInt8} (h : Sq w v xs) : ∃ A c, v = .slice A xs.length c ∧ xs.length ≤ c ∧ Src w A xs.length xs := Own.src h
theorem Sq.nc {w : World} {A : Option Addr} {n c : Nat} {xs : List UInt8} (h : Sq w (.slice A n c) xs) : n = xs.length ∧ n ≤ c ∧ Src w A n xs := by
  obtain ⟨A', c', e, h1, h2⟩ := h.src
  injection e with e1 e2 e3
  subst e1 e2 e3
  exact ⟨rfl, h1, h2⟩
theorem Sq.form {w : World} {v : Value} {xs : List UInt8} (h : Sq w v xs) : ∃ A c, v = .slice A xs.length c := by
  obtain ⟨A, c, e, _⟩ := h.src; exact ⟨A, c, e⟩
theorem Sq.off {w w' : World} {v : Value} {xs : List UInt8} {row : Option Nat} {T : TypeId → Prop} (h : Sq w v xs) (hb : w.grownBy w' row) (hr : OffT w row T) (ht : T 5) : Sq w' v xs := by
  obtain ⟨hl, h0 | ⟨g, cap, cur, hv, hg, hh, r⟩⟩ := h
  · exact ⟨hl, .inl h0⟩
  · have hbk : Blk w g 5 cur := hh
    exact ⟨hl, .inr ⟨g, cap, cur, hv, hg, hbk.grown hb (hr.far hbk ht), r⟩⟩
theorem Sq.below {w w' : World} {v : Value} {xs : List UInt8} (h : Sq w v xs) (hb : Below w.heap.size w w') : Sq w' v xs :=
  Sq.off (T := fun _ => True) h (only_of_below hb none) (OffT.none _ _) trivial

open Go.Proofs.Ytajmdchidmamcaa.RefBe in
/-- the document's reader at y: what it reads lies in a block ahead of B, itself does not -/
def Rq (B : Nat) (w : World) (y : Nat) (st : Option (List UInt8)) : Prop :=
  ∃ A n c xs, RR w y A n c xs st ∧ n ≤ 100000 ∧ n ≤ c ∧ c ≤ 9223372036854775807 ∧ Src w A n xs ∧ (0 < n → ∀ ad, A = some ad → ad.block < B) ∧ B ≤ y
section
open Go.Proofs.Ytajmdchidmamcaa.RefBe
variable {B : Nat} {w w' : World} {y : Nat} {st : Option (List UInt8)}
theorem Rq.blk (h : Rq B w y st) : ∃ cs, Blk w y 66 cs := by
  obtain ⟨A, n, c, xs, h, _⟩ := h; exact h.blk
theorem Rq.far (h : Rq B w y st) : B ≤ y := by
  obtain ⟨A, n, c, xs, _, _, _, _, _, _, h⟩ := h; exact h
theorem Rq.bd (h : Rq B w y st) : leftS st ≤ 100000 := by
  obtain ⟨A, n, c, xs, ⟨a, off, _, _, rfl⟩, h1, _, _, h2, _⟩ := h
  cases off with
  | true => exact Nat.zero_le _
  | false => show (xs.drop a).length ≤ _; rw [List.length_drop, h2.1]; omega
theorem Rq.off {row : Option Nat} (h : Rq B w y st) (hb : w.grownBy w' row) (hr : ∀ g, row = some g → B ≤ g ∧ y ≠ g) : Rq B w' y st := by
  obtain ⟨A, n, c, xs, ⟨a, off, hk, ha, e⟩, h1, h2, h3, h4, h5, h6⟩ := h
  refine ⟨A, n, c, xs, ⟨a, off, hk.grown hb (fun e => (hr _ e.symm).2 rfl), ha, e⟩, h1, h2, h3, ⟨h4.1, fun hn => ?_⟩, h5, h6⟩
  obtain ⟨ad, e, hlt, hc⟩ := h4.2 hn
  refine ⟨ad, e, Nat.lt_of_lt_of_le hlt hb.size, fun j x hj => ?_⟩
  rw [World.cell?_of_block (w := w) (hb.block (ad.add j).block (by rw [block_of_add]; exact hlt) (by
    rw [block_of_add]
    intro e2
    have := (hr _ e2.symm).1
    have := h5 hn ad e
    omega))]
  exact hc j x hj
theorem Rq.below (h : Rq B w y st) (hb : Below w.heap.size w w') : Rq B w' y st := h.off (only_of_below hb none) (fun g e => by cases e)
/-- a new reader -/
theorem Rq.new {A : Option Addr} {n c : Nat} {xs : List UInt8} (hs : Src w A n xs) (hn : n ≤ 100000) (hnc : n ≤ c) (hc : c ≤ 9223372036854775807) (hB : w.heap.size = B) :
    Rq B (w.alloc (.cells #[.slice A n c, .int .i64 0, .bool false] 66)) w.heap.size (some xs) :=
  ⟨A, n, c, xs, ⟨0, false, Blk.new _ _ _, Nat.zero_le _, rfl⟩, hn, hnc, hc, hs.alloc _, fun h0 ad e => by
    obtain ⟨ad', e', hlt, _⟩ := hs.2 h0
    rw [e] at e'
    injection e' with e'
    rw [e', ← hB]; exact hlt, by omega⟩
theorem qleft_any (h : Rq B w y st) : Calls Try.prog 34 #[.pointer (some ⟨y, 0, none⟩)] w fun e w' => e = .returned (.int .i64 (leftS st : Int)) ∧ ∃ k, w' = w.drewN k := by
  obtain ⟨A, n, c, xs, h, h1, _, _, h2, _⟩ := h
  exact rleft_any y A n c xs st w h h2.1 h1
theorem qnum_any (h : Rq B w y st) (size : Int) : Calls Try.prog 35 #[.pointer (some ⟨y, 0, none⟩), .int .i64 size] w fun e w' => e = .returned (.int .i64 ((numS st size).1 : Int)) ∧ Rq B w' y (numS st size).2 ∧ w.grownBy w' (some y) := by
  obtain ⟨A, n, c, xs, h, h1, h2, h3, h4, h5, h6⟩ := h
  refine (rnum_any y A n c xs st size w h h1 h2 h3 h4).mono ?_
  rintro e w' ⟨rfl, hr, hg⟩
  exact ⟨rfl, ⟨A, n, c, xs, hr, h1, h2, h3, Src.grown_far h4 (fun h0 ad e e2 => by have := h5 h0 ad e; omega) hg, h5, h6⟩, hg⟩
def QPost (B : Nat) (w : World) (y : Nat) (p : List UInt8 × Option (List UInt8)) (e : Ending) (w' : World) : Prop :=
  ∃ v, e = .returned v ∧ Sq w' v p.1 ∧ Rq B w' y p.2 ∧ w.grownBy w' (some y)
theorem qtake_any (h : Rq B w y st) (q : Int) : Calls Try.prog 62 #[.pointer (some ⟨y, 0, none⟩), .int .i64 q] w (QPost B w y (takeS st q)) := by
  obtain ⟨A, n, c, xs, h, h1, h2, h3, h4, h5, h6⟩ := h
  refine (rtake_any y A n c xs st q w h h1 h2 h3 h4).mono ?_
  rintro e w' ⟨v, rfl, ho, hr, hg⟩
  exact ⟨v, rfl, Sq.of ho, ⟨A, n, c, xs, hr, h1, h2, h3, Src.grown_far h4 (fun h0 ad e e2 => by have := h5 h0 ad e; omega) hg, h5, h6⟩, hg⟩
theorem qvec_any (h : Rq B w y st) (size : Int) : Calls Try.prog 33 #[.pointer (some ⟨y, 0, none⟩), .int .i64 size] w (QPost B w y (vecS st size)) := by
  obtain ⟨A, n, c, xs, h, h1, h2, h3, h4, h5, h6⟩ := h
  refine (rrvec_any y A n c xs st size w h h1 h2 h3 h4 (fun h0 ad e e2 => by have := h5 h0 ad e; omega)).mono ?_
  rintro e w' ⟨v, rfl, ho, hr, hg⟩
  exact ⟨v, rfl, Sq.of ho, ⟨A, n, c, xs, hr, h1, h2, h3, Src.grown_far h4 (fun h0 ad e e2 => by have := h5 h0 ad e; omega) hg, h5, h6⟩, hg⟩
/-- is it bad? -/
theorem Rq.bad (h : Rq B w y st) : w.cell? ⟨y, 2, none⟩ = some (.bool st.isNone) := by
  obtain ⟨A, n, c, xs, ⟨a, off, hk, _, rfl⟩, _⟩ := h
  rw [hk.cell]
  cases off <;> rfl
end
end Go.Proofs.Ytajmdchidmamcaa.He
