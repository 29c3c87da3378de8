/-
  Contracts of be.Reader over this seat's translation: Read, Take, Num, Vec, Left, Bad, Done.
-/
import Derived.Test.YtajmdchidmamcaaBePut
namespace Go.Proofs.Ytajmdchidmamcaa.Be
open Go.RowKit Go.Proofs.Ytajmdchidmamcaa.Wd

/-- a reader at block r: what is left to be read, or none, if it is bad -/
def Rd (w : World) (r : Nat) : Option (List UInt8) → Prop
  | some rest => ∃ g off cs, Blk w r 100 #[.slice (some ⟨g, off, none⟩) rest.length rest.length, .bool false] ∧ Blk w g 5 cs ∧ ∀ j c, rest[j]? = some c → cs[off + j]? = some (b8 c)
  | none => Blk w r 100 #[.slice none 0 0, .bool true]
theorem Rd.lt {w : World} {r : Nat} {st : Option (List UInt8)} (h : Rd w r st) : r < w.heap.size := by
  cases st with
  | none => exact Blk.lt h
  | some rest => obtain ⟨g, off, cs, hb, _⟩ := h; exact hb.lt
theorem Rd.below {w w' : World} {r B : Nat} {st : Option (List UInt8)} (h : Rd w r st) (hb : Below B w w') (hB : w.heap.size ≤ B) : Rd w' r st := by
  cases st with
  | none => exact Blk.below h hb (by have := Blk.lt h; omega)
  | some rest => obtain ⟨g, off, cs, h1, h2, h3⟩ := h; exact ⟨g, off, cs, h1.below hb (by have := h1.lt; omega), h2.below hb (by have := h2.lt; omega), h3⟩
theorem Rd.grown {w w' : World} {r r' : Nat} {st : Option (List UInt8)} {cs' : Array Value} (h : Rd w r st) (hr : Blk w r' 100 cs') (hne : r ≠ r') (hb : w.grownBy w' (some r')) : Rd w' r st := by
  cases st with
  | none => exact Blk.grown h hb (by simp [hne])
  | some rest =>
    obtain ⟨g, off, cs, h1, h2, h3⟩ := h
    exact ⟨g, off, cs, h1.grown hb (by simp [hne]), h2.grown hb (by have := h2.ne_ hr (by decide); simp [this]), h3⟩
theorem Rd.blk {w : World} {r : Nat} {st : Option (List UInt8)} (h : Rd w r st) : ∃ cs, Blk w r 100 cs := by
  cases st with
  | none => exact ⟨_, h⟩
  | some rest => obtain ⟨g, off, cs, hb, _⟩ := h; exact ⟨_, hb⟩

set_option maxHeartbeats 400000 in
theorem read_any (A : Option Addr) (n c : Nat) (xs : List UInt8) (w : World) (hs : Src w A n xs) (hn : n ≤ 140737488355320) :
    Calls Try.prog 55 #[.slice A n c] w fun e w' => ∃ r, e = .returned (.pointer (some ⟨r, 0, none⟩)) ∧ w.heap.size ≤ r ∧ Rd w' r (some xs) ∧ Below w.heap.size w w' := by
  go_enter Try.func55, Try.ntmps55
  go_wp2_with fail
  refine (grown_any A n c 0 xs w hs (by omega)).mono ?_
  rintro e w1 ⟨rfl, hb1, hbel1⟩
  have hsz := hb1.lt
  have H1 := Lib.hid hb1
  clear hb1
  go_wp2_with fail
  go_ret
  refine ⟨w1.heap.size, rfl, hbel1.size, ⟨w.heap.size, 0, _, ?_, H1.out.alloc _, ?_⟩, hbel1.alloc hbel1.size _⟩
  · rw [hs.1]; exact Blk.new _ _ _
  · intro j c hj
    simpa using cellsOf_get hj

theorem set2_0 (a b x : Value) : (#[a, b] : Array Value).setIfInBounds 0 x = #[x, b] := by simp
theorem set2_1 (a b x : Value) : (#[a, b] : Array Value).setIfInBounds 1 x = #[a, x] := by simp

set_option maxHeartbeats 400000 in
theorem fail_any (r : Nat) (a b : Value) (w : World) (hb : Blk w r 100 #[a, b]) :
    Calls Try.prog 75 #[.pointer (some ⟨r, 0, none⟩)] w fun e w' => e = .returned (.tuple #[]) ∧ Rd w' r none ∧ w.grownBy w' (some r) := by
  have hc0 : w.cell? ⟨r, 0, none⟩ = some a := by rw [hb.cell]; rfl
  have hc1 : w.cell? ⟨r, 1, none⟩ = some b := by rw [hb.cell]; rfl
  have hf0 := hb.frozen 0
  have hf1 := hb.frozen 1
  have H := Lib.hid hb
  clear hb
  go_enter Try.func75, Try.ntmps75
  go_wp2
  go_end0
  refine ⟨rfl, ?_, ?_⟩
  rotate_left
  · exact only_setCell (p := ⟨r, 0, none⟩) (only_setCell (p := ⟨r, 1, none⟩) (only_refl w (some r)) (.inl rfl) (.bool true)) (.inl rfl) (.slice none 0 0)
  have h := (H.out.set_ 1 (.bool true)).set_ 0 (.slice none 0 0)
  rw [set2_1, set2_0] at h
  exact h

/-- what Take does -/
def takeS : Option (List UInt8) → Int → List UInt8 × Option (List UInt8)
  | none, _ => ([], none)
  | some rest, n => if 0 ≤ n ∧ n ≤ rest.length then (rest.take n.toNat, some (rest.drop n.toNat)) else ([], none)
def TakePost (r : Nat) (w : World) (p : List UInt8 × Option (List UInt8)) (e : Ending) (w' : World) : Prop :=
  ∃ v, e = .returned v ∧ Sl w' v p.1 ∧ Rd w' r p.2 ∧ w.grownBy w' (some r)

set_option maxHeartbeats 400000 in
theorem take_bad (r : Nat) (n : Int) (w : World) (hr : Rd w r none) :
    Calls Try.prog 69 #[.pointer (some ⟨r, 0, none⟩), .int .i64 n] w (TakePost r w (takeS none n)) := by
  have hb : Blk w r 100 #[.slice none 0 0, .bool true] := hr
  have hc1 : w.cell? ⟨r, 1, none⟩ = some (.bool true) := by rw [hb.cell]; rfl
  have H := Lib.hid hb
  clear hb hr
  go_enter Try.func69, Try.ntmps69
  go_wp2_with fail
  refine (fail_any r _ _ _ H.out).mono ?_
  rintro e w1 ⟨rfl, hr1, hg1⟩
  have H1 := Lib.hid hr1
  clear hr1
  go_wp2_with fail
  go_ret
  exact ⟨_, rfl, .inl ⟨rfl, rfl⟩, H1.out, hg1⟩

set_option maxHeartbeats 400000 in
theorem take_out (r : Nat) (n : Int) (rest : List UInt8) (w : World) (hr : Rd w r (some rest)) (hn : ¬ (0 ≤ n ∧ n ≤ rest.length)) :
    Calls Try.prog 69 #[.pointer (some ⟨r, 0, none⟩), .int .i64 n] w (TakePost r w (takeS (some rest) n)) := by
  obtain ⟨g, off, cs, hb, hg, hcs⟩ := hr
  have Hts : Hid (takeS (some rest) n = ([], none)) := (if_neg hn : (if 0 ≤ n ∧ n ≤ rest.length then (rest.take n.toNat, some (rest.drop n.toNat)) else ([], none)) = (([], none) : List UInt8 × Option (List UInt8)))
  have hc0 : w.cell? ⟨r, 0, none⟩ = some (.slice (some ⟨g, off, none⟩) rest.length rest.length) := by rw [hb.cell]; rfl
  have hc1 : w.cell? ⟨r, 1, none⟩ = some (.bool false) := by rw [hb.cell]; rfl
  have H := Lib.hid hb
  clear hb hcs
  by_cases h0 : n < 0
  · have hd : decide (n < 0) = true := by simpa using h0
    clear hn
    go_enter Try.func69, Try.ntmps69
    go_wp2_with fail
    refine (fail_any r _ _ _ H.out).mono ?_
    rintro e w1 ⟨rfl, hr1, hg1⟩
    have H1 := Lib.hid hr1
    clear hr1
    go_wp2_with fail
    go_ret
    rw [Hts.out]
    exact ⟨_, rfl, .inl ⟨rfl, rfl⟩, H1.out, hg1⟩
  · have h1 : (rest.length : Int) < n := by omega
    have hd : decide (n < 0) = false := by simpa using h0
    clear hn
    go_enter Try.func69, Try.ntmps69
    go_wp2_with fail
    refine (fail_any r _ _ _ H.out).mono ?_
    rintro e w1 ⟨rfl, hr1, hg1⟩
    have H1 := Lib.hid hr1
    clear hr1
    go_wp2_with fail
    go_ret
    rw [Hts.out]
    exact ⟨_, rfl, .inl ⟨rfl, rfl⟩, H1.out, hg1⟩

set_option maxHeartbeats 800000 in
theorem take_in (r n : Nat) (rest : List UInt8) (w : World) (hr : Rd w r (some rest)) (hn : n ≤ rest.length) (hl : rest.length ≤ 140737488355320) :
    Calls Try.prog 69 #[.pointer (some ⟨r, 0, none⟩), .int .i64 (n : Int)] w (TakePost r w (rest.take n, some (rest.drop n))) := by
  obtain ⟨g, off, cs, hb, hg, hcs⟩ := hr
  have hlt := hb.lt
  have hc0 : w.cell? ⟨r, 0, none⟩ = some (.slice (some ⟨g, off, none⟩) rest.length rest.length) := by rw [hb.cell]; rfl
  have hc1 : w.cell? ⟨r, 1, none⟩ = some (.bool false) := by rw [hb.cell]; rfl
  have hf0 := hb.frozen 0
  have hsrc : Src w (some ⟨g, off, none⟩) n (rest.take n) := by
    have h := Src.of_blk (xs := rest.take n) hg (off := off) (fun j c hj => hcs j c (by
      rw [List.getElem?_take] at hj
      split at hj
      · exact hj
      · cases hj))
    rwa [List.length_take, Nat.min_eq_left hn] at h
  generalize hL : rest.length = L at *
  have HL := Lib.hid hL
  have H := Lib.hid hb
  have HS := Lib.hid hsrc
  have HC := Lib.hid hcs
  clear hb hcs hsrc hL
  go_enter Try.func69, Try.ntmps69
  go_wp2_with fail
  refine (grown_any _ n L 0 _ w HS.out (by omega)).mono ?_
  rintro e w1 ⟨rfl, hb1, hbel1⟩
  have H1 := Lib.hid hb1
  have hd0 : w1.cell? ⟨r, 0, none⟩ = some (.slice (some ⟨g, off, none⟩) L L) := (hbel1.cell (p := ⟨r, 0, none⟩) hlt).trans hc0
  have hff0 : w1.frozen? ⟨r, 0, none⟩ = false := (hbel1.frozen (p := ⟨r, 0, none⟩) hlt).trans hf0
  clear hb1 hc0 hf0 hc1
  by_cases hnl : n = L
  · subst hnl
    go_wp2_with fail
    go_ret
    refine ⟨_, rfl, .inr ⟨w.heap.size, ?_, ?_⟩, ⟨g, off, cs, ?_, ?_, ?_⟩, only_setCell (p := ⟨r, 0, none⟩) (only_of_below hbel1 _) (.inl rfl) _⟩
    · simp only [List.length_take, HL.out, Nat.min_self]; rfl
    · have h := H1.out; rw [List.replicate_zero, List.append_nil] at h; exact h.far (p := ⟨r, 0, none⟩) (by show w.heap.size ≠ r; omega) _
    · have h := (H.out.below hbel1 hlt).set_ 0 (.slice (some ⟨g, off, none⟩) 0 0)
      rw [set2_0] at h
      simp only [List.length_drop, HL.out, Nat.sub_self]
      exact h
    · exact (hg.below hbel1 hg.lt).far (p := ⟨r, 0, none⟩) (hg.ne_ H.out (by decide)) _
    · intro j c hj
      rw [List.drop_eq_nil_of_le (by rw [HL.out]; omega)] at hj
      simp at hj
  · go_wp2_with fail
    go_ret
    refine ⟨_, rfl, .inr ⟨w.heap.size, ?_, ?_⟩, ⟨g, off + n, cs, ?_, ?_, ?_⟩, only_setCell (p := ⟨r, 0, none⟩) (only_of_below hbel1 _) (.inl rfl) _⟩
    · simp only [List.length_take, HL.out, Nat.min_eq_left hn]; rfl
    · have h := H1.out; rw [List.replicate_zero, List.append_nil] at h; exact h.far (p := ⟨r, 0, none⟩) (by show w.heap.size ≠ r; omega) _
    · have h := (H.out.below hbel1 hlt).set_ 0 (.slice (some ⟨g, off + n, none⟩) (L - n) (L - n))
      rw [set2_0] at h
      simp only [List.length_drop, HL.out]
      exact h
    · exact (hg.below hbel1 hg.lt).far (p := ⟨r, 0, none⟩) (hg.ne_ H.out (by decide)) _
    · intro j c hj
      rw [Nat.add_assoc]
      exact HC.out (n + j) c (by rw [← hj, List.getElem?_drop])

theorem take_any (r : Nat) (n : Int) (st : Option (List UInt8)) (w : World) (hr : Rd w r st) (hl : ∀ rest, st = some rest → rest.length ≤ 140737488355320) :
    Calls Try.prog 69 #[.pointer (some ⟨r, 0, none⟩), .int .i64 n] w (TakePost r w (takeS st n)) := by
  cases st with
  | none => exact take_bad r n w hr
  | some rest =>
    by_cases hn : 0 ≤ n ∧ n ≤ rest.length
    · obtain ⟨k, rfl⟩ := Int.eq_ofNat_of_zero_le hn.1
      have e : takeS (some rest) (k : Int) = (rest.take k, some (rest.drop k)) := by
        show (if 0 ≤ (k : Int) ∧ (k : Int) ≤ rest.length then (rest.take (k : Int).toNat, some (rest.drop (k : Int).toNat)) else ([], none)) = _
        rw [if_pos hn, Int.toNat_natCast]
      rw [e]
      exact take_in r k rest w hr (by omega) (hl rest rfl)
    · exact take_out r n rest w hr hn
end Go.Proofs.Ytajmdchidmamcaa.Be
