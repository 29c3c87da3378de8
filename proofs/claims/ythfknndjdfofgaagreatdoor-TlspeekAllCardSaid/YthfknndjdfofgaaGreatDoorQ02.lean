/-
 Contracts of be.Reader over this seat's translation: Read, Take, Num, Vec, Left, Bad, Done.
-/
import Derived.Test.YthfknndjdfofgaaGreatDoorQ01
namespace Go.Proofs.YthfknndjdfofgaaGreatDoor.Be
open Go.RowKit Go.Proofs.YthfknndjdfofgaaGreatDoor.Wd

def Rd (w : World) (r : Nat) : Option (List UInt8) → Prop
 | some rest => ∃ g off cs, Blk w r 205 #[.slice (some ⟨g, off, none⟩) rest.length rest.length, .bool false] ∧ Blk w g 5 cs ∧ ∀ j c, rest[j]? = some c → cs[off + j]? = some (b8 c)
 | none => Blk w r 205 #[.slice none 0 0, .bool true]
theorem Rd.lt {w : World} {r : Nat} {st : Option (List UInt8)} (h : Rd w r st) : r < w.heap.size := by
 cases st with
 | none => exact Blk.lt h
 | some rest => obtain ⟨g, off, cs, hb, _⟩ := h; exact hb.lt
theorem Rd.below {w w' : World} {r B : Nat} {st : Option (List UInt8)} (h : Rd w r st) (hb : Below B w w') (hB : w.heap.size ≤ B) : Rd w' r st := by
 cases st with
 | none => exact Blk.below h hb (by have := Blk.lt h; omega)
 | some rest => obtain ⟨g, off, cs, h1, h2, h3⟩ := h; exact ⟨g, off, cs, h1.below hb (by have := h1.lt; omega), h2.below hb (by have := h2.lt; omega), h3⟩
theorem Rd.grown {w w' : World} {r r' : Nat} {st : Option (List UInt8)} {cs' : Array Value} (h : Rd w r st) (hr : Blk w r' 205 cs') (hne : r ≠ r') (hb : w.grownBy w' (some r')) : Rd w' r st := by
 cases st with
 | none => exact Blk.grown h hb (by simp [hne])
 | some rest =>
   obtain ⟨g, off, cs, h1, h2, h3⟩ := h
   exact ⟨g, off, cs, h1.grown hb (by simp [hne]), h2.grown hb (by have := h2.ne_ hr (by decide); simp [this]), h3⟩
theorem Rd.blk {w : World} {r : Nat} {st : Option (List UInt8)} (h : Rd w r st) : ∃ cs, Blk w r 205 cs := by
 cases st with
 | none => exact ⟨_, h⟩
 | some rest => obtain ⟨g, off, cs, hb, _⟩ := h; exact ⟨_, hb⟩

set_option maxHeartbeats 400000 in
theorem read_any (A : Option Addr) (n c : Nat) (xs : List UInt8) (w : World) (hs : Src w A n xs) (hn : n ≤ 140737488355320) :
   Calls Tryz.prog 159 #[.slice A n c] w fun e w' => ∃ r, e = .returned (.pointer (some ⟨r, 0, none⟩)) ∧ w.heap.size ≤ r ∧ Rd w' r (some xs) ∧ Below w.heap.size w w' := by
 go_enter Tryz.func159, Tryz.ntmps159
 go_wp2_with fail
 refine (grown_any A n c 0 xs w hs (by omega)).mono ?_
 rintro e w1 ⟨rfl, hb1, hbel1⟩
 have hsz := hb1.lt
 have H1 := Lib.hid hb1
 clear hb1
 go_wp2_with fail
 go_ret
 refine ⟨w1.heap.size, rfl, hbel1.size, ⟨w.heap.size, 0, _, ?_, H1.out.alloc _, ?_⟩, hbel1.alloc hbel1.size _⟩
 · rw [hs.1]; exact Blk.new _ _ _
 · intro j c hj
   simpa using cellsOf_get hj

theorem set2_0 (a b x : Value) : (#[a, b] : Array Value).setIfInBounds 0 x = #[x, b] := by simp
theorem set2_1 (a b x : Value) : (#[a, b] : Array Value).setIfInBounds 1 x = #[a, x] := by simp

set_option maxHeartbeats 400000 in
theorem fail_any (r : Nat) (a b : Value) (w : World) (hb : Blk w r 205 #[a, b]) :
   Calls Tryz.prog 193 #[.pointer (some ⟨r, 0, none⟩)] w fun e w' => e = .returned (.tuple #[]) ∧ Rd w' r none ∧ w.grownBy w' (some r) := by
 have hc0 : w.cell? ⟨r, 0, none⟩ = some a := by rw [hb.cell]; rfl
 have hc1 : w.cell? ⟨r, 1, none⟩ = some b := by rw [hb.cell]; rfl
 have hf0 := hb.frozen 0
 have hf1 := hb.frozen 1
 have H := Lib.hid hb
 clear hb
 go_enter Tryz.func193, Tryz.ntmps193
 go_wp2
 go_end0
 refine ⟨rfl, ?_, ?_⟩
 rotate_left
 · exact only_setCell (p := ⟨r, 0, none⟩) (only_setCell (p := ⟨r, 1, none⟩) (only_refl w (some r)) (.inl rfl) (.bool true)) (.inl rfl) (.slice none 0 0)
 have h := (H.out.set_ 1 (.bool true)).set_ 0 (.slice none 0 0)
 rw [set2_1, set2_0] at h
 exact h

def takeS : Option (List UInt8) → Int → List UInt8 × Option (List UInt8)
 | none, _ => ([], none)
 | some rest, n => if 0 ≤ n ∧ n ≤ rest.length then (rest.take n.toNat, some (rest.drop n.toNat)) else ([], none)
def TakePost (r : Nat) (w : World) (p : List UInt8 × Option (List UInt8)) (e : Ending) (w' : World) : Prop :=
 ∃ v, e = .returned v ∧ Sl w' v p.1 ∧ Rd w' r p.2 ∧ w.grownBy w' (some r)

set_option maxHeartbeats 400000 in
theorem take_bad (r : Nat) (n : Int) (w : World) (hr : Rd w r none) :
   Calls Tryz.prog 161 #[.pointer (some ⟨r, 0, none⟩), .int .i64 n] w (TakePost r w (takeS none n)) := by
 have hb : Blk w r 205 #[.slice none 0 0, .bool true] := hr
 have hc1 : w.cell? ⟨r, 1, none⟩ = some (.bool true) := by rw [hb.cell]; rfl
 have H := Lib.hid hb
 clear hb hr
 go_enter Tryz.func161, Tryz.ntmps161
 go_wp2_with fail
 refine (fail_any r _ _ _ H.out).mono ?_
 rintro e w1 ⟨rfl, hr1, hg1⟩
 have H1 := Lib.hid hr1
 clear hr1
 go_wp2_with fail
 go_ret
 exact ⟨_, rfl, .inl ⟨rfl, rfl⟩, H1.out, hg1⟩

set_option maxHeartbeats 400000 in
theorem take_out (r : Nat) (n : Int) (rest : List UInt8) (w : World) (hr : Rd w r (some rest)) (hn : ¬ (0 ≤ n ∧ n ≤ rest.length)) :
   Calls Tryz.prog 161 #[.pointer (some ⟨r, 0, none⟩), .int .i64 n] w (TakePost r w (takeS (some rest) n)) := by
 obtain ⟨g, off, cs, hb, hg, hcs⟩ := hr
 have Hts : Hid (takeS (some rest) n = ([], none)) := (if_neg hn : (if 0 ≤ n ∧ n ≤ rest.length then (rest.take n.toNat, some (rest.drop n.toNat)) else ([], none)) = (([], none) : List UInt8 × Option (List UInt8)))
 have hc0 : w.cell? ⟨r, 0, none⟩ = some (.slice (some ⟨g, off, none⟩) rest.length rest.length) := by rw [hb.cell]; rfl
 have hc1 : w.cell? ⟨r, 1, none⟩ = some (.bool false) := by rw [hb.cell]; rfl
 have H := Lib.hid hb
 clear hb hcs
 by_cases h0 : n < 0
 · have hd : decide (n < 0) = true := by simpa using h0
   clear hn
   go_enter Tryz.func161, Tryz.ntmps161
   go_wp2_with fail
   refine (fail_any r _ _ _ H.out).mono ?_
   rintro e w1 ⟨rfl, hr1, hg1⟩
   have H1 := Lib.hid hr1
   clear hr1
   go_wp2_with fail
   go_ret
   rw [Hts.out]
   exact ⟨_, rfl, .inl ⟨rfl, rfl⟩, H1.out, hg1⟩
 · have h1 : (rest.length : Int) < n := by omega
   have hd : decide (n < 0) = false := by simpa using h0
   clear hn
   go_enter Tryz.func161, Tryz.ntmps161
   go_wp2_with fail
   refine (fail_any r _ _ _ H.out).mono ?_
   rintro e w1 ⟨rfl, hr1, hg1⟩
   have H1 := Lib.hid hr1
   clear hr1
   go_wp2_with fail
   go_ret
   rw [Hts.out]
   exact ⟨_, rfl, .inl ⟨rfl, rfl⟩, H1.out, hg1⟩

set_option maxHeartbeats 800000 in
theorem take_in (r n : Nat) (rest : List UInt8) (w : World) (hr : Rd w r (some rest)) (hn : n ≤ rest.length) (hl : rest.length ≤ 140737488355320) :
   Calls Tryz.prog 161 #[.pointer (some ⟨r, 0, none⟩), .int .i64 (n : Int)] w (TakePost r w (rest.take n, some (rest.drop n))) := by
 obtain ⟨g, off, cs, hb, hg, hcs⟩ := hr
 have hlt := hb.lt
 have hc0 : w.cell? ⟨r, 0, none⟩ = some (.slice (some ⟨g, off, none⟩) rest.length rest.length) := by rw [hb.cell]; rfl
 have hc1 : w.cell? ⟨r, 1, none⟩ = some (.bool false) := by rw [hb.cell]; rfl
 have hf0 := hb.frozen 0
 have hsrc : Src w (some ⟨g, off, none⟩) n (rest.take n) := by
   have h := Src.of_blk (xs := rest.take n) hg (off := off) (fun j c hj => hcs j c (by
     rw [List.getElem?_take] at hj
     split at hj
     · exact hj
     · cases hj))
   rwa [List.length_take, Nat.min_eq_left hn] at h
 generalize hL : rest.length = L at *
 have HL := Lib.hid hL
 have H := Lib.hid hb
 have HS := Lib.hid hsrc
 have HC := Lib.hid hcs
 clear hb hcs hsrc hL
 go_enter Tryz.func161, Tryz.ntmps161
 go_wp2_with fail
 refine (grown_any _ n L 0 _ w HS.out (by omega)).mono ?_
 rintro e w1 ⟨rfl, hb1, hbel1⟩
 have H1 := Lib.hid hb1
 have hd0 : w1.cell? ⟨r, 0, none⟩ = some (.slice (some ⟨g, off, none⟩) L L) := (hbel1.cell (p := ⟨r, 0, none⟩) hlt).trans hc0
 have hff0 : w1.frozen? ⟨r, 0, none⟩ = false := (hbel1.frozen (p := ⟨r, 0, none⟩) hlt).trans hf0
 clear hb1 hc0 hf0 hc1
 by_cases hnl : n = L
 · subst hnl
   go_wp2_with fail
   go_ret
   refine ⟨_, rfl, .inr ⟨w.heap.size, ?_, ?_⟩, ⟨g, off, cs, ?_, ?_, ?_⟩, only_setCell (p := ⟨r, 0, none⟩) (only_of_below hbel1 _) (.inl rfl) _⟩
   · simp only [List.length_take, HL.out, Nat.min_self]; rfl
   · have h := H1.out; rw [List.replicate_zero, List.append_nil] at h; exact h.far (p := ⟨r, 0, none⟩) (by show w.heap.size ≠ r; omega) _
   · have h := (H.out.below hbel1 hlt).set_ 0 (.slice (some ⟨g, off, none⟩) 0 0)
     rw [set2_0] at h
     simp only [List.length_drop, HL.out, Nat.sub_self]
     exact h
   · exact (hg.below hbel1 hg.lt).far (p := ⟨r, 0, none⟩) (hg.ne_ H.out (by decide)) _
   · intro j c hj
     rw [List.drop_eq_nil_of_le (by rw [HL.out]; omega)] at hj
     simp at hj
 · go_wp2_with fail
   go_ret
   refine ⟨_, rfl, .inr ⟨w.heap.size, ?_, ?_⟩, ⟨g, off + n, cs, ?_, ?_, ?_⟩, only_setCell (p := ⟨r, 0, none⟩) (only_of_below hbel1 _) (.inl rfl) _⟩
   · simp only [List.length_take, HL.out, Nat.min_eq_left hn]; rfl
   · have h := H1.out; rw [List.replicate_zero, List.append_nil] at h; exact h.far (p := ⟨r, 0, none⟩) (by show w.heap.size ≠ r; omega) _
   · have h := (H.out.below hbel1 hlt).set_ 0 (.slice (some ⟨g, off + n, none⟩) (L - n) (L - n))
     rw [set2_0] at h
     simp only [List.length_drop, HL.out]
     exact h
   · exact (hg.below hbel1 hg.lt).far (p := ⟨r, 0, none⟩) (hg.ne_ H.out (by decide)) _
   · intro j c hj
     rw [Nat.add_assoc]
     exact HC.out (n + j) c (by rw [← hj, List.getElem?_drop])

theorem take_any (r : Nat) (n : Int) (st : Option (List UInt8)) (w : World) (hr : Rd w r st) (hl : ∀ rest, st = some rest → rest.length ≤ 140737488355320) :
   Calls Tryz.prog 161 #[.pointer (some ⟨r, 0, none⟩), .int .i64 n] w (TakePost r w (takeS st n)) := by
 cases st with
 | none => exact take_bad r n w hr
 | some rest =>
   by_cases hn : 0 ≤ n ∧ n ≤ rest.length
   · obtain ⟨k, rfl⟩ := Int.eq_ofNat_of_zero_le hn.1
     have e : takeS (some rest) (k : Int) = (rest.take k, some (rest.drop k)) := by
       show (if 0 ≤ (k : Int) ∧ (k : Int) ≤ rest.length then (rest.take (k : Int).toNat, some (rest.drop (k : Int).toNat)) else ([], none)) = _
       rw [if_pos hn, Int.toNat_natCast]
     rw [e]
     exact take_in r k rest w hr (by omega) (hl rest rfl)
   · exact take_out r n rest w hr hn
end Go.Proofs.YthfknndjdfofgaaGreatDoor.Be

/-
 Contracts of be.Reader over this seat's translation: Num, Vec, Left, Bad, Done.
-/
namespace Go.Proofs.YthfknndjdfofgaaGreatDoor.Be
open Go.RowKit Go.Proofs.YthfknndjdfofgaaGreatDoor.Wd

theorem ofInt_i64 (a : Nat) (ha : a < 9223372036854775808) : (BitVec.ofInt 64 (a : Int)).toNat = a := by
 rw [BitVec.ofInt_natCast, BitVec.toNat_ofNat]; exact Nat.mod_eq_of_lt (by omega)
theorem i64_or_nat (a b : Nat) (ha : a < 9223372036854775808) (hb : b < 9223372036854775808) : bits .or .i64 (a : Int) (b : Int) = ((a ||| b : Nat) : Int) := by
 have hx : a ||| b < 2 ^ 63 := Nat.or_lt_two_pow (by omega) (by omega)
 show IntKind.i64.wrap ((BitVec.ofInt 64 (a : Int) ||| BitVec.ofInt 64 (b : Int)).toNat : Int) = _
 rw [BitVec.toNat_or, ofInt_i64 a ha, ofInt_i64 b hb, IntKind.wrap_i64]
 omega
theorem or_byte (a b : Nat) (ha : a < 16777216) (hb : b < 256) : bits .or .i64 ((a : Int) * 256) (b : Int) = (a : Int) * 256 + b := by
 have h := i64_or_nat (a * 256) b (by omega) (by omega)
 rw [show ((a * 256 : Nat) : Int) = (a : Int) * 256 from by omega] at h
 rw [h]
 have := Nat.shiftLeft_add_eq_or_of_lt (i := 8) (b := b) (by omega) a
 rw [Nat.shiftLeft_eq, show (2 : Nat) ^ 8 = 256 from rfl] at this
 omega

def natOf (xs : List UInt8) : Nat := xs.foldl (fun a c => a * 256 + c.toNat) 0
theorem natOf_snoc (xs : List UInt8) (c : UInt8) : natOf (xs ++ [c]) = natOf xs * 256 + c.toNat := by simp [natOf]
theorem natOf_aux (xs : List UInt8) (a : Nat) : xs.foldl (fun a c => a * 256 + c.toNat) a + 1 ≤ (a + 1) * 256 ^ xs.length := by
 induction xs generalizing a with
 | nil => simp
 | cons c xs ih =>
   have h := ih (a * 256 + c.toNat)
   have hc := c.toNat_lt
   have h2 : (a * 256 + c.toNat + 1) * 256 ^ xs.length ≤ ((a + 1) * 256) * 256 ^ xs.length := Nat.mul_le_mul_right _ (by omega)
   rw [List.foldl_cons, List.length_cons, Nat.pow_succ, Nat.mul_comm (256 ^ xs.length) 256, ← Nat.mul_assoc]
   omega
theorem natOf_lt (xs : List UInt8) : natOf xs < 256 ^ xs.length := by
 have h := natOf_aux xs 0
 rw [Nat.zero_add, Nat.one_mul] at h
 exact h

def NumPost (r : Nat) (w : World) (p : Nat × Option (List UInt8)) (e : Ending) (w' : World) : Prop :=
 e = .returned (.int .i64 (p.1 : Int)) ∧ Rd w' r p.2 ∧ w.grownBy w' (some r)
def numS (st : Option (List UInt8)) (size : Int) : Nat × Option (List UInt8) := (natOf (takeS st (clampI size)).1, (takeS st (clampI size)).2)
theorem takeS_len (st : Option (List UInt8)) (n : Int) (_h : 0 ≤ n) : (takeS st n).1.length ≤ n.toNat := by
 cases st with
 | none => simp [takeS]
 | some rest =>
   show (if 0 ≤ n ∧ n ≤ rest.length then (rest.take n.toNat, some (rest.drop n.toNat)) else ([], none)).1.length ≤ n.toNat
   split <;> simp <;> omega

set_option maxHeartbeats 400000 in
theorem num_any (r : Nat) (size : Int) (st : Option (List UInt8)) (w : World) (hr : Rd w r st) (hl : ∀ rest, st = some rest → rest.length ≤ 140737488355320) :
   Calls Tryz.prog 160 #[.pointer (some ⟨r, 0, none⟩), .int .i64 size] w (NumPost r w (numS st size)) := by
 have HL := Lib.hid hl
 have HR := Lib.hid hr
 clear hl hr
 have hcb := clampI_bd size
 go_enter Tryz.func160, Tryz.ntmps160
 go_wp2_with fail
 refine (clamp_any _ _).mono ?_
 rintro e w1 ⟨rfl, rfl⟩
 go_wp2_with fail
 refine (take_any r _ st w HR.out HL.out).mono ?_
 rintro e w1 ⟨v, rfl, hsl, hrd, hgr⟩
 have hlen := takeS_len st (clampI size) (by omega)
 obtain ⟨A, c, rfl, hle, hsrc⟩ := hsl.src
 have Hfin : Hid (numS st size = (natOf (takeS st (clampI size)).1, (takeS st (clampI size)).2)) := rfl
 generalize takeS st (clampI size) = p at *
 obtain ⟨xs, st'⟩ := p
 simp only at hrd hlen hsrc hle Hfin
 have hl4 : xs.length ≤ 4 := by omega
 have HRD := Lib.hid hrd
 have HS := Lib.hid hsrc
 clear hsl hrd hsrc hlen hcb
 go_wp2_with fail
 go_loop [5, 13] (fun m i => ∃ k : Nat, k ≤ xs.length ∧ i = .int .i64 k ∧ m = .int .i64 (natOf (xs.take k) : Int)) (fun _ i => xs.length - (intOf i).toNat)
 case atStart => exact ⟨0, Nat.zero_le _, rfl, rfl⟩
 case round =>
   obtain ⟨k, hk, rfl, rfl⟩ := hrel
   by_cases hlt : k < xs.length
   · obtain ⟨ad, rfl, _, hc⟩ := HS.out.2 (by omega)
     have hcell : w1.cell? (ad.add k) = some (.int .u8 (xs[k].toNat : Int)) := hc k _ (List.getElem?_eq_getElem hlt)
     have hb : xs[k].toNat < 256 := xs[k].toNat_lt
     have hnl := natOf_lt (xs.take k)
     have htl : (xs.take k).length = k := by rw [List.length_take]; omega
     have hn3 : natOf (xs.take k) < 16777216 := by
       rw [htl] at hnl
       exact Nat.lt_of_lt_of_le hnl (Nat.pow_le_pow_right (n := 256) (by omega) (by omega : k ≤ 3))
     clear hnl htl hc
     have hor := or_byte (natOf (xs.take k)) xs[k].toNat hn3 hb
     have hsn : natOf (xs.take (k + 1)) = natOf (xs.take k) * 256 + xs[k].toNat := by
       rw [List.take_add_one, List.getElem?_eq_getElem hlt]; exact natOf_snoc _ _
     have HSN := Lib.hid hsn
     clear hsn
     generalize natOf (xs.take k) = a at *
     generalize xs[k].toNat = b at *
     go_wp2
     go_round
     case rel => exact ⟨k + 1, by omega, by go_num, by rw [HSN.out]; go_num⟩
     case measure => simp [intOf]; omega
   · obtain rfl : k = xs.length := by omega
     go_wp2
     go_ret
     rw [Hfin.out]
     exact ⟨rfl, HRD.out, hgr⟩

theorem takeS_rest {st : Option (List UInt8)} {n : Int} {B : Nat} (hl : ∀ rest, st = some rest → rest.length ≤ B) : ∀ rest, (takeS st n).2 = some rest → rest.length ≤ B := by
 intro rest h
 cases st with
 | none => simp [takeS] at h
 | some l =>
   have h' : (if 0 ≤ n ∧ n ≤ l.length then (l.take n.toNat, some (l.drop n.toNat)) else ([], none)).2 = some rest := h
   split at h'
   · have := hl l rfl
     injection h' with h'
     subst h'
     rw [List.length_drop]
     omega
   · cases h'

def vecS (st : Option (List UInt8)) (size : Int) : List UInt8 × Option (List UInt8) := takeS (numS st size).2 ((numS st size).1 : Int)

set_option maxHeartbeats 400000 in
theorem rvec_any (r : Nat) (size : Int) (st : Option (List UInt8)) (w : World) (hr : Rd w r st) (hl : ∀ rest, st = some rest → rest.length ≤ 140737488355320) :
   Calls Tryz.prog 162 #[.pointer (some ⟨r, 0, none⟩), .int .i64 size] w (TakePost r w (vecS st size)) := by
 have HL := Lib.hid hl
 have HR := Lib.hid hr
 clear hl hr
 go_enter Tryz.func162, Tryz.ntmps162
 go_wp2_with fail
 refine (num_any r _ st w HR.out HL.out).mono ?_
 rintro e w1 ⟨rfl, hrd, hgr⟩
 have HRD := Lib.hid hrd
 have HL2 : Hid (∀ rest, (numS st size).2 = some rest → rest.length ≤ 140737488355320) := takeS_rest HL.out
 have Hv : Hid (vecS st size = takeS (numS st size).2 ((numS st size).1 : Int)) := rfl
 generalize numS st size = p at *
 clear hrd
 go_wp2_with fail
 refine (take_any r _ p.2 w1 HRD.out HL2.out).mono ?_
 rintro e w2 ⟨v, rfl, hsl, hrd2, hgr2⟩
 have HSL := Lib.hid hsl
 have HRD2 := Lib.hid hrd2
 clear hsl hrd2
 go_wp2_with fail
 go_ret
 rw [Hv.out]
 exact ⟨v, rfl, HSL.out, HRD2.out, only_trans hgr hgr2⟩

def leftS : Option (List UInt8) → Nat
 | some rest => rest.length
 | none => 0

theorem left_any (r : Nat) (st : Option (List UInt8)) (w : World) (hr : Rd w r st) :
   Calls Tryz.prog 164 #[.pointer (some ⟨r, 0, none⟩)] w fun e w' => e = .returned (.int .i64 (leftS st : Int)) ∧ w = w' := by
 obtain ⟨A, c, hc⟩ : ∃ A c, w.cell? ⟨r, 0, none⟩ = some (.slice A (leftS st) c) := by
   cases st with
   | none => exact ⟨_, _, (Blk.cell hr 0).trans rfl⟩
   | some rest => obtain ⟨g, off, cs, hb, _⟩ := hr; exact ⟨_, _, (Blk.cell hb 0).trans rfl⟩
 clear hr
 go_enter Tryz.func164, Tryz.ntmps164
 go_wp2
 go_ret
 exact ⟨rfl, rfl⟩

theorem Rd.bad {w : World} {r : Nat} {st : Option (List UInt8)} (hr : Rd w r st) : w.cell? ⟨r, 1, none⟩ = some (.bool st.isNone) := by
 cases st with
 | none => exact (Blk.cell hr 1).trans rfl
 | some rest => obtain ⟨g, off, cs, hb, _⟩ := hr; exact (Blk.cell hb 1).trans rfl


def doneS : Option (List UInt8) → Bool
 | some rest => rest.isEmpty
 | none => false

theorem done_any (r : Nat) (st : Option (List UInt8)) (w : World) (hr : Rd w r st) :
   Calls Tryz.prog 166 #[.pointer (some ⟨r, 0, none⟩)] w fun e w' => e = .returned (.bool (doneS st)) ∧ w = w' := by
 have hc := hr.bad
 cases st with
 | none =>
   have hc1 : w.cell? ⟨r, 1, none⟩ = some (.bool true) := hc
   clear hr hc
   go_enter Tryz.func166, Tryz.ntmps166
   go_wp2
   go_ret
   exact ⟨rfl, rfl⟩
 | some rest =>
   have hc1 : w.cell? ⟨r, 1, none⟩ = some (.bool false) := hc
   obtain ⟨g, off, cs, hb, _⟩ := hr
   have hc0 : w.cell? ⟨r, 0, none⟩ = some (.slice (some ⟨g, off, none⟩) rest.length rest.length) := by rw [hb.cell]; rfl
   have hd : ((rest.length : Int) == 0) = rest.isEmpty := by
     rw [Bool.eq_iff_iff]; simp
   have HD := Lib.hid hd
   clear hb hc hd
   go_enter Tryz.func166, Tryz.ntmps166
   go_wp2
   go_ret
   exact ⟨congrArg (fun b => Ending.returned (.bool b)) HD.out, rfl⟩
end Go.Proofs.YthfknndjdfofgaaGreatDoor.Be

/-
 Plain facts on bytes and numbers, and on what a reader of package be does.
-/
namespace Go.Proofs.YthfknndjdfofgaaGreatDoor.Be
open Go.RowKit Go.Proofs.YthfknndjdfofgaaGreatDoor.Wd

theorem natOf_bytesOf (n : Int) (k : Nat) : (natOf (bytesOf n k) : Int) = n % 256 ^ k := by
 induction k generalizing n with
 | zero => simp [bytesOf, natOf, Int.emod_one]
 | succ k ih =>
   rw [bytesOf, natOf_snoc]
   have h1 : (((Go.Proofs.YthfknndjdfofgaaGreatDoor.Be.byteOf n).toNat : Nat) : Int) = n % 256 := by
     unfold Go.Proofs.YthfknndjdfofgaaGreatDoor.Be.byteOf
     simp only [UInt8.toNat_ofNat']
     omega
   rw [Int.natCast_add, Int.natCast_mul, ih, h1, Int.pow_succ]
   have hP : (0 : Int) < 256 ^ k := Int.pow_pos (by omega)
   generalize (256 : Int) ^ k = P at *
   have hX := Int.mul_ediv_add_emod (n / 256) P
   have hX0 := Int.emod_nonneg (n / 256) (show P ≠ 0 by omega)
   have hX1 := Int.emod_lt_of_pos (n / 256) hP
   refine ((Int.ediv_emod_unique (a := n) (b := P * 256) (r := n / 256 % P * (256 : Nat) + n % 256) (q := n / 256 / P) (by omega)).2 ⟨?_, by omega, by omega⟩).2.symm
   have e : P * 256 * (n / 256 / P) = 256 * (P * (n / 256 / P)) := by rw [Int.mul_comm P 256, Int.mul_assoc]
   rw [e]
   omega
theorem takeS_in (xs : List UInt8) (k : Nat) (h : k ≤ xs.length) : takeS (some xs) (k : Int) = (xs.take k, some (xs.drop k)) := by
 show (if 0 ≤ (k : Int) ∧ (k : Int) ≤ xs.length then (xs.take (k : Int).toNat, some (xs.drop (k : Int).toNat)) else ([], none)) = _
 rw [if_pos (by omega), Int.toNat_natCast]
theorem takeS_out (xs : List UInt8) (n : Int) (h : ¬ (0 ≤ n ∧ n ≤ xs.length)) : takeS (some xs) n = ([], none) := if_neg h
end Go.Proofs.YthfknndjdfofgaaGreatDoor.Be

/-
 Plain facts: what a hello is, as bytes; what is read of bytes, what is wrong of a hello, what is printed, and that the two fit each other. No condition.
-/
namespace Go.Proofs.YthfknndjdfofgaaGreatDoor.Be
open Go.RowKit Go.Proofs.YthfknndjdfofgaaGreatDoor.Wd

theorem bytesOf_natOf (xs : List UInt8) : bytesOf (natOf xs : Int) xs.length = xs := by
 generalize hl : xs.length = k
 induction k generalizing xs with
 | zero => rw [List.eq_nil_of_length_eq_zero hl]; rfl
 | succ k ih =>
   have hne : xs ≠ [] := by intro h; subst h; cases hl
   obtain ⟨ys, c, rfl⟩ : ∃ ys c, xs = ys ++ [c] := ⟨xs.dropLast, xs.getLast hne, (List.dropLast_concat_getLast hne).symm⟩
   have hy : ys.length = k := by simpa using hl
   have hc := c.toNat_lt
   rw [natOf_snoc, bytesOf]
   have e1 : ((natOf ys * 256 + c.toNat : Nat) : Int) / 256 = (natOf ys : Int) := by omega
   have e2 : Go.Proofs.YthfknndjdfofgaaGreatDoor.Be.byteOf ((natOf ys * 256 + c.toNat : Nat) : Int) = c := by
     unfold Go.Proofs.YthfknndjdfofgaaGreatDoor.Be.byteOf
     apply UInt8.toNat.inj
     simp only [UInt8.toNat_ofNat']
     omega
   rw [e1, e2, ih ys hy]

theorem takeS_app (xs ys : List UInt8) (n : Int) (h : n = xs.length) : takeS (some (xs ++ ys)) n = (xs, some ys) := by
 subst h
 rw [takeS_in _ _ (by rw [List.length_append]; omega), List.take_left, List.drop_left]
theorem numS_app (n : Int) (ys : List UInt8) (size : Int) (k : Nat) (hk : clampI size = k) (h0 : 0 ≤ n) (h1 : n < 256 ^ k) : numS (some (bytesOf n k ++ ys)) size = (n.toNat, some ys) := by
 unfold numS
 rw [takeS_app _ _ _ (by rw [hk, bytesOf_length])]
 have h := natOf_bytesOf n k
 rw [Int.emod_eq_of_lt h0 h1] at h
 simp only
 congr 1
 omega
def vecB (k : Nat) (x : List UInt8) : List UInt8 := bytesOf (x.length : Int) k ++ x
theorem vecB_len (k : Nat) (x : List UInt8) : (vecB k x).length = k + x.length := by rw [vecB, List.length_append, bytesOf_length]
theorem vecS_app (xs ys : List UInt8) (size : Int) (k : Nat) (hk : clampI size = k) (hl : (xs.length : Int) < 256 ^ k) : vecS (some (vecB k xs ++ ys)) size = (xs, some ys) := by
 unfold vecS vecB
 rw [List.append_assoc, numS_app _ _ _ k hk (by omega) hl]
 exact takeS_app _ _ _ (by simp)

theorem takeS_inv {st : Option (List UInt8)} {n : Int} {x t : List UInt8} (h : takeS st n = (x, some t)) : st = some (x ++ t) ∧ (x.length : Int) = n := by
 cases st with
 | none => cases h
 | some xs =>
   by_cases hn : 0 ≤ n ∧ n ≤ xs.length
   · obtain ⟨k, rfl⟩ := Int.eq_ofNat_of_zero_le hn.1
     rw [takeS_in _ _ (by omega)] at h
     injection h with h1 h2
     injection h2 with h2
     subst h1 h2
     exact ⟨by rw [List.take_append_drop], by rw [List.length_take]; omega⟩
   · rw [takeS_out _ _ hn] at h
     cases h
theorem numS_inv {st : Option (List UInt8)} {size : Int} {k : Nat} {n : Nat} {t : List UInt8} (hk : clampI size = k) (h : numS st size = (n, some t)) : st = some (bytesOf (n : Int) k ++ t) ∧ n < 256 ^ k := by
 unfold numS at h
 injection h with h1 h2
 obtain ⟨h3, h4⟩ := takeS_inv (x := (takeS st (clampI size)).1) (Prod.ext rfl h2)
 have hl : (takeS st (clampI size)).1.length = k := by omega
 have h5 := natOf_lt (takeS st (clampI size)).1
 have h6 := bytesOf_natOf (takeS st (clampI size)).1
 rw [h1, hl] at h6 h5
 exact ⟨by rw [h6]; exact h3, h5⟩
theorem vecS_inv {st : Option (List UInt8)} {size : Int} {k : Nat} {x t : List UInt8} (hk : clampI size = k) (h : vecS st size = (x, some t)) : st = some (vecB k x ++ t) ∧ (x.length : Int) < 256 ^ k := by
 unfold vecS at h
 obtain ⟨h1, h2⟩ := takeS_inv h
 obtain ⟨h3, h4⟩ := numS_inv hk (n := (numS st size).1) (Prod.ext rfl h1)
 rw [← h2] at h3
 have h6 : ((256 ^ k : Nat) : Int) = 256 ^ k := by rw [Int.natCast_pow]; rfl
 have h5 : ((numS st size).1 : Int) < 256 ^ k := by rw [← h6]; exact Int.ofNat_lt.2 h4
 exact ⟨by rw [h3, vecB, List.append_assoc], by omega⟩
end Go.Proofs.YthfknndjdfofgaaGreatDoor.Be

namespace Go.Proofs.YthfknndjdfofgaaGreatDoor.He
open Go.RowKit Go.Proofs.YthfknndjdfofgaaGreatDoor.Wd Go.Proofs.YthfknndjdfofgaaGreatDoor.Be

structure Hel where
 ver : Int
 rnd : List UInt8
 ses : List UInt8
 cph : List Int
 met : List UInt8
 has : Bool
 exts : List (Int × List UInt8)
def Hel.zero : Hel := ⟨0, List.replicate 32 0, [], [], [], false, []⟩

def two (n : Int) : List UInt8 := bytesOf n 2
def numsB (l : List Int) : List UInt8 := l.flatMap two
def extB (x : Int × List UInt8) : List UInt8 := two x.1 ++ vecB 2 x.2
def extsB (l : List (Int × List UInt8)) : List UInt8 := l.flatMap extB
def In2 (n : Int) : Prop := 0 ≤ n ∧ n < 65536

def numsF : Nat → Option (List UInt8) → List Int × Bool
 | 0, st => ([], doneS st)
 | f + 1, st => if leftS st = 0 then ([], doneS st) else (((numS st 2).1 : Int) :: (numsF f (numS st 2).2).1, (numsF f (numS st 2).2).2)
def numsS (b : List UInt8) : List Int × Bool := numsF (b.length + 1) (some b)
def extsF : Nat → Option (List UInt8) → List (Int × List UInt8) × Bool
 | 0, st => ([], doneS st)
 | f + 1, st => if leftS st = 0 then ([], doneS st) else ((((numS st 2).1 : Int), (vecS (numS st 2).2 2).1) :: (extsF f (vecS (numS st 2).2 2).2).1, (extsF f (vecS (numS st 2).2 2).2).2)
def extsS (b : List UInt8) : List (Int × List UInt8) × Bool := extsF (b.length + 1) (some b)

theorem two_len (n : Int) : (two n).length = 2 := bytesOf_length n 2
theorem numsF_in : ∀ (l : List Int) (f : Nat), (∀ n ∈ l, In2 n) → 2 * l.length < f → numsF f (some (numsB l)) = (l, true)
 | [], 0, _, h => by simp at h
 | [], f + 1, _, _ => rfl
 | n :: l, 0, _, h => by simp at h
 | n :: l, f + 1, hl, h => by
   have hn := hl n (by simp)
   have e : numsB (n :: l) = two n ++ numsB l := by simp [numsB]
   have h0 : ¬ leftS (some (two n ++ numsB l)) = 0 := by simp [leftS, two_len]
   rw [e, numsF, if_neg h0]
   have h1 : numS (some (two n ++ numsB l)) 2 = (n.toNat, some (numsB l)) := numS_app n _ 2 2 (by decide) hn.1 hn.2
   rw [h1]
   have h2 := numsF_in l f (fun m hm => hl m (by simp [hm])) (by simp at h; omega)
   have h3 : ((n.toNat : Nat) : Int) = n := Int.toNat_of_nonneg hn.1
   simp only [h2, h3]
theorem numsB_len (l : List Int) : (numsB l).length = 2 * l.length := by
 induction l with
 | nil => rfl
 | cons n l ih => rw [show numsB (n :: l) = two n ++ numsB l by simp [numsB], List.length_append, ih, two_len, List.length_cons]; omega
theorem numsS_in (l : List Int) (h : ∀ n ∈ l, In2 n) : numsS (numsB l) = (l, true) := numsF_in l _ h (by rw [numsB_len]; omega)
theorem numsF_inv : ∀ (f : Nat) (st : Option (List UInt8)), leftS st < f → (numsF f st).2 = true → st = some (numsB (numsF f st).1) ∧ ∀ n ∈ (numsF f st).1, In2 n
 | 0, st, h, _ => by simp at h
 | f + 1, st, h, hd => by
   by_cases h0 : leftS st = 0
   · have e : numsF (f + 1) st = ([], doneS st) := by rw [numsF, if_pos h0]
     rw [e] at hd ⊢
     cases st with
     | none => cases hd
     | some b => exact ⟨by rw [List.eq_nil_of_length_eq_zero h0]; rfl, by simp⟩
   · rw [numsF, if_neg h0] at hd ⊢
     simp only at hd ⊢
     cases hq : (numS st 2).2 with
     | none =>
       rw [hq] at hd
       cases f with
       | zero => cases hd
       | succ f => rw [numsF, if_pos (show leftS none = 0 from rfl)] at hd; cases hd
     | some t =>
       obtain ⟨h1, h2⟩ := numS_inv (k := 2) (by decide) (n := (numS st 2).1) (Prod.ext rfl hq)
       have hl : leftS st = 2 + t.length := by rw [h1]; simp [leftS, bytesOf_length]
       rw [hq] at hd
       obtain ⟨h3, h4⟩ := numsF_inv f (some t) (by show t.length < f; omega) hd
       injection h3 with h3
       refine ⟨?_, fun n hn => ?_⟩
       · conv => lhs; rw [h1]
         congr 1
         rw [show numsB (((numS st 2).1 : Int) :: (numsF f (some t)).1) = two ((numS st 2).1 : Int) ++ numsB (numsF f (some t)).1 by simp [numsB], ← h3]
         rfl
       · rcases List.mem_cons.1 hn with rfl | hn
         · exact ⟨by omega, by have : (256 : Nat) ^ 2 = 65536 := rfl; omega⟩
         · exact h4 n hn
theorem numsS_inv {b : List UInt8} (h : (numsS b).2 = true) : b = numsB (numsS b).1 ∧ ∀ n ∈ (numsS b).1, In2 n := by
 obtain ⟨h1, h2⟩ := numsF_inv (b.length + 1) (some b) (by show b.length < _; omega) h
 injection h1 with h1
 exact ⟨h1, h2⟩

def InX (x : Int × List UInt8) : Prop := In2 x.1 ∧ x.2.length < 65536
theorem extsB_cons (x : Int × List UInt8) (l : List (Int × List UInt8)) : extsB (x :: l) = two x.1 ++ (vecB 2 x.2 ++ extsB l) := by simp [extsB, extB]
theorem extsF_in : ∀ (l : List (Int × List UInt8)) (f : Nat), (∀ x ∈ l, InX x) → (extsB l).length < f → extsF f (some (extsB l)) = (l, true)
 | [], 0, _, h => by simp at h
 | [], f + 1, _, _ => rfl
 | x :: l, 0, _, h => by simp at h
 | x :: l, f + 1, hl, h => by
   have hx := hl x (by simp)
   rw [extsB_cons] at h ⊢
   have h0 : ¬ leftS (some (two x.1 ++ (vecB 2 x.2 ++ extsB l))) = 0 := by simp [leftS, two_len]
   rw [extsF, if_neg h0]
   have h1 : numS (some (two x.1 ++ (vecB 2 x.2 ++ extsB l))) 2 = (x.1.toNat, some (vecB 2 x.2 ++ extsB l)) := numS_app x.1 _ 2 2 (by decide) hx.1.1 hx.1.2
   have h2 : vecS (some (vecB 2 x.2 ++ extsB l)) 2 = (x.2, some (extsB l)) := vecS_app _ _ 2 2 (by decide) (by have := hx.2; have e : (256 : Int) ^ 2 = 65536 := rfl; omega)
   rw [h1]
   simp only
   rw [h2]
   have h3 := extsF_in l f (fun m hm => hl m (by simp [hm])) (by simp [two_len, vecB_len] at h; omega)
   have h4 : ((x.1.toNat : Nat) : Int) = x.1 := Int.toNat_of_nonneg hx.1.1
   simp only [h3, h4]
theorem extsS_in (l : List (Int × List UInt8)) (h : ∀ x ∈ l, InX x) : extsS (extsB l) = (l, true) := extsF_in l _ h (by omega)
theorem extsF_none (f : Nat) : extsF f none = ([], false) := by
 cases f with
 | zero => rfl
 | succ f => rw [extsF, if_pos (show leftS none = 0 from rfl)]; rfl
theorem extsF_inv : ∀ (f : Nat) (st : Option (List UInt8)), leftS st < f → (extsF f st).2 = true → st = some (extsB (extsF f st).1) ∧ ∀ x ∈ (extsF f st).1, InX x
 | 0, st, h, _ => by simp at h
 | f + 1, st, h, hd => by
   by_cases h0 : leftS st = 0
   · have e : extsF (f + 1) st = ([], doneS st) := by rw [extsF, if_pos h0]
     rw [e] at hd ⊢
     cases st with
     | none => cases hd
     | some b => exact ⟨by rw [List.eq_nil_of_length_eq_zero h0]; rfl, by simp⟩
   · rw [extsF, if_neg h0] at hd ⊢
     simp only at hd ⊢
     cases hq : (vecS (numS st 2).2 2).2 with
     | none => rw [hq, extsF_none] at hd; cases hd
     | some t =>
       obtain ⟨h5, h6⟩ := vecS_inv (k := 2) (by decide) (x := (vecS (numS st 2).2 2).1) (Prod.ext rfl hq)
       obtain ⟨h1, h2⟩ := numS_inv (k := 2) (by decide) (n := (numS st 2).1) (Prod.ext rfl h5)
       have hl : leftS st = 2 + ((vecS (numS st 2).2 2).1.length + (2 + t.length)) := by
         conv => lhs; rw [h1]
         simp [leftS, bytesOf_length, vecB_len]; omega
       rw [hq] at hd
       obtain ⟨h3, h4⟩ := extsF_inv f (some t) (by show t.length < f; omega) hd
       injection h3 with h3
       refine ⟨?_, fun x hx => ?_⟩
       · rw [extsB_cons]
         conv => lhs; rw [h1]
         rw [← h3]
         rfl
       · have e : (256 : Nat) ^ 2 = 65536 := rfl
         have e' : (256 : Int) ^ 2 = 65536 := rfl
         rcases List.mem_cons.1 hx with rfl | hx
         · exact ⟨⟨by show (0 : Int) ≤ ((numS st 2).1 : Nat); omega, by show (((numS st 2).1 : Nat) : Int) < 65536; omega⟩, by show (vecS (numS st 2).2 2).1.length < 65536; omega⟩
         · exact h4 x hx
theorem extsS_inv {b : List UInt8} (h : (extsS b).2 = true) : b = extsB (extsS b).1 ∧ ∀ x ∈ (extsS b).1, InX x := by
 obtain ⟨h1, h2⟩ := extsF_inv (b.length + 1) (some b) (by show b.length < _; omega) h
 injection h1 with h1
 exact ⟨h1, h2⟩
end Go.Proofs.YthfknndjdfofgaaGreatDoor.He
