/-
  Contracts of be.Reader over this seat's translation: Num, Vec, Left, Bad, Done.
-/
import Derived.Test.YtajmdchidmamcaaBeRd
namespace Go.Proofs.Ytajmdchidmamcaa.Be
open Go.RowKit Go.Proofs.Ytajmdchidmamcaa.Wd

theorem ofInt_i64 (a : Nat) (ha : a < 9223372036854775808) : (BitVec.ofInt 64 (a : Int)).toNat = a := by
  rw [BitVec.ofInt_natCast, BitVec.toNat_ofNat]; exact Nat.mod_eq_of_lt (by omega)
theorem i64_or_nat (a b : Nat) (ha : a < 9223372036854775808) (hb : b < 9223372036854775808) : bits .or .i64 (a : Int) (b : Int) = ((a ||| b : Nat) : Int) := by
  have hx : a ||| b < 2 ^ 63 := Nat.or_lt_two_pow (by omega) (by omega)
  show IntKind.i64.wrap ((BitVec.ofInt 64 (a : Int) ||| BitVec.ofInt 64 (b : Int)).toNat : Int) = _
  rw [BitVec.toNat_or, ofInt_i64 a ha, ofInt_i64 b hb, IntKind.wrap_i64]
  omega
theorem or_byte (a b : Nat) (ha : a < 16777216) (hb : b < 256) : bits .or .i64 ((a : Int) * 256) (b : Int) = (a : Int) * 256 + b := by
  have h := i64_or_nat (a * 256) b (by omega) (by omega)
  rw [show ((a * 256 : Nat) : Int) = (a : Int) * 256 from by omega] at h
  rw [h]
  have := Nat.shiftLeft_add_eq_or_of_lt (i := 8) (b := b) (by omega) a
  rw [Nat.shiftLeft_eq, show (2 : Nat) ^ 8 = 256 from rfl] at this
  omega

/-- the number of bytes, the highest first -/
def natOf (xs : List UInt8) : Nat := xs.foldl (fun a c => a * 256 + c.toNat) 0
theorem natOf_snoc (xs : List UInt8) (c : UInt8) : natOf (xs ++ [c]) = natOf xs * 256 + c.toNat := by simp [natOf]
theorem natOf_aux (xs : List UInt8) (a : Nat) : xs.foldl (fun a c => a * 256 + c.toNat) a + 1 ≤ (a + 1) * 256 ^ xs.length := by
  induction xs generalizing a with
  | nil => simp
  | cons c xs ih =>
    have h := ih (a * 256 + c.toNat)
    have hc := c.toNat_lt
    have h2 : (a * 256 + c.toNat + 1) * 256 ^ xs.length ≤ ((a + 1) * 256) * 256 ^ xs.length := Nat.mul_le_mul_right _ (by omega)
    rw [List.foldl_cons, List.length_cons, Nat.pow_succ, Nat.mul_comm (256 ^ xs.length) 256, ← Nat.mul_assoc]
    omega
theorem natOf_lt (xs : List UInt8) : natOf xs < 256 ^ xs.length := by
  have h := natOf_aux xs 0
  rw [Nat.zero_add, Nat.one_mul] at h
  exact h

def NumPost (r : Nat) (w : World) (p : Nat × Option (List UInt8)) (e : Ending) (w' : World) : Prop :=
  e = .returned (.int .i64 (p.1 : Int)) ∧ Rd w' r p.2 ∧ w.grownBy w' (some r)
def numS (st : Option (List UInt8)) (size : Int) : Nat × Option (List UInt8) := (natOf (takeS st (clampI size)).1, (takeS st (clampI size)).2)
theorem takeS_len (st : Option (List UInt8)) (n : Int) (_h : 0 ≤ n) : (takeS st n).1.length ≤ n.toNat := by
  cases st with
  | none => simp [takeS]
  | some rest =>
    show (if 0 ≤ n ∧ n ≤ rest.length then (rest.take n.toNat, some (rest.drop n.toNat)) else ([], none)).1.length ≤ n.toNat
    split <;> simp <;> omega

set_option maxHeartbeats 400000 in
theorem num_any (r : Nat) (size : Int) (st : Option (List UInt8)) (w : World) (hr : Rd w r st) (hl : ∀ rest, st = some rest → rest.length ≤ 140737488355320) :
    Calls Try.prog 59 #[.pointer (some ⟨r, 0, none⟩), .int .i64 size] w (NumPost r w (numS st size)) := by
  have HL := Lib.hid hl
  have HR := Lib.hid hr
  clear hl hr
  have hcb := clampI_bd size
  go_enter Try.func59, Try.ntmps59
  go_wp2_with fail
  refine (clamp_any _ _).mono ?_
  rintro e w1 ⟨rfl, rfl⟩
  go_wp2_with fail
  refine (take_any r _ st w HR.out HL.out).mono ?_
  rintro e w1 ⟨v, rfl, hsl, hrd, hgr⟩
  have hlen := takeS_len st (clampI size) (by omega)
  obtain ⟨A, c, rfl, hle, hsrc⟩ := hsl.src
  have Hfin : Hid (numS st size = (natOf (takeS st (clampI size)).1, (takeS st (clampI size)).2)) := rfl
  generalize takeS st (clampI size) = p at *
  obtain ⟨xs, st'⟩ := p
  simp only at hrd hlen hsrc hle Hfin
  have hl4 : xs.length ≤ 4 := by omega
  have HRD := Lib.hid hrd
  have HS := Lib.hid hsrc
  clear hsl hrd hsrc hlen hcb
  go_wp2_with fail
  go_loop [5, 13] (fun m i => ∃ k : Nat, k ≤ xs.length ∧ i = .int .i64 k ∧ m = .int .i64 (natOf (xs.take k) : Int)) (fun _ i => xs.length - (intOf i).toNat)
  case atStart => exact ⟨0, Nat.zero_le _, rfl, rfl⟩
  case round =>
    obtain ⟨k, hk, rfl, rfl⟩ := hrel
    by_cases hlt : k < xs.length
    · obtain ⟨ad, rfl, _, hc⟩ := HS.out.2 (by omega)
      have hcell : w1.cell? (ad.add k) = some (.int .u8 (xs[k].toNat : Int)) := hc k _ (List.getElem?_eq_getElem hlt)
      have hb : xs[k].toNat < 256 := xs[k].toNat_lt
      have hnl := natOf_lt (xs.take k)
      have htl : (xs.take k).length = k := by rw [List.length_take]; omega
      have hn3 : natOf (xs.take k) < 16777216 := by
        rw [htl] at hnl
        exact Nat.lt_of_lt_of_le hnl (Nat.pow_le_pow_right (n := 256) (by omega) (by omega : k ≤ 3))
      clear hnl htl hc
      have hor := or_byte (natOf (xs.take k)) xs[k].toNat hn3 hb
      have hsn : natOf (xs.take (k + 1)) = natOf (xs.take k) * 256 + xs[k].toNat := by
        rw [List.take_add_one, List.getElem?_eq_getElem hlt]; exact natOf_snoc _ _
      have HSN := Lib.hid hsn
      clear hsn
      generalize natOf (xs.take k) = a at *
      generalize xs[k].toNat = b at *
      go_wp2
      go_round
      case rel => exact ⟨k + 1, by omega, by go_num, by rw [HSN.out]; go_num⟩
      case measure => simp [intOf]; omega
    · obtain rfl : k = xs.length := by omega
      go_wp2
      go_ret
      rw [Hfin.out]
      exact ⟨rfl, HRD.out, hgr⟩

theorem takeS_rest {st : Option (List UInt8)} {n : Int} {B : Nat} (hl : ∀ rest, st = some rest → rest.length ≤ B) : ∀ rest, (takeS st n).2 = some rest → rest.length ≤ B := by
  intro rest h
  cases st with
  | none => simp [takeS] at h
  | some l =>
    have h' : (if 0 ≤ n ∧ n ≤ l.length then (l.take n.toNat, some (l.drop n.toNat)) else ([], none)).2 = some rest := h
    split at h'
    · have := hl l rfl
      injection h' with h'
      subst h'
      rw [List.length_drop]
      omega
    · cases h'

def vecS (st : Option (List UInt8)) (size : Int) : List UInt8 × Option (List UInt8) := takeS (numS st size).2 ((numS st size).1 : Int)

set_option maxHeartbeats 400000 in
theorem rvec_any (r : Nat) (size : Int) (st : Option (List UInt8)) (w : World) (hr : Rd w r st) (hl : ∀ rest, st = some rest → rest.length ≤ 140737488355320) :
    Calls Try.prog 56 #[.pointer (some ⟨r, 0, none⟩), .int .i64 size] w (TakePost r w (vecS st size)) := by
  have HL := Lib.hid hl
  have HR := Lib.hid hr
  clear hl hr
  go_enter Try.func56, Try.ntmps56
  go_wp2_with fail
  refine (num_any r _ st w HR.out HL.out).mono ?_
  rintro e w1 ⟨rfl, hrd, hgr⟩
  have HRD := Lib.hid hrd
  have HL2 : Hid (∀ rest, (numS st size).2 = some rest → rest.length ≤ 140737488355320) := takeS_rest HL.out
  have Hv : Hid (vecS st size = takeS (numS st size).2 ((numS st size).1 : Int)) := rfl
  generalize numS st size = p at *
  clear hrd
  go_wp2_with fail
  refine (take_any r _ p.2 w1 HRD.out HL2.out).mono ?_
  rintro e w2 ⟨v, rfl, hsl, hrd2, hgr2⟩
  have HSL := Lib.hid hsl
  have HRD2 := Lib.hid hrd2
  clear hsl hrd2
  go_wp2_with fail
  go_ret
  rw [Hv.out]
  exact ⟨v, rfl, HSL.out, HRD2.out, only_trans hgr hgr2⟩

def leftS : Option (List UInt8) → Nat
  | some rest => rest.length
  | none => 0

theorem left_any (r : Nat) (st : Option (List UInt8)) (w : World) (hr : Rd w r st) :
    Calls Try.prog 57 #[.pointer (some ⟨r, 0, none⟩)] w fun e w' => e = .returned (.int .i64 (leftS st : Int)) ∧ w = w' := by
  obtain ⟨A, c, hc⟩ : ∃ A c, w.cell? ⟨r, 0, none⟩ = some (.slice A (leftS st) c) := by
    cases st with
    | none => exact ⟨_, _, (Blk.cell hr 0).trans rfl⟩
    | some rest => obtain ⟨g, off, cs, hb, _⟩ := hr; exact ⟨_, _, (Blk.cell hb 0).trans rfl⟩
  clear hr
  go_enter Try.func57, Try.ntmps57
  go_wp2
  go_ret
  exact ⟨rfl, rfl⟩

theorem Rd.bad {w : World} {r : Nat} {st : Option (List UInt8)} (hr : Rd w r st) : w.cell? ⟨r, 1, none⟩ = some (.bool st.isNone) := by
  cases st with
  | none => exact (Blk.cell hr 1).trans rfl
  | some rest => obtain ⟨g, off, cs, hb, _⟩ := hr; exact (Blk.cell hb 1).trans rfl


def doneS : Option (List UInt8) → Bool
  | some rest => rest.isEmpty
  | none => false

theorem done_any (r : Nat) (st : Option (List UInt8)) (w : World) (hr : Rd w r st) :
    Calls Try.prog 58 #[.pointer (some ⟨r, 0, none⟩)] w fun e w' => e = .returned (.bool (doneS st)) ∧ w = w' := by
  have hc := hr.bad
  cases st with
  | none =>
    have hc1 : w.cell? ⟨r, 1, none⟩ = some (.bool true) := hc
    clear hr hc
    go_enter Try.func58, Try.ntmps58
    go_wp2
    go_ret
    exact ⟨rfl, rfl⟩
  | some rest =>
    have hc1 : w.cell? ⟨r, 1, none⟩ = some (.bool false) := hc
    obtain ⟨g, off, cs, hb, _⟩ := hr
    have hc0 : w.cell? ⟨r, 0, none⟩ = some (.slice (some ⟨g, off, none⟩) rest.length rest.length) := by rw [hb.cell]; rfl
    have hd : ((rest.length : Int) == 0) = rest.isEmpty := by
      rw [Bool.eq_iff_iff]; simp
    have HD := Lib.hid hd
    clear hb hc hd
    go_enter Try.func58, Try.ntmps58
    go_wp2
    go_ret
    exact ⟨congrArg (fun b => Ending.returned (.bool b)) HD.out, rfl⟩
end Go.Proofs.Ytajmdchidmamcaa.Be
