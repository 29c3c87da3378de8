/-
  Contracts of package hello's readNumbers and readExts over this seat's translation.
-/
import Derived.Test.YtpnidmegeimboaaHeRows
namespace Go.Proofs.Ytpnidmegeimboaa.He
open Go.RowKit Go.Proofs.Ytpnidmegeimboaa.Wd Go.Proofs.Ytpnidmegeimboaa.Be

theorem numsF_step {f : Nat} {st : Option (List UInt8)} (h : 0 < leftS st) : numsF (f + 1) st = (((numS st 2).1 : Int) :: (numsF f (numS st 2).2).1, (numsF f (numS st 2).2).2) := by rw [numsF, if_neg (by omega)]
theorem numsF_end {f : Nat} {st : Option (List UInt8)} (h : leftS st = 0) : numsF f st = ([], doneS st) := by
  cases f with
  | zero => rfl
  | succ f => rw [numsF, if_pos h]
theorem extsF_step {f : Nat} {st : Option (List UInt8)} (h : 0 < leftS st) : extsF (f + 1) st = ((((numS st 2).1 : Int), (vecS (numS st 2).2 2).1) :: (extsF f (vecS (numS st 2).2 2).2).1, (extsF f (vecS (numS st 2).2 2).2).2) := by rw [extsF, if_neg (by omega)]
theorem extsF_end {f : Nat} {st : Option (List UInt8)} (h : leftS st = 0) : extsF f st = ([], doneS st) := by
  cases f with
  | zero => rfl
  | succ f => rw [extsF, if_pos h]

/-- where readNumbers is -/
structure NumAt (w : World) (B r : Nat) (xs : List UInt8) (v : Value) (st : Option (List UInt8)) (wr : World) : Prop where
  rd : Rd wr r st
  all : ∃ l f, OwnI wr B v l ∧ leftS st < f ∧ numsS xs = (l ++ (numsF f st).1, (numsF f st).2) ∧ l.length + leftS st ≤ 65535
  bel : Below w.heap.size w wr

set_option maxRecDepth 100000 in
set_option maxHeartbeats 1000000 in
theorem rnums_any (A : Option Addr) (n c : Nat) (xs : List UInt8) (w : World) (hs : Src w A n xs) (hn : n ≤ 65535) :
    Calls Try.prog 34 #[.slice A n c] w fun e w' => ∃ v, e = .returned (.tuple #[v, .bool (numsS xs).2]) ∧ OwnI w' w.heap.size v (numsS xs).1 ∧ (numsS xs).1.length ≤ 65535 ∧ Below w.heap.size w w' := by
  go_enter Try.func34, Try.ntmps34
  go_wp2_with fail
  refine (read_any A n c xs w hs (by omega)).mono ?_
  rintro e w1 ⟨r, rfl, hr, hrd, hb⟩
  have H0 : Hid (NumAt w w.heap.size r xs (.slice none 0 0) (some xs) w1) := ⟨hrd, ⟨[], xs.length + 1, OwnI.nil _ _, by show xs.length < _; omega, rfl, by show 0 + xs.length ≤ _; rw [hs.1]; omega⟩, hb⟩
  clear hrd hb hs
  go_wp2_with fail
  go_loopw [4] (fun v wr => ∃ st, Hid (NumAt w w.heap.size r xs v st wr)) (fun _ wr => lenAt wr r)
  case atStart => exact ⟨_, H0⟩
  case round =>
    clear H0
    obtain ⟨st, HN⟩ := hrel
    go_wp2_with fail
    refine (left_any r st wr HN.out.rd).mono ?_
    rintro e w2 ⟨rfl, rfl⟩
    by_cases h0 : 0 < leftS st
    · have h0' : (0 : Int) < (leftS st : Int) := by omega
      have HL := Lib.hid h0
      have hk := Lib.hid (Rd.lenAt HN.out.rd)
      generalize hq : leftS st = q at *
      have HQ := Lib.hid hq
      clear hq
      go_wp2_with fail
      refine (num_any r 2 st wr HN.out.rd (left_bd (by have := HQ.out; obtain ⟨l, f, _, _, _, h⟩ := HN.out.all; omega))).mono ?_
      rintro e w2 ⟨rfl, hrd2, hg2⟩
      have HRd2 := Lib.hid hrd2
      have HG2 := Lib.hid hg2
      have HK2 := Lib.hid (show leftS (numS st 2).2 < q from by have := num_less st (by rw [HQ.out]; exact HL.out); rw [HQ.out] at this; exact this)
      obtain ⟨l, f, hOw, hf, hall, hlen⟩ := HN.out.all
      obtain ⟨cs, hblk⟩ := HN.out.rd.blk
      have HOw := Lib.hid (OwnI.off hOw hg2 (OffT.of_blk hblk (by decide)))
      obtain ⟨f', rfl⟩ : ∃ f', f = f' + 1 := ⟨f - 1, by omega⟩
      have HA : Hid (numsS xs = ((l ++ [((numS st 2).1 : Int)]) ++ (numsF f' (numS st 2).2).1, (numsF f' (numS st 2).2).2)) := by
        rw [hall, numsF_step (by rw [HQ.out]; exact HL.out), List.append_assoc]; rfl
      have hlen' : l.length ≤ 65535 := by omega
      have HF := Lib.hid (show leftS (numS st 2).2 < f' by have := HK2.out; have := HQ.out; omega)
      have HLn := Lib.hid (show (l ++ [((numS st 2).1 : Int)]).length + leftS (numS st 2).2 ≤ 65535 by rw [List.length_append]; have := HK2.out; have := HQ.out; simp only [List.length_cons, List.length_nil]; omega)
      have HB2 := Lib.hid (HN.out.bel.grown hg2 HN.out.bel.size (fun j hj => by injection hj with hj; omega))
      clear hrd2 hg2 hOw hf hall hlen hblk h0 h0'
      have hsz := HB2.out.size
      clear HN HQ
      generalize numS st 2 = p at *
      have HOa := Lib.hid (show OwnI (w2.alloc (.cells #[Value.int .i64 (p.1 : Int)] 3)) w.heap.size _ l from World.ownsRow.alloc HOw.out _)
      have HGe := Lib.hid (OwnI.ge HOa.out)
      have HOff := Lib.hid (HOa.out.block (T := TB) (by unfold TB; decide))
      have HBa := Lib.hid (HB2.out.alloc hsz (.cells #[Value.int .i64 (p.1 : Int)] 3))
      have HRa := Lib.hid (HRd2.out.below (Below.refl w2.heap.size w2 |>.alloc (Nat.le_refl _) (.cells #[Value.int .i64 (p.1 : Int)] 3)) (Nat.le_refl _))
      go_wp2_with (at_builtin; refine wpList_appI rfl _ _ rfl w.heap.size _ l rfl (by exact HOa.out) _ 1 (p.1 : Int) rfl (by simp) (by omega) (by simp; omega) ?_; intro v3 w3 ho3 hg3)
      have HB3 := Lib.hid (HBa.out.grown hg3.out (by simp; omega) (fun j hj => HGe.out j hj))
      have HRd3 := Lib.hid (Rd.off (T := TB) HRa.out hg3.out HOff.out (.inl rfl) (.inr rfl))
      clear hg3
      go_roundw
      case rel => exact ⟨p.2, Lib.hid ⟨HRd3.out, ⟨_, f', ho3.out, HF.out, HA.out, HLn.out⟩, HB3.out⟩⟩
      case measure => rw [Rd.lenAt HRd3.out, hk.out]; exact HK2.out
    · have hz : leftS st = 0 := by omega
      have HZ := Lib.hid hz
      have h0' : ¬ (0 : Int) < (leftS st : Int) := by omega
      generalize hq : leftS st = q at *
      go_wp2_with fail
      refine (done_any r st wr HN.out.rd).mono ?_
      rintro e w2 ⟨rfl, rfl⟩
      obtain ⟨l, f, hOw, hf, hall, hlen⟩ := HN.out.all
      have HE := Lib.hid (show numsS xs = (l, doneS st) by rw [hall, numsF_end (hq.trans HZ.out), List.append_nil])
      have HOw := Lib.hid hOw
      have HLn := Lib.hid hlen
      clear hOw hall hlen hf
      go_wp2_with fail
      go_ret2
      rw [HE.out]
      exact ⟨_, rfl, HOw.out, by show l.length ≤ _; have := HLn.out; omega, HN.out.bel⟩
end Go.Proofs.Ytpnidmegeimboaa.He
