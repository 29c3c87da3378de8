/-
  Contract of package hello's readExts over this seat's translation.
-/
import Derived.Test.YtpnidmegeimboaaHeRead
namespace Go.Proofs.Ytpnidmegeimboaa.He
open Go.RowKit Go.Proofs.Ytpnidmegeimboaa.Wd Go.Proofs.Ytpnidmegeimboaa.Be

theorem Sl.form {w : World} {v : Value} {xs : List UInt8} (h : Sl w v xs) : ∃ A c, v = .slice A xs.length c := by
  rcases h with ⟨rfl, rfl⟩ | ⟨g, rfl, _⟩
  · exact ⟨none, 0, rfl⟩
  · exact ⟨_, _, rfl⟩
theorem Xt.Mine.off {w w' : World} {x : Xt} {row : Option Nat} (h : x.Mine w) (hb : w.grownBy w' row) (hr : OffT w row (· = 5)) : x.Mine w' := ⟨Sl.off h.sl hb hr rfl, h.n, h.small, h.k⟩
theorem Xt.Mine.below {w w' : World} {x : Xt} (h : x.Mine w) (hb : Below w.heap.size w w') : x.Mine w' := ⟨h.sl.below hb, h.n, h.small, h.k⟩
theorem OwnX.alloc {w : World} {B : Nat} {v : Value} {l : List Xt} (h : OwnX w B v l) (o : Obj) : OwnX (w.alloc o) B v l :=
  ⟨World.ownsRow.alloc h.row o, fun x hx => (h.each x hx).below ((Below.refl _ _).alloc (Nat.le_refl _) o)⟩

/-- where readExts is -/
structure ExtAt (w : World) (B r : Nat) (xs : List UInt8) (v : Value) (st : Option (List UInt8)) (wr : World) : Prop where
  rd : Rd wr r st
  all : ∃ l f, OwnX wr B v l ∧ leftS st < f ∧ extsS xs = (l.map ext ++ (extsF f st).1, (extsF f st).2) ∧ l.length + leftS st ≤ 65535
  bel : Below w.heap.size w wr

set_option maxRecDepth 100000 in
set_option maxHeartbeats 1000000 in
theorem rexts_any (A : Option Addr) (n c : Nat) (xs : List UInt8) (w : World) (hs : Src w A n xs) (hn : n ≤ 65535) :
    Calls Try.prog 36 #[.slice A n c] w fun e w' => ∃ v l, e = .returned (.tuple #[v, .bool (extsS xs).2]) ∧ OwnX w' w.heap.size v l ∧ l.map ext = (extsS xs).1 ∧ l.length ≤ 65535 ∧ Below w.heap.size w w' := by
  go_enter Try.func36, Try.ntmps36
  go_wp2_with fail
  refine (read_any A n c xs w hs (by omega)).mono ?_
  rintro e w1 ⟨r, rfl, hr, hrd, hb⟩
  have H0 : Hid (ExtAt w w.heap.size r xs (.slice none 0 0) (some xs) w1) := ⟨hrd, ⟨[], xs.length + 1, OwnX.nil _ _, by show xs.length < _; omega, rfl, by show 0 + xs.length ≤ _; rw [hs.1]; omega⟩, hb⟩
  clear hrd hb hs
  go_wp2_with fail
  go_loopw [4] (fun v wr => ∃ st, Hid (ExtAt w w.heap.size r xs v st wr)) (fun _ wr => lenAt wr r)
  case atStart => exact ⟨_, H0⟩
  case round =>
    clear H0
    obtain ⟨st, HN⟩ := hrel
    go_wp2_with fail
    refine (left_any r st wr HN.out.rd).mono ?_
    rintro e w2 ⟨rfl, rfl⟩
    by_cases h0 : 0 < leftS st
    · have h0' : (0 : Int) < (leftS st : Int) := by omega
      have HL := Lib.hid h0
      have hk := Lib.hid (Rd.lenAt HN.out.rd)
      have hsm := num_small st
      generalize hq : leftS st = q at *
      have HQ := Lib.hid hq
      clear hq
      go_wp2_with fail
      refine (num_any r 2 st wr HN.out.rd (left_bd (by have := HQ.out; obtain ⟨l, f, _, _, _, h⟩ := HN.out.all; omega))).mono ?_
      rintro e w2 ⟨rfl, hrd2, hg2⟩
      have HRd2 := Lib.hid hrd2
      have hvs := vec_small (numS st 2).2
      have hle2 := num_less st (by rw [HQ.out]; exact HL.out)
      have HK2 := Lib.hid (show leftS (vecS (numS st 2).2 2).2 < q from by have := vec_less (numS st 2).2 2; have := HQ.out; omega)
      have HK1 := Lib.hid (show leftS (numS st 2).2 ≤ 65535 from by have := HQ.out; obtain ⟨l, f, _, _, _, h⟩ := HN.out.all; omega)
      obtain ⟨l, f, hOw, hf, hall, hlen⟩ := HN.out.all
      obtain ⟨cs, hblk⟩ := HN.out.rd.blk
      have HOw := Lib.hid (OwnX.off hOw hg2 (OffT.of_blk hblk (by unfold TX; decide)))
      obtain ⟨f', rfl⟩ : ∃ f', f = f' + 1 := ⟨f - 1, by omega⟩
      have HA : ∀ z : Xt, ext z = (((numS st 2).1 : Int), (vecS (numS st 2).2 2).1) → Hid (extsS xs = ((l ++ [z]).map ext ++ (extsF f' (vecS (numS st 2).2 2).2).1, (extsF f' (vecS (numS st 2).2 2).2).2)) := fun z hz => by
        rw [hall, extsF_step (by rw [HQ.out]; exact HL.out), List.map_append, List.append_assoc, List.map_cons, hz]; rfl
      have HAh := Lib.hid HA
      have hlen' : l.length ≤ 65535 := by omega
      have HF := Lib.hid (show leftS (vecS (numS st 2).2 2).2 < f' by have := HK2.out; have := HQ.out; omega)
      have HLn := Lib.hid (show l.length + 1 + leftS (vecS (numS st 2).2 2).2 ≤ 65535 by have := HK2.out; have := HQ.out; omega)
      have HB2 := Lib.hid (HN.out.bel.grown hg2 HN.out.bel.size (fun j hj => by injection hj with hj; omega))
      clear HA hrd2 hg2 hOw hf hall hlen hblk h0 h0' hle2
      have hsz := HB2.out.size
      clear HN HQ HL
      generalize numS st 2 = p at *
      go_wp2_with fail
      refine (rvec_any r 2 p.2 w2 HRd2.out (left_bd (by have := HK1.out; omega))).mono ?_
      rintro e w3 ⟨v3, rfl, hsl, hrd3, hg3⟩
      generalize vecS p.2 2 = q3 at *
      obtain ⟨A3, c3, hv3⟩ := Sl.form hsl
      obtain ⟨cs, hblk⟩ := HRd2.out.blk
      have HOw3 := Lib.hid (OwnX.off HOw.out hg3 (OffT.of_blk hblk (by unfold TX; decide)))
      have HB3 := Lib.hid (HB2.out.grown hg3 hsz (fun j hj => by injection hj with hj; omega))
      have hsz3 := HB3.out.size
      have HRd3 := Lib.hid hrd3
      have HSl := Lib.hid hsl
      rw [hv3]
      have HMine := Lib.hid (show (Xt.mk (p.1 : Int) A3 q3.1.length c3 q3.1).Mine w3 from ⟨by show Sl w3 (.slice A3 q3.1.length c3) q3.1; rw [← hv3]; exact HSl.out, rfl, hvs, by show (0 : Int) ≤ (p.1 : Int); omega, by show (p.1 : Int) < 65536; omega⟩)
      have HMz := Lib.hid (HAh.out (Xt.mk (p.1 : Int) A3 q3.1.length c3 q3.1) rfl)
      clear hsl hrd3 hg3 hblk HOw HB2 HAh HRd2 HSl hv3
      have HOa := Lib.hid (HOw3.out.alloc (.cells #[Value.int .i64 (p.1 : Int), .slice A3 q3.1.length c3] 42))
      have hzb := Blk.new w3 42 #[Value.int .i64 (p.1 : Int), .slice A3 q3.1.length c3]
      have Hc0 := Lib.hid (show (w3.alloc (.cells #[Value.int .i64 (p.1 : Int), .slice A3 q3.1.length c3] 42)).cell? ⟨w3.heap.size, 0, none⟩ = some (.int .i64 (p.1 : Int)) by rw [hzb.cell]; rfl)
      have Hc1 := Lib.hid (show (w3.alloc (.cells #[Value.int .i64 (p.1 : Int), .slice A3 q3.1.length c3] 42)).cell? ⟨w3.heap.size, 1, none⟩ = some (.slice A3 q3.1.length c3) by rw [hzb.cell]; rfl)
      clear hzb
      have HGe := Lib.hid (OwnX.ge HOa.out)
      have HOff := Lib.hid (HOa.out.block (T := TB) (by unfold TB; decide))
      have HMa := Lib.hid (HMine.out.below ((Below.refl _ _).alloc (Nat.le_refl _) (.cells #[Value.int .i64 (p.1 : Int), .slice A3 q3.1.length c3] 42)))
      have HBa := Lib.hid (HB3.out.alloc hsz3 (.cells #[Value.int .i64 (p.1 : Int), .slice A3 q3.1.length c3] 42))
      have HRa := Lib.hid (HRd3.out.below (Below.refl w3.heap.size w3 |>.alloc (Nat.le_refl _) (.cells #[Value.int .i64 (p.1 : Int), .slice A3 q3.1.length c3] 42)) (Nat.le_refl _))
      clear HB3 HRd3 HMine HOw3
      go_wp2_with (at_builtin; refine wpList_appX rfl _ _ rfl w.heap.size _ l rfl (by exact HOa.out) _ 1 (Xt.mk (p.1 : Int) A3 q3.1.length c3 q3.1) rfl (by exact HMa.out) (by exact Hc0.out) (by exact Hc1.out) (by omega) (by simp; omega) ?_; intro v4 w4 ho4 hg4)
      have HB4 := Lib.hid (HBa.out.grown hg4.out (by simp; omega) (fun j hj => HGe.out j hj))
      have HRd4 := Lib.hid (Rd.off (T := TB) HRa.out hg4.out HOff.out (.inl rfl) (.inr rfl))
      clear hg4 HBa HRa HGe HOff Hc0 Hc1
      go_roundw
      case rel => exact ⟨q3.2, Lib.hid ⟨HRd4.out, ⟨_, f', ho4.out, HF.out, HMz.out, by have := HLn.out; rw [List.length_append]; simpa using this⟩, HB4.out⟩⟩
      case measure => rw [Rd.lenAt HRd4.out, hk.out]; exact HK2.out
    · have hz : leftS st = 0 := by omega
      have HZ := Lib.hid hz
      have h0' : ¬ (0 : Int) < (leftS st : Int) := by omega
      generalize hq : leftS st = q at *
      go_wp2_with fail
      refine (done_any r st wr HN.out.rd).mono ?_
      rintro e w2 ⟨rfl, rfl⟩
      obtain ⟨l, f, hOw, hf, hall, hlen⟩ := HN.out.all
      have HE := Lib.hid (show extsS xs = (l.map ext, doneS st) by rw [hall, extsF_end (hq.trans HZ.out), List.append_nil])
      have HOw := Lib.hid hOw
      have HLn := Lib.hid hlen
      clear hOw hall hlen hf
      go_wp2_with fail
      go_ret2
      rw [HE.out]
      exact ⟨_, l, rfl, HOw.out, rfl, by have := HLn.out; omega, HN.out.bel⟩
end Go.Proofs.Ytpnidmegeimboaa.He
