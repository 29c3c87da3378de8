/-
  Contract of hagioscoperef09's ext over this seat's translation.
-/
import Derived.Test.YtpnidmegeimboaaRqMem
import Derived.Test.YtpnidmegeimboaaRsSame
namespace Go.Proofs.Ytpnidmegeimboaa.He
open Go.RowKit Go.Proofs.Ytpnidmegeimboaa.Wd Go.Proofs.Ytpnidmegeimboaa.Be

/-- how many bytes are left to the document's reader, as it lies in memory -/
def leftAt (w : World) (y : Nat) : Nat := match w.cell? ⟨y, 0, none⟩, w.cell? ⟨y, 1, none⟩, w.cell? ⟨y, 2, none⟩ with
  | some (.slice _ n _), some (.int _ a), some (.bool false) => n - a.toNat
  | _, _, _ => 0
theorem Rq.leftAt {B y : Nat} {w : World} {st : Option (List UInt8)} (h : Rq B w y st) : He.leftAt w y = leftS st := by
  obtain ⟨A, n, c, xs, ⟨a, off, hk, ha, rfl⟩, _, _, _, h2, _⟩ := h
  unfold He.leftAt
  rw [hk.cell 0, hk.cell 1, hk.cell 2]
  cases off with
  | true => rfl
  | false =>
    show n - (a : Int).toNat = (xs.drop a).length
    rw [List.length_drop, h2.1, Int.toNat_natCast]
theorem drewN_below (w : World) (k : Nat) : Below w.heap.size w (w.drewN k) := ((But.refl [] w).drewN k).below (by simp) (Nat.le_refl _)

/-- where ext is -/
structure ExtQ (w : World) (y : Nat) (xs : List UInt8) (v : Value) (st : Option (List UInt8)) (wr : World) : Prop where
  rd : Rq w.heap.size wr y st
  ok : st.isNone = false
  all : ∃ l f, OwnXq wr (w.heap.size + 1) v l ∧ leftS st < f ∧ extsS xs = (l.map ext ++ (extsF f st).1, (extsF f st).2) ∧ l.length + leftS st ≤ 65535
  bel : Below w.heap.size w wr
def RExtPost (w : World) (xs : List UInt8) (e : Ending) (w' : World) : Prop :=
  ∃ v l, e = .returned (.tuple #[v, .bool (extsS xs).2]) ∧ OwnXq w' (w.heap.size + 1) v l ∧ ((extsS xs).2 = true → l.map ext = (extsS xs).1) ∧ l.length ≤ 65535 ∧ Below w.heap.size w w'

set_option linter.unusedSimpArgs false in
set_option maxRecDepth 100000 in
set_option maxHeartbeats 1000000 in
theorem rext_any (A : Option Addr) (n c : Nat) (xs : List UInt8) (w : World) (hs : Src w A n xs) (hn : n ≤ 65535) (hnc : n ≤ c) (hc : c ≤ 9223372036854775807) :
    Calls Try.prog 44 #[.slice A n c] w (RExtPost w xs) := by
  have H0 : Hid (ExtQ w w.heap.size xs (.slice none 0 0) (some xs) (w.alloc (.cells #[.slice A n c, .int .i64 0, .bool false] 70))) :=
    ⟨Rq.new hs (by omega) hnc hc rfl, rfl, ⟨[], xs.length + 1, OwnXq.nil _ _, by show xs.length < _; omega, rfl, by show 0 + xs.length ≤ _; rw [hs.1]; omega⟩, (Below.refl _ _).alloc (Nat.le_refl _) _⟩
  clear hs hnc hc
  go_enter Try.func44, Try.ntmps44
  go_wp2_with fail
  generalize (w.alloc (.cells #[.slice A n c, .int .i64 0, .bool false] 70)) = w1 at *
  obtain ⟨y, hy⟩ : ∃ y, y = w.heap.size := ⟨_, rfl⟩
  have HY := Lib.hid hy
  rw [← hy] at H0 ⊢
  clear hy
  go_loopw [5] (fun v wr => ∃ st, Hid (ExtQ w y xs v st wr)) (fun _ wr => leftAt wr y)
  case atStart => exact ⟨_, H0⟩
  case round =>
    clear H0
    obtain ⟨st, HN⟩ := hrel
    go_wp2_with fail
    refine (qleft_any HN.out.rd).mono ?_
    rintro e w2 ⟨rfl, j, rfl⟩
    have HBd := Lib.hid (drewN_below wr j)
    have HRd0 := Lib.hid (HN.out.rd.below HBd.out)
    by_cases h0 : 0 < leftS st
    · have h0' : (0 : Int) < (leftS st : Int) := by omega
      have HL := Lib.hid h0
      have hk := Lib.hid (Rq.leftAt HN.out.rd)
      have hsm := num_small st
      generalize hq : leftS st = q at *
      have HQ := Lib.hid hq
      clear hq
      go_wp2_with fail
      refine (qnum_any HRd0.out 2).mono ?_
      rintro e w2 ⟨rfl, hrd2, hg2⟩
      have HRd2 := Lib.hid hrd2
      have hvs := vec_small (numS st 2).2
      have hle2 := num_less st (by rw [HQ.out]; exact HL.out)
      have HK2 := Lib.hid (show leftS (vecS (numS st 2).2 2).2 < q from by have := vec_less (numS st 2).2 2; have := HQ.out; omega)
      obtain ⟨l, f, hOw, hf, hall, hlen⟩ := HN.out.all
      obtain ⟨cs, hblk⟩ := HRd0.out.blk
      have HOw := Lib.hid (OwnXq.off (OwnXq.off hOw (only_of_below HBd.out none) (OffT.none _ _)) hg2 (OffT.of_blk hblk (by unfold TX; decide)))
      obtain ⟨f', rfl⟩ : ∃ f', f = f' + 1 := ⟨f - 1, by omega⟩
      have HA : ∀ z : Xt, ext z = (((numS st 2).1 : Int), (vecS (numS st 2).2 2).1) → Hid (extsS xs = ((l ++ [z]).map ext ++ (extsF f' (vecS (numS st 2).2 2).2).1, (extsF f' (vecS (numS st 2).2 2).2).2)) := fun z hz => by
        rw [hall, extsF_step (by rw [HQ.out]; exact HL.out), List.map_append, List.append_assoc, List.map_cons, hz]; rfl
      have HAh := Lib.hid HA
      have HNo := Lib.hid (show (vecS (numS st 2).2 2).2 = none → (extsS xs).2 = false from fun e => by
        rw [hall, extsF_step (by rw [HQ.out]; exact HL.out), e, extsF_end rfl]
        rfl)
      have hlen' : l.length ≤ 65535 := by omega
      have HF := Lib.hid (show leftS (vecS (numS st 2).2 2).2 < f' by have := HK2.out; have := HQ.out; omega)
      have HLn := Lib.hid (show l.length + 1 + leftS (vecS (numS st 2).2 2).2 ≤ 65535 by have := HK2.out; have := HQ.out; omega)
      have HB2 := Lib.hid ((HN.out.bel.trans (HBd.out.mono HN.out.bel.size)).grown hg2 (by exact HN.out.bel.size) (fun j hj => by injection hj with hj; have := HY.out; omega))
      clear HA hrd2 hg2 hOw hf hall hlen hblk h0 h0' hle2
      have hsz := HB2.out.size
      clear HN HQ HL HRd0 HBd
      generalize numS st 2 = p at *
      go_wp2_with fail
      refine (qvec_any HRd2.out 2).mono ?_
      rintro e w3 ⟨v3, rfl, hsl, hrd3, hg3⟩
      generalize vecS p.2 2 = q3 at *
      obtain ⟨A3, c3, hv3⟩ := Sq.form hsl
      obtain ⟨cs, hblk⟩ := HRd2.out.blk
      have HOw3 := Lib.hid (OwnXq.off HOw.out hg3 (OffT.of_blk hblk (by unfold TX; decide)))
      have HB3 := Lib.hid (HB2.out.grown hg3 hsz (fun j hj => by injection hj with hj; have := HY.out; omega))
      have hsz3 := HB3.out.size
      have HRd3 := Lib.hid hrd3
      have HSl := Lib.hid hsl
      have hbad := hrd3.bad
      have hltw := HRd3.out.blk
      rw [hv3]
      have HMine := Lib.hid (show (Xt.mk (p.1 : Int) A3 q3.1.length c3 q3.1).MineQ w3 from ⟨by show Sq w3 (.slice A3 q3.1.length c3) q3.1; rw [← hv3]; exact HSl.out, rfl, hvs, by show (0 : Int) ≤ (p.1 : Int); omega, by show (p.1 : Int) < 65536; omega⟩)
      have HMz := Lib.hid (HAh.out (Xt.mk (p.1 : Int) A3 q3.1.length c3 q3.1) rfl)
      clear hsl hrd3 hg3 hblk HOw HB2 HAh HRd2 HSl hv3
      cases hst : q3.2.isNone with
      | true =>
        rw [hst] at hbad
        have HNe := Lib.hid (HNo.out (Option.isNone_iff_eq_none.1 hst))
        clear hltw HMz HMine HRd3 HK2 HF HLn
        go_wp2_with fail
        go_ret2
        exact ⟨_, [], by rw [HNe.out]; rfl, OwnXq.nil _ _, (fun h => by rw [HNe.out] at h; cases h), Nat.zero_le _, HB3.out⟩
      | false =>
        rw [hst] at hbad
        have HOk := Lib.hid hst
        have hyl : y < w3.heap.size := by obtain ⟨cs, hb⟩ := hltw; exact hb.lt
        clear hst hltw HNo
        have HOa := Lib.hid (HOw3.out.alloc (.cells #[Value.int .i64 (p.1 : Int), .slice A3 q3.1.length c3] 42))
        have hzb := Blk.new w3 42 #[Value.int .i64 (p.1 : Int), .slice A3 q3.1.length c3]
        have Hc0 := Lib.hid (show (w3.alloc (.cells #[Value.int .i64 (p.1 : Int), .slice A3 q3.1.length c3] 42)).cell? ⟨w3.heap.size, 0, none⟩ = some (.int .i64 (p.1 : Int)) by rw [hzb.cell]; rfl)
        have Hc1 := Lib.hid (show (w3.alloc (.cells #[Value.int .i64 (p.1 : Int), .slice A3 q3.1.length c3] 42)).cell? ⟨w3.heap.size, 1, none⟩ = some (.slice A3 q3.1.length c3) by rw [hzb.cell]; rfl)
        clear hzb
        have HGe := Lib.hid (OwnXq.ge HOa.out)
        have HMa := Lib.hid (HMine.out.below ((Below.refl _ _).alloc (Nat.le_refl _) (.cells #[Value.int .i64 (p.1 : Int), .slice A3 q3.1.length c3] 42)))
        have HBa := Lib.hid (HB3.out.alloc hsz3 (.cells #[Value.int .i64 (p.1 : Int), .slice A3 q3.1.length c3] 42))
        have HRa := Lib.hid (HRd3.out.below (Below.refl w3.heap.size w3 |>.alloc (Nat.le_refl _) (.cells #[Value.int .i64 (p.1 : Int), .slice A3 q3.1.length c3] 42)))
        have hBy : w.heap.size + 1 ≤ (w3.alloc (.cells #[Value.int .i64 (p.1 : Int), .slice A3 q3.1.length c3] 42)).heap.size := by rw [alloc_size]; omega
        have HBy := Lib.hid hBy
        clear HB3 HRd3 HMine HOw3 hBy
        go_wp2_with (at_builtin; refine wpList_appXq rfl _ _ rfl (w.heap.size + 1) _ l rfl (by exact HOa.out) _ 1 (Xt.mk (p.1 : Int) A3 q3.1.length c3 q3.1) rfl (by exact HMa.out) (by exact Hc0.out) (by exact Hc1.out) (by omega) (by exact HBy.out) ?_; intro v4 w4 ho4 hg4)
        have HB4 := Lib.hid (HBa.out.grown hg4.out (by have := HBy.out; omega) (fun j hj => by have := HGe.out j hj; omega))
        have HRd4 := Lib.hid (Rq.off HRa.out hg4.out (fun g hg => by have := HGe.out g hg; have := HY.out; exact ⟨by omega, by omega⟩))
        clear hg4 HBa HRa HGe Hc0 Hc1
        go_roundw
        case rel => exact ⟨q3.2, Lib.hid ⟨HRd4.out, HOk.out, ⟨_, f', ho4.out, HF.out, HMz.out, by have := HLn.out; rw [List.length_append]; simpa using this⟩, HB4.out⟩⟩
        case measure => rw [Rq.leftAt HRd4.out, hk.out]; exact HK2.out
    · have hz : leftS st = 0 := by omega
      have HZ := Lib.hid hz
      have h0' : ¬ (0 : Int) < (leftS st : Int) := by omega
      obtain ⟨l, f, hOw, hf, hall, hlen⟩ := HN.out.all
      have hdn : doneS st = true := by
        have := HN.out.ok
        cases st with
        | none => cases this
        | some rest =>
          have : rest = [] := List.eq_nil_of_length_eq_zero hz
          subst this
          rfl
      have HE := Lib.hid (show extsS xs = (l.map ext, true) by rw [hall, extsF_end hz, List.append_nil, hdn])
      have HOw := Lib.hid (OwnXq.off hOw (only_of_below HBd.out none) (OffT.none _ _))
      have HLn := Lib.hid hlen
      have HB5 := Lib.hid (HN.out.bel.trans (HBd.out.mono HN.out.bel.size))
      clear hOw hall hlen hf hdn hz
      generalize leftS st = q at *
      go_wp2_with fail
      go_ret2
      exact ⟨_, l, by rw [HE.out]; rfl, HOw.out, fun _ => by rw [HE.out], by have := HLn.out; omega, HB5.out⟩
end Go.Proofs.Ytpnidmegeimboaa.He
