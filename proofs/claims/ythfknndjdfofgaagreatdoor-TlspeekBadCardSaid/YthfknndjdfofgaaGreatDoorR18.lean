/-
 Contracts of package hello's readNumbers and readExts over this seat's translation.
-/
import Derived.Test.YthfknndjdfofgaaGreatDoorR03
namespace Go.Proofs.YthfknndjdfofgaaGreatDoor.He
open Go.RowKit Go.Proofs.YthfknndjdfofgaaGreatDoor.Wd Go.Proofs.YthfknndjdfofgaaGreatDoor.Be

theorem numsF_step {f : Nat} {st : Option (List UInt8)} (h : 0 < leftS st) : numsF (f + 1) st = (((numS st 2).1 : Int) :: (numsF f (numS st 2).2).1, (numsF f (numS st 2).2).2) := by rw [numsF, if_neg (by omega)]
theorem numsF_end {f : Nat} {st : Option (List UInt8)} (h : leftS st = 0) : numsF f st = ([], doneS st) := by
 cases f with
 | zero => rfl
 | succ f => rw [numsF, if_pos h]
theorem extsF_step {f : Nat} {st : Option (List UInt8)} (h : 0 < leftS st) : extsF (f + 1) st = ((((numS st 2).1 : Int), (vecS (numS st 2).2 2).1) :: (extsF f (vecS (numS st 2).2 2).2).1, (extsF f (vecS (numS st 2).2 2).2).2) := by rw [extsF, if_neg (by omega)]
theorem extsF_end {f : Nat} {st : Option (List UInt8)} (h : leftS st = 0) : extsF f st = ([], doneS st) := by
 cases f with
 | zero => rfl
 | succ f => rw [extsF, if_pos h]

structure NumAt (w : World) (B r : Nat) (xs : List UInt8) (v : Value) (st : Option (List UInt8)) (wr : World) : Prop where
 rd : Rd wr r st
 all : ∃ l f, OwnI wr B v l ∧ leftS st < f ∧ numsS xs = (l ++ (numsF f st).1, (numsF f st).2) ∧ l.length + leftS st ≤ 65535
 bel : Below w.heap.size w wr

set_option maxRecDepth 100000 in
set_option maxHeartbeats 1000000 in
theorem rnums_any (A : Option Addr) (n c : Nat) (xs : List UInt8) (w : World) (hs : Src w A n xs) (hn : n ≤ 65535) :
   Calls Tryz.prog 163 #[.slice A n c] w fun e w' => ∃ v, e = .returned (.tuple #[v, .bool (numsS xs).2]) ∧ OwnI w' w.heap.size v (numsS xs).1 ∧ (numsS xs).1.length ≤ 65535 ∧ Below w.heap.size w w' := by
 go_enter Tryz.func163, Tryz.ntmps163
 go_wp2_with fail
 refine (read_any A n c xs w hs (by omega)).mono ?_
 rintro e w1 ⟨r, rfl, hr, hrd, hb⟩
 have H0 : Hid (NumAt w w.heap.size r xs (.slice none 0 0) (some xs) w1) := ⟨hrd, ⟨[], xs.length + 1, OwnI.nil _ _, by show xs.length < _; omega, rfl, by show 0 + xs.length ≤ _; rw [hs.1]; omega⟩, hb⟩
 clear hrd hb hs
 go_wp2_with fail
 go_loopw [4] (fun v wr => ∃ st, Hid (NumAt w w.heap.size r xs v st wr)) (fun _ wr => lenAt wr r)
 case atStart => exact ⟨_, H0⟩
 case round =>
   clear H0
   obtain ⟨st, HN⟩ := hrel
   go_wp2_with fail
   refine (left_any r st wr HN.out.rd).mono ?_
   rintro e w2 ⟨rfl, rfl⟩
   by_cases h0 : 0 < leftS st
   · have h0' : (0 : Int) < (leftS st : Int) := by omega
     have HL := Lib.hid h0
     have hk := Lib.hid (Rd.lenAt HN.out.rd)
     generalize hq : leftS st = q at *
     have HQ := Lib.hid hq
     clear hq
     go_wp2_with fail
     refine (num_any r 2 st wr HN.out.rd (left_bd (by have := HQ.out; obtain ⟨l, f, _, _, _, h⟩ := HN.out.all; omega))).mono ?_
     rintro e w2 ⟨rfl, hrd2, hg2⟩
     have HRd2 := Lib.hid hrd2
     have HG2 := Lib.hid hg2
     have HK2 := Lib.hid (show leftS (numS st 2).2 < q from by have := num_less st (by rw [HQ.out]; exact HL.out); rw [HQ.out] at this; exact this)
     obtain ⟨l, f, hOw, hf, hall, hlen⟩ := HN.out.all
     obtain ⟨cs, hblk⟩ := HN.out.rd.blk
     have HOw := Lib.hid (OwnI.off hOw hg2 (OffT.of_blk hblk (by decide)))
     obtain ⟨f', rfl⟩ : ∃ f', f = f' + 1 := ⟨f - 1, by omega⟩
     have HA : Hid (numsS xs = ((l ++ [((numS st 2).1 : Int)]) ++ (numsF f' (numS st 2).2).1, (numsF f' (numS st 2).2).2)) := by
       rw [hall, numsF_step (by rw [HQ.out]; exact HL.out), List.append_assoc]; rfl
     have hlen' : l.length ≤ 65535 := by omega
     have HF := Lib.hid (show leftS (numS st 2).2 < f' by have := HK2.out; have := HQ.out; omega)
     have HLn := Lib.hid (show (l ++ [((numS st 2).1 : Int)]).length + leftS (numS st 2).2 ≤ 65535 by rw [List.length_append]; have := HK2.out; have := HQ.out; simp only [List.length_cons, List.length_nil]; omega)
     have HB2 := Lib.hid (HN.out.bel.grown hg2 HN.out.bel.size (fun j hj => by injection hj with hj; omega))
     clear hrd2 hg2 hOw hf hall hlen hblk h0 h0'
     have hsz := HB2.out.size
     clear HN HQ
     generalize numS st 2 = p at *
     have HOa := Lib.hid (show OwnI (w2.alloc (.cells #[Value.int .i64 (p.1 : Int)] 3)) w.heap.size _ l from World.ownsRow.alloc HOw.out _)
     have HGe := Lib.hid (OwnI.ge HOa.out)
     have HOff := Lib.hid (HOa.out.block (T := TB) (by unfold TB; decide))
     have HBa := Lib.hid (HB2.out.alloc hsz (.cells #[Value.int .i64 (p.1 : Int)] 3))
     have HRa := Lib.hid (HRd2.out.below (Below.refl w2.heap.size w2 |>.alloc (Nat.le_refl _) (.cells #[Value.int .i64 (p.1 : Int)] 3)) (Nat.le_refl _))
     go_wp2_with (at_builtin; refine wpList_appI rfl _ _ rfl w.heap.size _ l rfl (by exact HOa.out) _ 1 (p.1 : Int) rfl (by simp) (by omega) (by simp; omega) ?_; intro v3 w3 ho3 hg3)
     have HB3 := Lib.hid (HBa.out.grown hg3.out (by simp; omega) (fun j hj => HGe.out j hj))
     have HRd3 := Lib.hid (Rd.off (T := TB) HRa.out hg3.out HOff.out (.inl rfl) (.inr rfl))
     clear hg3
     go_roundw
     case rel => exact ⟨p.2, Lib.hid ⟨HRd3.out, ⟨_, f', ho3.out, HF.out, HA.out, HLn.out⟩, HB3.out⟩⟩
     case measure => rw [Rd.lenAt HRd3.out, hk.out]; exact HK2.out
   · have hz : leftS st = 0 := by omega
     have HZ := Lib.hid hz
     have h0' : ¬ (0 : Int) < (leftS st : Int) := by omega
     generalize hq : leftS st = q at *
     go_wp2_with fail
     refine (done_any r st wr HN.out.rd).mono ?_
     rintro e w2 ⟨rfl, rfl⟩
     obtain ⟨l, f, hOw, hf, hall, hlen⟩ := HN.out.all
     have HE := Lib.hid (show numsS xs = (l, doneS st) by rw [hall, numsF_end (hq.trans HZ.out), List.append_nil])
     have HOw := Lib.hid hOw
     have HLn := Lib.hid hlen
     clear hOw hall hlen hf
     go_wp2_with fail
     go_ret2
     rw [HE.out]
     exact ⟨_, rfl, HOw.out, by show l.length ≤ _; have := HLn.out; omega, HN.out.bel⟩
end Go.Proofs.YthfknndjdfofgaaGreatDoor.He

/-
 Contract of package hello's readExts over this seat's translation.
-/
namespace Go.Proofs.YthfknndjdfofgaaGreatDoor.He
open Go.RowKit Go.Proofs.YthfknndjdfofgaaGreatDoor.Wd Go.Proofs.YthfknndjdfofgaaGreatDoor.Be

theorem Sl.form {w : World} {v : Value} {xs : List UInt8} (h : Sl w v xs) : ∃ A c, v = .slice A xs.length c := by
 rcases h with ⟨rfl, rfl⟩ | ⟨g, rfl, _⟩
 · exact ⟨none, 0, rfl⟩
 · exact ⟨_, _, rfl⟩
theorem Xt.Mine.below {w w' : World} {x : Xt} (h : x.Mine w) (hb : Below w.heap.size w w') : x.Mine w' := ⟨h.sl.below hb, h.n, h.small, h.k⟩
theorem OwnX.alloc {w : World} {B : Nat} {v : Value} {l : List Xt} (h : OwnX w B v l) (o : Obj) : OwnX (w.alloc o) B v l :=
 ⟨World.ownsRow.alloc h.row o, fun x hx => (h.each x hx).below ((Below.refl _ _).alloc (Nat.le_refl _) o)⟩

structure ExtAt (w : World) (B r : Nat) (xs : List UInt8) (v : Value) (st : Option (List UInt8)) (wr : World) : Prop where
 rd : Rd wr r st
 all : ∃ l f, OwnX wr B v l ∧ leftS st < f ∧ extsS xs = (l.map ext ++ (extsF f st).1, (extsF f st).2) ∧ l.length + leftS st ≤ 65535
 bel : Below w.heap.size w wr

set_option maxRecDepth 100000 in
set_option maxHeartbeats 1000000 in
theorem rexts_any (A : Option Addr) (n c : Nat) (xs : List UInt8) (w : World) (hs : Src w A n xs) (hn : n ≤ 65535) :
   Calls Tryz.prog 165 #[.slice A n c] w fun e w' => ∃ v l, e = .returned (.tuple #[v, .bool (extsS xs).2]) ∧ OwnX w' w.heap.size v l ∧ l.map ext = (extsS xs).1 ∧ l.length ≤ 65535 ∧ Below w.heap.size w w' := by
 go_enter Tryz.func165, Tryz.ntmps165
 go_wp2_with fail
 refine (read_any A n c xs w hs (by omega)).mono ?_
 rintro e w1 ⟨r, rfl, hr, hrd, hb⟩
 have H0 : Hid (ExtAt w w.heap.size r xs (.slice none 0 0) (some xs) w1) := ⟨hrd, ⟨[], xs.length + 1, OwnX.nil _ _, by show xs.length < _; omega, rfl, by show 0 + xs.length ≤ _; rw [hs.1]; omega⟩, hb⟩
 clear hrd hb hs
 go_wp2_with fail
 go_loopw [4] (fun v wr => ∃ st, Hid (ExtAt w w.heap.size r xs v st wr)) (fun _ wr => lenAt wr r)
 case atStart => exact ⟨_, H0⟩
 case round =>
   clear H0
   obtain ⟨st, HN⟩ := hrel
   go_wp2_with fail
   refine (left_any r st wr HN.out.rd).mono ?_
   rintro e w2 ⟨rfl, rfl⟩
   by_cases h0 : 0 < leftS st
   · have h0' : (0 : Int) < (leftS st : Int) := by omega
     have HL := Lib.hid h0
     have hk := Lib.hid (Rd.lenAt HN.out.rd)
     have hsm := num_small st
     generalize hq : leftS st = q at *
     have HQ := Lib.hid hq
     clear hq
     go_wp2_with fail
     refine (num_any r 2 st wr HN.out.rd (left_bd (by have := HQ.out; obtain ⟨l, f, _, _, _, h⟩ := HN.out.all; omega))).mono ?_
     rintro e w2 ⟨rfl, hrd2, hg2⟩
     have HRd2 := Lib.hid hrd2
     have hvs := vec_small (numS st 2).2
     have hle2 := num_less st (by rw [HQ.out]; exact HL.out)
     have HK2 := Lib.hid (show leftS (vecS (numS st 2).2 2).2 < q from by have := vec_less (numS st 2).2 2; have := HQ.out; omega)
     have HK1 := Lib.hid (show leftS (numS st 2).2 ≤ 65535 from by have := HQ.out; obtain ⟨l, f, _, _, _, h⟩ := HN.out.all; omega)
     obtain ⟨l, f, hOw, hf, hall, hlen⟩ := HN.out.all
     obtain ⟨cs, hblk⟩ := HN.out.rd.blk
     have HOw := Lib.hid (OwnX.off hOw hg2 (OffT.of_blk hblk (by unfold TX; decide)))
     obtain ⟨f', rfl⟩ : ∃ f', f = f' + 1 := ⟨f - 1, by omega⟩
     have HA : ∀ z : Xt, ext z = (((numS st 2).1 : Int), (vecS (numS st 2).2 2).1) → Hid (extsS xs = ((l ++ [z]).map ext ++ (extsF f' (vecS (numS st 2).2 2).2).1, (extsF f' (vecS (numS st 2).2 2).2).2)) := fun z hz => by
       rw [hall, extsF_step (by rw [HQ.out]; exact HL.out), List.map_append, List.append_assoc, List.map_cons, hz]; rfl
     have HAh := Lib.hid HA
     have hlen' : l.length ≤ 65535 := by omega
     have HF := Lib.hid (show leftS (vecS (numS st 2).2 2).2 < f' by have := HK2.out; have := HQ.out; omega)
     have HLn := Lib.hid (show l.length + 1 + leftS (vecS (numS st 2).2 2).2 ≤ 65535 by have := HK2.out; have := HQ.out; omega)
     have HB2 := Lib.hid (HN.out.bel.grown hg2 HN.out.bel.size (fun j hj => by injection hj with hj; omega))
     clear HA hrd2 hg2 hOw hf hall hlen hblk h0 h0' hle2
     have hsz := HB2.out.size
     clear HN HQ HL
     generalize numS st 2 = p at *
     go_wp2_with fail
     refine (rvec_any r 2 p.2 w2 HRd2.out (left_bd (by have := HK1.out; omega))).mono ?_
     rintro e w3 ⟨v3, rfl, hsl, hrd3, hg3⟩
     generalize vecS p.2 2 = q3 at *
     obtain ⟨A3, c3, hv3⟩ := Sl.form hsl
     obtain ⟨cs, hblk⟩ := HRd2.out.blk
     have HOw3 := Lib.hid (OwnX.off HOw.out hg3 (OffT.of_blk hblk (by unfold TX; decide)))
     have HB3 := Lib.hid (HB2.out.grown hg3 hsz (fun j hj => by injection hj with hj; omega))
     have hsz3 := HB3.out.size
     have HRd3 := Lib.hid hrd3
     have HSl := Lib.hid hsl
     rw [hv3]
     have HMine := Lib.hid (show (Xt.mk (p.1 : Int) A3 q3.1.length c3 q3.1).Mine w3 from ⟨by show Sl w3 (.slice A3 q3.1.length c3) q3.1; rw [← hv3]; exact HSl.out, rfl, hvs, by show (0 : Int) ≤ (p.1 : Int); omega, by show (p.1 : Int) < 65536; omega⟩)
     have HMz := Lib.hid (HAh.out (Xt.mk (p.1 : Int) A3 q3.1.length c3 q3.1) rfl)
     clear hsl hrd3 hg3 hblk HOw HB2 HAh HRd2 HSl hv3
     have HOa := Lib.hid (HOw3.out.alloc (.cells #[Value.int .i64 (p.1 : Int), .slice A3 q3.1.length c3] 70))
     have hzb := Blk.new w3 70 #[Value.int .i64 (p.1 : Int), .slice A3 q3.1.length c3]
     have Hc0 := Lib.hid (show (w3.alloc (.cells #[Value.int .i64 (p.1 : Int), .slice A3 q3.1.length c3] 70)).cell? ⟨w3.heap.size, 0, none⟩ = some (.int .i64 (p.1 : Int)) by rw [hzb.cell]; rfl)
     have Hc1 := Lib.hid (show (w3.alloc (.cells #[Value.int .i64 (p.1 : Int), .slice A3 q3.1.length c3] 70)).cell? ⟨w3.heap.size, 1, none⟩ = some (.slice A3 q3.1.length c3) by rw [hzb.cell]; rfl)
     clear hzb
     have HGe := Lib.hid (OwnX.ge HOa.out)
     have HOff := Lib.hid (HOa.out.block (T := TB) (by unfold TB; decide))
     have HMa := Lib.hid (HMine.out.below ((Below.refl _ _).alloc (Nat.le_refl _) (.cells #[Value.int .i64 (p.1 : Int), .slice A3 q3.1.length c3] 70)))
     have HBa := Lib.hid (HB3.out.alloc hsz3 (.cells #[Value.int .i64 (p.1 : Int), .slice A3 q3.1.length c3] 70))
     have HRa := Lib.hid (HRd3.out.below (Below.refl w3.heap.size w3 |>.alloc (Nat.le_refl _) (.cells #[Value.int .i64 (p.1 : Int), .slice A3 q3.1.length c3] 70)) (Nat.le_refl _))
     clear HB3 HRd3 HMine HOw3
     go_wp2_with (at_builtin; refine wpList_appX rfl _ _ rfl w.heap.size _ l rfl (by exact HOa.out) _ 1 (Xt.mk (p.1 : Int) A3 q3.1.length c3 q3.1) rfl (by exact HMa.out) (by exact Hc0.out) (by exact Hc1.out) (by omega) (by simp; omega) ?_; intro v4 w4 ho4 hg4)
     have HB4 := Lib.hid (HBa.out.grown hg4.out (by simp; omega) (fun j hj => HGe.out j hj))
     have HRd4 := Lib.hid (Rd.off (T := TB) HRa.out hg4.out HOff.out (.inl rfl) (.inr rfl))
     clear hg4 HBa HRa HGe HOff Hc0 Hc1
     go_roundw
     case rel => exact ⟨q3.2, Lib.hid ⟨HRd4.out, ⟨_, f', ho4.out, HF.out, HMz.out, by have := HLn.out; rw [List.length_append]; simpa using this⟩, HB4.out⟩⟩
     case measure => rw [Rd.lenAt HRd4.out, hk.out]; exact HK2.out
   · have hz : leftS st = 0 := by omega
     have HZ := Lib.hid hz
     have h0' : ¬ (0 : Int) < (leftS st : Int) := by omega
     generalize hq : leftS st = q at *
     go_wp2_with fail
     refine (done_any r st wr HN.out.rd).mono ?_
     rintro e w2 ⟨rfl, rfl⟩
     obtain ⟨l, f, hOw, hf, hall, hlen⟩ := HN.out.all
     have HE := Lib.hid (show extsS xs = (l.map ext, doneS st) by rw [hall, extsF_end (hq.trans HZ.out), List.append_nil])
     have HOw := Lib.hid hOw
     have HLn := Lib.hid hlen
     clear hOw hall hlen hf
     go_wp2_with fail
     go_ret2
     rw [HE.out]
     exact ⟨_, l, rfl, HOw.out, rfl, by have := HLn.out; omega, HN.out.bel⟩
end Go.Proofs.YthfknndjdfofgaaGreatDoor.He

/-
 A hello whose parts are the call's own, as it lies in memory, and in a block; what keeps it while other blocks turn; its fields stored. Plain lemmas, no condition.
-/
namespace Go.Proofs.YthfknndjdfofgaaGreatDoor.He
set_option maxRecDepth 100000
open Go.RowKit Go.Proofs.YthfknndjdfofgaaGreatDoor.Wd Go.Proofs.YthfknndjdfofgaaGreatDoor.Be

def TW (t : TypeId) : Prop := t = 5 ∨ t = 3 ∨ t = 70
structure HOwn (w : World) (H : Hv) : Prop where
 rnd : H.rnd.length = 32
 ver : 0 ≤ H.ver ∧ H.ver < 65536
 ses : Sl w (.slice H.sA H.ses.length H.sc) H.ses
 s1 : H.ses.length < 65536
 cph : OwnI w 0 (.slice H.cA H.cph.length H.cc) H.cph
 c1 : H.cph.length < 65536
 c2 : ∀ n ∈ H.cph, In2 n
 met : Sl w (.slice H.mA H.met.length H.mc) H.met
 m1 : H.met.length < 65536
 xs : OwnX w 0 (.slice H.xA H.xs.length H.xc) H.xs
 x1 : H.xs.length < 65536
theorem OffT.mono {w : World} {row : Option Nat} {S T : TypeId → Prop} (h : OffT w row T) (hs : ∀ t, S t → T t) : OffT w row S := fun g e => by
 rcases h g e with h | ⟨t, cs, hb, hn⟩
 · exact .inl h
 · exact .inr ⟨t, cs, hb, fun hs' => hn (hs t hs')⟩
theorem HOwn.off {w w' : World} {H : Hv} {row : Option Nat} (h : HOwn w H) (hb : w.grownBy w' row) (hr : OffT w row TW) : HOwn w' H :=
 ⟨h.rnd, h.ver, Sl.off h.ses hb hr (.inl rfl), h.s1, h.cph.off hb (hr.mono fun _ e => .inr (.inl e)), h.c1, h.c2, Sl.off h.met hb hr (.inl rfl), h.m1,
   h.xs.off hb (hr.mono fun _ e => e.elim (fun e => .inr (.inr e)) (fun e => .inl e)), h.x1⟩
theorem HOwn.below {w w' : World} {H : Hv} (h : HOwn w H) (hb : Below w.heap.size w w') : HOwn w' H := h.off (only_of_below hb none) (OffT.none _ _)
theorem Sl.nc {w : World} {A : Option Addr} {n c : Nat} {xs : List UInt8} (h : Sl w (.slice A n c) xs) : n = xs.length ∧ n ≤ c ∧ Src w A n xs := by
 obtain ⟨A', c', e, h1, h2⟩ := h.src
 injection e with e1 e2 e3
 subst e1 e2 e3
 exact ⟨rfl, h1, h2⟩
theorem OwnI.nc {w : World} {B : Nat} {A : Option Addr} {n c : Nat} {l : List Int} (h : OwnI w B (.slice A n c) l) : n = l.length ∧ n ≤ c ∧ SrcI w A l := by
 obtain ⟨A', c', e, h1, h2⟩ := h.src
 injection e with e1 e2 e3
 subst e1 e2 e3
 exact ⟨rfl, h1, h2⟩
theorem OwnX.nc {w : World} {B : Nat} {A : Option Addr} {n c : Nat} {l : List Xt} (h : OwnX w B (.slice A n c) l) : n = l.length ∧ n ≤ c ∧ SrcX w A l := by
 obtain ⟨A', c', e, h1, h2⟩ := h.src
 injection e with e1 e2 e3
 subst e1 e2 e3
 exact ⟨rfl, h1, h2⟩
theorem HOwn.ok {w : World} {H : Hv} (h : HOwn w H) : H.Ok w := by
 have a1 := Sl.nc h.ses
 have a2 := OwnI.nc h.cph
 have a3 := Sl.nc h.met
 have a4 := OwnX.nc h.xs
 have := h.ver
 have := h.s1
 have := h.c1
 have := h.m1
 have := h.x1
 exact ⟨by omega, h.rnd, ⟨a1.2.1, by omega⟩, a1.2.2, ⟨a2.2.1, by omega⟩, fun n hn => by have := h.c2 n hn; unfold In2 at this; omega, a2.2.2, ⟨a3.2.1, by omega⟩, a3.2.2, ⟨a4.2.1, by omega⟩, a4.2.2⟩
theorem HOwn.zero (w : World) : HOwn w Hv.zero :=
 ⟨rfl, ⟨Int.le_refl _, by decide⟩, .inl ⟨rfl, rfl⟩, by decide, OwnI.nil w 0, by decide, fun _ h => absurd h List.not_mem_nil, .inl ⟨rfl, rfl⟩, by decide, OwnX.nil w 0, by decide⟩
theorem OwnI.lower {w : World} {B B' : Nat} {v : Value} {l : List Int} (h : OwnI w B v l) (hB : B' ≤ B) : OwnI w B' v l := by
 obtain ⟨hl, h0 | ⟨g, cap, cur, hv, hg, r⟩⟩ := h
 · exact ⟨hl, .inl h0⟩
 · exact ⟨hl, .inr ⟨g, cap, cur, hv, Nat.le_trans hB hg, r⟩⟩
theorem OwnX.lower {w : World} {B B' : Nat} {v : Value} {l : List Xt} (h : OwnX w B v l) (hB : B' ≤ B) : OwnX w B' v l := by
 obtain ⟨⟨hl, h0 | ⟨g, cap, cur, hv, hg, r⟩⟩, h2⟩ := h
 · exact ⟨⟨hl, .inl h0⟩, h2⟩
 · exact ⟨⟨hl, .inr ⟨g, cap, cur, hv, Nat.le_trans hB hg, r⟩⟩, h2⟩
theorem OwnI.form {w : World} {B : Nat} {v : Value} {l : List Int} (h : OwnI w B v l) : ∃ A c, v = .slice A l.length c := by
 obtain ⟨A, c, e, _⟩ := h.src; exact ⟨A, c, e⟩
theorem OwnX.form {w : World} {B : Nat} {v : Value} {l : List Xt} (h : OwnX w B v l) : ∃ A c, v = .slice A l.length c := by
 obtain ⟨A, c, e, _⟩ := h.src; exact ⟨A, c, e⟩

structure HAt (w : World) (g : Nat) (H : Hv) : Prop where
 blk : Blk w g 68 H.C
 own : HOwn w H
def TA (t : TypeId) : Prop := TW t ∨ t = 68
theorem HAt.off {w w' : World} {g : Nat} {H : Hv} {row : Option Nat} (h : HAt w g H) (hb : w.grownBy w' row) (hr : OffT w row TA) : HAt w' g H :=
 ⟨h.blk.grown hb (hr.far h.blk (.inr rfl)), h.own.off hb (hr.mono fun _ e => .inl e)⟩
theorem HAt.below {w w' : World} {g : Nat} {H : Hv} (h : HAt w g H) (hb : Below w.heap.size w w') : HAt w' g H := ⟨h.blk.below hb h.blk.lt, h.own.below hb⟩
theorem HOwn.set_ {w : World} {g i : Nat} {H : Hv} {cs : Array Value} (h : HOwn w H) (hb : Blk w g 68 cs) (u : Value) : HOwn (w.setCell ⟨g, i, none⟩ u) H :=
 h.off (only_setCell (p := ⟨g, i, none⟩) (only_refl w (some g)) (.inl rfl) u) (OffT.of_blk hb (by unfold TW; decide))
theorem L_set {H : Hv} (h : H.rnd.length = 32) (j : Nat) (v : Value) : H.L.set (33 + j) v = .int .i64 H.ver :: (cellsOf H.rnd ++ [.slice H.sA H.ses.length H.sc, .slice H.cA H.cph.length H.cc, .slice H.mA H.met.length H.mc, .bool H.has, .slice H.xA H.xs.length H.xc].set j v) := by
 rw [show 33 + j = (32 + j) + 1 by omega, Hv.L, List.set_cons_succ, List.set_append_right _ _ (by rw [cellsOf_length]; omega), cellsOf_length, h, show 32 + j - 32 = j by omega]
theorem C_set {H : Hv} (i : Nat) (v : Value) : H.C.setIfInBounds i v = (H.L.set i v).toArray := by simp [Hv.C]
section
variable {w : World} {g : Nat} {H : Hv}
theorem HAt.set_ver (h : HAt w g H) (v : Int) (hv : 0 ≤ v ∧ v < 65536) : HAt (w.setCell ⟨g, 0, none⟩ (.int .i64 v)) g { H with ver := v } := by
 refine ⟨?_, ?_⟩
 · have := h.blk.set_ 0 (.int .i64 v)
   rw [C_set] at this
   exact this
 · have h' := h.own.set_ (i := 0) h.blk (.int .i64 v)
   exact ⟨h'.rnd, hv, h'.ses, h'.s1, h'.cph, h'.c1, h'.c2, h'.met, h'.m1, h'.xs, h'.x1⟩
theorem HAt.set_ses (h : HAt w g H) (A : Option Addr) (c : Nat) (x : List UInt8) (hx : Sl w (.slice A x.length c) x) (hl : x.length < 65536) : HAt (w.setCell ⟨g, 33, none⟩ (.slice A x.length c)) g { H with sA := A, sc := c, ses := x } := by
 refine ⟨?_, ?_⟩
 · have := h.blk.set_ 33 (.slice A x.length c)
   rw [C_set, show (33 : Nat) = 33 + 0 from rfl, L_set h.own.rnd] at this
   exact this
 · have h' := h.own.set_ (i := 33) h.blk (.slice A x.length c)
   exact ⟨h'.rnd, h'.ver, Sl.off hx (only_setCell (p := ⟨g, 33, none⟩) (only_refl w (some g)) (.inl rfl) _) (OffT.of_blk h.blk (T := TW) (by unfold TW; decide)) (.inl rfl), hl, h'.cph, h'.c1, h'.c2, h'.met, h'.m1, h'.xs, h'.x1⟩
theorem HAt.set_cph (h : HAt w g H) (A : Option Addr) (c : Nat) (x : List Int) (hx : OwnI w 0 (.slice A x.length c) x) (hl : x.length < 65536) (h2 : ∀ n ∈ x, In2 n) : HAt (w.setCell ⟨g, 34, none⟩ (.slice A x.length c)) g { H with cA := A, cc := c, cph := x } := by
 refine ⟨?_, ?_⟩
 · have := h.blk.set_ 34 (.slice A x.length c)
   rw [C_set, show (34 : Nat) = 33 + 1 from rfl, L_set h.own.rnd] at this
   exact this
 · have h' := h.own.set_ (i := 34) h.blk (.slice A x.length c)
   exact ⟨h'.rnd, h'.ver, h'.ses, h'.s1, hx.off (only_setCell (p := ⟨g, 34, none⟩) (only_refl w (some g)) (.inl rfl) _) (OffT.of_blk h.blk (by decide)), hl, h2, h'.met, h'.m1, h'.xs, h'.x1⟩
theorem HAt.set_met (h : HAt w g H) (A : Option Addr) (c : Nat) (x : List UInt8) (hx : Sl w (.slice A x.length c) x) (hl : x.length < 65536) : HAt (w.setCell ⟨g, 35, none⟩ (.slice A x.length c)) g { H with mA := A, mc := c, met := x } := by
 refine ⟨?_, ?_⟩
 · have := h.blk.set_ 35 (.slice A x.length c)
   rw [C_set, show (35 : Nat) = 33 + 2 from rfl, L_set h.own.rnd] at this
   exact this
 · have h' := h.own.set_ (i := 35) h.blk (.slice A x.length c)
   exact ⟨h'.rnd, h'.ver, h'.ses, h'.s1, h'.cph, h'.c1, h'.c2, Sl.off hx (only_setCell (p := ⟨g, 35, none⟩) (only_refl w (some g)) (.inl rfl) _) (OffT.of_blk h.blk (T := TW) (by unfold TW; decide)) (.inl rfl), hl, h'.xs, h'.x1⟩
theorem HAt.set_has (h : HAt w g H) (b : Bool) : HAt (w.setCell ⟨g, 36, none⟩ (.bool b)) g { H with has := b } := by
 refine ⟨?_, ?_⟩
 · have := h.blk.set_ 36 (.bool b)
   rw [C_set, show (36 : Nat) = 33 + 3 from rfl, L_set h.own.rnd] at this
   exact this
 · have h' := h.own.set_ (i := 36) h.blk (.bool b)
   exact ⟨h'.rnd, h'.ver, h'.ses, h'.s1, h'.cph, h'.c1, h'.c2, h'.met, h'.m1, h'.xs, h'.x1⟩
theorem HAt.set_xs (h : HAt w g H) (A : Option Addr) (c : Nat) (x : List Xt) (hx : OwnX w 0 (.slice A x.length c) x) (hl : x.length < 65536) : HAt (w.setCell ⟨g, 37, none⟩ (.slice A x.length c)) g { H with xA := A, xc := c, xs := x } := by
 refine ⟨?_, ?_⟩
 · have := h.blk.set_ 37 (.slice A x.length c)
   rw [C_set, show (37 : Nat) = 33 + 4 from rfl, L_set h.own.rnd] at this
   exact this
 · have h' := h.own.set_ (i := 37) h.blk (.slice A x.length c)
   exact ⟨h'.rnd, h'.ver, h'.ses, h'.s1, h'.cph, h'.c1, h'.c2, h'.met, h'.m1, hx.off (only_setCell (p := ⟨g, 37, none⟩) (only_refl w (some g)) (.inl rfl) _) (OffT.of_blk h.blk (by unfold TX; decide)), hl⟩
end
theorem run_copy_rnd {w : World} {g : Nat} {H : Hv} (h : HAt w g H) (h0 : H.rnd = List.replicate 32 0) {ty : TypeId} {A : Option Addr} {m c d : Nat} {xs : List UInt8} (hs : Src w A m xs) (hm : m ≤ 32) :
   ∃ w' N, (Builtin.copy_ #[22, 22] ty #[.slice (some ⟨g, 1, none⟩) 32 d, .slice A m c]).run Tryz.prog w = .ok N w' ∧ HAt w' g { H with rnd := rowR xs } ∧ w.grownBy w' (some g) := by
 have hl := hs.1
 have hu : Tryz.prog.underlying 22 = some (.slice 5) := Tryz.underlying22
 have hz : (Tryz.prog.info? 5).map (·.size) = some 1 := by kernel_rfl
 have hrow : (rowR xs).length = 32 := by simp [rowR]; omega
 by_cases e0 : m = 0
 · have hx : xs = [] := List.eq_nil_of_length_eq_zero (by omega)
   refine ⟨w, _, run_copy_none w 22 22 ty 5 (some ⟨g, 1, none⟩) A 32 d m c hu hz (by show min m 32 = 0; omega), ?_, only_refl _ _⟩
   have : ({ H with rnd := rowR xs } : Hv) = H := by
     subst hx
     show ({ H with rnd := List.replicate 32 0 } : Hv) = H
     rw [← h0]
   rw [this]
   exact h
 · obtain ⟨ad, rfl, _, hc⟩ := hs.2 (by omega)
   have hlen : (cellsOf xs).length = min m 32 := by rw [cellsOf_length, hl]; omega
   have hrun := run_copy_row (P := Tryz.prog) w 22 22 ty 5 g 1 32 d ad m c H.C 68 (cellsOf xs) hu hz h.blk hlen (fun j v hj => by
       simp only [cellsOf, List.getElem?_map, Option.map_eq_some_iff] at hj
       obtain ⟨x, hx, rfl⟩ := hj
       exact hc j x hx) (by rw [hlen, Hv.size h.own.rnd]; omega) (cellsOf_one _)
   have hbk := setRow_heap w g H.C ((H.C.toList.take 1 ++ cellsOf xs ++ H.C.toList.drop (1 + (cellsOf xs).length)).toArray) 68 (0, 0) h.blk
   have hC : (H.C.toList.take 1 ++ cellsOf xs ++ H.C.toList.drop (1 + (cellsOf xs).length)).toArray = ({ H with rnd := rowR xs } : Hv).C := by
     simp only [Hv.C, Hv.L]
     congr 1
     rw [h0, cellsOf_length, Nat.add_comm 1, List.drop_succ_cons, List.drop_append_of_le_length (by simp [cellsOf]; omega)]
     simp only [rowR, cellsOf, List.map_append, List.map_replicate, List.drop_replicate, List.take_succ_cons, List.take_zero, List.append_assoc, List.cons_append, List.nil_append]
   have hg : w.grownBy (w.setRow g ((H.C.toList.take 1 ++ cellsOf xs ++ H.C.toList.drop (1 + (cellsOf xs).length)).toArray)) (some g) := by
     have hB := (But.refl [g] w).row (g := g) (.inl (List.mem_singleton.2 rfl)) ((H.C.toList.take 1 ++ cellsOf xs ++ H.C.toList.drop (1 + (cellsOf xs).length)).toArray)
     exact ⟨hB.os, hB.tape, hB.output, hB.size, fun i hi hn => hB.block i hi (fun hm => hn (by rw [List.mem_singleton.1 hm]))⟩
   refine ⟨_, _, hrun, ⟨?_, ?_⟩, hg⟩
   · rw [← hC]
     exact hbk
   · have h' := h.own.off hg (OffT.of_blk h.blk (by unfold TW; decide))
     exact ⟨hrow, h'.ver, h'.ses, h'.s1, h'.cph, h'.c1, h'.c2, h'.met, h'.m1, h'.xs, h'.x1⟩
theorem step_copy_rnd {ops : Array Oper} {o : Oper} {a : Act} {w : World} {K : Act → World → Prop} {Q : Exit → Act → World → Prop} {E : Prop} (dst : Option Tmp) (hdst : o.dst = dst) (hgd : o.guard = none) (d s : Operand)
   (ho : o.op = .call { callee := .builtin .copy, args := #[d, s], argTypes := #[22, 22] }) (g dc m c : Nat) (A : Option Addr) (xs : List UInt8) (H : Hv) (hd : a.eval d = .slice (some ⟨g, 1, none⟩) 32 dc) (hx : a.eval s = .slice A m c)
   (hH : HAt w g H) (h0 : H.rnd = List.replicate 32 0) (hs : Src w A m xs) (hm : m ≤ 32)
   (h : ∀ w' N, Hid (HAt w' g { H with rnd := rowR xs }) → Hid (w.grownBy w' (some g)) → K (a.put dst N) w') :
   if Region.wanted o (yielded ops a.tmps) = true then Oper.wp Tryz.prog o a w K Q else E := by
 subst hdst
 have hw : Region.wanted o (yielded ops a.tmps) = true := by simp [Region.wanted, hgd]
 rw [if_pos hw]
 obtain ⟨w', N, hrun, h2, h3⟩ := run_copy_rnd (ty := o.type) (c := c) (d := dc) hH h0 hs hm
 unfold Oper.wp execOp
 simp only [ho, resolve, invoke, builtin, Sem.run_bind, Sem.run_pure, Result.andThen_ok, List.map_toArray, List.map_cons, List.map_nil, hd, hx, hrun]
 exact h w' N (Lib.hid h2) (Lib.hid h3)
theorem zeroC : Hv.zero.C = #[.int .i64 0, .int .u8 0, .int .u8 0, .int .u8 0, .int .u8 0, .int .u8 0, .int .u8 0, .int .u8 0, .int .u8 0, .int .u8 0, .int .u8 0, .int .u8 0, .int .u8 0, .int .u8 0, .int .u8 0, .int .u8 0, .int .u8 0, .int .u8 0, .int .u8 0, .int .u8 0, .int .u8 0, .int .u8 0, .int .u8 0, .int .u8 0, .int .u8 0, .int .u8 0, .int .u8 0, .int .u8 0, .int .u8 0, .int .u8 0, .int .u8 0, .int .u8 0, .int .u8 0, .slice none 0 0, .slice none 0 0, .slice none 0 0, .bool false, .slice none 0 0] := rfl
structure RdAt (w0 : World) (g r : Nat) (H : Hv) (st : Option (List UInt8)) (w : World) : Prop where
 at_ : HAt w g H
 rd : Rd w r st
 res : Blk w w0.heap.size 68 Hv.zero.C
 bel : Below w0.heap.size w0 w
 gB : w0.heap.size < g
 rB : w0.heap.size ≤ r
section
variable {w0 w w' : World} {g r : Nat} {H H' : Hv} {st st' : Option (List UInt8)}
theorem RdAt.read (h : RdAt w0 g r H st w) (hr : Rd w' r st') (hg : w.grownBy w' (some r)) : RdAt w0 g r H st' w' := by
 obtain ⟨cs, hb⟩ := h.rd.blk
 exact ⟨h.at_.off hg (OffT.of_blk hb (by unfold TA TW; decide)), hr, h.res.grown hg ((OffT.of_blk (T := TA) hb (by unfold TA TW; decide)).far h.res (.inr rfl)), h.bel.grown hg h.bel.size (fun j hj => by injection hj with hj; have := h.rB; omega), h.gB, h.rB⟩
theorem RdAt.more (h : RdAt w0 g r H st w) (hb : Below w.heap.size w w') : RdAt w0 g r H st w' :=
 ⟨h.at_.below hb, h.rd.below hb (Nat.le_refl _), h.res.below hb h.res.lt, h.bel.trans (hb.mono h.bel.size), h.gB, h.rB⟩
theorem RdAt.turn (h : RdAt w0 g r H st w) (hh : HAt w' g H') (hg : w.grownBy w' (some g)) : RdAt w0 g r H' st w' :=
 ⟨hh, Rd.off h.rd hg (OffT.of_blk (T := TB) h.at_.blk (by unfold TB; decide)) (.inl rfl) (.inr rfl), h.res.grown hg (fun e => by injection e with e; have := h.gB; omega), h.bel.grown hg h.bel.size (fun j hj => by injection hj with hj; have := h.gB; omega), h.gB, h.rB⟩
theorem RdAt.set_ (h : RdAt w0 g r H st w) (i : Nat) (u : Value) (hh : HAt (w.setCell ⟨g, i, none⟩ u) g H') : RdAt w0 g r H' st (w.setCell ⟨g, i, none⟩ u) :=
 h.turn hh (only_setCell (p := ⟨g, i, none⟩) (only_refl w (some g)) (.inl rfl) u)
theorem RdAt.drew (h : RdAt w0 g r H st w) : RdAt w0 g r H st w.drew := h.more (Below.refl _ _).drew
end
end Go.Proofs.YthfknndjdfofgaaGreatDoor.He
