/-
 Contracts of the document's own message (hagioscoperef08) over this seat's translation: size, Whole, Want, Body.
-/
import Derived.Test.YthfknndjdfofgaaGreatDoorQ18
import Derived.LoopTactic
import Derived.Test.YthfknndjdfofgaaGreatDoorQ05
namespace Go.Proofs.YthfknndjdfofgaaGreatDoor.Sh
open Go.RowKit Go.Proofs.YthfknndjdfofgaaGreatDoor.Wd

def Rb (w : World) (y : Nat) (q : Option Nat) (s : List UInt8 × Nat) : Prop :=
 ∃ c, Blk w y 57 #[.slice (ad q) s.1.length c, .int .i64 (s.2 : Int)] ∧ At w q c s.1
section
variable {w w' : World} {y : Nat} {q : Option Nat} {s : List UInt8 × Nat} {S : List Nat}
theorem Rb.but (h : Rb w y q s) (k : But S w w') (hg : y ∉ S) (hp : ∀ b, q = some b → b ∉ S) : Rb w' y q s := by
 obtain ⟨c, h1, h2⟩ := h
 exact ⟨c, h1.but k hg, h2.but k hp⟩
theorem Rb.same (h : Rb w y q s) (k : But [] w w') : Rb w' y q s := h.but k (by simp) (by simp)
theorem Rb.lt (h : Rb w y q s) : y < w.heap.size := by
 obtain ⟨c, h1, _⟩ := h
 exact h1.lt
theorem Rb.ne (h : Rb w y q s) : q ≠ some y := by
 obtain ⟨c, h1, h2⟩ := h
 exact h2.ne h1 (by decide)
end

set_option maxHeartbeats 1000000 in
theorem rsize_any {w : World} {y : Nat} {q : Option Nat} {s : List UInt8 × Nat} (h : Rb w y q s) :
   Calls Tryz.prog 47 #[.pointer (some ⟨y, 0, none⟩)] w fun e w' => e = .returned (.int .i64 (sizeR s.1 : Int)) ∧ w = w' := by
 obtain ⟨cp, hb, ha⟩ := h
 obtain ⟨bs, er⟩ := s
 simp only at hb ha
 show Calls _ _ _ _ fun e w' => e = .returned (.int .i64 (sizeR bs : Int)) ∧ w = w'
 have hc0 : w.cell? ⟨y, 0, none⟩ = some (.slice (ad q) bs.length cp) := by rw [hb.cell]; rfl
 have HA := Lib.hid ha.src.2
 have HSz := Lib.hid (show sizeR bs = szK bs 4 from rfl)
 have hE1 := Lib.hid (show szK bs 1 = 0 from rfl)
 clear hb ha
 generalize ad q = A at *
 obtain ⟨n, hn⟩ : ∃ n, n = bs.length := ⟨_, rfl⟩
 rw [← hn] at hc0 HA
 have HN := Lib.hid hn
 clear hn
 go_enter Tryz.func47, Tryz.ntmps47
 go_wp2_with fail
 go_loopw [3, 4] (fun nv i wr => ∃ k : Nat, 1 ≤ k ∧ k ≤ 4 ∧ nv = .int .i64 (szK bs k : Int) ∧ i = .int .i64 (k : Int) ∧ w = wr) (fun _ i _ => 4 - (intOf i).toNat)
 case atStart => exact ⟨1, Nat.le_refl _, by omega, rfl, rfl, rfl⟩
 case round =>
   obtain ⟨k, hk1, hk4, rfl, rfl, rfl⟩ := hrel
   by_cases hlt : k < 4
   · have hki : (k : Int) < 4 := by omega
     have HSt := Lib.hid (szK_step bs k hk1)
     have hN := szK_lt bs k hk1 (by omega)
     by_cases hb : k < n
     · have hbi : (k : Int) < (n : Int) := by omega
       obtain ⟨ad, rfl, hadb, hc⟩ := HA.out.2 (by omega)
       obtain ⟨c, hx⟩ : ∃ c, bs[k]? = some c := ⟨_, List.getElem?_eq_getElem (by have := HN.out; omega)⟩
       have hcell : w.cell? (ad.add k) = some (.int .u8 (c.toNat : Int)) := hc k c hx
       have HG := Lib.hid (show bs.getD k 0 = c from by rw [List.getD_eq_getElem?_getD, hx]; rfl)
       have hcl := c.toNat_lt
       have hwb : IntKind.i64.wrap (c.toNat : Int) = (c.toNat : Int) := IntWalk.i64_in _ (by omega)
       clear hc hx
       generalize szK bs k = N at *
       go_wp2_with fail
       go_roundw
       case rel => exact ⟨k + 1, by omega, by omega, by rw [HSt.out, HG.out]; go_num, by go_num, by simp⟩
       case measure => simp [intOf]; omega
     · have hbi : ¬ (k : Int) < (n : Int) := by omega
       have HG := Lib.hid (show (bs.getD k 0).toNat = 0 from by rw [getD_far bs k (by have := HN.out; omega)]; rfl)
       generalize szK bs k = N at *
       go_wp2_with fail
       go_roundw
       case rel => exact ⟨k + 1, by omega, by omega, by rw [HSt.out, HG.out, Nat.add_zero]; go_num, by go_num, by simp⟩
       case measure => simp [intOf]; omega
   · obtain rfl : k = 4 := by omega
     rw [← HSz.out]
     go_wp2_with fail
     go_ret
     exact ⟨rfl, rfl⟩
section
variable {w : World} {y : Nat} {q : Option Nat} {s : List UInt8 × Nat}
theorem rsize_quiet (h : Rb w y q s) (j : Nat) : Calls Tryz.prog 47 #[.pointer (some ⟨y, 0, none⟩)] (w.drewN j) fun e w' => e = .returned (.int .i64 (sizeR s.1 : Int)) ∧ ∃ n, w' = w.drewN n :=
 (rsize_any (h.same ((But.refl [] w).drewN j))).mono fun _ _ ⟨he, hn⟩ => ⟨he, j, hn.symm⟩
theorem rwhole_any (h : Rb w y q s) (hl : s.1.length ≤ 30000) : Calls Tryz.prog 46 #[.pointer (some ⟨y, 0, none⟩)] w fun e w' => e = .returned (.bool (wholeR s.1)) ∧ ∃ n, w' = w.drewN n := by
 have HSz := Lib.hid (rsize_quiet h)
 obtain ⟨cp, hb, -⟩ := h
 have hc0 : w.cell? ⟨y, 0, none⟩ = some (.slice (ad q) s.1.length cp) := by rw [hb.cell]; rfl
 have HW := Lib.hid (show wholeR s.1 = decide (4 ≤ s.1.length ∧ s.1.length = 4 + sizeR s.1) from rfl)
 rw [HW.out]
 have hz := sizeR_lt s.1
 clear hb
 generalize ad q = A at *
 generalize sizeR s.1 = z at *
 generalize s.1.length = n at *
 by_cases h4 : 4 ≤ n
 · have h4i : (4 : Int) ≤ (n : Int) := by omega
   have HD := Lib.hid (show decide (4 ≤ n ∧ n = 4 + z) = ((n : Int) == 4 + (z : Int)) from by rw [Bool.eq_iff_iff]; simp; omega)
   rw [HD.out]
   go_enter Tryz.func46, Tryz.ntmps46
   go_wp2_with fail
   go_quiet (first | (go_at_call 47; exact HSz.out _))
   go_wp2_with fail
   go_ret
   exact ⟨rfl, _, rfl⟩
 · have h4i : (n : Int) < 4 := by omega
   have h4d : decide ((4 : Int) ≤ (n : Int)) = false := decide_eq_false (by omega)
   have HD := Lib.hid (show decide (4 ≤ n ∧ n = 4 + z) = false from decide_eq_false (by omega))
   rw [HD.out]
   go_enter Tryz.func46, Tryz.ntmps46
   go_wp2_with fail
   go_quiet (fail)
   go_wp2_with fail
   go_ret
   exact ⟨rfl, _, rfl⟩
end
end Go.Proofs.YthfknndjdfofgaaGreatDoor.Sh

/-
 Contract of the document's own message's Take (hagioscoperef08) over this seat's translation.
-/
namespace Go.Proofs.YthfknndjdfofgaaGreatDoor.Sh
open Go.RowKit Go.Proofs.YthfknndjdfofgaaGreatDoor.Wd

theorem setr_0 (a b x : Value) : (#[a, b] : Array Value).setIfInBounds 0 x = #[x, b] := by simp
theorem setr_1 (a b x : Value) : (#[a, b] : Array Value).setIfInBounds 1 x = #[a, x] := by simp
theorem blr_0 {w : World} {g t : Nat} {a b x : Value} (h : Blk w g t #[a, b]) : Blk (w.setCell ⟨g, 0, none⟩ x) g t #[x, b] := by have := h.set_ 0 x; rwa [setr_0] at this
theorem blr_1 {w : World} {g t : Nat} {a b x : Value} (h : Blk w g t #[a, b]) : Blk (w.setCell ⟨g, 1, none⟩ x) g t #[a, x] := by have := h.set_ 1 x; rwa [setr_1] at this
def RTakePost (w : World) (y : Nat) (q : Option Nat) (s : List UInt8 × Nat) (e : Ending) (w' : World) : Prop :=
 e = .returned (.tuple #[.bool (wholeS s), .int .i64 (s.2 : Int)]) ∧ ∃ q', Rb w' y q' s ∧ (∀ b, q' = some b → q = some b ∨ w.heap.size ≤ b) ∧ But (y :: q.toList) w w'
section
variable {w : World} {y : Nat} {q : Option Nat}
set_option maxHeartbeats 1000000
theorem rtake_bad {s : List UInt8 × Nat} (hr : Rb w y q s) (he : s.2 ≠ 0) (c : UInt8) :
   Calls Tryz.prog 23 #[.pointer (some ⟨y, 0, none⟩), .int .u8 (c.toNat : Int)] w (RTakePost w y q (stepR s c)) := by
 have HR := Lib.hid hr
 rw [show stepR s c = s from by unfold stepR; rw [if_pos he]]
 have HW := Lib.hid (show wholeS s = false from by unfold wholeS; rw [decide_eq_false he]; rfl)
 unfold RTakePost
 rw [HW.out]
 obtain ⟨cp, hb, -⟩ := hr
 have hc1 : w.cell? ⟨y, 1, none⟩ = some (.int .i64 (s.2 : Int)) := by rw [hb.cell]; rfl
 have hei : (s.2 : Int) ≠ 0 := by omega
 clear hb he
 go_enter Tryz.func23, Tryz.ntmps23
 go_wp2_with fail
 go_quiet (fail)
 go_wp2_with fail
 go_ret2
 exact ⟨rfl, q, HR.out.same ((But.refl [] w).drewN _), fun b hb => .inl hb, (But.refl _ w).drewN _⟩
theorem rtake_done {bs : List UInt8} (hr : Rb w y q (bs, 0)) (hw : wholeR bs = true) (hl : bs.length ≤ 20000) (c : UInt8) :
   Calls Tryz.prog 23 #[.pointer (some ⟨y, 0, none⟩), .int .u8 (c.toNat : Int)] w (RTakePost w y q (stepR (bs, 0) c)) := by
 have HR := Lib.hid hr
 rw [show stepR (bs, 0) c = (bs, 0) from by unfold stepR; rw [if_neg (by simp), if_pos hw]]
 have HW := Lib.hid (show wholeS (bs, 0) = true from by unfold wholeS; rw [hw]; rfl)
 have HWw := Lib.hid (rwhole_any hr (by simp only; omega))
 simp only [hw] at HWw
 unfold RTakePost
 rw [HW.out]
 obtain ⟨cp, hb, -⟩ := hr
 have hc1 : w.cell? ⟨y, 1, none⟩ = some (.int .i64 0) := by rw [hb.cell]; rfl
 clear hb
 go_enter Tryz.func23, Tryz.ntmps23
 go_wp2_with fail
 refine HWw.out.mono ?_
 rintro e w1 ⟨rfl, j, rfl⟩
 go_wp2_with fail
 go_ret2
 exact ⟨rfl, q, HR.out.same ((But.refl [] w).drewN _), fun b hb => .inl hb, (But.refl _ w).drewN _⟩
end

theorem wpList_app_1 {P : Program} {w : World} {ops : Array Oper} {rest : List Oper} {o : Oper} {a : Act} {Q : Exit → Act → World → Prop} (dst : Option Tmp) (hdst : o.dst = dst) (hgd : o.guard = none) (s x : Operand) (t : TypeId)
   (ho : o.op = .call { callee := .builtin .append, args := #[s, x], argTypes := #[t, t] }) (ht : P.underlying t = some (.slice 5)) (hinfo : (P.info? 5).map (fun i => (i.zero, i.size, i.bytes)) = some (some (.int .u8 0), 1, 1))
   (p : Option Nat) (n c : Nat) (xs : List UInt8) (hs : a.eval s = .slice (ad p) n c) (hn : n = xs.length) (hat : At w p c xs) (A2 : Option Addr) (c2 : Nat) (b : UInt8) (hx : a.eval x = .slice A2 1 c2) (hsrc : Src w A2 1 [b])
   (hlen : n + 1 ≤ 140737488355328)
   (h : ∀ p' c' w', Hid (At w' (some p') c' (xs ++ [b])) → Hid (p = some p' ∨ p' = w.heap.size) → Hid (But p.toList w w') → wpList P ops Q rest (a.put dst (.slice (some ⟨p', 0, none⟩) (n + 1) c')) w') : wpList P ops Q (o :: rest) a w := by
 refine wpList_app_b dst hdst hgd s x t ho ht hinfo p n c xs hs hn hat A2 1 c2 [b] hx hsrc hlen ?_
 intro p' c' w' h1 h2 h3
 cases p' with
 | none =>
   obtain ⟨ad', e, _⟩ := h1.out.src.2.2 (by simp)
   cases e
 | some p' =>
   refine h p' c' w' h1 (Lib.hid ?_) h3
   rcases h2.out with e | e
   · exact .inl e.symm
   · injection e with e; exact .inr e
section
variable {w : World} {y : Nat} {q : Option Nat}
set_option maxHeartbeats 2000000
theorem rtake_add {bs : List UInt8} (hr : Rb w y q (bs, 0)) (hw : wholeR bs = false) (hl : bs.length ≤ 20000) (c : UInt8) :
   Calls Tryz.prog 23 #[.pointer (some ⟨y, 0, none⟩), .int .u8 (c.toNat : Int)] w (RTakePost w y q (stepR (bs, 0) c)) := by
 have HWw := Lib.hid (rwhole_any hr (by simp only; omega))
 simp only [hw] at HWw
 have hpg := hr.ne
 rw [show stepR (bs, 0) c = (bs ++ [c], errR (bs ++ [c])) from by unfold stepR; rw [if_neg (by simp), if_neg (by simp [hw])]]
 obtain ⟨cp, hb, ha⟩ := hr
 simp only at hb ha
 unfold RTakePost
 obtain ⟨x0, hx0⟩ : ∃ x0, (bs ++ [c])[0]? = some x0 := ⟨_, List.getElem?_eq_getElem (by simp)⟩
 have HX0 := Lib.hid hx0
 have hxd : (bs ++ [c]).getD 0 0 = x0 := by rw [List.getD_eq_getElem?_getD, hx0]; rfl
 have HErr := Lib.hid (show errR (bs ++ [c]) = if x0 ≠ 1 then 4 else if 16384 < sizeR (bs ++ [c]) then 6 else 0 from by unfold errR; rw [hxd])
 have HLn := Lib.hid (show (bs ++ [c]).length = bs.length + 1 from by rw [List.length_append]; rfl)
 have HWS := Lib.hid (show ∀ e : Nat, wholeS (bs ++ [c], e) = (decide (e = 0) && wholeR (bs ++ [c])) from fun _ => rfl)
 have hc1 : w.cell? ⟨y, 1, none⟩ = some (.int .i64 0) := by rw [hb.cell]; rfl
 have HB := Lib.hid hb
 have HA := Lib.hid ha
 have Hpg := Lib.hid hpg
 clear hb ha hpg hw hx0 hxd
 generalize hbs : bs ++ [c] = bs' at *
 have HBS := Lib.hid hbs
 clear hbs
 obtain ⟨n, hn⟩ : ∃ n, n = bs.length := ⟨_, rfl⟩
 have HN := Lib.hid hn
 rw [← hn] at HB HLn hl
 clear hn
 have hz := sizeR_lt bs'
 have hcase : (x0 ≠ 1) ∨ (x0 = 1 ∧ 16384 < sizeR bs') ∨ (x0 = 1 ∧ sizeR bs' ≤ 16384) := by
   by_cases h1 : x0 = 1
   · right
     by_cases h2 : 16384 < sizeR bs'
     · exact .inl ⟨h1, h2⟩
     · exact .inr ⟨h1, by omega⟩
   · exact .inl h1
 go_enter Tryz.func23, Tryz.ntmps23
 go_wp2_with fail
 refine HWw.out.mono ?_
 rintro e w0 ⟨rfl, j, rfl⟩
 have HB1 := Lib.hid (show Blk (w.drewN j) y _ _ from HB.out)
 have HA1 := Lib.hid (HA.out.but ((But.refl [] w).drewN j) (by simp))
 have HL1 := Lib.hid (show But (y :: q.toList) w (w.drewN j) from (But.refl _ w).drewN j)
 have hlt1 : y < (w.drewN j).heap.size := HB.out.lt
 have hq0 : (w.drewN j).cell? ⟨y, 0, none⟩ = some (.slice (ad q) n cp) := by rw [HB1.out.cell]; rfl
 have HZ0 := Lib.hid (show (w.drewN j).heap.size = w.heap.size from rfl)
 clear HB HA hc1 HWw
 generalize w.drewN j = w1 at *
 have Hsrc := Lib.hid (Src.marked w1 #[.int .u8 (c.toNat : Int)] 5 (0, 0) [c] rfl)
 have HA2 := Lib.hid (HA1.out.but ((But.refl [] w1).alloc (.cells #[.int .u8 (c.toNat : Int)] 5)) (by simp))
 have HB2 := Lib.hid (HB1.out.alloc (.cells #[.int .u8 (c.toNat : Int)] 5))
 have HL2 := Lib.hid (HL1.out.alloc (.cells #[.int .u8 (c.toNat : Int)] 5))
 have hgp : y ∉ q.toList := by
   intro hx
   rw [Option.mem_toList] at hx
   exact Hpg.out hx
 have HZ2 := Lib.hid (show w.heap.size ≤ (w1.alloc (.cells #[.int .u8 (c.toNat : Int)] 5)).heap.size from by simp [← HZ0.out])
 clear HA1 HB1 HL1 HZ0
 rcases hcase with h1 | ⟨h1, h2⟩ | ⟨h1, h2⟩
 · have HE := Lib.hid (show errR bs' = 4 from by rw [HErr.out, if_pos h1])
   have HW := Lib.hid (show wholeS (bs', 4) = false from HWS.out 4)
   have hxi : (x0.toNat : Int) ≠ 1 := by
     intro hx
     apply h1
     apply UInt8.toNat_inj.1
     show x0.toNat = 1
     omega
   clear HErr h1 HWS
   go_wp2_with (at_builtin; refine wpList_app_1 (some 24) rfl rfl (.tmp 21) (.tmp 23) 22 rfl und8 inf8 q n cp bs rfl HN.out HA2.out _ 1 c rfl Hsrc.out (by omega) ?_; intro p2 c2 w2 HA3 HP3 HU3; rw [HBS.out] at HA3; have hx := HB2.out.but HU3.out hgp; have q2 : w2.cell? ⟨y, 0, none⟩ = some (.slice (ad q) n cp) := hx.cell 0; have hfr2 := hx.frozen 0; have h3 := blr_0 (x := .slice (some ⟨p2, 0, none⟩) (n + 1) c2) hx; have q3 : (w2.setCell ⟨y, 0, none⟩ (.slice (some ⟨p2, 0, none⟩) (n + 1) c2)).cell? ⟨y, 1, none⟩ = some (.int .i64 0) := h3.cell 1; have hfr3 := h3.frozen 1; have HPy := Lib.hid (show p2 ≠ y from fun e => HA3.out.ne hx (by decide) (by rw [e])); have HL3 := Lib.hid ((HL2.out.trans (HU3.out.more (fun i hi => List.mem_cons_of_mem _ hi))).trans ((but_set (But.refl [y] w2) 0 (.slice (some ⟨p2, 0, none⟩) (n + 1) c2)).more (T := y :: q.toList) (by simp))); have HA4 := Lib.hid (HA3.out.but (but_set (But.refl [y] w2) 0 (.slice (some ⟨p2, 0, none⟩) (n + 1) c2)) (fun b hb hm => by injection hb with hb; simp at hm; exact HPy.out (hb.trans hm))); have qx : (w2.setCell ⟨y, 0, none⟩ (.slice (some ⟨p2, 0, none⟩) (n + 1) c2)).cell? ⟨p2, 0, none⟩ = some (.int .u8 (x0.toNat : Int)) := (by obtain ⟨ax, ea, _, hcx⟩ := HA4.out.src.2.2 (by rw [HLn.out]; omega); injection ea with ea; subst ea; exact hcx 0 x0 HX0.out); have H3 := Lib.hid h3; clear hx h3 HA3 HU3)
   have hB4 := show Blk ((w2.setCell ⟨y, 0, none⟩ (.slice (some ⟨p2, 0, none⟩) (n + 1) c2)).setCell ⟨y, 1, none⟩ (.int .i64 4)) y _ _ from blr_1 (x := .int .i64 4) H3.out
   have hbt := show But [y] (w2.setCell ⟨y, 0, none⟩ (.slice (some ⟨p2, 0, none⟩) (n + 1) c2)) ((w2.setCell ⟨y, 0, none⟩ (.slice (some ⟨p2, 0, none⟩) (n + 1) c2)).setCell ⟨y, 1, none⟩ (.int .i64 4)) from but_set (But.refl [y] _) 1 (.int .i64 4)
   have HR := Lib.hid (show Rb ((w2.setCell ⟨y, 0, none⟩ (.slice (some ⟨p2, 0, none⟩) (n + 1) c2)).setCell ⟨y, 1, none⟩ (.int .i64 4)) y (some p2) (bs', 4) from ⟨c2, by rw [HLn.out]; exact hB4, HA4.out.but hbt (fun b hb hm => by injection hb with hb; simp at hm; exact HPy.out (hb.trans hm))⟩)
   have HL4 := Lib.hid (HL3.out.trans (hbt.more (T := y :: q.toList) (by simp)))
   have q5 : ((w2.setCell ⟨y, 0, none⟩ (.slice (some ⟨p2, 0, none⟩) (n + 1) c2)).setCell ⟨y, 1, none⟩ (.int .i64 4)).cell? ⟨y, 1, none⟩ = some (.int .i64 4) := hB4.cell 1
   clear hB4 hbt H3 HA4 HL3 q3 hfr3
   generalize (w2.setCell ⟨y, 0, none⟩ (.slice (some ⟨p2, 0, none⟩) (n + 1) c2)).setCell ⟨y, 1, none⟩ (.int .i64 4) = w5 at *
   go_quiet (fail)
   go_wp2_with fail
   go_ret2
   refine ⟨by rw [HE.out, HW.out]; rfl, some p2, ?_, ?_, HL4.out.drewN _⟩
   · rw [HE.out]
     exact HR.out.same ((But.refl [] w5).drewN _)
   · intro b hb
     injection hb with hb
     rcases HP3.out with e | e
     · exact .inl (by rw [e, hb])
     · exact .inr (by rw [← hb, e]; exact HZ2.out)
 · have HE := Lib.hid (show errR bs' = 6 from by rw [HErr.out, if_neg (by simp [h1]), if_pos h2])
   have HW := Lib.hid (show wholeS (bs', 6) = false from HWS.out 6)
   have hxi : (x0.toNat : Int) = 1 := by rw [h1]; rfl
   have hzi : (16384 : Int) < (sizeR bs' : Int) := by omega
   clear HErr h1 HWS
   go_wp2_with (at_builtin; refine wpList_app_1 (some 24) rfl rfl (.tmp 21) (.tmp 23) 22 rfl und8 inf8 q n cp bs rfl HN.out HA2.out _ 1 c rfl Hsrc.out (by omega) ?_; intro p2 c2 w2 HA3 HP3 HU3; rw [HBS.out] at HA3; have hx := HB2.out.but HU3.out hgp; have q2 : w2.cell? ⟨y, 0, none⟩ = some (.slice (ad q) n cp) := hx.cell 0; have hfr2 := hx.frozen 0; have h3 := blr_0 (x := .slice (some ⟨p2, 0, none⟩) (n + 1) c2) hx; have q3 : (w2.setCell ⟨y, 0, none⟩ (.slice (some ⟨p2, 0, none⟩) (n + 1) c2)).cell? ⟨y, 1, none⟩ = some (.int .i64 0) := h3.cell 1; have hfr3 := h3.frozen 1; have HPy := Lib.hid (show p2 ≠ y from fun e => HA3.out.ne hx (by decide) (by rw [e])); have HL3 := Lib.hid ((HL2.out.trans (HU3.out.more (fun i hi => List.mem_cons_of_mem _ hi))).trans ((but_set (But.refl [y] w2) 0 (.slice (some ⟨p2, 0, none⟩) (n + 1) c2)).more (T := y :: q.toList) (by simp))); have HA4 := Lib.hid (HA3.out.but (but_set (But.refl [y] w2) 0 (.slice (some ⟨p2, 0, none⟩) (n + 1) c2)) (fun b hb hm => by injection hb with hb; simp at hm; exact HPy.out (hb.trans hm))); have qx : (w2.setCell ⟨y, 0, none⟩ (.slice (some ⟨p2, 0, none⟩) (n + 1) c2)).cell? ⟨p2, 0, none⟩ = some (.int .u8 (x0.toNat : Int)) := (by obtain ⟨ax, ea, _, hcx⟩ := HA4.out.src.2.2 (by rw [HLn.out]; omega); injection ea with ea; subst ea; exact hcx 0 x0 HX0.out); have H3 := Lib.hid h3; clear hx h3 HA3 HU3)
   have HSz := Lib.hid (rsize_any (s := (bs', 0)) (show Rb (w2.setCell ⟨y, 0, none⟩ (.slice (some ⟨p2, 0, none⟩) (n + 1) c2)) y (some p2) (bs', 0) from ⟨c2, by rw [HLn.out]; exact H3.out, HA4.out⟩))
   have HWq := Lib.hid (rwhole_any (s := (bs', 0)) (show Rb (w2.setCell ⟨y, 0, none⟩ (.slice (some ⟨p2, 0, none⟩) (n + 1) c2)) y (some p2) (bs', 0) from ⟨c2, by rw [HLn.out]; exact H3.out, HA4.out⟩) (by rw [HLn.out]; omega))
   generalize hw3 : (w2.setCell ⟨y, 0, none⟩ (.slice (some ⟨p2, 0, none⟩) (n + 1) c2)) = w3 at *
   clear hw3
   refine HSz.out.mono ?_
   rintro e w4 ⟨rfl, rfl⟩
   generalize sizeR bs' = z at *
   go_wp2_with fail
   have hB4 := show Blk (w3.setCell ⟨y, 1, none⟩ (.int .i64 6)) y _ _ from blr_1 (x := .int .i64 6) H3.out
   have hbt := show But [y] w3 (w3.setCell ⟨y, 1, none⟩ (.int .i64 6)) from but_set (But.refl [y] _) 1 (.int .i64 6)
   have HR := Lib.hid (show Rb (w3.setCell ⟨y, 1, none⟩ (.int .i64 6)) y (some p2) (bs', 6) from ⟨c2, by rw [HLn.out]; exact hB4, HA4.out.but hbt (fun b hb hm => by injection hb with hb; simp at hm; exact HPy.out (hb.trans hm))⟩)
   have HL4 := Lib.hid (HL3.out.trans (hbt.more (T := y :: q.toList) (by simp)))
   have q5 : (w3.setCell ⟨y, 1, none⟩ (.int .i64 6)).cell? ⟨y, 1, none⟩ = some (.int .i64 6) := hB4.cell 1
   clear hB4 hbt H3 HA4 HL3 q3 hfr3
   generalize w3.setCell ⟨y, 1, none⟩ (.int .i64 6) = w5 at *
   go_quiet (fail)
   go_wp2_with fail
   go_ret2
   refine ⟨by rw [HE.out, HW.out]; rfl, some p2, ?_, ?_, HL4.out.drewN _⟩
   · rw [HE.out]
     exact HR.out.same ((But.refl [] w5).drewN _)
   · intro b hb
     injection hb with hb
     rcases HP3.out with e | e
     · exact .inl (by rw [e, hb])
     · exact .inr (by rw [← hb, e]; exact HZ2.out)
 · have HE := Lib.hid (show errR bs' = 0 from by rw [HErr.out, if_neg (by simp [h1]), if_neg (by omega)])
   have HW := Lib.hid (show wholeS (bs', 0) = wholeR bs' from HWS.out 0)
   have hxi : (x0.toNat : Int) = 1 := by rw [h1]; rfl
   have hzi : (sizeR bs' : Int) ≤ 16384 := by omega
   clear HErr h1 HWS
   go_wp2_with (at_builtin; refine wpList_app_1 (some 24) rfl rfl (.tmp 21) (.tmp 23) 22 rfl und8 inf8 q n cp bs rfl HN.out HA2.out _ 1 c rfl Hsrc.out (by omega) ?_; intro p2 c2 w2 HA3 HP3 HU3; rw [HBS.out] at HA3; have hx := HB2.out.but HU3.out hgp; have q2 : w2.cell? ⟨y, 0, none⟩ = some (.slice (ad q) n cp) := hx.cell 0; have hfr2 := hx.frozen 0; have h3 := blr_0 (x := .slice (some ⟨p2, 0, none⟩) (n + 1) c2) hx; have q3 : (w2.setCell ⟨y, 0, none⟩ (.slice (some ⟨p2, 0, none⟩) (n + 1) c2)).cell? ⟨y, 1, none⟩ = some (.int .i64 0) := h3.cell 1; have hfr3 := h3.frozen 1; have HPy := Lib.hid (show p2 ≠ y from fun e => HA3.out.ne hx (by decide) (by rw [e])); have HL3 := Lib.hid ((HL2.out.trans (HU3.out.more (fun i hi => List.mem_cons_of_mem _ hi))).trans ((but_set (But.refl [y] w2) 0 (.slice (some ⟨p2, 0, none⟩) (n + 1) c2)).more (T := y :: q.toList) (by simp))); have HA4 := Lib.hid (HA3.out.but (but_set (But.refl [y] w2) 0 (.slice (some ⟨p2, 0, none⟩) (n + 1) c2)) (fun b hb hm => by injection hb with hb; simp at hm; exact HPy.out (hb.trans hm))); have qx : (w2.setCell ⟨y, 0, none⟩ (.slice (some ⟨p2, 0, none⟩) (n + 1) c2)).cell? ⟨p2, 0, none⟩ = some (.int .u8 (x0.toNat : Int)) := (by obtain ⟨ax, ea, _, hcx⟩ := HA4.out.src.2.2 (by rw [HLn.out]; omega); injection ea with ea; subst ea; exact hcx 0 x0 HX0.out); have H3 := Lib.hid h3; clear hx h3 HA3 HU3)
   have HSz := Lib.hid (rsize_any (s := (bs', 0)) (show Rb (w2.setCell ⟨y, 0, none⟩ (.slice (some ⟨p2, 0, none⟩) (n + 1) c2)) y (some p2) (bs', 0) from ⟨c2, by rw [HLn.out]; exact H3.out, HA4.out⟩))
   have HWq := Lib.hid (rwhole_any (s := (bs', 0)) (show Rb (w2.setCell ⟨y, 0, none⟩ (.slice (some ⟨p2, 0, none⟩) (n + 1) c2)) y (some p2) (bs', 0) from ⟨c2, by rw [HLn.out]; exact H3.out, HA4.out⟩) (by rw [HLn.out]; omega))
   generalize hw3 : (w2.setCell ⟨y, 0, none⟩ (.slice (some ⟨p2, 0, none⟩) (n + 1) c2)) = w3 at *
   clear hw3
   refine HSz.out.mono ?_
   rintro e w4 ⟨rfl, rfl⟩
   generalize sizeR bs' = z at *
   go_wp2_with fail
   refine HWq.out.mono ?_
   rintro e w5 ⟨rfl, jj, rfl⟩
   go_wp2_with fail
   go_ret2
   refine ⟨by rw [HE.out, HW.out]; rfl, some p2, ?_, ?_, HL3.out.drewN _⟩
   · rw [HE.out]
     exact Rb.same (w := w3) ⟨c2, by rw [HLn.out]; exact H3.out, HA4.out⟩ ((But.refl [] w3).drewN _)
   · intro b hb
     injection hb with hb
     rcases HP3.out with e | e
     · exact .inl (by rw [e, hb])
     · exact .inr (by rw [← hb, e]; exact HZ2.out)
theorem rtake_any {s : List UInt8 × Nat} (hr : Rb w y q s) (hl : s.2 = 0 → s.1.length ≤ 20000) (c : UInt8) :
   Calls Tryz.prog 23 #[.pointer (some ⟨y, 0, none⟩), .int .u8 (c.toNat : Int)] w (RTakePost w y q (stepR s c)) := by
 by_cases he : s.2 = 0
 · obtain ⟨bs, e⟩ := s
   simp only at he
   subst he
   by_cases hw : wholeR bs = true
   · exact rtake_done hr hw (hl rfl) c
   · exact rtake_add hr (by simpa using hw) (hl rfl) c
 · exact rtake_bad hr he c
end
end Go.Proofs.YthfknndjdfofgaaGreatDoor.Sh

/-
 Contracts of package hello's readNumbers and readExts over this seat's translation.
-/
namespace Go.Proofs.YthfknndjdfofgaaGreatDoor.He
open Go.RowKit Go.Proofs.YthfknndjdfofgaaGreatDoor.Wd Go.Proofs.YthfknndjdfofgaaGreatDoor.Be

theorem numsF_step {f : Nat} {st : Option (List UInt8)} (h : 0 < leftS st) : numsF (f + 1) st = (((numS st 2).1 : Int) :: (numsF f (numS st 2).2).1, (numsF f (numS st 2).2).2) := by rw [numsF, if_neg (by omega)]
theorem numsF_end {f : Nat} {st : Option (List UInt8)} (h : leftS st = 0) : numsF f st = ([], doneS st) := by
 cases f with
 | zero => rfl
 | succ f => rw [numsF, if_pos h]
theorem extsF_step {f : Nat} {st : Option (List UInt8)} (h : 0 < leftS st) : extsF (f + 1) st = ((((numS st 2).1 : Int), (vecS (numS st 2).2 2).1) :: (extsF f (vecS (numS st 2).2 2).2).1, (extsF f (vecS (numS st 2).2 2).2).2) := by rw [extsF, if_neg (by omega)]
theorem extsF_end {f : Nat} {st : Option (List UInt8)} (h : leftS st = 0) : extsF f st = ([], doneS st) := by
 cases f with
 | zero => rfl
 | succ f => rw [extsF, if_pos h]

structure NumAt (w : World) (B r : Nat) (xs : List UInt8) (v : Value) (st : Option (List UInt8)) (wr : World) : Prop where
 rd : Rd wr r st
 all : ∃ l f, OwnI wr B v l ∧ leftS st < f ∧ numsS xs = (l ++ (numsF f st).1, (numsF f st).2) ∧ l.length + leftS st ≤ 65535
 bel : Below w.heap.size w wr

set_option maxRecDepth 100000 in
set_option maxHeartbeats 1000000 in
theorem rnums_any (A : Option Addr) (n c : Nat) (xs : List UInt8) (w : World) (hs : Src w A n xs) (hn : n ≤ 65535) :
   Calls Tryz.prog 163 #[.slice A n c] w fun e w' => ∃ v, e = .returned (.tuple #[v, .bool (numsS xs).2]) ∧ OwnI w' w.heap.size v (numsS xs).1 ∧ (numsS xs).1.length ≤ 65535 ∧ Below w.heap.size w w' := by
 go_enter Tryz.func163, Tryz.ntmps163
 go_wp2_with fail
 refine (read_any A n c xs w hs (by omega)).mono ?_
 rintro e w1 ⟨r, rfl, hr, hrd, hb⟩
 have H0 : Hid (NumAt w w.heap.size r xs (.slice none 0 0) (some xs) w1) := ⟨hrd, ⟨[], xs.length + 1, OwnI.nil _ _, by show xs.length < _; omega, rfl, by show 0 + xs.length ≤ _; rw [hs.1]; omega⟩, hb⟩
 clear hrd hb hs
 go_wp2_with fail
 go_loopw [4] (fun v wr => ∃ st, Hid (NumAt w w.heap.size r xs v st wr)) (fun _ wr => lenAt wr r)
 case atStart => exact ⟨_, H0⟩
 case round =>
   clear H0
   obtain ⟨st, HN⟩ := hrel
   go_wp2_with fail
   refine (left_any r st wr HN.out.rd).mono ?_
   rintro e w2 ⟨rfl, rfl⟩
   by_cases h0 : 0 < leftS st
   · have h0' : (0 : Int) < (leftS st : Int) := by omega
     have HL := Lib.hid h0
     have hk := Lib.hid (Rd.lenAt HN.out.rd)
     generalize hq : leftS st = q at *
     have HQ := Lib.hid hq
     clear hq
     go_wp2_with fail
     refine (num_any r 2 st wr HN.out.rd (left_bd (by have := HQ.out; obtain ⟨l, f, _, _, _, h⟩ := HN.out.all; omega))).mono ?_
     rintro e w2 ⟨rfl, hrd2, hg2⟩
     have HRd2 := Lib.hid hrd2
     have HG2 := Lib.hid hg2
     have HK2 := Lib.hid (show leftS (numS st 2).2 < q from by have := num_less st (by rw [HQ.out]; exact HL.out); rw [HQ.out] at this; exact this)
     obtain ⟨l, f, hOw, hf, hall, hlen⟩ := HN.out.all
     obtain ⟨cs, hblk⟩ := HN.out.rd.blk
     have HOw := Lib.hid (OwnI.off hOw hg2 (OffT.of_blk hblk (by decide)))
     obtain ⟨f', rfl⟩ : ∃ f', f = f' + 1 := ⟨f - 1, by omega⟩
     have HA : Hid (numsS xs = ((l ++ [((numS st 2).1 : Int)]) ++ (numsF f' (numS st 2).2).1, (numsF f' (numS st 2).2).2)) := by
       rw [hall, numsF_step (by rw [HQ.out]; exact HL.out), List.append_assoc]; rfl
     have hlen' : l.length ≤ 65535 := by omega
     have HF := Lib.hid (show leftS (numS st 2).2 < f' by have := HK2.out; have := HQ.out; omega)
     have HLn := Lib.hid (show (l ++ [((numS st 2).1 : Int)]).length + leftS (numS st 2).2 ≤ 65535 by rw [List.length_append]; have := HK2.out; have := HQ.out; simp only [List.length_cons, List.length_nil]; omega)
     have HB2 := Lib.hid (HN.out.bel.grown hg2 HN.out.bel.size (fun j hj => by injection hj with hj; omega))
     clear hrd2 hg2 hOw hf hall hlen hblk h0 h0'
     have hsz := HB2.out.size
     clear HN HQ
     generalize numS st 2 = p at *
     have HOa := Lib.hid (show OwnI (w2.alloc (.cells #[Value.int .i64 (p.1 : Int)] 3)) w.heap.size _ l from World.ownsRow.alloc HOw.out _)
     have HGe := Lib.hid (OwnI.ge HOa.out)
     have HOff := Lib.hid (HOa.out.block (T := TB) (by unfold TB; decide))
     have HBa := Lib.hid (HB2.out.alloc hsz (.cells #[Value.int .i64 (p.1 : Int)] 3))
     have HRa := Lib.hid (HRd2.out.below (Below.refl w2.heap.size w2 |>.alloc (Nat.le_refl _) (.cells #[Value.int .i64 (p.1 : Int)] 3)) (Nat.le_refl _))
     go_wp2_with (at_builtin; refine wpList_appI rfl _ _ rfl w.heap.size _ l rfl (by exact HOa.out) _ 1 (p.1 : Int) rfl (by simp) (by omega) (by simp; omega) ?_; intro v3 w3 ho3 hg3)
     have HB3 := Lib.hid (HBa.out.grown hg3.out (by simp; omega) (fun j hj => HGe.out j hj))
     have HRd3 := Lib.hid (Rd.off (T := TB) HRa.out hg3.out HOff.out (.inl rfl) (.inr rfl))
     clear hg3
     go_roundw
     case rel => exact ⟨p.2, Lib.hid ⟨HRd3.out, ⟨_, f', ho3.out, HF.out, HA.out, HLn.out⟩, HB3.out⟩⟩
     case measure => rw [Rd.lenAt HRd3.out, hk.out]; exact HK2.out
   · have hz : leftS st = 0 := by omega
     have HZ := Lib.hid hz
     have h0' : ¬ (0 : Int) < (leftS st : Int) := by omega
     generalize hq : leftS st = q at *
     go_wp2_with fail
     refine (done_any r st wr HN.out.rd).mono ?_
     rintro e w2 ⟨rfl, rfl⟩
     obtain ⟨l, f, hOw, hf, hall, hlen⟩ := HN.out.all
     have HE := Lib.hid (show numsS xs = (l, doneS st) by rw [hall, numsF_end (hq.trans HZ.out), List.append_nil])
     have HOw := Lib.hid hOw
     have HLn := Lib.hid hlen
     clear hOw hall hlen hf
     go_wp2_with fail
     go_ret2
     rw [HE.out]
     exact ⟨_, rfl, HOw.out, by show l.length ≤ _; have := HLn.out; omega, HN.out.bel⟩
end Go.Proofs.YthfknndjdfofgaaGreatDoor.He
