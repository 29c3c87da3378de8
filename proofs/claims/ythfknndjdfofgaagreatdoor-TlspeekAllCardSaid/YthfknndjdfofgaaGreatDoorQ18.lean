/-
 Contracts of package shake's begin and Take over this seat's translation: one byte is one step.
-/
import Derived.Test.YthfknndjdfofgaaGreatDoorQ17
import Derived.Test.YthfknndjdfofgaaGreatDoorQ01
namespace Go.Proofs.YthfknndjdfofgaaGreatDoor.Sh
open Go.RowKit Go.Proofs.YthfknndjdfofgaaGreatDoor.Wd

theorem zero_or (b : Nat) (hb : b < 9223372036854775808) : bits .or .i64 (0 : Int) (b : Int) = (b : Int) := by
 have h := Rc.i64_or_nat 0 b (by omega) hb
 rw [Nat.zero_or] at h
 exact h

theorem shl_16 (b : Nat) (hb : b < 256) : Op.shift .shl .i64 (b : Int) .i64 16 = pure (.int .i64 ((b * 65536 : Nat) : Int)) := by
 have h2 : (2 : Int) ^ min (16 : Int).toNat IntKind.i64.bits = 65536 := by decide
 rw [shift_shl_any _ _ _ _ (by decide), h2, IntWalk.i64_in _ (by omega)]
 congr 2
theorem shl_8 (b : Nat) (hb : b < 256) : Op.shift .shl .i64 (b : Int) .i64 8 = pure (.int .i64 ((b * 256 : Nat) : Int)) := by
 have h2 : (2 : Int) ^ min (8 : Int).toNat IntKind.i64.bits = 256 := by decide
 rw [shift_shl_any _ _ _ _ (by decide), h2, IntWalk.i64_in _ (by omega)]
 congr 2
theorem shl_0 (b : Nat) (hb : b < 256) : Op.shift .shl .i64 (b : Int) .i64 0 = pure (.int .i64 (b : Int)) := by
 have h2 : (2 : Int) ^ min (0 : Int).toNat IntKind.i64.bits = 1 := by decide
 rw [shift_shl_any _ _ _ _ (by decide), h2, IntWalk.i64_in _ (by omega)]
 congr 2
 omega
def BeginPost (w : World) (g : Nat) (A : Option Addr) (c : Nat) (s : M) (e : Ending) (w' : World) : Prop :=
 e = .returned (.int .i64 (s.e : Int)) ∧ Blk w' g 94 #[.int .i64 (s.h : Int), .int .i64 (s.s : Int), .slice A 0 c, .int .i64 0] ∧ But [g] w w'
set_option maxRecDepth 100000 in
set_option maxHeartbeats 1000000 in
theorem begin_any {w : World} {g h s cp : Nat} {A : Option Addr} (hB : Blk w g 94 #[.int .i64 (h : Int), .int .i64 (s : Int), .slice A 0 cp, .int .i64 0]) (k : OkM ⟨h, s, [], 0⟩) (h3 : h < 4) (c : UInt8) :
   Calls Tryz.prog 121 #[.pointer (some ⟨g, 0, none⟩), .int .u8 (c.toNat : Int)] w (BeginPost w g A cp (stepM ⟨h, s, [], 0⟩ c)) := by
 have HB := Lib.hid hB
 have hc0 : w.cell? ⟨g, 0, none⟩ = some (.int .i64 (h : Int)) := by rw [Blk.cell hB]; rfl
 have hc1 : w.cell? ⟨g, 1, none⟩ = some (.int .i64 (s : Int)) := by rw [Blk.cell hB]; rfl
 have hf0 := Blk.frozen hB 0
 have hf1 := Blk.frozen hB 1
 have hb := c.toNat_lt
 have hwb : IntKind.i64.wrap (c.toNat : Int) = (c.toNat : Int) := IntWalk.i64_in _ (by omega)
 have hw2 : IntKind.i64.wrap 2 = 2 := by decide
 have hw16 : IntKind.i64.wrap 16 = 16 := by decide
 have hw8 : IntKind.i64.wrap 8 = 8 := by decide
 have hw1 : IntKind.i64.wrap 1 = 1 := by decide
 have hw0 : IntKind.i64.wrap 0 = 0 := by decide
 have lo := k.lo rfl
 have mid := k.mid rfl
 have few := k.few rfl
 simp only at lo mid few
 have Hdef := Lib.hid (show stepM ⟨h, s, [], 0⟩ c = _ from by unfold stepM; rw [if_neg (by simp)])
 simp only at Hdef
 generalize stepM ⟨h, s, [], 0⟩ c = t at *
 generalize c.toNat = b at *
 clear hB k
 obtain rfl | rfl | rfl | rfl : h = 0 ∨ h = 1 ∨ h = 2 ∨ h = 3 := by omega
 · by_cases hy : b = 1
   · have HS := Lib.hid (show t = ⟨1, s, [], 0⟩ from by rw [Hdef.out, if_pos rfl, if_pos hy])
     have hbi : (b : Int) = 1 := by omega
     clear Hdef hy lo mid
     go_enter Tryz.func121, Tryz.ntmps121
     go_wp2
     go_ret
     rw [HS.out]
     exact ⟨rfl, blk_0 HB.out, but_set (But.refl _ _) _ _⟩
   · have HS := Lib.hid (show t = ⟨0, s, [], 4⟩ from by rw [Hdef.out, if_pos rfl, if_neg hy])
     have hbi : (b : Int) ≠ 1 := by omega
     clear Hdef hy lo mid
     go_enter Tryz.func121, Tryz.ntmps121
     go_wp2
     go_ret
     rw [HS.out]
     exact ⟨rfl, HB.out, But.refl _ _⟩
 · obtain rfl : s = 0 := lo (by omega)
   have hor := zero_or (b * 65536) (by omega)
   have hsh := shl_16 b (by omega)
   obtain ⟨v, hv⟩ : ∃ v, v = b * 65536 := ⟨_, rfl⟩
   rw [← hv] at hor hsh Hdef
   have hvl : v ≤ 16711680 := by omega
   by_cases hy : v ≤ 16384
   · have HS := Lib.hid (show t = ⟨2, v, [], 0⟩ from by rw [Hdef.out, if_neg (by simp), if_pos rfl, if_pos hy])
     have hbi : (v : Int) ≤ 16384 := by omega
     clear Hdef hy lo mid hv
     go_enter Tryz.func121, Tryz.ntmps121
     go_wp2
     go_region_law (fail)
     all_goals (
       have hk := show Blk (w.setCell ⟨g, 1, none⟩ (.int .i64 (v : Int))).drew g _ _ from blk_1 (x := .int .i64 (v : Int)) HB.out
       have hu := (but_set (But.refl [g] w) 1 (.int .i64 (v : Int))).drew
       have HK := Lib.hid hk
       have HU := Lib.hid hu
       clear hc0 hc1 hf0 hf1 HB hu
       generalize (w.setCell ⟨g, 1, none⟩ (.int .i64 (v : Int))).drew = w2 at *
       have hc0 : w2.cell? ⟨g, 0, none⟩ = some (.int .i64 1) := by rw [hk.cell]; rfl
       have hc1 : w2.cell? ⟨g, 1, none⟩ = some (.int .i64 (v : Int)) := by rw [hk.cell]; rfl
       have hf0 := hk.frozen 0
       clear hk
       go_wp2
       go_ret
       rw [HS.out]
       exact ⟨rfl, blk_0 HK.out, but_set HU.out _ _⟩)
   · have HS := Lib.hid (show t = ⟨1, v, [], 6⟩ from by rw [Hdef.out, if_neg (by simp), if_pos rfl, if_neg hy])
     have hbi : 16384 < (v : Int) := by omega
     clear Hdef hy lo mid hv
     go_enter Tryz.func121, Tryz.ntmps121
     go_wp2
     go_region_law (fail)
     all_goals (
       have hk := show Blk (w.setCell ⟨g, 1, none⟩ (.int .i64 (v : Int))).drew g _ _ from blk_1 (x := .int .i64 (v : Int)) HB.out
       have hu := (but_set (But.refl [g] w) 1 (.int .i64 (v : Int))).drew
       have HK := Lib.hid hk
       have HU := Lib.hid hu
       clear hc0 hc1 hf0 hf1 HB hu
       generalize (w.setCell ⟨g, 1, none⟩ (.int .i64 (v : Int))).drew = w2 at *
       have hc0 : w2.cell? ⟨g, 0, none⟩ = some (.int .i64 1) := by rw [hk.cell]; rfl
       have hc1 : w2.cell? ⟨g, 1, none⟩ = some (.int .i64 (v : Int)) := by rw [hk.cell]; rfl
       clear hk
       go_wp2
       go_ret
       rw [HS.out]
       exact ⟨rfl, HK.out, HU.out⟩)
 · obtain rfl : s = 0 := lo (by omega)
   have hor := zero_or (b * 256) (by omega)
   have hsh := shl_8 b (by omega)
   obtain ⟨v, hv⟩ : ∃ v, v = b * 256 := ⟨_, rfl⟩
   rw [← hv] at hor hsh Hdef
   have hvl : v ≤ 16711680 := by omega
   by_cases hy : v ≤ 16384
   · have HS := Lib.hid (show t = ⟨3, v, [], 0⟩ from by rw [Hdef.out, if_neg (by simp), if_neg (by simp), if_pos rfl, if_pos hy])
     have hbi : (v : Int) ≤ 16384 := by omega
     clear Hdef hy lo mid hv
     go_enter Tryz.func121, Tryz.ntmps121
     go_wp2
     go_region_law (fail)
     all_goals (
       have hk := show Blk (w.setCell ⟨g, 1, none⟩ (.int .i64 (v : Int))).drew g _ _ from blk_1 (x := .int .i64 (v : Int)) HB.out
       have hu := (but_set (But.refl [g] w) 1 (.int .i64 (v : Int))).drew
       have HK := Lib.hid hk
       have HU := Lib.hid hu
       clear hc0 hc1 hf0 hf1 HB hu
       generalize (w.setCell ⟨g, 1, none⟩ (.int .i64 (v : Int))).drew = w2 at *
       have hc0 : w2.cell? ⟨g, 0, none⟩ = some (.int .i64 2) := by rw [hk.cell]; rfl
       have hc1 : w2.cell? ⟨g, 1, none⟩ = some (.int .i64 (v : Int)) := by rw [hk.cell]; rfl
       have hf0 := hk.frozen 0
       clear hk
       go_wp2
       go_ret
       rw [HS.out]
       exact ⟨rfl, blk_0 HK.out, but_set HU.out _ _⟩)
   · have HS := Lib.hid (show t = ⟨2, v, [], 6⟩ from by rw [Hdef.out, if_neg (by simp), if_neg (by simp), if_pos rfl, if_neg hy])
     have hbi : 16384 < (v : Int) := by omega
     clear Hdef hy lo mid hv
     go_enter Tryz.func121, Tryz.ntmps121
     go_wp2
     go_region_law (fail)
     all_goals (
       have hk := show Blk (w.setCell ⟨g, 1, none⟩ (.int .i64 (v : Int))).drew g _ _ from blk_1 (x := .int .i64 (v : Int)) HB.out
       have hu := (but_set (But.refl [g] w) 1 (.int .i64 (v : Int))).drew
       have HK := Lib.hid hk
       have HU := Lib.hid hu
       clear hc0 hc1 hf0 hf1 HB hu
       generalize (w.setCell ⟨g, 1, none⟩ (.int .i64 (v : Int))).drew = w2 at *
       have hc0 : w2.cell? ⟨g, 0, none⟩ = some (.int .i64 2) := by rw [hk.cell]; rfl
       have hc1 : w2.cell? ⟨g, 1, none⟩ = some (.int .i64 (v : Int)) := by rw [hk.cell]; rfl
       clear hk
       go_wp2
       go_ret
       rw [HS.out]
       exact ⟨rfl, HK.out, HU.out⟩)
 · obtain ⟨a, rfl⟩ : ∃ a, s = a * 256 := ⟨s / 256, by have := mid rfl; omega⟩
   have hor := Rc.or_byte a b (by omega) (by omega)
   have hsh := shl_0 b (by omega)
   obtain ⟨v, hv⟩ : ∃ v, v = a * 256 + b := ⟨_, rfl⟩
   rw [← hv] at hor Hdef
   have hvl : v ≤ 16711680 := by omega
   by_cases hy : v ≤ 16384
   · have HS := Lib.hid (show t = ⟨4, v, [], 0⟩ from by rw [Hdef.out, if_neg (by simp), if_neg (by simp), if_neg (by simp), if_pos rfl, if_pos hy])
     have hbi : (v : Int) ≤ 16384 := by omega
     generalize a * 256 = s at *
     clear Hdef hy lo mid hv
     go_enter Tryz.func121, Tryz.ntmps121
     go_wp2
     go_region_law (fail)
     all_goals (
       have hk := show Blk (w.setCell ⟨g, 1, none⟩ (.int .i64 (v : Int))).drew g _ _ from blk_1 (x := .int .i64 (v : Int)) HB.out
       have hu := (but_set (But.refl [g] w) 1 (.int .i64 (v : Int))).drew
       have HK := Lib.hid hk
       have HU := Lib.hid hu
       clear hc0 hc1 hf0 hf1 HB hu
       generalize (w.setCell ⟨g, 1, none⟩ (.int .i64 (v : Int))).drew = w2 at *
       have hc0 : w2.cell? ⟨g, 0, none⟩ = some (.int .i64 3) := by rw [hk.cell]; rfl
       have hc1 : w2.cell? ⟨g, 1, none⟩ = some (.int .i64 (v : Int)) := by rw [hk.cell]; rfl
       have hf0 := hk.frozen 0
       clear hk
       go_wp2
       go_ret
       rw [HS.out]
       exact ⟨rfl, blk_0 HK.out, but_set HU.out _ _⟩)
   · have HS := Lib.hid (show t = ⟨3, v, [], 6⟩ from by rw [Hdef.out, if_neg (by simp), if_neg (by simp), if_neg (by simp), if_pos rfl, if_neg hy])
     have hbi : 16384 < (v : Int) := by omega
     generalize a * 256 = s at *
     clear Hdef hy lo mid hv
     go_enter Tryz.func121, Tryz.ntmps121
     go_wp2
     go_region_law (fail)
     all_goals (
       have hk := show Blk (w.setCell ⟨g, 1, none⟩ (.int .i64 (v : Int))).drew g _ _ from blk_1 (x := .int .i64 (v : Int)) HB.out
       have hu := (but_set (But.refl [g] w) 1 (.int .i64 (v : Int))).drew
       have HK := Lib.hid hk
       have HU := Lib.hid hu
       clear hc0 hc1 hf0 hf1 HB hu
       generalize (w.setCell ⟨g, 1, none⟩ (.int .i64 (v : Int))).drew = w2 at *
       have hc0 : w2.cell? ⟨g, 0, none⟩ = some (.int .i64 3) := by rw [hk.cell]; rfl
       have hc1 : w2.cell? ⟨g, 1, none⟩ = some (.int .i64 (v : Int)) := by rw [hk.cell]; rfl
       clear hk
       go_wp2
       go_ret
       rw [HS.out]
       exact ⟨rfl, HK.out, HU.out⟩)
end Go.Proofs.YthfknndjdfofgaaGreatDoor.Sh

/-
 Contract of package shake's Take over this seat's translation: one byte is one step; a message of the call's own.
-/
namespace Go.Proofs.YthfknndjdfofgaaGreatDoor.Sh
open Go.RowKit Go.Proofs.YthfknndjdfofgaaGreatDoor.Wd

section
variable {w : World} {g : Nat} {p : Option Nat} {m : M}
theorem whole_quiet (h : Rd w g p m) (k : OkM m) (j : Nat) : Calls Tryz.prog 79 #[.pointer (some ⟨g, 0, none⟩)] (w.drewN j) fun e w' => e = .returned (.bool (wholeM m)) ∧ ∃ n, w' = w.drewN n :=
 (whole_any (h.same ((But.refl [] w).drewN j)) k).mono fun _ _ ⟨he, n, hn⟩ => ⟨he, j + n, by rw [hn, World.drewN_drewN]⟩
end

theorem wpList_app_b {P : Program} {w : World} {ops : Array Oper} {rest : List Oper} {o : Oper} {a : Act} {Q : Exit → Act → World → Prop} (dst : Option Tmp) (hdst : o.dst = dst) (hgd : o.guard = none) (s x : Operand) (t : TypeId)
   (ho : o.op = .call { callee := .builtin .append, args := #[s, x], argTypes := #[t, t] }) (ht : P.underlying t = some (.slice 5)) (hinfo : (P.info? 5).map (fun i => (i.zero, i.size, i.bytes)) = some (some (.int .u8 0), 1, 1))
   (p : Option Nat) (n c : Nat) (xs : List UInt8) (hs : a.eval s = .slice (ad p) n c) (hn : n = xs.length) (hat : At w p c xs) (A2 : Option Addr) (m c2 : Nat) (ys : List UInt8) (hx : a.eval x = .slice A2 m c2) (hsrc : Src w A2 m ys)
   (hlen : n + m ≤ 140737488355328)
   (h : ∀ p' c' w', Hid (At w' p' c' (xs ++ ys)) → Hid (p' = p ∨ p' = some w.heap.size) → Hid (But p.toList w w') → wpList P ops Q rest (a.put dst (.slice (ad p') (n + m) c')) w') : wpList P ops Q (o :: rest) a w := by
 subst hdst hn
 obtain ⟨i0, hi, hz0, hz1, hz2⟩ := info_parts hinfo
 obtain ⟨p', c', w', hrun, h2, h3, h4⟩ := run_app_at (ty := o.type) ht hi hz0 hz1 hz2 hat (c2 := c2) hsrc hlen
 refine wpList_plain hgd fun K hK => ?_
 unfold Oper.wp execOp
 simp only [ho, resolve, invoke, builtin, Sem.run_bind, Sem.run_pure, Result.andThen_ok, List.map_toArray, List.map_cons, List.map_nil, hs, hx, hrun]
 exact hK _ _ (h p' c' w' h2 h3 h4)

def TakePost (w : World) (g : Nat) (p : Option Nat) (s : M) (e : Ending) (w' : World) : Prop :=
 e = .returned (.tuple #[.bool (wholeM s), .int .i64 (s.e : Int)]) ∧ ∃ p', Rd w' g p' s ∧ (∀ b, p' = some b → p = some b ∨ w.heap.size ≤ b) ∧ But (g :: p.toList) w w'
section
variable {w : World} {g : Nat} {p : Option Nat}
set_option maxHeartbeats 1000000
theorem take_bad {m : M} (hr : Rd w g p m) (k : OkM m) (he : m.e ≠ 0) (c : UInt8) :
   Calls Tryz.prog 76 #[.pointer (some ⟨g, 0, none⟩), .int .u8 (c.toNat : Int)] w (TakePost w g p m) := by
 have HR := Lib.hid hr
 have HW := Lib.hid (whole_quiet hr k)
 obtain ⟨cp, hb, -⟩ := hr
 have hc3 : w.cell? ⟨g, 3, none⟩ = some (.int .i64 (m.e : Int)) := by rw [hb.cell]; rfl
 have hei : (m.e : Int) ≠ 0 := by omega
 have hei2 : ((m.e : Int) == 0) = false := by rw [beq_eq_false_iff_ne]; exact hei
 unfold TakePost
 clear hb k he
 go_enter Tryz.func76, Tryz.ntmps76
 go_wp2_with fail
 go_quiet (first | (go_at_call 79; exact HW.out _))
 go_wp2_with fail
 go_ret2
 exact ⟨rfl, p, HR.out.same ((But.refl [] w).drewN _), fun b hb => .inl hb, (But.refl _ w).drewN _⟩
theorem take_done {m : M} (hr : Rd w g p m) (k : OkM m) (he : m.e = 0) (h4 : m.h = 4) (hs : m.b.length = m.s) (c : UInt8) :
   Calls Tryz.prog 76 #[.pointer (some ⟨g, 0, none⟩), .int .u8 (c.toNat : Int)] w (TakePost w g p m) := by
 have HR := Lib.hid hr
 have K := Lib.hid k
 have few := k.few he
 obtain ⟨cp, hb, -⟩ := hr
 unfold TakePost
 rw [he, h4, ← hs] at hb
 rw [he]
 rw [← hs] at few
 have hc0 : w.cell? ⟨g, 0, none⟩ = some (.int .i64 4) := by rw [hb.cell]; rfl
 have hc1 : w.cell? ⟨g, 1, none⟩ = some (.int .i64 (m.b.length : Int)) := by rw [hb.cell]; rfl
 have hc2 : w.cell? ⟨g, 2, none⟩ = some (.slice (ad p) m.b.length cp) := by rw [hb.cell]; rfl
 have hc3 : w.cell? ⟨g, 3, none⟩ = some (.int .i64 0) := by rw [hb.cell]; rfl
 clear hb k he h4 hs
 generalize m.b.length = n at *
 generalize ad p = A at *
 go_enter Tryz.func76, Tryz.ntmps76
 go_wp2_with fail
 go_quiet (fail)
 have HR1 := Lib.hid (HR.out.same ((But.refl [] w).drewN nq))
 have HL1 := Lib.hid (show But (g :: p.toList) w (w.drewN nq) from (But.refl _ w).drewN nq)
 have hq3 : (w.drewN nq).cell? ⟨g, 3, none⟩ = some (.int .i64 0) := hc3
 clear HR hc0 hc1 hc2 hc3
 generalize w.drewN nq = w1 at *
 have HW := Lib.hid (whole_quiet HR1.out K.out)
 go_wp2_with fail
 go_quiet (first | (go_at_call 79; exact HW.out _))
 go_wp2_with fail
 go_ret2
 exact ⟨rfl, p, HR1.out.same ((But.refl [] w1).drewN _), fun b hb => .inl hb, HL1.out.drewN _⟩
theorem stepM_b {m : M} (h : m.h < 4) (c : UInt8) : (stepM m c).b = m.b := by
 unfold stepM
 repeat' split
 all_goals first | rfl | omega
theorem take_head {m : M} (hr : Rd w g p m) (k : OkM m) (he : m.e = 0) (h4 : m.h < 4) (c : UInt8) :
   Calls Tryz.prog 76 #[.pointer (some ⟨g, 0, none⟩), .int .u8 (c.toNat : Int)] w (TakePost w g p (stepM m c)) := by
 have hno := k.no h4
 have hsb := stepM_b h4 c
 have k2 := stepM_ok k c
 have hpg := hr.ne
 obtain ⟨cp, hb, ha⟩ := hr
 obtain ⟨h, s, b, e⟩ := m
 simp only at he hno hb ha h4 hsb
 subst he hno
 unfold TakePost
 have hc0 : w.cell? ⟨g, 0, none⟩ = some (.int .i64 (h : Int)) := by rw [hb.cell]; rfl
 have hc3 : w.cell? ⟨g, 3, none⟩ = some (.int .i64 0) := by rw [hb.cell]; rfl
 have h4i : (h : Int) < 4 := by omega
 have HBg := Lib.hid (begin_any hb k h4 c)
 have HA := Lib.hid ha
 have K2 := Lib.hid k2
 have Hpg := Lib.hid hpg
 have Hsb := Lib.hid hsb
 clear hb ha k k2 hpg hsb
 generalize stepM ⟨h, s, [], 0⟩ c = t at *
 unfold BeginPost at HBg
 go_enter Tryz.func76, Tryz.ntmps76
 go_wp2_with fail
 refine HBg.out.mono ?_
 rintro e w1 ⟨rfl, hb1, hu1⟩
 have hf3 := hb1.frozen 3
 have hq3 : w1.cell? ⟨g, 3, none⟩ = some (.int .i64 0) := by rw [hb1.cell]; rfl
 have hb2 := blk_3 (x := .int .i64 (t.e : Int)) hb1
 have hu2 := but_set hu1 3 (.int .i64 (t.e : Int))
 have hr2 : Rd (w1.setCell ⟨g, 3, none⟩ (.int .i64 (t.e : Int))) g p t := by
   refine ⟨cp, ?_, ?_⟩
   · rw [Hsb.out]; exact hb2
   · rw [Hsb.out]
     exact HA.out.but hu2 (fun b hb hm => by simp at hm; subst hm; exact Hpg.out hb)
 have HR2 := Lib.hid hr2
 have HU2 := Lib.hid hu2
 have HW := Lib.hid (whole_quiet hr2 K2.out)
 have hr3 : (w1.setCell ⟨g, 3, none⟩ (.int .i64 (t.e : Int))).cell? ⟨g, 3, none⟩ = some (.int .i64 (t.e : Int)) := by rw [hb2.cell]; rfl
 clear hb1 hu1 hb2 hu2 hr2 HBg hc0 hc3
 go_wp2_with fail
 generalize w1.setCell ⟨g, 3, none⟩ (.int .i64 (t.e : Int)) = w2 at *
 go_quiet (first | (go_at_call 79; exact HW.out _))
 go_wp2_with fail
 go_ret2
 exact ⟨rfl, p, HR2.out.same ((But.refl [] w2).drewN _), fun b hb => .inl hb, (HU2.out.more (by simp)).drewN _⟩
theorem take_body {m : M} (hr : Rd w g p m) (k : OkM m) (he : m.e = 0) (h4 : m.h = 4) (hs : m.b.length < m.s) (c : UInt8) :
   Calls Tryz.prog 76 #[.pointer (some ⟨g, 0, none⟩), .int .u8 (c.toNat : Int)] w (TakePost w g p (stepM m c)) := by
 have few := k.few he
 have hst := stepM_body he h4 hs c
 have k2 := stepM_ok k c
 have hpg := hr.ne
 obtain ⟨cp, hb, ha⟩ := hr
 unfold TakePost
 rw [he, h4] at hb
 have hc0 : w.cell? ⟨g, 0, none⟩ = some (.int .i64 4) := by rw [hb.cell]; rfl
 have hc1 : w.cell? ⟨g, 1, none⟩ = some (.int .i64 (m.s : Int)) := by rw [hb.cell]; rfl
 have hc2 : w.cell? ⟨g, 2, none⟩ = some (.slice (ad p) m.b.length cp) := by rw [hb.cell]; rfl
 have hc3 : w.cell? ⟨g, 3, none⟩ = some (.int .i64 0) := by rw [hb.cell]; rfl
 have HB := Lib.hid hb
 have HA := Lib.hid ha
 have K2 := Lib.hid k2
 have Hpg := Lib.hid hpg
 have Hst := Lib.hid hst
 have hsi : (m.b.length : Int) < (m.s : Int) := by omega
 clear hb ha k k2 hpg hst he h4 hs
 generalize stepM m c = t at *
 rw [show t.e = 0 from by rw [Hst.out]]
 obtain ⟨h, s, b, e⟩ := m
 simp only at *
 obtain ⟨n, hn⟩ : ∃ n, n = b.length := ⟨_, rfl⟩
 have HN := Lib.hid hn
 rw [← hn] at hc2 hsi HB
 clear hn
 go_enter Tryz.func76, Tryz.ntmps76
 go_wp2_with fail
 go_quiet (fail)
 have HB1 := Lib.hid (show Blk (w.drewN nq) g _ _ from HB.out)
 have HA1 := Lib.hid (HA.out.but ((But.refl [] w).drewN nq) (by simp))
 have HL1 := Lib.hid (show But (g :: p.toList) w (w.drewN nq) from (But.refl _ w).drewN nq)
 have HZ := Lib.hid (show (w.drewN nq).heap.size = w.heap.size from rfl)
 have hlt1 : g < (w.drewN nq).heap.size := HB.out.lt
 have hq2 : (w.drewN nq).cell? ⟨g, 2, none⟩ = some (.slice (ad p) n cp) := hc2
 clear HB HA hc0 hc1 hc2 hc3
 have Hsrc := Lib.hid (Src.marked (w.drewN nq) #[.int .u8 (c.toNat : Int)] 5 (0, 0) [c] rfl)
 have HA2 := Lib.hid (HA1.out.but ((But.refl [] (w.drewN nq)).alloc (.cells #[.int .u8 (c.toNat : Int)] 5)) (by simp))
 have HB2 := Lib.hid (HB1.out.alloc (.cells #[.int .u8 (c.toNat : Int)] 5))
 have HL2 := Lib.hid (HL1.out.alloc (.cells #[.int .u8 (c.toNat : Int)] 5))
 have hgp : g ∉ p.toList := by
   intro hx
   rw [Option.mem_toList] at hx
   exact Hpg.out hx
 have HZ2 := Lib.hid (show w.heap.size ≤ ((w.drewN nq).alloc (.cells #[.int .u8 (c.toNat : Int)] 5)).heap.size from by simp [World.drewN])
 have hf2 := HB2.out.frozen 2
 clear HA1 HB1 HL1 HZ
 go_wp2_with (at_builtin; refine wpList_app_b (some 42) rfl rfl (.tmp 39) (.tmp 41) 22 rfl und8 inf8 p n cp b rfl HN.out HA2.out _ 1 1 [c] rfl Hsrc.out (by omega) ?_; intro p2 c2 w2 HA3 HP3 HU3; have hx := HB2.out.but HU3.out hgp; have q2 : w2.cell? ⟨g, 2, none⟩ = some (.slice (ad p) n cp) := hx.cell 2; have hfr2 := hx.frozen 2; have HX := Lib.hid hx; clear hx)
 have hb3 := blk_2 (x := .slice (ad p2) (n + 1) c2) HX.out
 have hn2 : p2 ≠ some g := by
   rcases HP3.out with h | h
   · rw [h]; exact Hpg.out
   · rw [h]
     intro e
     injection e with e
     have h1 := HB2.out.lt
     omega
 have hbut : But [g] w2 (w2.setCell ⟨g, 2, none⟩ (.slice (ad p2) (n + 1) c2)) := but_set (But.refl _ _) _ _
 have hr3 : Rd (w2.setCell ⟨g, 2, none⟩ (.slice (ad p2) (n + 1) c2)) g p2 t := by
   refine ⟨c2, ?_, ?_⟩
   · rw [Hst.out]
     have hl : (b ++ [c]).length = n + 1 := by rw [List.length_append, HN.out]; rfl
     rw [hl]
     exact hb3
   · rw [Hst.out]
     exact HA3.out.but hbut (fun x hx hm => by simp at hm; subst hm; exact hn2 hx)
 have HR3 := Lib.hid hr3
 have HL3 := Lib.hid ((HL2.out.trans (HU3.out.more (fun i hi => List.mem_cons_of_mem _ hi))).trans (hbut.more (T := g :: p.toList) (by simp)))
 have HP4 := Lib.hid (show ∀ x, p2 = some x → p = some x ∨ w.heap.size ≤ x from fun x hx => by
   rcases HP3.out with h | h
   · exact .inl (by rw [← h]; exact hx)
   · rw [hx] at h
     injection h with h
     exact .inr (by rw [h]; exact HZ2.out))
 have hq3 : (w2.setCell ⟨g, 2, none⟩ (.slice (ad p2) (n + 1) c2)).cell? ⟨g, 3, none⟩ = some (.int .i64 0) := hb3.cell 3
 have HW := Lib.hid (whole_quiet hr3 K2.out)
 clear hb3 hn2 hbut hr3 q2 hfr2 hf2 HX HA3 HU3 HP3 HA2 HB2 HL2 HZ2 Hsrc hq2
 generalize w2.setCell ⟨g, 2, none⟩ (.slice (ad p2) (n + 1) c2) = w3 at *
 go_wp2_with fail
 go_quiet (first | (go_at_call 79; exact HW.out _))
 go_wp2_with fail
 go_ret2
 exact ⟨rfl, p2, HR3.out.same ((But.refl [] w3).drewN _), HP4.out, HL3.out.drewN _⟩
theorem take_any {m : M} (hr : Rd w g p m) (k : OkM m) (c : UInt8) :
   Calls Tryz.prog 76 #[.pointer (some ⟨g, 0, none⟩), .int .u8 (c.toNat : Int)] w (TakePost w g p (stepM m c)) := by
 by_cases he : m.e = 0
 · by_cases h4 : m.h < 4
   · exact take_head hr k he h4 c
   · have h4 : m.h = 4 := by have := k.h4; omega
     by_cases hs : m.b.length < m.s
     · exact take_body hr k he h4 hs c
     · have hs : m.b.length = m.s := by have := k.bd he; omega
       rw [stepM_done h4 (by omega) c]
       exact take_done hr k he h4 hs c
 · rw [stepM_bad he c]
   exact take_bad hr k he c
end

structure Kept (B : Nat) (w w' : World) (g : Nat) (p : Option Nat) (m : M) : Prop where
 rd : Rd w' g p m
 ok : OkM m
 bel : Below B w w'
 hg : B ≤ g
 hp : ∀ b, p = some b → B ≤ b
 hB : B ≤ w'.heap.size
section
variable {B : Nat} {w a b : World} {g : Nat} {p : Option Nat} {m : M}
end
end Go.Proofs.YthfknndjdfofgaaGreatDoor.Sh

/-
 The document's own message (hagioscoperef08), plain: what came and the error; that it tells what our message tells. Plain facts, no condition.
-/
namespace Go.Proofs.YthfknndjdfofgaaGreatDoor.Sh
set_option maxRecDepth 20000

def szK (bs : List UInt8) : Nat → Nat
 | 0 => 0
 | 1 => 0
 | k + 2 => szK bs (k + 1) * 256 + (bs.getD (k + 1) 0).toNat
def sizeR (bs : List UInt8) : Nat := szK bs 4
theorem szK_step (bs : List UInt8) (k : Nat) (h : 1 ≤ k) : szK bs (k + 1) = szK bs k * 256 + (bs.getD k 0).toNat := by
 obtain ⟨j, rfl⟩ : ∃ j, k = j + 1 := ⟨k - 1, by omega⟩
 rfl
theorem szK_lt (bs : List UInt8) (k : Nat) (h : 1 ≤ k) (h3 : k ≤ 3) : szK bs k ≤ 65535 := by
 have b1 := (bs.getD 1 0).toNat_lt
 have b2 := (bs.getD 2 0).toNat_lt
 have e1 : szK bs 1 = 0 := rfl
 have e2 : szK bs 2 = szK bs 1 * 256 + (bs.getD 1 0).toNat := rfl
 have e3 : szK bs 3 = szK bs 2 * 256 + (bs.getD 2 0).toNat := rfl
 obtain rfl | rfl | rfl : k = 1 ∨ k = 2 ∨ k = 3 := by omega
 all_goals omega
theorem sizeR_eq (bs : List UInt8) : sizeR bs = (bs.getD 1 0).toNat * 65536 + (bs.getD 2 0).toNat * 256 + (bs.getD 3 0).toNat := by
 have e1 : szK bs 1 = 0 := rfl
 have e2 : szK bs 2 = szK bs 1 * 256 + (bs.getD 1 0).toNat := rfl
 have e3 : szK bs 3 = szK bs 2 * 256 + (bs.getD 2 0).toNat := rfl
 have e4 : sizeR bs = szK bs 3 * 256 + (bs.getD 3 0).toNat := rfl
 omega
theorem sizeR_lt (bs : List UInt8) : sizeR bs ≤ 16777215 := by
 rw [sizeR_eq]
 have b1 := (bs.getD 1 0).toNat_lt
 have b2 := (bs.getD 2 0).toNat_lt
 have b3 := (bs.getD 3 0).toNat_lt
 omega
def wholeR (bs : List UInt8) : Bool := decide (4 ≤ bs.length ∧ bs.length = 4 + sizeR bs)
def errR (bs : List UInt8) : Nat := if bs.getD 0 0 ≠ 1 then 4 else if 16384 < sizeR bs then 6 else 0
def stepR (s : List UInt8 × Nat) (c : UInt8) : List UInt8 × Nat :=
 if s.2 ≠ 0 then s else if wholeR s.1 then s else (s.1 ++ [c], errR (s.1 ++ [c]))
def wholeS (s : List UInt8 × Nat) : Bool := decide (s.2 = 0) && wholeR s.1
def bodyS (s : List UInt8 × Nat) : List UInt8 := if wholeS s then s.1.drop 4 else []

structure Rel (s : List UInt8 × Nat) (m : M) : Prop where
 er : s.2 = m.e
 len : m.e = 0 → s.1.length = m.h + m.b.length
 sz : m.e = 0 → sizeR s.1 = m.s
 body : m.e = 0 → s.1.drop 4 = m.b
 one : m.e = 0 → m.h ≠ 0 → s.1.getD 0 0 = 1
theorem Rel.st : Rel ([], 0) M.st := ⟨rfl, fun _ => rfl, fun _ => rfl, fun _ => rfl, fun _ h => absurd rfl h⟩
theorem rel_whole {s : List UInt8 × Nat} {m : M} (h : Rel s m) (k : OkM m) : wholeS s = wholeM m := by
 unfold wholeS wholeR
 rw [Bool.eq_iff_iff, Bool.and_eq_true, decide_eq_true_iff, decide_eq_true_iff, whole_iff k, h.er]
 have h4 := k.h4
 constructor
 · rintro ⟨h0, h1, h2⟩
   have l := h.len h0
   have z := h.sz h0
   have b := k.bd h0
   by_cases hh : m.h < 4
   · have := k.no hh
     rw [this] at l
     simp at l
     omega
   · exact ⟨h0, by omega, by omega⟩
 · rintro ⟨h0, h1, h2⟩
   have l := h.len h0
   have z := h.sz h0
   exact ⟨h0, by omega, by omega⟩
theorem rel_body {s : List UInt8 × Nat} {m : M} (h : Rel s m) (k : OkM m) : bodyS s = bodyM m := by
 unfold bodyS bodyM
 rw [rel_whole h k]
 by_cases hw : wholeM m = true
 · rw [if_pos hw, if_pos hw]
   exact h.body ((whole_iff k).1 hw).1
 · rw [if_neg hw, if_neg hw]
theorem rel_few {s : List UInt8 × Nat} {m : M} (h : Rel s m) (k : OkM m) (h0 : s.2 = 0) : s.1.length ≤ 20000 := by
 rw [h.er] at h0
 have l := h.len h0
 have := k.bl
 have := k.h4
 omega
theorem getD_app (bs : List UInt8) (c : UInt8) (i : Nat) : (bs ++ [c]).getD i 0 = if i < bs.length then bs.getD i 0 else if i = bs.length then c else 0 := by
 simp only [List.getD_eq_getElem?_getD, List.getElem?_append]
 split
 · rfl
 · rename_i h
   by_cases hi : i = bs.length
   · subst hi; simp
   · rw [if_neg hi, List.getElem?_eq_none (by simp; omega)]
     rfl
theorem getD_far (bs : List UInt8) (i : Nat) (h : bs.length ≤ i) : bs.getD i 0 = 0 := by
 rw [List.getD_eq_getElem?_getD, List.getElem?_eq_none h]
 rfl
theorem rel_step {s : List UInt8 × Nat} {m : M} (h : Rel s m) (k : OkM m) (c : UInt8) : Rel (stepR s c) (stepM m c) := by
 have hw := rel_whole h k
 obtain ⟨bs, e⟩ := s
 obtain ⟨er, len, sz, body, one⟩ := h
 simp only at er len sz body one
 by_cases h0 : m.e = 0
 · have e0 : e = 0 := by omega
   subst e0
   have len := len h0
   have sz := sz h0
   have body := body h0
   have one0 := one h0
   clear one
   have h4 := k.h4
   by_cases hm : wholeM m = true
   · rw [whole_stay k hm]
     have : stepR (bs, 0) c = (bs, 0) := by
       unfold stepR
       rw [if_neg (by simp), if_pos]
       unfold wholeS at hw
       rw [hm] at hw
       simpa using hw
     rw [this]
     exact ⟨er, fun _ => len, fun _ => sz, fun _ => body, fun _ => one0⟩
   · have hst : stepR (bs, 0) c = (bs ++ [c], errR (bs ++ [c])) := by
       unfold stepR
       rw [if_neg (by simp), if_neg]
       unfold wholeS at hw
       intro hx
       rw [hx] at hw
       exact hm (by rw [← hw]; rfl)
     rw [hst]
     have hz := sizeR_eq (bs ++ [c])
     have hz0 := sizeR_eq bs
     rw [sz] at hz0
     simp only [getD_app] at hz
     by_cases hh : m.h < 4
     · have hb := k.no hh
       have hl : bs.length = m.h := by rw [len, hb]; simp
       have lo := k.lo h0
       have cl := c.toNat_lt
       obtain ⟨mh, ms, mb, me⟩ := m
       simp only at hh hb hl lo h0 sz body one0 len hz0 h4
       subst h0 hb
       obtain rfl | rfl | rfl | rfl : mh = 0 ∨ mh = 1 ∨ mh = 2 ∨ mh = 3 := by omega
       · obtain rfl : bs = [] := List.eq_nil_of_length_eq_zero hl
         simp at hz
         have lo := lo (by omega)
         subst lo
         by_cases hc : c.toNat = 1
         · have hc1 : c = 1 := by
             apply UInt8.toNat_inj.1
             exact hc
           subst hc1
           exact ⟨rfl, fun _ => rfl, fun _ => by simp [sizeR_eq, stepM], fun _ => rfl, fun _ _ => rfl⟩
         · have e1 : stepM ⟨0, 0, [], 0⟩ c = ⟨0, 0, [], 4⟩ := by unfold stepM; simp [hc]
           rw [e1]
           have e2 : errR ([] ++ [c]) = 4 := by
             unfold errR
             rw [if_pos]
             intro hx
             apply hc
             have : c = 1 := hx
             rw [this]
             rfl
           exact ⟨e2, fun hx => absurd hx (by simp), fun hx => absurd hx (by simp), fun hx => absurd hx (by simp), fun hx => absurd hx (by simp)⟩
       all_goals
         have h1 : (bs ++ [c]).getD 0 0 = 1 := by rw [getD_app, if_pos (by omega)]; exact one0 (by omega)
         have hd : (bs ++ [c]).drop 4 = [] := by rw [List.drop_eq_nil_iff]; simp; omega
         rw [hl] at hz
         simp at hz
         have f1 := getD_far bs 1
         have f2 := getD_far bs 2
         have f3 := getD_far bs 3
       · have lo := lo (by omega)
         subst lo
         by_cases hc : c.toNat * 65536 ≤ 16384
         · have e1 : stepM ⟨1, 0, [], 0⟩ c = ⟨2, c.toNat * 65536, [], 0⟩ := by unfold stepM; simp [hc]
           rw [e1]
           have e2 : errR (bs ++ [c]) = 0 := by unfold errR; rw [if_neg (by simpa using h1), if_neg (by omega)]
           exact ⟨e2, fun _ => by simp; omega, fun _ => by simp only; omega, fun _ => hd, fun _ _ => h1⟩
         · have e1 : stepM ⟨1, 0, [], 0⟩ c = ⟨1, c.toNat * 65536, [], 6⟩ := by unfold stepM; simp [hc]
           rw [e1]
           have e2 : errR (bs ++ [c]) = 6 := by unfold errR; rw [if_neg (by simpa using h1), if_pos (by omega)]
           exact ⟨e2, fun hx => absurd hx (by simp), fun hx => absurd hx (by simp), fun hx => absurd hx (by simp), fun hx => absurd hx (by simp)⟩
       · have lo := lo (by omega)
         subst lo
         have g1 : (bs.getD 1 0).toNat = 0 := by omega
         by_cases hc : c.toNat * 256 ≤ 16384
         · have e1 : stepM ⟨2, 0, [], 0⟩ c = ⟨3, c.toNat * 256, [], 0⟩ := by unfold stepM; simp [hc]
           rw [e1]
           have e2 : errR (bs ++ [c]) = 0 := by unfold errR; rw [if_neg (by simpa using h1), if_neg (by simp at g1; omega)]
           exact ⟨e2, fun _ => by simp; omega, fun _ => by simp only; simp at g1; omega, fun _ => hd, fun _ _ => h1⟩
         · have e1 : stepM ⟨2, 0, [], 0⟩ c = ⟨2, c.toNat * 256, [], 6⟩ := by unfold stepM; simp [hc]
           rw [e1]
           have e2 : errR (bs ++ [c]) = 6 := by unfold errR; rw [if_neg (by simpa using h1), if_pos (by omega)]
           exact ⟨e2, fun hx => absurd hx (by simp), fun hx => absurd hx (by simp), fun hx => absurd hx (by simp), fun hx => absurd hx (by simp)⟩
       · have g3 : (bs.getD 3 0).toNat = 0 := by rw [f3 (by omega)]; rfl
         have hz1 : sizeR (bs ++ [c]) = ms + c.toNat := by simp at hz0 g3; omega
         by_cases hc : ms + c.toNat ≤ 16384
         · have e1 : stepM ⟨3, ms, [], 0⟩ c = ⟨4, ms + c.toNat, [], 0⟩ := by unfold stepM; simp [hc]
           rw [e1]
           have e2 : errR (bs ++ [c]) = 0 := by unfold errR; rw [if_neg (by simpa using h1), if_neg (by omega)]
           exact ⟨e2, fun _ => by simp; omega, fun _ => hz1, fun _ => hd, fun _ _ => h1⟩
         · have e1 : stepM ⟨3, ms, [], 0⟩ c = ⟨3, ms + c.toNat, [], 6⟩ := by unfold stepM; simp [hc]
           rw [e1]
           have e2 : errR (bs ++ [c]) = 6 := by unfold errR; rw [if_neg (by simpa using h1), if_pos (by omega)]
           exact ⟨e2, fun hx => absurd hx (by simp), fun hx => absurd hx (by simp), fun hx => absurd hx (by simp), fun hx => absurd hx (by simp)⟩
     · have h44 : m.h = 4 := by omega
       have hs : m.b.length < m.s := by
         have := k.bd h0
         have := mt (whole_iff k).2 hm
         rcases Nat.lt_or_ge m.b.length m.s with g | g
         · exact g
         · exact absurd ⟨h0, h44, by omega⟩ this
       rw [stepM_body h0 h44 hs]
       have hz1 : sizeR (bs ++ [c]) = m.s := by
         rw [if_pos (by omega), if_pos (by omega), if_pos (by omega)] at hz
         omega
       have h1 : (bs ++ [c]).getD 0 0 = 1 := by rw [getD_app, if_pos (by omega)]; exact one0 (by omega)
       have few := k.few h0
       have e2 : errR (bs ++ [c]) = 0 := by unfold errR; rw [if_neg (by simpa using h1), if_neg (by omega)]
       refine ⟨e2, fun _ => ?_, fun _ => hz1, fun _ => ?_, fun _ _ => h1⟩
       · simp only [List.length_append, List.length_cons, List.length_nil]
         omega
       · show (bs ++ [c]).drop 4 = m.b ++ [c]
         rw [List.drop_append_of_le_length (by omega), body]
 · rw [stepM_bad h0]
   have : stepR (bs, e) c = (bs, e) := by unfold stepR; rw [if_pos (by simp only; omega)]
   rw [this]
   exact ⟨er, len, sz, body, one⟩
end Go.Proofs.YthfknndjdfofgaaGreatDoor.Sh
