/-
  Contract of package shake's Take over this seat's translation: one byte is one step; a message of the call's own.
-/
import Derived.Test.YtjbcdagkjonlfaaShTake
namespace Go.Proofs.Ytjbcdagkjonlfaa.Sh
open Go.RowKit Go.Proofs.Ytjbcdagkjonlfaa.Wd

section
variable {w : World} {g : Nat} {p : Option Nat} {m : M}
theorem whole_quiet (h : Rd w g p m) (k : OkM m) (j : Nat) : Calls Try.prog 20 #[.pointer (some ⟨g, 0, none⟩)] (w.drewN j) fun e w' => e = .returned (.bool (wholeM m)) ∧ ∃ n, w' = w.drewN n :=
  (whole_any (h.same ((But.refl [] w).drewN j)) k).mono fun _ _ ⟨he, n, hn⟩ => ⟨he, j + n, by rw [hn, World.drewN_drewN]⟩
theorem want_quiet (h : Rd w g p m) (k : OkM m) (j : Nat) : Calls Try.prog 13 #[.pointer (some ⟨g, 0, none⟩)] (w.drewN j) fun e w' => e = .returned (.int .i64 (wantM m : Int)) ∧ ∃ n, w' = w.drewN n :=
  (want_any (h.same ((But.refl [] w).drewN j)) k).mono fun _ _ ⟨he, n, hn⟩ => ⟨he, j + n, by rw [hn, World.drewN_drewN]⟩
end

/-- append onto bytes in a block of their own, as one operation of a list -/
theorem wpList_app_b {P : Program} {w : World} {ops : Array Oper} {rest : List Oper} {o : Oper} {a : Act} {Q : Exit → Act → World → Prop} (dst : Option Tmp) (hdst : o.dst = dst) (hgd : o.guard = none) (s x : Operand) (t : TypeId)
    (ho : o.op = .call { callee := .builtin .append, args := #[s, x], argTypes := #[t, t] }) (ht : P.underlying t = some (.slice 5)) (hinfo : (P.info? 5).map (fun i => (i.zero, i.size, i.bytes)) = some (some (.int .u8 0), 1, 1))
    (p : Option Nat) (n c : Nat) (xs : List UInt8) (hs : a.eval s = .slice (ad p) n c) (hn : n = xs.length) (hat : At w p c xs) (A2 : Option Addr) (m c2 : Nat) (ys : List UInt8) (hx : a.eval x = .slice A2 m c2) (hsrc : Src w A2 m ys)
    (hlen : n + m ≤ 140737488355328)
    (h : ∀ p' c' w', Hid (At w' p' c' (xs ++ ys)) → Hid (p' = p ∨ p' = some w.heap.size) → Hid (But p.toList w w') → wpList P ops Q rest (a.put dst (.slice (ad p') (n + m) c')) w') : wpList P ops Q (o :: rest) a w := by
  subst hdst hn
  obtain ⟨i0, hi, hz0, hz1, hz2⟩ := info_parts hinfo
  obtain ⟨p', c', w', hrun, h2, h3, h4⟩ := run_app_at (ty := o.type) ht hi hz0 hz1 hz2 hat (c2 := c2) hsrc hlen
  refine wpList_plain hgd fun K hK => ?_
  unfold Oper.wp execOp
  simp only [ho, resolve, invoke, builtin, Sem.run_bind, Sem.run_pure, Result.andThen_ok, List.map_toArray, List.map_cons, List.map_nil, hs, hx, hrun]
  exact hK _ _ (h p' c' w' h2 h3 h4)

/-- behind Take: what it answers, and the message -/
def TakePost (w : World) (g : Nat) (p : Option Nat) (s : M) (e : Ending) (w' : World) : Prop :=
  e = .returned (.tuple #[.bool (wholeM s), .int .i64 (s.e : Int)]) ∧ ∃ p', Rd w' g p' s ∧ (∀ b, p' = some b → p = some b ∨ w.heap.size ≤ b) ∧ But (g :: p.toList) w w'
section
variable {w : World} {g : Nat} {p : Option Nat}
set_option maxHeartbeats 1000000
theorem take_bad {m : M} (hr : Rd w g p m) (k : OkM m) (he : m.e ≠ 0) (c : UInt8) :
    Calls Try.prog 11 #[.pointer (some ⟨g, 0, none⟩), .int .u8 (c.toNat : Int)] w (TakePost w g p m) := by
  have HR := Lib.hid hr
  have HW := Lib.hid (whole_quiet hr k)
  obtain ⟨cp, hb, -⟩ := hr
  have hc3 : w.cell? ⟨g, 3, none⟩ = some (.int .i64 (m.e : Int)) := by rw [hb.cell]; rfl
  have hei : (m.e : Int) ≠ 0 := by omega
  have hei2 : ((m.e : Int) == 0) = false := by rw [beq_eq_false_iff_ne]; exact hei
  unfold TakePost
  clear hb k he
  go_enter Try.func11, Try.ntmps11
  go_wp2_with fail
  go_quiet (first | (go_at_call 20; exact HW.out _))
  go_wp2_with fail
  go_ret2
  exact ⟨rfl, p, HR.out.same ((But.refl [] w).drewN _), fun b hb => .inl hb, (But.refl _ w).drewN _⟩
theorem take_done {m : M} (hr : Rd w g p m) (k : OkM m) (he : m.e = 0) (h4 : m.h = 4) (hs : m.b.length = m.s) (c : UInt8) :
    Calls Try.prog 11 #[.pointer (some ⟨g, 0, none⟩), .int .u8 (c.toNat : Int)] w (TakePost w g p m) := by
  have HR := Lib.hid hr
  have K := Lib.hid k
  have few := k.few he
  obtain ⟨cp, hb, -⟩ := hr
  unfold TakePost
  rw [he, h4, ← hs] at hb
  rw [he]
  rw [← hs] at few
  have hc0 : w.cell? ⟨g, 0, none⟩ = some (.int .i64 4) := by rw [hb.cell]; rfl
  have hc1 : w.cell? ⟨g, 1, none⟩ = some (.int .i64 (m.b.length : Int)) := by rw [hb.cell]; rfl
  have hc2 : w.cell? ⟨g, 2, none⟩ = some (.slice (ad p) m.b.length cp) := by rw [hb.cell]; rfl
  have hc3 : w.cell? ⟨g, 3, none⟩ = some (.int .i64 0) := by rw [hb.cell]; rfl
  clear hb k he h4 hs
  generalize m.b.length = n at *
  generalize ad p = A at *
  go_enter Try.func11, Try.ntmps11
  go_wp2_with fail
  go_quiet (fail)
  have HR1 := Lib.hid (HR.out.same ((But.refl [] w).drewN nq))
  have HL1 := Lib.hid (show But (g :: p.toList) w (w.drewN nq) from (But.refl _ w).drewN nq)
  have hq3 : (w.drewN nq).cell? ⟨g, 3, none⟩ = some (.int .i64 0) := hc3
  clear HR hc0 hc1 hc2 hc3
  generalize w.drewN nq = w1 at *
  have HW := Lib.hid (whole_quiet HR1.out K.out)
  go_wp2_with fail
  go_quiet (first | (go_at_call 20; exact HW.out _))
  go_wp2_with fail
  go_ret2
  exact ⟨rfl, p, HR1.out.same ((But.refl [] w1).drewN _), fun b hb => .inl hb, HL1.out.drewN _⟩
theorem stepM_b {m : M} (h : m.h < 4) (c : UInt8) : (stepM m c).b = m.b := by
  unfold stepM
  repeat' split
  all_goals first | rfl | omega
theorem take_head {m : M} (hr : Rd w g p m) (k : OkM m) (he : m.e = 0) (h4 : m.h < 4) (c : UInt8) :
    Calls Try.prog 11 #[.pointer (some ⟨g, 0, none⟩), .int .u8 (c.toNat : Int)] w (TakePost w g p (stepM m c)) := by
  have hno := k.no h4
  have hsb := stepM_b h4 c
  have k2 := stepM_ok k c
  have hpg := hr.ne
  obtain ⟨cp, hb, ha⟩ := hr
  obtain ⟨h, s, b, e⟩ := m
  simp only at he hno hb ha h4 hsb
  subst he hno
  unfold TakePost
  have hc0 : w.cell? ⟨g, 0, none⟩ = some (.int .i64 (h : Int)) := by rw [hb.cell]; rfl
  have hc3 : w.cell? ⟨g, 3, none⟩ = some (.int .i64 0) := by rw [hb.cell]; rfl
  have h4i : (h : Int) < 4 := by omega
  have HBg := Lib.hid (begin_any hb k h4 c)
  have HA := Lib.hid ha
  have K2 := Lib.hid k2
  have Hpg := Lib.hid hpg
  have Hsb := Lib.hid hsb
  clear hb ha k k2 hpg hsb
  generalize stepM ⟨h, s, [], 0⟩ c = t at *
  unfold BeginPost at HBg
  go_enter Try.func11, Try.ntmps11
  go_wp2_with fail
  refine HBg.out.mono ?_
  rintro e w1 ⟨rfl, hb1, hu1⟩
  have hf3 := hb1.frozen 3
  have hq3 : w1.cell? ⟨g, 3, none⟩ = some (.int .i64 0) := by rw [hb1.cell]; rfl
  have hb2 := blk_3 (x := .int .i64 (t.e : Int)) hb1
  have hu2 := but_set hu1 3 (.int .i64 (t.e : Int))
  have hr2 : Rd (w1.setCell ⟨g, 3, none⟩ (.int .i64 (t.e : Int))) g p t := by
    refine ⟨cp, ?_, ?_⟩
    · rw [Hsb.out]; exact hb2
    · rw [Hsb.out]
      exact HA.out.but hu2 (fun b hb hm => by simp at hm; subst hm; exact Hpg.out hb)
  have HR2 := Lib.hid hr2
  have HU2 := Lib.hid hu2
  have HW := Lib.hid (whole_quiet hr2 K2.out)
  have hr3 : (w1.setCell ⟨g, 3, none⟩ (.int .i64 (t.e : Int))).cell? ⟨g, 3, none⟩ = some (.int .i64 (t.e : Int)) := by rw [hb2.cell]; rfl
  clear hb1 hu1 hb2 hu2 hr2 HBg hc0 hc3
  go_wp2_with fail
  generalize w1.setCell ⟨g, 3, none⟩ (.int .i64 (t.e : Int)) = w2 at *
  go_quiet (first | (go_at_call 20; exact HW.out _))
  go_wp2_with fail
  go_ret2
  exact ⟨rfl, p, HR2.out.same ((But.refl [] w2).drewN _), fun b hb => .inl hb, (HU2.out.more (by simp)).drewN _⟩
theorem take_body {m : M} (hr : Rd w g p m) (k : OkM m) (he : m.e = 0) (h4 : m.h = 4) (hs : m.b.length < m.s) (c : UInt8) :
    Calls Try.prog 11 #[.pointer (some ⟨g, 0, none⟩), .int .u8 (c.toNat : Int)] w (TakePost w g p (stepM m c)) := by
  have few := k.few he
  have hst := stepM_body he h4 hs c
  have k2 := stepM_ok k c
  have hpg := hr.ne
  obtain ⟨cp, hb, ha⟩ := hr
  unfold TakePost
  rw [he, h4] at hb
  have hc0 : w.cell? ⟨g, 0, none⟩ = some (.int .i64 4) := by rw [hb.cell]; rfl
  have hc1 : w.cell? ⟨g, 1, none⟩ = some (.int .i64 (m.s : Int)) := by rw [hb.cell]; rfl
  have hc2 : w.cell? ⟨g, 2, none⟩ = some (.slice (ad p) m.b.length cp) := by rw [hb.cell]; rfl
  have hc3 : w.cell? ⟨g, 3, none⟩ = some (.int .i64 0) := by rw [hb.cell]; rfl
  have HB := Lib.hid hb
  have HA := Lib.hid ha
  have K2 := Lib.hid k2
  have Hpg := Lib.hid hpg
  have Hst := Lib.hid hst
  have hsi : (m.b.length : Int) < (m.s : Int) := by omega
  clear hb ha k k2 hpg hst he h4 hs
  generalize stepM m c = t at *
  rw [show t.e = 0 from by rw [Hst.out]]
  obtain ⟨h, s, b, e⟩ := m
  simp only at *
  obtain ⟨n, hn⟩ : ∃ n, n = b.length := ⟨_, rfl⟩
  have HN := Lib.hid hn
  rw [← hn] at hc2 hsi HB
  clear hn
  go_enter Try.func11, Try.ntmps11
  go_wp2_with fail
  go_quiet (fail)
  have HB1 := Lib.hid (show Blk (w.drewN nq) g _ _ from HB.out)
  have HA1 := Lib.hid (HA.out.but ((But.refl [] w).drewN nq) (by simp))
  have HL1 := Lib.hid (show But (g :: p.toList) w (w.drewN nq) from (But.refl _ w).drewN nq)
  have HZ := Lib.hid (show (w.drewN nq).heap.size = w.heap.size from rfl)
  have hlt1 : g < (w.drewN nq).heap.size := HB.out.lt
  have hq2 : (w.drewN nq).cell? ⟨g, 2, none⟩ = some (.slice (ad p) n cp) := hc2
  clear HB HA hc0 hc1 hc2 hc3
  have Hsrc := Lib.hid (Src.marked (w.drewN nq) #[.int .u8 (c.toNat : Int)] 5 (0, 0) [c] rfl)
  have HA2 := Lib.hid (HA1.out.but ((But.refl [] (w.drewN nq)).alloc (.cells #[.int .u8 (c.toNat : Int)] 5)) (by simp))
  have HB2 := Lib.hid (HB1.out.alloc (.cells #[.int .u8 (c.toNat : Int)] 5))
  have HL2 := Lib.hid (HL1.out.alloc (.cells #[.int .u8 (c.toNat : Int)] 5))
  have hgp : g ∉ p.toList := by
    intro hx
    rw [Option.mem_toList] at hx
    exact Hpg.out hx
  have HZ2 := Lib.hid (show w.heap.size ≤ ((w.drewN nq).alloc (.cells #[.int .u8 (c.toNat : Int)] 5)).heap.size from by simp [World.drewN])
  have hf2 := HB2.out.frozen 2
  clear HA1 HB1 HL1 HZ
  go_wp2_with (at_builtin; refine wpList_app_b (some 42) rfl rfl (.tmp 39) (.tmp 41) 22 rfl und8 inf8 p n cp b rfl HN.out HA2.out _ 1 1 [c] rfl Hsrc.out (by omega) ?_; intro p2 c2 w2 HA3 HP3 HU3; have hx := HB2.out.but HU3.out hgp; have q2 : w2.cell? ⟨g, 2, none⟩ = some (.slice (ad p) n cp) := hx.cell 2; have hfr2 := hx.frozen 2; have HX := Lib.hid hx; clear hx)
  have hb3 := blk_2 (x := .slice (ad p2) (n + 1) c2) HX.out
  have hn2 : p2 ≠ some g := by
    rcases HP3.out with h | h
    · rw [h]; exact Hpg.out
    · rw [h]
      intro e
      injection e with e
      have h1 := HB2.out.lt
      omega
  have hbut : But [g] w2 (w2.setCell ⟨g, 2, none⟩ (.slice (ad p2) (n + 1) c2)) := but_set (But.refl _ _) _ _
  have hr3 : Rd (w2.setCell ⟨g, 2, none⟩ (.slice (ad p2) (n + 1) c2)) g p2 t := by
    refine ⟨c2, ?_, ?_⟩
    · rw [Hst.out]
      have hl : (b ++ [c]).length = n + 1 := by rw [List.length_append, HN.out]; rfl
      rw [hl]
      exact hb3
    · rw [Hst.out]
      exact HA3.out.but hbut (fun x hx hm => by simp at hm; subst hm; exact hn2 hx)
  have HR3 := Lib.hid hr3
  have HL3 := Lib.hid ((HL2.out.trans (HU3.out.more (fun i hi => List.mem_cons_of_mem _ hi))).trans (hbut.more (T := g :: p.toList) (by simp)))
  have HP4 := Lib.hid (show ∀ x, p2 = some x → p = some x ∨ w.heap.size ≤ x from fun x hx => by
    rcases HP3.out with h | h
    · exact .inl (by rw [← h]; exact hx)
    · rw [hx] at h
      injection h with h
      exact .inr (by rw [h]; exact HZ2.out))
  have hq3 : (w2.setCell ⟨g, 2, none⟩ (.slice (ad p2) (n + 1) c2)).cell? ⟨g, 3, none⟩ = some (.int .i64 0) := hb3.cell 3
  have HW := Lib.hid (whole_quiet hr3 K2.out)
  clear hb3 hn2 hbut hr3 q2 hfr2 hf2 HX HA3 HU3 HP3 HA2 HB2 HL2 HZ2 Hsrc hq2
  generalize w2.setCell ⟨g, 2, none⟩ (.slice (ad p2) (n + 1) c2) = w3 at *
  go_wp2_with fail
  go_quiet (first | (go_at_call 20; exact HW.out _))
  go_wp2_with fail
  go_ret2
  exact ⟨rfl, p2, HR3.out.same ((But.refl [] w3).drewN _), HP4.out, HL3.out.drewN _⟩
theorem take_any {m : M} (hr : Rd w g p m) (k : OkM m) (c : UInt8) :
    Calls Try.prog 11 #[.pointer (some ⟨g, 0, none⟩), .int .u8 (c.toNat : Int)] w (TakePost w g p (stepM m c)) := by
  by_cases he : m.e = 0
  · by_cases h4 : m.h < 4
    · exact take_head hr k he h4 c
    · have h4 : m.h = 4 := by have := k.h4; omega
      by_cases hs : m.b.length < m.s
      · exact take_body hr k he h4 hs c
      · have hs : m.b.length = m.s := by have := k.bd he; omega
        rw [stepM_done h4 (by omega) c]
        exact take_done hr k he h4 hs c
  · rw [stepM_bad he c]
    exact take_bad hr k he c
end

/-- a message of the call's own, behind what was there before the call: B blocks of w -/
structure Kept (B : Nat) (w w' : World) (g : Nat) (p : Option Nat) (m : M) : Prop where
  rd : Rd w' g p m
  ok : OkM m
  bel : Below B w w'
  hg : B ≤ g
  hp : ∀ b, p = some b → B ≤ b
  hB : B ≤ w'.heap.size
section
variable {B : Nat} {w a b : World} {g : Nat} {p : Option Nat} {m : M}
theorem Kept.same (h : Kept B w a g p m) (k : But [] a b) : Kept B w b g p m :=
  ⟨h.rd.same k, h.ok, h.bel.trans (k.below (by simp) h.hB), h.hg, h.hp, Nat.le_trans h.hB k.size⟩
theorem Kept.drewN (h : Kept B w a g p m) (k : Nat) : Kept B w (a.drewN k) g p m := h.same ((But.refl [] a).drewN k)
theorem Kept.beside {S : List Nat} (h : Kept B w a g p m) (k : But S a b) (hg : g ∉ S) (hp : ∀ i ∈ S, p ≠ some i) (hS : ∀ i ∈ S, B ≤ i) : Kept B w b g p m :=
  ⟨h.rd.but k hg (fun b hb hm => hp b hm hb), h.ok, h.bel.trans (k.below hS h.hB), h.hg, h.hp, Nat.le_trans h.hB k.size⟩
theorem new_kept (w w1 : World) {B : Nat} (hb : Below B w w1) (hB : B ≤ w1.heap.size) :
    Calls Try.prog 10 #[] w1 fun e w' => ∃ g, e = .returned (.pointer (some ⟨g, 0, none⟩)) ∧ Kept B w w' g none M.st ∧ Below w1.heap.size w1 w' ∧ g = w1.heap.size :=
  (new_any w1).mono fun e w' ⟨he, hr, hb'⟩ => ⟨_, he, ⟨hr, OkM.st, hb.trans (hb'.mono hB), hB, fun b h => (by cases h), Nat.le_trans hB hb'.size⟩, hb', rfl⟩
theorem take_kept (h : Kept B w a g p m) (c : UInt8) :
    Calls Try.prog 11 #[.pointer (some ⟨g, 0, none⟩), .int .u8 (c.toNat : Int)] a fun e w' =>
      e = .returned (.tuple #[.bool (wholeM (stepM m c)), .int .i64 ((stepM m c).e : Int)]) ∧ ∃ p', Kept B w w' g p' (stepM m c) ∧ (∀ b, p' = some b → p = some b ∨ a.heap.size ≤ b) ∧ But (g :: p.toList) a w' :=
  (take_any h.rd h.ok c).mono fun e w' ⟨he, p', hr, hp', hb⟩ => by
    refine ⟨he, p', ⟨hr, stepM_ok h.ok c, h.bel.trans (hb.below ?_ h.hB), h.hg, ?_, Nat.le_trans h.hB hb.size⟩, hp', hb⟩
    · intro i hi
      rcases List.mem_cons.1 hi with rfl | hi
      · exact h.hg
      · exact h.hp i (Option.mem_toList.1 hi)
    · intro x hx
      rcases hp' x hx with e | e
      · exact h.hp x e
      · exact Nat.le_trans h.hB e
theorem body_kept (h : Kept B w a g p m) :
    Calls Try.prog 15 #[.pointer (some ⟨g, 0, none⟩)] a fun e w' => ∃ v, e = .returned v ∧ Own w' a.heap.size v (bodyM m) ∧ Kept B w w' g p m ∧ Below a.heap.size a w' :=
  (body_any h.rd h.ok).mono fun _ _ ⟨v, he, ho, hb⟩ => ⟨v, he, ho, h.same (But.of_below hb []), hb⟩
theorem want_kept (h : Kept B w a g p m) :
    Calls Try.prog 13 #[.pointer (some ⟨g, 0, none⟩)] a fun e w' => e = .returned (.int .i64 (wantM m : Int)) ∧ ∃ n, w' = a.drewN n := want_any h.rd h.ok
end
end Go.Proofs.Ytjbcdagkjonlfaa.Sh
