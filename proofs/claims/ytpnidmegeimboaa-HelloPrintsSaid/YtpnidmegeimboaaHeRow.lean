/-
  Contracts of package hello's row (num, vec, within) over this seat's translation.
-/
import Derived.Test.YtpnidmegeimboaaHeParse
import Derived.Deep.RegionLaw
namespace Go.Proofs.Ytpnidmegeimboaa.He
open Go.RowKit Go.Proofs.Ytpnidmegeimboaa.Wd Go.Proofs.Ytpnidmegeimboaa.Be

/-- a row's parts -/
def numW (r : List UInt8 × Bool) (n : Int) : List UInt8 × Bool := if 0 ≤ n ∧ n ≤ 65535 then (r.1 ++ two n, r.2) else (r.1, true)
def vecW (k : Nat) (r : List UInt8 × Bool) (x : List UInt8) : List UInt8 × Bool := if (x.length : Int) < 256 ^ k then (r.1 ++ vecB k x, r.2) else (r.1, true)
def withinW (k : Nat) (r o : List UInt8 × Bool) : List UInt8 × Bool := vecW k (r.1, r.2 || o.2) o.1

/-- a row at block g, its bytes in block p -/
structure Rw (w : World) (B g : Nat) (p : Option Nat) (r : List UInt8 × Bool) : Prop where
  blk : ∃ c, Blk w g 49 #[.slice (ad p) r.1.length c, .bool r.2] ∧ At w p c r.1
  pB : ∀ q, p = some q → B ≤ q
  gB : B ≤ g
section
variable {w w' : World} {B g : Nat} {p : Option Nat} {r : List UInt8 × Bool} {S : List Nat}
theorem Rw.but (h : Rw w B g p r) (k : But S w w') (hg : g ∉ S) (hp : ∀ b, p = some b → b ∉ S) : Rw w' B g p r := by
  obtain ⟨c, h1, h2⟩ := h.blk
  exact ⟨⟨c, h1.but k hg, h2.but k hp⟩, h.pB, h.gB⟩
theorem Rw.same (h : Rw w B g p r) (k : But [] w w') : Rw w' B g p r := h.but k (by simp) (by simp)
theorem Rw.lt (h : Rw w B g p r) : g < w.heap.size := by
  obtain ⟨c, h1, _⟩ := h.blk
  exact h1.lt
theorem Rw.ne (h : Rw w B g p r) : p ≠ some g := by
  obtain ⟨c, h1, h2⟩ := h.blk
  exact h2.ne h1 (by decide)
end
/-- what a part leaves -/
def RowPost (B g : Nat) (p : Option Nat) (r : List UInt8 × Bool) (w : World) (e : Ending) (w' : World) : Prop :=
  e = .returned (.tuple #[]) ∧ ∃ p', Rw w' B g p' r ∧ (p' = p ∨ ∃ q, p' = some q ∧ w.heap.size ≤ q) ∧ But (g :: p.toList) w w'

/-- the bytes are stored back -/
theorem row_set {w w2 w3 : World} {B g m k c c3 : Nat} {p p3 : Option Nat} {bs ys : List UInt8} {bad : Bool} (hb2 : Blk w2 g 49 #[.slice (ad p) m c, .bool bad]) (hm : bs.length = m) (hu : But p.toList w2 w3) (ha : At w3 p3 c3 (bs ++ ys)) (hne : p ≠ some g)
    (hp3 : p3 = p ∨ p3 = some w2.heap.size) (hsz : w.heap.size ≤ w2.heap.size) (hlt : g < w.heap.size) (hgB : B ≤ g) (hpB : ∀ q, p = some q → B ≤ q) (hk : ys.length = k := by rfl) :
    Rw (w3.setCell ⟨g, 0, none⟩ (.slice (ad p3) (m + k) c3)) B g p3 (bs ++ ys, bad) := by
  have hgp : g ∉ p.toList := fun hx => hne (Option.mem_toList.1 hx)
  have h3 := hb2.but hu hgp
  have hne3 : p3 ≠ some g := by
    rcases hp3 with h | h
    · rw [h]; exact hne
    · rw [h]; intro e; injection e with e; omega
  have hbut : But [g] w3 (w3.setCell ⟨g, 0, none⟩ (.slice (ad p3) (m + k) c3)) := (But.refl _ _).set_ (p := ⟨g, 0, none⟩) (.inl (by simp)) _
  refine ⟨⟨c3, ?_, ha.but hbut (fun b hb hm => by simp at hm; subst hm; exact hne3 hb)⟩, fun q hq => ?_, hgB⟩
  · have h := h3.set_ 0 (.slice (ad p3) (m + k) c3)
    rw [set2_0] at h
    simp only [List.length_append, hm, hk]
    exact h
  · rcases hp3 with h | h
    · exact hpB q (h ▸ hq)
    · rw [h] at hq; injection hq with hq; omega

set_option maxRecDepth 100000 in
set_option maxHeartbeats 1000000 in
theorem rwnum_any {B g : Nat} {p : Option Nat} {r : List UInt8 × Bool} {w : World} (h : Rw w B g p r) (n : Int) (hl : r.1.length ≤ 140737488351232) :
    Calls Try.prog 23 #[.pointer (some ⟨g, 0, none⟩), .int .i64 n] w (RowPost B g p (numW r n) w) := by
  obtain ⟨bs, bad⟩ := r
  have hne := h.ne
  obtain ⟨⟨c, hb, ha⟩, hpB, hgB⟩ := h
  simp only at hb ha hl
  have hc0 : w.cell? ⟨g, 0, none⟩ = some (.slice (ad p) bs.length c) := by rw [hb.cell]; rfl
  have hc1 : w.cell? ⟨g, 1, none⟩ = some (.bool bad) := by rw [hb.cell]; rfl
  have hf0 := hb.frozen 0
  have hf1 := hb.frozen 1
  have hltg := hb.lt
  have HB := Lib.hid hb
  have HA := Lib.hid ha
  have HNE := Lib.hid hne
  have HP := Lib.hid hpB
  clear hb ha hne hpB
  by_cases hn : 0 ≤ n ∧ n ≤ 65535
  · have HW := Lib.hid (show numW (bs, bad) n = (bs ++ two n, bad) from if_pos hn)
    have hd1 : decide (n < 0) = false := decide_eq_false (by omega)
    have hd2 : decide (65535 < n) = false := decide_eq_false (by omega)
    clear hc1 hf1
    generalize hm : bs.length = m at *
    have HM := Lib.hid hm
    clear hm hn
    go_enter Try.func23, Try.ntmps23
    go_wp2_with fail
    go_region_law (first
      | (refine step_app_at (some 20) rfl rfl (.tmp 17) (.tmp 19) 22 rfl und8 inf8 p m c bs rfl HM.out.symm (by exact HA2.out) _ 2 2 (two n) rfl (by exact HS2.out) (by omega) ?_; intro p3 c3 w3 HA3 HP3 HU3
         have hgp : g ∉ p.toList := (fun hx => HNE.out (Option.mem_toList.1 hx))
         have q3 : w3.cell? ⟨g, 0, none⟩ = some (.slice (ad p) m c) := (HU3.out.cell (p := ⟨g, 0, none⟩) (by exact HB2.out.lt) hgp).trans hc2
         have hfr3 : w3.frozen? ⟨g, 0, none⟩ = false := (HB2.out.but HU3.out hgp).frozen 0)
      | (go_simp; go_at_call 45; refine (put_any none 0 0 2 n 2 [] _ (Src.nil _) (by omega) (by decide)).mono ?_; rintro e w2 ⟨rfl, hb2, hbel2⟩; rw [show ([] : List UInt8) ++ bytesOf n 2 = two n from rfl] at hb2
         have hbw : Below w.heap.size w w2 := (Below.refl _ _).drew.trans hbel2
         have HA2 := Lib.hid (HA.out.but (But.of_below hbw []) (by simp))
         have HB2 := Lib.hid (HB.out.below hbw hltg)
         have hc2 : w2.cell? ⟨g, 0, none⟩ = some (.slice (ad p) m c) := (hbw.cell (p := ⟨g, 0, none⟩) hltg).trans hc0
         have HS2 := Lib.hid (Src.of_blk (off := 0) hb2 (xs := two n) (fun j c hj => by rw [Nat.zero_add]; simpa using cellsOf_get hj))
         have HL2 := Lib.hid (show But (g :: p.toList) w w2 from But.of_below hbw _)
         have hsz2 : w.heap.size ≤ w2.heap.size := hbw.size
         clear hb2 hbel2 hbw))
    all_goals
      go_end0
      rw [HW.out]
      refine ⟨rfl, p3, row_set HB2.out HM.out HU3.out HA3.out HNE.out HP3.out hsz2 hltg hgB HP.out, ?_, ?_⟩
      · rcases HP3.out with h | h
        · exact .inl h
        · exact .inr ⟨_, h, hsz2⟩
      · exact (HL2.out.trans (HU3.out.more (fun i hi => List.mem_cons_of_mem _ hi))).trans ((But.refl _ _).set_ (p := ⟨g, 0, none⟩) (.inl (by simp)) _)
  · have HW := Lib.hid (show numW (bs, bad) n = (bs, true) from if_neg hn)
    have hend : ∀ w', w' = w.setCell ⟨g, 1, none⟩ (.bool true) → RowPost B g p (numW (bs, bad) n) w (.returned (.tuple #[])) w' := fun w' e => by
      subst e
      rw [HW.out]
      have hbut : But [g] w (w.setCell ⟨g, 1, none⟩ (.bool true)) := (But.refl _ _).set_ (p := ⟨g, 1, none⟩) (.inl (by simp)) _
      refine ⟨rfl, p, ⟨⟨c, ?_, HA.out.but hbut (fun b hb hm => by simp at hm; subst hm; exact HNE.out hb)⟩, HP.out, hgB⟩, .inl rfl, hbut.more (by simp)⟩
      have h := HB.out.set_ 1 (.bool true)
      rw [set2_1] at h
      exact h
    have HE := Lib.hid hend
    clear hend
    by_cases h0 : n < 0
    · have hd1 : decide (n < 0) = true := decide_eq_true h0
      clear hn
      go_enter Try.func23, Try.ntmps23
      go_wp2_with fail
      go_end0
      exact HE.out _ rfl
    · have hd1 : decide (n < 0) = false := decide_eq_false h0
      have hd2 : decide (65535 < n) = true := decide_eq_true (by omega)
      clear hn
      go_enter Try.func23, Try.ntmps23
      go_wp2_with fail
      go_end0
      exact HE.out _ rfl

/-- append onto bytes of the call's own, as one operation of a walk -/
theorem wpList_app_own {ops : Array Oper} {rest : List Oper} {o : Oper} {a : Act} {w : World} {Q : Exit → Act → World → Prop} (dst : Option Tmp) (hdst : o.dst = dst) (hgd : o.guard = none) (s x : Operand)
    (ho : o.op = .call { callee := .builtin .append, args := #[s, x], argTypes := #[22, 22] })
    (p : Option Nat) (n c : Nat) (xs : List UInt8) (hs : a.eval s = .slice (ad p) n c) (hn : n = xs.length) (hat : At w p c xs) (A2 : Option Addr) (m c2 : Nat) (ys : List UInt8) (hx : a.eval x = .slice A2 m c2) (hsrc : Src w A2 m ys)
    (hlen : n + m ≤ 140737488355328)
    (h : ∀ p' c' w', Hid (At w' p' c' (xs ++ ys)) → Hid (p' = p ∨ p' = some w.heap.size) → Hid (But p.toList w w') → wpList Try.prog ops Q rest (a.put dst (.slice (ad p') (n + m) c')) w') : wpList Try.prog ops Q (o :: rest) a w := by
  subst hdst hn
  obtain ⟨i0, hi, hz0, hz1, hz2⟩ := info_parts inf8
  obtain ⟨p', c', w', hrun, h2, h3, h4⟩ := run_app_at (ty := o.type) und8 hi hz0 hz1 hz2 hat (c2 := c2) hsrc hlen
  refine wpList_plain hgd fun K hK => ?_
  unfold Oper.wp execOp
  simp only [ho, resolve, invoke, builtin, Sem.run_bind, Sem.run_pure, Result.andThen_ok, List.map_toArray, List.map_cons, List.map_nil, hs, hx, hrun]
  exact hK _ _ (h p' c' w' h2 h3 h4)

set_option maxRecDepth 100000 in
set_option maxHeartbeats 1000000 in
theorem rwvec_any {B g : Nat} {p : Option Nat} {r : List UInt8 × Bool} {w : World} (h : Rw w B g p r) (k : Nat) (size : Int) (hk : clampI size = k) (hk2 : k ≤ 2) (A : Option Addr) (n c : Nat) (x : List UInt8) (hs : Src w A n x) (hn : n ≤ 9223372036854775807) (hl : r.1.length ≤ 140737488200000) :
    Calls Try.prog 24 #[.pointer (some ⟨g, 0, none⟩), .int .i64 size, .slice A n c] w (RowPost B g p (vecW k r x) w) := by
  obtain ⟨bs, bad⟩ := r
  have hne := h.ne
  obtain ⟨⟨c0, hb, ha⟩, hpB, hgB⟩ := h
  simp only at hb ha hl
  have hltg := hb.lt
  have HB := Lib.hid hb
  have HA := Lib.hid ha
  have HNE := Lib.hid hne
  have HP := Lib.hid hpB
  have HS := Lib.hid hs
  -- what Vec answers
  obtain ⟨ok, ys, hok⟩ : ∃ (ok : Bool) (ys : List UInt8), (vecW k (bs, bad) x = (bs ++ ys, bad || !ok) ∧ ys.length ≤ 70000) ∧
      Calls Try.prog 46 #[.slice none 0 0, .int .i64 size, .slice A n c] w fun e w' => e = .returned (.tuple #[.slice (some ⟨w.heap.size, 0, none⟩) ys.length ys.length, .bool ok]) ∧ Blk w' w.heap.size 5 (cellsOf ys).toArray ∧ Below w.heap.size w w' := by
    have hxl := hs.1
    by_cases hlong : (n : Int) < 256 ^ k
    · have h16 : n < 65536 := by
        have : (256 : Int) ^ k ≤ 65536 := by
          have h1 : (256 : Nat) ^ k ≤ 256 ^ 2 := Nat.pow_le_pow_right (by omega) hk2
          have h2 : ((256 ^ k : Nat) : Int) = 256 ^ k := by rw [Int.natCast_pow]; rfl
          rw [← h2]
          have e2 : (256 : Nat) ^ 2 = 65536 := rfl
          omega
        omega
      refine ⟨true, vecB k x, ⟨?_, by rw [vecB_len]; omega⟩, ?_⟩
      · unfold vecW
        rw [if_pos (by rw [hxl]; exact hlong)]
        simp
      · refine (vec_yes none 0 0 k A n c size [] x w (Src.nil _) hs (by omega) hk hlong).mono ?_
        rintro e w' ⟨rfl, h1, h2⟩
        refine ⟨?_, ?_, h2⟩
        · rw [vecB_len, hxl, Nat.zero_add]
        · rw [vecB, hxl]; exact h1
    · refine ⟨false, [], ⟨?_, by simp⟩, ?_⟩
      · unfold vecW
        rw [if_neg (by rw [hxl]; exact hlong)]
        simp
      · refine (vec_no none 0 0 k A n c size [] w (Src.nil _) (by omega) hk hn hlong).mono ?_
        rintro e w' ⟨rfl, h1, h2⟩
        exact ⟨rfl, h1, h2⟩
  obtain ⟨⟨hW, hyl⟩, hcall⟩ := hok
  have HW := Lib.hid hW
  have HC := Lib.hid hcall
  clear hb ha hne hpB hs hW hcall
  generalize hm : bs.length = m at *
  have HM := Lib.hid hm
  clear hm
  go_enter Try.func24, Try.ntmps24
  go_wp2_with fail
  refine HC.out.mono ?_
  rintro e w2 ⟨rfl, hb2, hbel2⟩
  have HA2 := Lib.hid (HA.out.but (But.of_below hbel2 []) (by simp))
  have HB2 := Lib.hid (HB.out.below hbel2 hltg)
  have HY2 := Lib.hid hb2
  have HL2 := Lib.hid (But.of_below hbel2 (g :: p.toList))
  have hsz2 : w.heap.size ≤ w2.heap.size := hbel2.size
  clear hb2 hbel2
  have hc1 : w2.cell? ⟨g, 1, none⟩ = some (.bool bad) := by rw [HB2.out.cell]; rfl
  have hf1 := HB2.out.frozen 1
  have hfin : ∀ w3, w3 = w2.setCell ⟨g, 1, none⟩ (.bool (bad || !ok)) → Blk w3 g 49 #[.slice (ad p) m c0, .bool (bad || !ok)] ∧ At w3 p c0 bs ∧ Src w3 (some ⟨w.heap.size, 0, none⟩) ys.length ys ∧ But (g :: p.toList) w w3 ∧ w.heap.size ≤ w3.heap.size := fun w3 e => by
    subst e
    have hbut : But [g] w2 (w2.setCell ⟨g, 1, none⟩ (.bool (bad || !ok))) := (But.refl _ _).set_ (p := ⟨g, 1, none⟩) (.inl (by simp)) _
    have h := HB2.out.set_ 1 (.bool (bad || !ok))
    rw [set2_1] at h
    refine ⟨h, HA2.out.but hbut (fun b hb hm => by simp at hm; subst hm; exact HNE.out hb), ?_, HL2.out.trans (hbut.more (by simp)), by simpa [World.setCell] using hsz2⟩
    exact Src.of_blk (off := 0) (HY2.out.but hbut (by simp; omega)) (xs := ys) (fun j c hj => by rw [Nat.zero_add]; simpa using cellsOf_get hj)
  have HF := Lib.hid hfin
  clear hfin
  have hend : ∀ w3, w3 = w2.setCell ⟨g, 1, none⟩ (.bool (bad || !ok)) → ∀ p4 c4 w4, At w4 p4 c4 (bs ++ ys) → (p4 = p ∨ p4 = some w3.heap.size) → But p.toList w3 w4 → RowPost B g p (vecW k (bs, bad) x) w (.returned (.tuple #[])) (w4.setCell ⟨g, 0, none⟩ (.slice (ad p4) (m + ys.length) c4)) := fun w3 e p4 c4 w4 a4 hp4 u4 => by
    obtain ⟨f1, f2, f3, f4, f5⟩ := HF.out w3 e
    rw [HW.out]
    refine ⟨rfl, p4, row_set f1 HM.out u4 a4 HNE.out hp4 f5 hltg hgB HP.out, ?_, (f4.trans (u4.more (fun i hi => List.mem_cons_of_mem _ hi))).trans ((But.refl _ _).set_ (p := ⟨g, 0, none⟩) (.inl (by simp)) _)⟩
    rcases hp4 with h | h
    · exact .inl h
    · exact .inr ⟨_, h, f5⟩
  have HE := Lib.hid hend
  clear hend
  have hgp : g ∉ p.toList := fun hx => HNE.out (Option.mem_toList.1 hx)
  have HGP := Lib.hid hgp
  clear hgp
  cases bad with
  | true =>
    go_upto_region 2 with fail
    obtain ⟨f1, f2, f3, f4, f5⟩ := HF.out _ rfl
    have HEE := HE.out _ rfl
    simp only [Bool.true_or] at f1 f2 f3 f4 f5 HEE
    generalize w2.setCell ⟨g, 1, none⟩ (.bool true) = w3 at *
    have hc0 : w3.cell? ⟨g, 0, none⟩ = some (.slice (ad p) m c0) := by rw [f1.cell]; rfl
    have H1 := Lib.hid f1
    have H2 := Lib.hid f2
    have H3 := Lib.hid f3
    have HE2 := Lib.hid HEE
    clear f1 f2 f3 f4 HEE hc1 hf1
    generalize hy : ys.length = y at *
    have HY := Lib.hid hy
    clear hy
    go_wp2_with (at_builtin; refine wpList_app_own (some 31) rfl rfl (.tmp 29) (.tmp 30) rfl p m c0 bs rfl HM.out.symm H2.out _ y y ys rfl (by exact H3.out) (by omega) ?_; intro p4 c4 w4 HA4 HP4 HU4; have hfr : w4.frozen? ⟨g, 0, none⟩ = false := (H1.out.but HU4.out HGP.out).frozen 0; have hc4 : w4.cell? ⟨g, 0, none⟩ = some (.slice (ad p) m c0) := by rw [(H1.out.but HU4.out HGP.out).cell]; rfl)
    go_end0
    exact HE2.out p4 c4 w4 HA4.out HP4.out HU4.out
  | false =>
    go_upto_region 2 with fail
    obtain ⟨f1, f2, f3, f4, f5⟩ := HF.out _ rfl
    have HEE := HE.out _ rfl
    simp only [Bool.false_or] at f1 f2 f3 f4 f5 HEE
    generalize w2.setCell ⟨g, 1, none⟩ (.bool (!ok)) = w3 at *
    have hc0 : w3.cell? ⟨g, 0, none⟩ = some (.slice (ad p) m c0) := by rw [f1.cell]; rfl
    have H1 := Lib.hid f1
    have H2 := Lib.hid f2
    have H3 := Lib.hid f3
    have HE2 := Lib.hid HEE
    clear f1 f2 f3 f4 HEE hc1 hf1
    generalize hy : ys.length = y at *
    have HY := Lib.hid hy
    clear hy
    go_wp2_with (at_builtin; refine wpList_app_own (some 31) rfl rfl (.tmp 29) (.tmp 30) rfl p m c0 bs rfl HM.out.symm H2.out _ y y ys rfl (by exact H3.out) (by omega) ?_; intro p4 c4 w4 HA4 HP4 HU4; have hfr : w4.frozen? ⟨g, 0, none⟩ = false := (H1.out.but HU4.out HGP.out).frozen 0; have hc4 : w4.cell? ⟨g, 0, none⟩ = some (.slice (ad p) m c0) := by rw [(H1.out.but HU4.out HGP.out).cell]; rfl)
    go_end0
    exact HE2.out p4 c4 w4 HA4.out HP4.out HU4.out

set_option maxRecDepth 100000 in
set_option maxHeartbeats 1000000 in
theorem rwwithin_any {B g : Nat} {p : Option Nat} {r : List UInt8 × Bool} {w : World} (h : Rw w B g p r) (k : Nat) (size : Int) (hk : clampI size = k) (hk2 : k ≤ 2) (A : Option Addr) (n c : Nat) (x : List UInt8 × Bool) (hs : Src w A n x.1) (hA : ∀ y, A = some y → y.block ≠ g) (hn : n ≤ 9223372036854775807) (hl : r.1.length ≤ 140737488200000) :
    Calls Try.prog 25 #[.pointer (some ⟨g, 0, none⟩), .int .i64 size, .agg #[.slice A n c, .bool x.2]] w (RowPost B g p (withinW k r x) w) := by
  obtain ⟨bs, bad⟩ := r
  obtain ⟨xb, xo⟩ := x
  have hne := h.ne
  obtain ⟨⟨c0, hb, ha⟩, hpB, hgB⟩ := h
  simp only at hb ha hl hs
  have hltg := hb.lt
  have hc1 : w.cell? ⟨g, 1, none⟩ = some (.bool bad) := by rw [hb.cell]; rfl
  have hf1 := hb.frozen 1
  have hfin : ∀ w3, w3 = (w.setCell ⟨g, 1, none⟩ (.bool (bad || xo))).alloc (.cells #[.slice A n c, .bool xo] 49) → Rw w3 B g p (bs, bad || xo) ∧ Src w3 A n xb ∧ But [g] w w3 := fun w3 e => by
    subst e
    have hbut : But [g] w (w.setCell ⟨g, 1, none⟩ (.bool (bad || xo))) := (But.refl _ _).set_ (p := ⟨g, 1, none⟩) (.inl (by simp)) _
    have hu : But [g] w ((w.setCell ⟨g, 1, none⟩ (.bool (bad || xo))).alloc (.cells #[.slice A n c, .bool xo] 49)) := hbut.alloc _
    have h := hb.set_ 1 (.bool (bad || xo))
    rw [set2_1] at h
    exact ⟨⟨⟨c0, h.alloc _, ha.but hu (fun b e hm => hne (by rw [e, List.mem_singleton.1 hm]))⟩, hpB, hgB⟩, hs.but hu (fun _ y e hm => hA y e (List.mem_singleton.1 hm)), hu⟩
  have HF := Lib.hid hfin
  clear hfin hb ha hs
  cases bad with
  | true =>
    go_enter Try.func25, Try.ntmps25
    go_upto_region 2 with fail
    obtain ⟨f1, f2, f3⟩ := HF.out _ rfl
    simp only [Bool.true_or] at f1 f2 f3
    have HW := Lib.hid (show withinW k (bs, true) (xb, xo) = vecW k (bs, true) xb from by simp [withinW])
    have hx0 : ((w.setCell ⟨g, 1, none⟩ (.bool true)).alloc (.cells #[.slice A n c, .bool xo] 49)).cell? ⟨w.heap.size, 0, none⟩ = some (.slice A n c) := by
      rw [Blk.cell (blk_at _ _ _ _ _ (by simp [World.setCell]) rfl)]; rfl
    have H1 := Lib.hid f1
    have H2 := Lib.hid f2
    have H3 := Lib.hid f3
    clear f1 f2 f3 hc1 hf1
    generalize (w.setCell ⟨g, 1, none⟩ (.bool true)).alloc (.cells #[.slice A n c, .bool xo] 49) = w3 at *
    go_wp2_with fail
    refine (rwvec_any H1.out k size hk hk2 A n c xb H2.out hn hl).mono ?_
    rintro e w4 ⟨rfl, p4, r4, hp4, u4⟩
    have R4 := Lib.hid r4
    have HP4 := Lib.hid hp4
    have HU4 := Lib.hid u4
    clear r4 hp4 u4
    go_wp2_with fail
    go_end0
    rw [HW.out]
    refine ⟨rfl, p4, R4.out, ?_, (H3.out.more (by simp)).trans HU4.out⟩
    rcases HP4.out with h | ⟨q, h, hq⟩
    · exact .inl h
    · exact .inr ⟨q, h, Nat.le_trans H3.out.size hq⟩
  | false =>
    go_enter Try.func25, Try.ntmps25
    go_upto_region 2 with fail
    obtain ⟨f1, f2, f3⟩ := HF.out _ rfl
    simp only [Bool.false_or] at f1 f2 f3
    have HW := Lib.hid (show withinW k (bs, false) (xb, xo) = vecW k (bs, xo) xb from by simp [withinW])
    have hx0 : ((w.setCell ⟨g, 1, none⟩ (.bool xo)).alloc (.cells #[.slice A n c, .bool xo] 49)).cell? ⟨w.heap.size, 0, none⟩ = some (.slice A n c) := by
      rw [Blk.cell (blk_at _ _ _ _ _ (by simp [World.setCell]) rfl)]; rfl
    have H1 := Lib.hid f1
    have H2 := Lib.hid f2
    have H3 := Lib.hid f3
    clear f1 f2 f3 hc1 hf1
    generalize (w.setCell ⟨g, 1, none⟩ (.bool xo)).alloc (.cells #[.slice A n c, .bool xo] 49) = w3 at *
    go_wp2_with fail
    refine (rwvec_any H1.out k size hk hk2 A n c xb H2.out hn hl).mono ?_
    rintro e w4 ⟨rfl, p4, r4, hp4, u4⟩
    have R4 := Lib.hid r4
    have HP4 := Lib.hid hp4
    have HU4 := Lib.hid u4
    clear r4 hp4 u4
    go_wp2_with fail
    go_end0
    rw [HW.out]
    refine ⟨rfl, p4, R4.out, ?_, (H3.out.more (by simp)).trans HU4.out⟩
    rcases HP4.out with h | ⟨q, h, hq⟩
    · exact .inl h
    · exact .inr ⟨q, h, Nat.le_trans H3.out.size hq⟩
end Go.Proofs.Ytpnidmegeimboaa.He
