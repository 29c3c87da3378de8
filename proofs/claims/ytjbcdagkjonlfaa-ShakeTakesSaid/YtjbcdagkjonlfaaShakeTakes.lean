/-
  'A message, byte by byte' (hagioscopelaw08.ShakeTakes) holds: whatever the bytes, the call returns true and leaves what was there as it was. No condition.
-/
import Derived.Test.YtjbcdagkjonlfaaShSmall
import Derived.Test.YtjbcdagkjonlfaaShRefTk
import Derived.Test.YtjbcdagkjonlfaaLift
import Derived.Deep.RegionHeld
namespace Go.Proofs.Ytjbcdagkjonlfaa.shakeTakes
open Go.ChangeShapes Go.WideShapes Go.ChangeAt Go.RowKit
open Go.ChangeMaps (open_string shut_string)
open Go.Proofs.Ytjbcdagkjonlfaa.Wd Go.Proofs.Ytjbcdagkjonlfaa.Sh Go.Proofs.Ytjbcdagkjonlfaa.Lift

/-- both messages, each behind the blocks that were there -/
structure Two (B : Nat) (w a : World) (g : Nat) (p : Option Nat) (m : M) (y : Nat) (q : Option Nat) (s : List UInt8 × Nat) : Prop where
  kx : Kept B w a g p m
  ry : Rb a y q s
  hy : B ≤ y
  hq : ∀ b, q = some b → B ≤ b
  gy : g ≠ y
  pq : Sep p q
  rel : Rel s m
section
variable {B : Nat} {w a b : World} {g y : Nat} {p q : Option Nat} {m : M} {s : List UInt8 × Nat}
theorem py (h : Kept B w a g p m) (hy : Rb a y q s) : p ≠ some y := by
  obtain ⟨c, _, h2⟩ := h.rd
  obtain ⟨c', h3, _⟩ := hy
  exact h2.ne h3 (by decide)
theorem qg (h : Kept B w a g p m) (hy : Rb a y q s) : q ≠ some g := by
  obtain ⟨c, h1, _⟩ := h.rd
  obtain ⟨c', _, h4⟩ := hy
  exact h4.ne h1 (by decide)
theorem Two.same (h : Two B w a g p m y q s) (k : But [] a b) : Two B w b g p m y q s :=
  ⟨h.kx.same k, h.ry.same k, h.hy, h.hq, h.gy, h.pq, h.rel⟩
/-- our machine took a byte, the document's did not yet -/
structure Half (B : Nat) (w a : World) (g : Nat) (p : Option Nat) (m2 : M) (y : Nat) (q : Option Nat) (s : List UInt8 × Nat) (m : M) : Prop where
  kx : Kept B w a g p m2
  ry : Rb a y q s
  hy : B ≤ y
  hq : ∀ b, q = some b → B ≤ b
  gy : g ≠ y
  pq : Sep p q
  rel : Rel s m
  ok : OkM m
theorem take_x (h : Two B w a g p m y q s) (c : UInt8) :
    Calls Try.prog 11 #[.pointer (some ⟨g, 0, none⟩), .int .u8 (c.toNat : Int)] a fun e w' =>
      e = .returned (.tuple #[.bool (wholeM (stepM m c)), .int .i64 ((stepM m c).e : Int)]) ∧ ∃ p', Half B w w' g p' (stepM m c) y q s m :=
  (take_kept h.kx c).mono fun e w' ⟨he, p', hk, hp, hb⟩ => by
    refine ⟨he, p', hk, h.ry.but hb ?_ ?_, h.hy, h.hq, h.gy, h.pq.turn hp (fun b hb => h.ry.qlt hb), h.rel, h.kx.ok⟩
    · intro hm
      rcases List.mem_cons.1 hm with e | e
      · exact h.gy e.symm
      · exact py h.kx h.ry (Option.mem_toList.1 e)
    · intro i hi hm
      rcases List.mem_cons.1 hm with e | e
      · exact qg h.kx h.ry (by rw [hi, e])
      · exact h.pq i (Option.mem_toList.1 e) hi
theorem take_y {c : UInt8} (h : Half B w a g p (stepM m c) y q s m) :
    Calls Try.prog 12 #[.pointer (some ⟨y, 0, none⟩), .int .u8 (c.toNat : Int)] a fun e w' =>
      e = .returned (.tuple #[.bool (wholeM (stepM m c)), .int .i64 ((stepM m c).e : Int)]) ∧ ∃ q', Two B w w' g p (stepM m c) y q' (stepR s c) :=
  (rtake_any h.ry (rel_few h.rel h.ok) c).mono fun e w' ⟨he, q', hr, hq, hb⟩ => by
    have hrel := rel_step h.rel h.ok c
    refine ⟨by rw [he, rel_whole hrel h.kx.ok, hrel.er], q', h.kx.beside hb ?_ ?_ ?_, hr, h.hy, ?_, h.gy, (h.pq.symm.turn hq (fun b hb => h.kx.rd.plt hb)).symm, hrel⟩
    · intro hm
      rcases List.mem_cons.1 hm with e | e
      · exact h.gy e
      · exact qg h.kx h.ry (Option.mem_toList.1 e)
    · intro i hi
      rcases List.mem_cons.1 hi with e | e
      · rw [e]; exact py h.kx h.ry
      · exact fun e2 => h.pq i e2 (Option.mem_toList.1 e)
    · intro i hi
      rcases List.mem_cons.1 hi with e | e
      · rw [e]; exact h.hy
      · exact h.hq i (Option.mem_toList.1 e)
    · intro b hb
      rcases hq b hb with e | e
      · exact h.hq b e
      · exact Nat.le_trans h.kx.hB e
theorem rel_low {s : List UInt8 × Nat} {m : M} (h : Rel s m) (k : OkM m) : s.2 = 0 → 4 ≤ s.1.length → s.1.length ≤ 4 + sizeR s.1 := by
  intro h0 _
  rw [h.er] at h0
  have l := h.len h0
  have z := h.sz h0
  have b := k.bd h0
  have := k.h4
  omega
theorem want_x (h : Two B w a g p m y q s) : Calls Try.prog 13 #[.pointer (some ⟨g, 0, none⟩)] a fun e w' => e = .returned (.int .i64 (wantM m : Int)) ∧ Two B w w' g p m y q s :=
  (want_kept h.kx).mono fun e w' ⟨he, n, hn⟩ => ⟨he, by rw [hn]; exact h.same ((But.refl [] a).drewN n)⟩
theorem want_y (h : Two B w a g p m y q s) : Calls Try.prog 14 #[.pointer (some ⟨y, 0, none⟩)] a fun e w' => e = .returned (.int .i64 (wantM m : Int)) ∧ Two B w w' g p m y q s :=
  (rwant_any h.ry (rel_few h.rel h.kx.ok) (rel_low h.rel h.kx.ok)).mono fun e w' ⟨he, n, hn⟩ => ⟨by rw [he, rel_want h.rel h.kx.ok], by rw [hn]; exact h.same ((But.refl [] a).drewN n)⟩
theorem body_x (h : Two B w a g p m y q s) : Calls Try.prog 15 #[.pointer (some ⟨g, 0, none⟩)] a fun e w' => ∃ A c, e = .returned (.slice A (bodyM m).length c) ∧ Src w' A (bodyM m).length (bodyM m) ∧ Two B w w' g p m y q s :=
  (body_kept h.kx).mono fun e w' ⟨v, he, ho, hk, hb⟩ => by
    obtain ⟨A, c, rfl, -, hs, -⟩ := ho.cut_
    exact ⟨A, c, he, hs, h.same (But.of_below hb [])⟩
theorem body_y (h : Two B w a g p m y q s) : Calls Try.prog 16 #[.pointer (some ⟨y, 0, none⟩)] a fun e w' => ∃ A c, e = .returned (.slice A (bodyM m).length c) ∧ Src w' A (bodyM m).length (bodyM m) ∧ (∃ n, w' = a.drewN n) ∧ Two B w w' g p m y q s :=
  (rbody_any h.ry (rel_few h.rel h.kx.ok)).mono fun e w' ⟨A, c, he, hs, n, hn⟩ => by
    rw [rel_body h.rel h.kx.ok] at he hs
    exact ⟨A, c, he, hs, ⟨n, hn⟩, by rw [hn]; exact h.same ((But.refl [] a).drewN n)⟩
end
def runS (s : List UInt8 × Nat) (xs : List UInt8) : List UInt8 × Nat := xs.foldl stepR s
theorem runS_one {s : List UInt8 × Nat} {xs : List UInt8} {k : Nat} {c : UInt8} (h : xs[k]? = some c) : runS s (xs.take (k + 1)) = stepR (runS s (xs.take k)) c := by
  unfold runS
  rw [List.take_add_one, h, List.foldl_append]
  rfl

theorem walk_out (w : World) (A : Option Addr) (n cap : Nat) (hc : n ≤ 9223372036854775807) (h : 3000 < n) :
    Calls Try.prog 3 #[.slice A n cap] w fun e w' => e = .returned (.bool true) ∧ Below w.heap.size w w' := by
  have h1 : (3000 : Int) < (n : Int) := by omega
  clear h
  go_enter Try.func3, Try.ntmps3
  go_wp2_with fail
  refine (small_any w).mono ?_
  rintro e w1 ⟨rfl, hb1⟩
  go_wp2_with fail
  refine (new_kept w w1 hb1 hb1.size).mono ?_
  rintro e w2 ⟨g, rfl, hk, -, -⟩
  have HB := Lib.hid (show Below w.heap.size w (w2.alloc (.cells #[.slice none 0 0, .int .i64 0] 29)) from hk.bel.alloc (by exact hk.bel.size) _)
  clear hk hb1
  go_wp2_with fail
  go_ret
  exact ⟨rfl, HB.out⟩

set_option maxRecDepth 100000 in
set_option maxHeartbeats 2000000 in
theorem walk_few (w : World) (A : Option Addr) (n cap : Nat) (xs : List UInt8) (hs : Src w A n xs) (hn : n ≤ 3000) :
    Calls Try.prog 3 #[.slice A n cap] w fun e w' => e = .returned (.bool true) ∧ Below w.heap.size w w' := by
  have HS := Lib.hid hs
  have HL := Lib.hid hs.1
  have hn1 : (n : Int) ≤ 3000 := by omega
  clear hs
  go_enter Try.func3, Try.ntmps3
  go_wp2_with fail
  refine (small_any w).mono ?_
  rintro e w1 ⟨rfl, hb1⟩
  go_wp2_with fail
  refine (new_kept w w1 hb1 hb1.size).mono ?_
  rintro e w2 ⟨g, rfl, hk, -, -⟩
  have hglt := hk.rd.lt
  have HT := Lib.hid (show Two w.heap.size w (w2.alloc (.cells #[.slice none 0 0, .int .i64 0] 29)) g none M.st w2.heap.size none ([], 0) from
    ⟨hk.same ((But.refl [] w2).alloc _), ⟨0, Blk.new _ _ _, At.nil _⟩, hk.hB, fun b hb => (by cases hb), by omega, fun b hb => (by cases hb), Rel.st⟩)
  clear hk hb1 hglt
  go_wp2_with fail
  generalize w2.alloc (.cells #[.slice none 0 0, .int .i64 0] 29) = w3 at *
  generalize w2.heap.size = y at *
  go_loopw [6] (fun i wr => ∃ (k : Nat) (p q : Option Nat), k ≤ n ∧ i = .int .i64 (k : Int) ∧ Hid (Two w.heap.size w wr g p (runM M.st (xs.take k)) y q (runS ([], 0) (xs.take k)))) (fun i _ => n - (intOf i).toNat)
  case atStart => exact ⟨0, none, none, Nat.zero_le _, rfl, HT⟩
  case round =>
    clear HT
    obtain ⟨k, p, q, hk, rfl, HT⟩ := hrel
    by_cases hlt : k < n
    · have hki : (k : Int) < (n : Int) := by omega
      obtain ⟨ad, rfl, hadb, hc⟩ := HS.out.2 (by omega)
      obtain ⟨c, hx⟩ : ∃ c, xs[k]? = some c := ⟨_, List.getElem?_eq_getElem (by have := HL.out; omega)⟩
      have HCell := Lib.hid (fun w' (h : Below w.heap.size w w') => show w'.cell? (ad.add k) = some (.int .u8 (c.toNat : Int)) from (h.cell (by rw [block_of_add]; exact hadb)).trans (hc k c hx))
      have hcell := HCell.out wr HT.out.kx.bel
      have HR := Lib.hid (run_one (m := M.st) hx)
      have HRs := Lib.hid (runS_one (s := ([], 0)) hx)
      clear hc hx
      go_wp2_with fail
      refine (take_x HT.out c).mono ?_
      rintro e w4 ⟨rfl, p4, ht4⟩
      have HH := Lib.hid ht4
      have hcell4 := HCell.out w4 ht4.kx.bel
      clear ht4 hcell HT
      go_wp2_with fail
      refine (take_y HH.out).mono ?_
      rintro e w5 ⟨rfl, q5, ht5⟩
      rw [← HR.out, ← HRs.out] at ht5
      rw [← HR.out]
      have HT := Lib.hid ht5
      have HM := Lib.hid ht5.kx.ok
      clear ht5 hcell4 HCell HH HR HRs
      obtain ⟨m2, hm2⟩ : ∃ m2, runM M.st (xs.take (k + 1)) = m2 := ⟨_, rfl⟩
      have HM2 := Lib.hid hm2
      obtain ⟨s2, hs2⟩ : ∃ s2, runS ([], 0) (xs.take (k + 1)) = s2 := ⟨_, rfl⟩
      have HS2 := Lib.hid hs2
      rw [hm2, hs2] at HT
      rw [hm2]
      have HT1 := Lib.hid (show Two w.heap.size w w5.drew g p4 m2 y q5 s2 from HT.out.same ((But.refl [] w5).drew))
      obtain ⟨sb, hsb⟩ : ∃ sb : ByteArray, (⟨(bodyM m2).toArray⟩ : ByteArray) = sb := ⟨_, rfl⟩
      have HSb := Lib.hid hsb
      clear hm2 hs2 hsb HM HT
      generalize wholeM m2 = wb at *
      generalize m2.e = er at *
      have HWn := Lib.hid (rfl : wantM m2 = wantM m2)
      clear HWn
      cases wb
      all_goals
        go_wp2_with fail
        go_region_held (fun _ => True) (exact True.intro)
          (first
            | (go_at_call 13; refine (want_x HT1.out).mono ?_; rintro e w6 ⟨rfl, ht6⟩; have HT6 := Lib.hid ht6; clear ht6)
            | (go_at_call 14; refine (want_y HT6.out).mono ?_; rintro e w7 ⟨rfl, ht7⟩; have HT7 := Lib.hid ht7; clear ht7)
            | (go_at_call 15; refine (body_x HT7.out).mono ?_; rintro e w8 ⟨A8, c8, rfl, hs8, ht8⟩; have k8 := con8 (c := c8) hs8; rw [HSb.out] at k8; have HT8 := Lib.hid ht8; have HS8 := Lib.hid hs8; clear ht8 hs8)
            | (go_at_call 16; refine (body_y HT8.out).mono ?_; rintro e w9 ⟨A9, c9, rfl, hs9, hw9, ht9⟩; have k9 := con8 (c := c9) hs9; have k89 := con8 (c := c8) (show Src w9 A8 _ _ from by obtain ⟨n9, rfl⟩ := hw9; exact HS8.out); rw [HSb.out] at k9 k89; have HT9 := Lib.hid ht9; clear ht9 hs9 hw9))
        all_goals
          go_wp2_with fail
          go_roundw
          case rel => exact ⟨k + 1, p4, q5, by omega, by go_num, by rw [HM2.out, HS2.out]; exact HT9⟩
          case measure => simp [intOf]; omega
    · obtain rfl : k = n := by omega
      have HB := Lib.hid HT.out.kx.bel
      go_wp2_with fail
      go_ret
      exact ⟨rfl, HB.out⟩

theorem walk (W : World) (A : Option Addr) (n cap : Nat) (xs : List UInt8) (h1 : n ≤ cap) (h2 : cap ≤ maxLen) (hs : Src W A n xs) :
    Calls Try.prog 3 #[.slice A n cap] W fun e w' => e = .returned (.bool true) ∧ Below W.heap.size W w' := by
  unfold maxLen at h2
  by_cases h : 3000 < n
  · exact walk_out W A n cap (by omega) h
  · exact walk_few W A n cap xs hs (by omega)

set_option maxRecDepth 100000 in
set_option linter.unusedVariables false in
theorem lifted (os : Os) (started : os.Started) (H : Type) (enc : TypeId × Value → H) :
    ReturnsInHanded {} Try.checked os 3 .any (Rows.shakeTakesSpec.pre6 enc Try.prog Try.f3 Rows.shakeTakesRow.domain false) (Rows.shakeTakesSpec.post enc Try.prog Try.f3 false true false false) := by
  refine returnsInHanded_of_change (C := Try.checked) own started (by kernel_rfl) Try.func3
    (ChangeSpec.witness6 (enc := enc) (C := Try.checked) false ⟨#[], #[.slice none 0 0], []⟩ 8 (by kernel_rfl) (by kernel_rfl) (by kernel_rfl) (by kernel_rfl)) ?_
  intro W base args ds gs before hval0 hW hcnd _
  have hval : ∀ (j : Nat) t v, Try.f3.params[j]? = some t → args[j]? = some v → Value.okWide Try.prog W .any base t v := hval0
  have hW' := hW
  obtain ⟨p, q, hA0, hV, rfl, hfz, hnd⟩ := hW
  have hA : DataW.TrodAll enc Try.prog W 0 (fun _ => true) true Try.f3.params.toList args.toList ds p := hA0
  rw [Try.params3] at hA hval
  obtain ⟨v0, vs0, d0, ds0, p0, q0, hargs, rfl, rfl, h0, r0⟩ := trodAll_cons hA
  obtain ⟨rfl, rfl, rfl⟩ := trodAll_nil r0
  obtain rfl : args = #[v0] := by cases args; simp_all
  obtain ⟨rfl, rfl⟩ := trodVars_none hV
  have k0 := h0
  have lt0 : ∀ x ∈ p0, x.block < W.heap.size := by obtain ⟨m, hm⟩ := k0; exact DataW.trod_lt m _ _ _ hm
  obtain ⟨A0, n0, cap0, xs0, rfl, le0, mx0, src0⟩ := open_bytes (hval 0 22 v0 rfl rfl) h0
  clear hA0 hval0
  refine (walk W A0 n0 cap0 xs0 le0 mx0 src0).mono fun e W' ⟨he, bel⟩ => ?_
  subst he
  exact ⟨_, rfl, _, _, _, [], _, [], hW', trodAll_mk1 (shut_bool Try.underlying4 _), (trodAll_cons_mk (Below.trod laidOut (by kernel_rfl) (of_decide_eq_true (by kernel_rfl)) k0 bel lt0) trodAll_mk0), rfl, bel.frame _, fun h => by cases h⟩

theorem over : Rows.shakeTakesRow.holds Try.pinned (OpenSpec.ofChange Rows.shakeTakesSpec) :=
  OpenClaim.holds_of_wide 3 Try.f3 rfl rfl rfl rfl rfl rfl rfl ⟨rfl, rfl, rfl, rfl, rfl⟩ rfl rfl rfl rfl rfl (by kernel_rfl) Try.func3 (by kernel_rfl)
    (of_decide_eq_true (by kernel_rfl)) (by unfold Func.isWrapper; first | (rw [if_pos (by decide +kernel)]; kernel_rfl) | (rw [if_neg (by decide +kernel)]; exact ⟨rfl, rfl⟩))
    (fun os started H enc _ => lifted os started H enc)

theorem proved : Rows.ShakeTakesSaid := over
#print axioms proved
end Go.Proofs.Ytjbcdagkjonlfaa.shakeTakes
