/-
  Contracts of the document's own message (hagioscoperef08) over this seat's translation: size, Whole, Want, Body.
-/
import Derived.Test.YtjbcdagkjonlfaaShTk
import Derived.Test.YtjbcdagkjonlfaaShRefP
import Derived.LoopTactic
namespace Go.Proofs.Ytjbcdagkjonlfaa.Sh
open Go.RowKit Go.Proofs.Ytjbcdagkjonlfaa.Wd

/-- the document's message at block y, its bytes in block q -/
def Rb (w : World) (y : Nat) (q : Option Nat) (s : List UInt8 × Nat) : Prop :=
  ∃ c, Blk w y 29 #[.slice (ad q) s.1.length c, .int .i64 (s.2 : Int)] ∧ At w q c s.1
section
variable {w w' : World} {y : Nat} {q : Option Nat} {s : List UInt8 × Nat} {S : List Nat}
theorem Rb.but (h : Rb w y q s) (k : But S w w') (hg : y ∉ S) (hp : ∀ b, q = some b → b ∉ S) : Rb w' y q s := by
  obtain ⟨c, h1, h2⟩ := h
  exact ⟨c, h1.but k hg, h2.but k hp⟩
theorem Rb.same (h : Rb w y q s) (k : But [] w w') : Rb w' y q s := h.but k (by simp) (by simp)
theorem Rb.lt (h : Rb w y q s) : y < w.heap.size := by
  obtain ⟨c, h1, _⟩ := h
  exact h1.lt
theorem Rb.qlt (h : Rb w y q s) {b : Nat} (hb : q = some b) : b < w.heap.size := by
  obtain ⟨c, _, h2⟩ := h
  exact h2.lt hb
theorem Rb.ne (h : Rb w y q s) : q ≠ some y := by
  obtain ⟨c, h1, h2⟩ := h
  exact h2.ne h1 (by decide)
end

set_option maxHeartbeats 1000000 in
theorem rsize_any {w : World} {y : Nat} {q : Option Nat} {s : List UInt8 × Nat} (h : Rb w y q s) :
    Calls Try.prog 22 #[.pointer (some ⟨y, 0, none⟩)] w fun e w' => e = .returned (.int .i64 (sizeR s.1 : Int)) ∧ w = w' := by
  obtain ⟨cp, hb, ha⟩ := h
  obtain ⟨bs, er⟩ := s
  simp only at hb ha
  show Calls _ _ _ _ fun e w' => e = .returned (.int .i64 (sizeR bs : Int)) ∧ w = w'
  have hc0 : w.cell? ⟨y, 0, none⟩ = some (.slice (ad q) bs.length cp) := by rw [hb.cell]; rfl
  have HA := Lib.hid ha.src.2
  have HSz := Lib.hid (show sizeR bs = szK bs 4 from rfl)
  have hE1 := Lib.hid (show szK bs 1 = 0 from rfl)
  clear hb ha
  generalize ad q = A at *
  obtain ⟨n, hn⟩ : ∃ n, n = bs.length := ⟨_, rfl⟩
  rw [← hn] at hc0 HA
  have HN := Lib.hid hn
  clear hn
  go_enter Try.func22, Try.ntmps22
  go_wp2_with fail
  go_loopw [3, 4] (fun nv i wr => ∃ k : Nat, 1 ≤ k ∧ k ≤ 4 ∧ nv = .int .i64 (szK bs k : Int) ∧ i = .int .i64 (k : Int) ∧ w = wr) (fun _ i _ => 4 - (intOf i).toNat)
  case atStart => exact ⟨1, Nat.le_refl _, by omega, rfl, rfl, rfl⟩
  case round =>
    obtain ⟨k, hk1, hk4, rfl, rfl, rfl⟩ := hrel
    by_cases hlt : k < 4
    · have hki : (k : Int) < 4 := by omega
      have HSt := Lib.hid (szK_step bs k hk1)
      have hN := szK_lt bs k hk1 (by omega)
      by_cases hb : k < n
      · have hbi : (k : Int) < (n : Int) := by omega
        obtain ⟨ad, rfl, hadb, hc⟩ := HA.out.2 (by omega)
        obtain ⟨c, hx⟩ : ∃ c, bs[k]? = some c := ⟨_, List.getElem?_eq_getElem (by have := HN.out; omega)⟩
        have hcell : w.cell? (ad.add k) = some (.int .u8 (c.toNat : Int)) := hc k c hx
        have HG := Lib.hid (show bs.getD k 0 = c from by rw [List.getD_eq_getElem?_getD, hx]; rfl)
        have hcl := c.toNat_lt
        have hwb : IntKind.i64.wrap (c.toNat : Int) = (c.toNat : Int) := IntWalk.i64_in _ (by omega)
        clear hc hx
        generalize szK bs k = N at *
        go_wp2_with fail
        go_roundw
        case rel => exact ⟨k + 1, by omega, by omega, by rw [HSt.out, HG.out]; go_num, by go_num, by simp⟩
        case measure => simp [intOf]; omega
      · have hbi : ¬ (k : Int) < (n : Int) := by omega
        have HG := Lib.hid (show (bs.getD k 0).toNat = 0 from by rw [getD_far bs k (by have := HN.out; omega)]; rfl)
        generalize szK bs k = N at *
        go_wp2_with fail
        go_roundw
        case rel => exact ⟨k + 1, by omega, by omega, by rw [HSt.out, HG.out, Nat.add_zero]; go_num, by go_num, by simp⟩
        case measure => simp [intOf]; omega
    · obtain rfl : k = 4 := by omega
      rw [← HSz.out]
      go_wp2_with fail
      go_ret
      exact ⟨rfl, rfl⟩
section
variable {w : World} {y : Nat} {q : Option Nat} {s : List UInt8 × Nat}
theorem rsize_quiet (h : Rb w y q s) (j : Nat) : Calls Try.prog 22 #[.pointer (some ⟨y, 0, none⟩)] (w.drewN j) fun e w' => e = .returned (.int .i64 (sizeR s.1 : Int)) ∧ ∃ n, w' = w.drewN n :=
  (rsize_any (h.same ((But.refl [] w).drewN j))).mono fun _ _ ⟨he, hn⟩ => ⟨he, j, hn.symm⟩
theorem rwhole_any (h : Rb w y q s) (hl : s.1.length ≤ 30000) : Calls Try.prog 21 #[.pointer (some ⟨y, 0, none⟩)] w fun e w' => e = .returned (.bool (wholeR s.1)) ∧ ∃ n, w' = w.drewN n := by
  have HSz := Lib.hid (rsize_quiet h)
  obtain ⟨cp, hb, -⟩ := h
  have hc0 : w.cell? ⟨y, 0, none⟩ = some (.slice (ad q) s.1.length cp) := by rw [hb.cell]; rfl
  have HW := Lib.hid (show wholeR s.1 = decide (4 ≤ s.1.length ∧ s.1.length = 4 + sizeR s.1) from rfl)
  rw [HW.out]
  have hz := sizeR_lt s.1
  clear hb
  generalize ad q = A at *
  generalize sizeR s.1 = z at *
  generalize s.1.length = n at *
  by_cases h4 : 4 ≤ n
  · have h4i : (4 : Int) ≤ (n : Int) := by omega
    have HD := Lib.hid (show decide (4 ≤ n ∧ n = 4 + z) = ((n : Int) == 4 + (z : Int)) from by rw [Bool.eq_iff_iff]; simp; omega)
    rw [HD.out]
    go_enter Try.func21, Try.ntmps21
    go_wp2_with fail
    go_quiet (first | (go_at_call 22; exact HSz.out _))
    go_wp2_with fail
    go_ret
    exact ⟨rfl, _, rfl⟩
  · have h4i : (n : Int) < 4 := by omega
    have h4d : decide ((4 : Int) ≤ (n : Int)) = false := decide_eq_false (by omega)
    have HD := Lib.hid (show decide (4 ≤ n ∧ n = 4 + z) = false from decide_eq_false (by omega))
    rw [HD.out]
    go_enter Try.func21, Try.ntmps21
    go_wp2_with fail
    go_quiet (fail)
    go_wp2_with fail
    go_ret
    exact ⟨rfl, _, rfl⟩
theorem rwhole_quiet (h : Rb w y q s) (hl : s.1.length ≤ 20000) (j : Nat) : Calls Try.prog 21 #[.pointer (some ⟨y, 0, none⟩)] (w.drewN j) fun e w' => e = .returned (.bool (wholeR s.1)) ∧ ∃ n, w' = w.drewN n :=
  (rwhole_any (h.same ((But.refl [] w).drewN j)) (by omega)).mono fun _ _ ⟨he, n, hn⟩ => ⟨he, j + n, by rw [hn, World.drewN_drewN]⟩
theorem rwant_any (h : Rb w y q s) (hl : s.2 = 0 → s.1.length ≤ 20000) (hlow : s.2 = 0 → 4 ≤ s.1.length → s.1.length ≤ 4 + sizeR s.1) : Calls Try.prog 14 #[.pointer (some ⟨y, 0, none⟩)] w fun e w' => e = .returned (.int .i64 (wantS s : Int)) ∧ ∃ n, w' = w.drewN n := by
  have HSz := Lib.hid (rsize_quiet h)
  obtain ⟨cp, hb, -⟩ := h
  have hc0 : w.cell? ⟨y, 0, none⟩ = some (.slice (ad q) s.1.length cp) := by rw [hb.cell]; rfl
  have hc1 : w.cell? ⟨y, 1, none⟩ = some (.int .i64 (s.2 : Int)) := by rw [hb.cell]; rfl
  have HW := Lib.hid (show wantS s = if s.2 ≠ 0 then 0 else if s.1.length < 4 then 4 - s.1.length else 4 + sizeR s.1 - s.1.length from rfl)
  rw [HW.out]
  have hz := sizeR_lt s.1
  clear hb
  generalize ad q = A at *
  generalize sizeR s.1 = z at *
  generalize s.1.length = n at *
  by_cases h0 : s.2 = 0
  · rw [h0] at hc1
    have hl := hl h0
    have hlow := hlow h0
    rw [if_neg (by omega)]
    by_cases h4 : n < 4
    · have h4i : (n : Int) < 4 := by omega
      rw [if_pos h4, show ((4 - n : Nat) : Int) = 4 - (n : Int) from by omega]
      clear HSz hlow
      go_enter Try.func14, Try.ntmps14
      go_wp2_with fail
      go_ret
      exact ⟨rfl, 0, rfl⟩
    · have h4i : (4 : Int) ≤ (n : Int) := by omega
      have hlow := hlow (by omega)
      rw [if_neg h4, show ((4 + z - n : Nat) : Int) = 4 + (z : Int) - (n : Int) from by omega]
      have ha : IntKind.i64.wrap (4 + (z : Int)) = 4 + (z : Int) := IntWalk.i64_in _ (by omega)
      have hb : IntKind.i64.wrap (4 + (z : Int) - (n : Int)) = 4 + (z : Int) - (n : Int) := IntWalk.i64_in _ (by omega)
      go_enter Try.func14, Try.ntmps14
      go_wp2_with fail
      go_quiet (first | (go_at_call 22; exact HSz.out _))
      go_wp2_with fail
      go_ret
      exact ⟨rfl, _, rfl⟩
  · rw [if_pos h0]
    have hei : (s.2 : Int) ≠ 0 := by omega
    clear HSz HW hl hlow
    generalize s.2 = e at *
    go_enter Try.func14, Try.ntmps14
    go_wp2_with fail
    go_ret
    exact ⟨rfl, 0, rfl⟩
theorem rbody_any (h : Rb w y q s) (hl : s.2 = 0 → s.1.length ≤ 20000) : Calls Try.prog 16 #[.pointer (some ⟨y, 0, none⟩)] w fun e w' =>
    ∃ A c, e = .returned (.slice A (bodyS s).length c) ∧ Src w' A (bodyS s).length (bodyS s) ∧ ∃ n, w' = w.drewN n := by
  have HWq := Lib.hid (fun (hl : s.1.length ≤ 20000) => rwhole_any h (by omega))
  obtain ⟨cp, hb, ha⟩ := h
  have hc0 : w.cell? ⟨y, 0, none⟩ = some (.slice (ad q) s.1.length cp) := by rw [hb.cell]; rfl
  have hc1 : w.cell? ⟨y, 1, none⟩ = some (.int .i64 (s.2 : Int)) := by rw [hb.cell]; rfl
  have hsr := ha.src
  have HB := Lib.hid (show bodyS s = if wholeS s then s.1.drop 4 else [] from rfl)
  have HWS := Lib.hid (show wholeS s = (decide (s.2 = 0) && wholeR s.1) from rfl)
  rw [HB.out]
  clear hb ha HB
  by_cases h0 : s.2 = 0
  · rw [h0] at hc1 HWS
    rw [show (decide (0 = 0) && wholeR s.1) = wholeR s.1 from rfl] at HWS
    rw [HWS.out]
    have HWw := Lib.hid (HWq.out (hl h0))
    have hl := hl h0
    clear HWS HWq
    by_cases hw : wholeR s.1 = true
    · have h4 : 4 ≤ s.1.length := (of_decide_eq_true hw).1
      rw [hw] at HWw
      rw [if_pos hw]
      have HCut := Lib.hid (show Src w (slid (ad q) cp 4) (s.1.length - 4) (s.1.drop 4) from by
        have h := hsr.2.cut (l := 4) (hi := s.1.length) (m := cp) h4 (Nat.le_refl _) hsr.1
        rwa [List.take_length] at h)
      have HLd := Lib.hid (show (s.1.drop 4).length = s.1.length - 4 from List.length_drop)
      have hsl : ∀ w', (Instr.sliceAt 22 (.slice (ad q) s.1.length cp) (some (.int .i64 4)) none none).run Try.prog w' = .ok (.slice (slid (ad q) cp 4) (s.1.length - 4) (cp - 4)) w' := fun w' => slice_from und8 siz8 (ad q) s.1.length cp w' 4 h4
      rw [HLd.out]
      generalize s.1.drop 4 = D at *
      clear hw HLd hsr
      generalize s.1.length = n at *
      generalize slid (ad q) cp 4 = A4 at *
      go_enter Try.func16, Try.ntmps16
      go_wp2_with fail
      refine HWw.out.mono ?_
      rintro e w1 ⟨rfl, j, rfl⟩
      go_wp2_with fail
      go_ret
      exact ⟨_, _, rfl, HCut.out, _, rfl⟩
    · rw [Bool.not_eq_true] at hw
      rw [hw] at HWw
      rw [if_neg (by rw [hw]; simp)]
      go_enter Try.func16, Try.ntmps16
      go_wp2_with fail
      refine HWw.out.mono ?_
      rintro e w1 ⟨rfl, j, rfl⟩
      go_wp2_with fail
      go_ret
      exact ⟨none, 0, rfl, Src.nil _, _, rfl⟩
  · have hw : wholeS s = false := by rw [HWS.out, decide_eq_false h0]; rfl
    rw [if_neg (by rw [hw]; simp)]
    have hei : (s.2 : Int) ≠ 0 := by omega
    clear HWS HWq hl
    generalize s.2 = e at *
    go_enter Try.func16, Try.ntmps16
    go_wp2_with fail
    go_ret
    exact ⟨none, 0, rfl, Src.nil _, 0, rfl⟩
end
end Go.Proofs.Ytjbcdagkjonlfaa.Sh
