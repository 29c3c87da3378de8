/-
  Contracts of limit.Within and of package ring over this seat's translation: New, Len, Free, Full, place, See, Pop, Push.
-/
import Derived.Test.YtpdihniimnoeoaaRgPure
import Derived.RegionTactic
import Derived.IntWalk
namespace Go.Proofs.Ytpdihniimnoeoaa.Rg
open Go.RowKit Go.Proofs.Ytpdihniimnoeoaa.Wd

def withinI (n lo hi : Int) : Int := if n < lo then lo else if hi < n then hi else n
theorem within_any (n lo hi : Int) (w : World) : Calls Try.prog 22 #[.int .i64 n, .int .i64 lo, .int .i64 hi] w fun e w' => e = .returned (.int .i64 (withinI n lo hi)) ∧ w = w' := by
  by_cases h1 : n < lo
  · have H := Lib.hid (show withinI n lo hi = lo by rw [withinI, if_pos h1])
    go_enter Try.func22, Try.ntmps22
    go_wp2
    go_ret
    rw [H.out]; exact ⟨rfl, rfl⟩
  · by_cases h2 : hi < n
    · have H := Lib.hid (show withinI n lo hi = hi by rw [withinI, if_neg h1, if_pos h2])
      go_enter Try.func22, Try.ntmps22
      go_wp2
      go_ret
      rw [H.out]; exact ⟨rfl, rfl⟩
    · have H := Lib.hid (show withinI n lo hi = n by rw [withinI, if_neg h1, if_neg h2])
      go_enter Try.func22, Try.ntmps22
      go_wp2
      go_ret
      rw [H.out]; exact ⟨rfl, rfl⟩
/-- a number from 0 to hi -/
def clampN (n : Int) (hi : Nat) : Nat := (withinI n 0 hi).toNat
theorem clampN_eq (n : Int) (hi : Nat) : withinI n 0 hi = ((clampN n hi : Nat) : Int) := by
  unfold clampN withinI
  split
  · rfl
  · split <;> omega
theorem clampN_le (n : Int) (hi : Nat) : clampN n hi ≤ hi := by
  unfold clampN withinI
  split
  · simp
  · split <;> omega
theorem clampN_len (m hi : Nat) : clampN (m : Int) hi = min m hi := by
  unfold clampN withinI
  rw [if_neg (by omega)]
  split <;> omega

/-- a queue at block g, its places at block p, with room for R, with the bytes bs -/
def Rg (w : World) (g p R : Nat) (bs : List UInt8) : Prop :=
  ∃ ps f, Blk w g 43 #[.slice (some ⟨p, 0, none⟩) R R, .int .i64 ((f : Nat) : Int), .int .i64 (bs.length : Int)] ∧ Blk w p 5 (cellsOf ps).toArray ∧ ps.length = R ∧ Laid ps f bs
theorem Rg.but {S : List Nat} {w w' : World} {g p R : Nat} {bs : List UInt8} (h : Rg w g p R bs) (k : But S w w') (hg : g ∉ S) (hp : p ∉ S) : Rg w' g p R bs := by
  obtain ⟨ps, f, h1, h2, h3⟩ := h
  exact ⟨ps, f, h1.but k hg, h2.but k hp, h3⟩
theorem Rg.same {w w' : World} {g p R : Nat} {bs : List UInt8} (h : Rg w g p R bs) (k : But [] w w') : Rg w' g p R bs := h.but k (by simp) (by simp)
theorem Rg.lt {w : World} {g p R : Nat} {bs : List UInt8} (h : Rg w g p R bs) : g < w.heap.size ∧ p < w.heap.size := by
  obtain ⟨ps, f, h1, h2, _⟩ := h
  exact ⟨h1.lt, h2.lt⟩
theorem Rg.le {w : World} {g p R : Nat} {bs : List UInt8} (h : Rg w g p R bs) : bs.length ≤ R := by
  obtain ⟨ps, f, _, _, h3, h4⟩ := h
  have := h4.len
  omega

theorem info8 : (Try.prog.info? 5).map (fun i => (i.zero, i.size, i.bytes)) = some (some (.int .u8 0), 1, 1) := by kernel_rfl
theorem size8 : (Try.prog.info? 5).map (·.size) = some 1 := by kernel_rfl
theorem made_eq (n : Nat) : madeCells #[.int .u8 0] n = (cellsOf (List.replicate n 0)).toArray := by
  rw [cellsOf_zero, ← toList_madeCells_one]
theorem makes (n : Nat) (hn : n ≤ 140737488355328) (u : World) : (Instr.makeSlice 29 (.int .i64 (n : Int)) (.int .i64 (n : Int))).run Try.prog u =
    .ok (.slice (some ⟨u.heap.size, 0, none⟩) n n) (u.alloc (.cells (cellsOf (List.replicate n 0)).toArray 5)) := by
  obtain ⟨i0, hi, hz0, hz1, hz2⟩ := info_parts info8
  have h := run_make (P := Try.prog) u 29 5 i0 (.int .u8 0) Try.underlying29 hi hz0 .i64 .i64 (n : Int) (n : Int) (by omega) (Int.le_refl _) (by rw [hz2]; omega) (by omega)
  rw [Int.toNat_natCast] at h
  rw [← made_eq]
  simpa [hz1, Value.cells] using h

def roomR (room : Int) : Nat := clampN room 65536
def NewPost (R : Nat) (w : World) (e : Ending) (w' : World) : Prop := ∃ g p, e = .returned (.pointer (some ⟨g, 0, none⟩)) ∧ w.heap.size ≤ g ∧ w.heap.size ≤ p ∧ Rg w' g p R [] ∧ Below w.heap.size w w'
theorem new_any (room : Int) (w : World) : Calls Try.prog 11 #[.int .i64 room] w (NewPost (roomR room) w) := by
  have hc := clampN_le room 65536
  have heq := Lib.hid (clampN_eq room 65536)
  have hmk := makes (clampN room 65536) (by omega)
  show Calls _ _ _ _ (NewPost (clampN room 65536) w)
  generalize clampN room 65536 = R at *
  go_enter Try.func11, Try.ntmps11
  go_wp2_with fail
  refine (within_any room 0 65536 _).mono ?_
  rintro e w1 ⟨rfl, rfl⟩
  rw [show withinI room 0 65536 = (R : Int) from heq.out]
  go_wp2_with fail
  go_ret
  have h1 := Blk.new w 5 (cellsOf (List.replicate R 0)).toArray
  refine ⟨w.heap.size + 1, w.heap.size, rfl, by omega, Nat.le_refl _, ⟨List.replicate R 0, 0, ?_, h1.alloc _, by simp, Laid.nil R⟩, ((Below.refl _ _).alloc (Nat.le_refl _) _).alloc (by simp) _⟩
  have h2 := Blk.new (w.alloc (.cells (cellsOf (List.replicate R 0)).toArray 5)) 43 #[.slice (some ⟨w.heap.size, 0, none⟩) R R, .int .i64 0, .int .i64 0]
  have h3 : (w.alloc (.cells (cellsOf (List.replicate R 0)).toArray 5)).heap.size = w.heap.size + 1 := by simp
  rw [h3] at h2
  exact h2

theorem len_any (g p R : Nat) (bs : List UInt8) (w : World) (h : Rg w g p R bs) : Calls Try.prog 19 #[.pointer (some ⟨g, 0, none⟩)] w fun e w' => e = .returned (.int .i64 (bs.length : Int)) ∧ w = w' := by
  obtain ⟨ps, f, hb, _⟩ := h
  have hc2 : w.cell? ⟨g, 2, none⟩ = some (.int .i64 (bs.length : Int)) := by rw [hb.cell]; rfl
  clear hb
  go_enter Try.func19, Try.ntmps19
  go_wp2
  go_ret
  exact ⟨rfl, rfl⟩
theorem free_any (g p R : Nat) (bs : List UInt8) (w : World) (h : Rg w g p R bs) (hR : R ≤ 65536) : Calls Try.prog 20 #[.pointer (some ⟨g, 0, none⟩)] w fun e w' => e = .returned (.int .i64 ((R - bs.length : Nat) : Int)) ∧ ∃ k, w' = w.drewN k := by
  have hle := h.le
  obtain ⟨ps, f, hb, _⟩ := h
  have hc0 : w.cell? ⟨g, 0, none⟩ = some (.slice (some ⟨p, 0, none⟩) R R) := by rw [hb.cell]; rfl
  have hc2 : w.cell? ⟨g, 2, none⟩ = some (.int .i64 (bs.length : Int)) := by rw [hb.cell]; rfl
  have hw : IntKind.i64.wrap ((R : Int) - (bs.length : Int)) = ((R - bs.length : Nat) : Int) := by rw [IntWalk.i64_in _ (by omega)]; omega
  clear hb
  generalize bs.length = m at *
  go_enter Try.func20, Try.ntmps20
  go_wp2
  go_quiet (fail)
  go_wp2
  go_ret
  exact ⟨rfl, _, rfl⟩
/-- is there room for none? -/
def fullB (R n : Nat) : Bool := decide (R = n)
theorem full_any (g p R : Nat) (bs : List UInt8) (w : World) (h : Rg w g p R bs) (hR : R ≤ 65536) : Calls Try.prog 21 #[.pointer (some ⟨g, 0, none⟩)] w fun e w' => e = .returned (.bool (fullB R bs.length)) ∧ ∃ k, w' = w.drewN k := by
  have hle := h.le
  have hF : ((((R - bs.length : Nat) : Int)) == 0) = fullB R bs.length := by
    unfold fullB
    rw [Bool.eq_iff_iff, beq_iff_eq, decide_eq_true_iff]
    omega
  have HF := Lib.hid hF
  clear hF
  go_enter Try.func21, Try.ntmps21
  go_wp2_with fail
  refine (free_any g p R bs w h hR).mono ?_
  rintro e w1 ⟨rfl, k, rfl⟩
  generalize ((R - bs.length : Nat) : Int) = m at *
  go_wp2_with fail
  go_ret
  rw [← HF.out]
  exact ⟨rfl, k, rfl⟩
set_option maxHeartbeats 400000 in
theorem place_any (g p R n : Nat) (w : World) (f : Nat) (c : Value) (hb : Blk w g 43 #[.slice (some ⟨p, 0, none⟩) R R, .int .i64 (f : Int), c]) (hf : f ≤ R) (hR : R ≤ 65536) (hn : n ≤ 65536) :
    Calls Try.prog 23 #[.pointer (some ⟨g, 0, none⟩), .int .i64 (n : Int)] w fun e w' => e = .returned (.int .i64 ((placeN R f n : Nat) : Int)) ∧ ∃ k, w' = w.drewN k := by
  have hc0 : w.cell? ⟨g, 0, none⟩ = some (.slice (some ⟨p, 0, none⟩) R R) := by rw [hb.cell]; rfl
  have hc1 : w.cell? ⟨g, 1, none⟩ = some (.int .i64 (f : Int)) := by rw [hb.cell]; rfl
  clear hb
  rcases Nat.eq_zero_or_pos R with h0 | h0
  · subst h0
    go_enter Try.func23, Try.ntmps23
    go_wp2
    go_ret
    rw [placeN_none rfl]
    exact ⟨rfl, 0, rfl⟩
  · have hP := Lib.hid (show placeN R f n = (f + n) % R by rw [placeN, if_neg (by omega)])
    have hw : IntKind.i64.wrap ((f : Int) + (n : Int)) = (f : Int) + (n : Int) := IntWalk.i64_in _ (by omega)
    have hz : ((R : Int) == 0) = false := by rw [beq_eq_false_iff_ne]; omega
    have hm : ((f : Int) + (n : Int)).tmod (R : Int) = (((f + n) % R : Nat) : Int) := by
      rw [Int.tmod_eq_emod_of_nonneg (by omega)]
      simp
    go_enter Try.func23, Try.ntmps23
    go_wp2
    go_quiet (fail)
    go_wp2
    go_ret
    rw [hP.out]
    exact ⟨rfl, _, rfl⟩
end Go.Proofs.Ytpdihniimnoeoaa.Rg
