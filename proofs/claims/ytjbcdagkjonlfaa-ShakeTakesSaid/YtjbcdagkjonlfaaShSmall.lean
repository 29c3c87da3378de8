/-
  law08's small case comes out right, over this seat's translation.
-/
import Derived.Test.YtjbcdagkjonlfaaShWrap
import Derived.LoopTactic
namespace Go.Proofs.Ytjbcdagkjonlfaa.Sh
open Go.RowKit Go.Proofs.Ytjbcdagkjonlfaa.Wd

theorem Rd.apart {w : World} {g g' : Nat} {p p' : Option Nat} {m m' : M} (h : Rd w g p m) (h' : Rd w g' p' m') : p ≠ some g' := by
  obtain ⟨c, _, h2⟩ := h
  obtain ⟨c', h3, _⟩ := h'
  exact h2.ne h3 (by decide)
/-- two messages' bodies lie apart -/
def Sep (p q : Option Nat) : Prop := ∀ b, p = some b → q ≠ some b
theorem Sep.turn {p p' q : Option Nat} {n : Nat} (h : Sep p q) (hp : ∀ b, p' = some b → p = some b ∨ n ≤ b) (hq : ∀ b, q = some b → b < n) : Sep p' q := fun b hb hc => by
  rcases hp b hb with e | e
  · exact h b e hc
  · have := hq b hc; omega
theorem Sep.symm {p q : Option Nat} (h : Sep p q) : Sep q p := fun b hb hc => h b hc hb
section
variable {B : Nat} {w a : World} {g g' : Nat} {p p' : Option Nat} {m m' : M}
/-- one takes a byte, the other stays -/
theorem take_two (h : Kept B w a g p m) (h' : Kept B w a g' p' m') (hg : g' ≠ g) (hs : Sep p p') (c : UInt8) :
    Calls Try.prog 11 #[.pointer (some ⟨g, 0, none⟩), .int .u8 (c.toNat : Int)] a fun e w' =>
      e = .returned (.tuple #[.bool (wholeM (stepM m c)), .int .i64 ((stepM m c).e : Int)]) ∧ ∃ q, Kept B w w' g q (stepM m c) ∧ Kept B w w' g' p' m' ∧ Sep q p' :=
  (take_kept h c).mono fun e w' ⟨he, q, hk, hq, hb⟩ => by
    refine ⟨he, q, hk, h'.beside hb ?_ ?_ ?_, hs.turn hq (fun b hb => h'.rd.plt hb)⟩
    · intro hm
      rcases List.mem_cons.1 hm with e | e
      · exact hg e
      · exact h.rd.apart h'.rd (Option.mem_toList.1 e)
    · intro i hi
      rcases List.mem_cons.1 hi with e | e
      · rw [e]; exact h'.rd.apart h.rd
      · exact fun e2 => hs i (Option.mem_toList.1 e) e2
    · intro i hi
      rcases List.mem_cons.1 hi with e | e
      · rw [e]; exact h.hg
      · exact h.hp i (Option.mem_toList.1 e)
end

/-- make([]byte, n) -/
theorem make_any (n : Nat) (hn : n ≤ 140737488355328) : ∃ C : Array Value, ∀ u : World, (Instr.makeSlice 22 (.int .i64 (n : Int)) (.int .i64 (n : Int))).run Try.prog u = .ok (.slice (some ⟨u.heap.size, 0, none⟩) n n) (u.alloc (.cells C 5)) := by
  obtain ⟨i0, hi, hz0, hz1, hz2⟩ := info_parts inf8
  refine ⟨madeCells #[.int .u8 0] n, fun u => ?_⟩
  have h := run_make (P := Try.prog) u 22 5 i0 (.int .u8 0) Try.underlying22 hi hz0 .i64 .i64 (n : Int) (n : Int) (by omega) (Int.le_refl _) (by rw [hz2]; omega) (by omega)
  rw [Int.toNat_natCast] at h
  simpa [hz1, Value.cells] using h
set_option maxRecDepth 100000 in
set_option maxHeartbeats 2000000 in
theorem small_any (w : World) : Calls Try.prog 9 #[] w fun e w' => e = .returned (.bool true) ∧ Below w.heap.size w w' := by
  have kc := Lib.run_convert_bytes_const (P := Try.prog) w 22 5 #[.int .u8 97, .int .u8 98] 2 2 Try.underlying22 Try.underlying5
  go_enter Try.func9, Try.ntmps9
  go_wp2_with fail
  obtain ⟨hs, hbut⟩ := cst_world w #[.int .u8 97, .int .u8 98] (2, 2 + 1) [97, 98] rfl
  have hS0 := Lib.hid hs
  have HB0 := Lib.hid (hbut.below (by simp) (Nat.le_refl _))
  clear hs hbut kc
  generalize w.alloc _ = w0 at *
  refine (wrap_yes _ 2 2 [97, 98] w0 hS0.out (by decide)).mono ?_
  rintro e w1 ⟨q, rfl, hq, -, hb⟩
  have HB1 := Lib.hid (HB0.out.trans (hb.mono HB0.out.size))
  have HS1 := Lib.hid (show Src w1 (some ⟨q, 0, none⟩) 6 (wrapS [97, 98]) from Src.of_blk hq (fun j c hj => by simpa using cellsOf_get hj))
  have hqw : q < w1.heap.size := hq.lt
  have hww : w.heap.size ≤ w1.heap.size := HB1.out.size
  clear hq hb hS0 HB0
  go_wp2_with fail
  refine (new_kept w1 w1 (Below.refl _ _) (Nat.le_refl _)).mono ?_
  rintro e w2 ⟨g1, rfl, hk1, hb2, -⟩
  have hl1 := hk1.rd.lt
  have HK1 := Lib.hid hk1
  clear hk1
  go_wp2_with fail
  refine (new_kept w1 w2 hb2 hb2.size).mono ?_
  rintro e w3 ⟨g2, rfl, hk2, hb3, hg2⟩
  have hgg : g2 ≠ g1 := by omega
  replace HK1 := Lib.hid (HK1.out.same (But.of_below hb3 []))
  have HK2 := Lib.hid hk2
  clear hk2 hb2 hb3 hg2 hl1
  go_wp2_with fail
  refine (want_kept HK1.out).mono ?_
  rintro e w4 ⟨rfl, k4, h4⟩
  rw [show wantM M.st = 4 from rfl]
  replace HK1 := Lib.hid (show Kept w1.heap.size w1 w4 g1 none M.st from h4 ▸ HK1.out.drewN k4)
  replace HK2 := Lib.hid (show Kept w1.heap.size w1 w4 g2 none M.st from h4 ▸ HK2.out.drewN k4)
  clear h4
  have Hl := Lib.hid (wrapS_len [97, 98])
  go_wp2_with fail
  go_loopw [6, 7] (fun wh i wr => ∃ (k : Nat) (p : Option Nat), k ≤ 6 ∧ wh = .bool (decide (k = 6)) ∧ i = .int .i64 (k : Int) ∧ Hid (Kept w1.heap.size w1 wr g1 p (runM M.st ((wrapS [97, 98]).take k))) ∧ Hid (Kept w1.heap.size w1 wr g2 none M.st)) (fun _ i _ => 6 - (intOf i).toNat)
  case atStart => exact ⟨0, none, Nat.zero_le _, rfl, rfl, HK1, HK2⟩
  case round =>
    clear HK1 HK2
    obtain ⟨k, p, hk, rfl, rfl, HK1, HK2⟩ := hrel
    by_cases hlt : k < 6
    · have hki : (k : Int) < 6 := by omega
      have hd : decide (k = 6) = false := decide_eq_false (by omega)
      obtain ⟨c, hx⟩ : ∃ c, (wrapS [97, 98])[k]? = some c := ⟨_, List.getElem?_eq_getElem (by have := Hl.out; simp only [List.length_cons, List.length_nil] at this; omega)⟩
      obtain ⟨ad, hae, -, hc⟩ := HS1.out.2 (by decide)
      injection hae with hae
      subst hae
      have hcell : wr.cell? ⟨q, k, none⟩ = some (.int .u8 (c.toNat : Int)) := (HK1.out.bel.cell (p := ⟨q, k, none⟩) hqw).trans (by have := hc k c hx; rwa [add_none, Nat.zero_add] at this)
      have HR := Lib.hid (run_one (m := M.st) hx)
      have HWh := Lib.hid (show wholeM (runM M.st ((wrapS [97, 98]).take (k + 1))) = decide (k + 1 = 6) from (wrap_at [97, 98] (by decide) (k + 1) (by simp; omega)).2.1)
      clear hc hx
      go_wp2_with fail
      refine (take_two HK1.out HK2.out hgg (fun b _ h => by cases h) c).mono ?_
      rintro e w5 ⟨rfl, p5, hk1, hk2, -⟩
      rw [← HR.out] at hk1
      rw [← HR.out, HWh.out]
      have HJ1 := Lib.hid hk1
      have HJ2 := Lib.hid hk2
      generalize (runM M.st ((wrapS [97, 98]).take (k + 1))).e = e5 at *
      clear hk1 hk2 HK1 HK2 HR HWh hcell
      go_wp2_with fail
      go_roundw
      case rel => exact ⟨k + 1, p5, by omega, by simp, by go_num, HJ1, HJ2⟩
      case measure => simp [intOf]; omega
    · obtain rfl : k = 6 := by omega
      have hrun : runM M.st ((wrapS [97, 98]).take 6) = ⟨4, 2, [97, 98], 0⟩ := by
        rw [List.take_of_length_le (by rw [Hl.out]; decide), run_wrap _ (by decide)]
        rfl
      rw [hrun] at HK1
      clear hrun Hl HS1 hqw
      rw [show decide (6 = 6) = true from rfl]
      go_wp2_with fail
      refine (take_two HK1.out HK2.out hgg (fun b _ h => by cases h) 9).mono ?_
      rintro e w5 ⟨rfl, p5, hk1, hk2, hsp⟩
      rw [show stepM ⟨4, 2, [97, 98], 0⟩ 9 = ⟨4, 2, [97, 98], 0⟩ from rfl, show wholeM ⟨4, 2, [97, 98], 0⟩ = true from rfl] at *
      replace HK1 := Lib.hid hk1
      replace HK2 := Lib.hid hk2
      clear hk1 hk2
      go_wp2_with fail
      refine (take_two HK2.out HK1.out hgg.symm hsp.symm 1).mono ?_
      rintro e w6 ⟨rfl, p6, hk2, hk1, hsp6⟩
      rw [show stepM M.st 1 = ⟨1, 0, [], 0⟩ from rfl] at *
      replace HK1 := Lib.hid hk1
      replace HK2 := Lib.hid hk2
      clear hk1 hk2 hsp
      go_wp2_with fail
      refine (take_two HK2.out HK1.out hgg.symm hsp6 1).mono ?_
      rintro e w7 ⟨rfl, p7, hk2, hk1, hsp7⟩
      rw [show stepM ⟨1, 0, [], 0⟩ 1 = ⟨1, 65536, [], 6⟩ from by simp [stepM]] at *
      replace HK1 := Lib.hid hk1
      replace HK2 := Lib.hid hk2
      clear hk1 hk2 hsp6
      go_wp2_with fail
      refine (take_two HK2.out HK1.out hgg.symm hsp7 0).mono ?_
      rintro e w8 ⟨rfl, p8, hk2, hk1, -⟩
      rw [show stepM ⟨1, 65536, [], 6⟩ 0 = ⟨1, 65536, [], 6⟩ from rfl] at *
      replace HK1 := Lib.hid hk1
      replace HK2 := Lib.hid hk2
      clear hk1 hk2 hsp7
      obtain ⟨C, hC⟩ := make_any 16385 (by decide)
      have hC1 := hC w8
      rw [show ((16385 : Nat) : Int) = 16385 from rfl] at hC1
      have HB8 := Lib.hid (HB1.out.trans (HK1.out.bel.mono hww))
      replace HB8 := Lib.hid (show Below w.heap.size w (w8.alloc (.cells C 5)) from HB8.out.alloc HB8.out.size _)
      replace HK1 := Lib.hid (HK1.out.same ((But.refl [] w8).alloc (.cells C 5)))
      replace HK2 := Lib.hid (HK2.out.same ((But.refl [] w8).alloc (.cells C 5)))
      clear hC
      go_wp2_with fail
      refine (wrap_no _ 16385 _ _ (by decide) (by decide)).mono ?_
      rintro e w9 ⟨rfl, rfl⟩
      clear hC1
      generalize w8.alloc (.cells C 5) = w9 at *
      go_wp2_with fail
      refine (body_kept HK1.out).mono ?_
      rintro e w10 ⟨v, rfl, hO, hk1, hb⟩
      replace HK2 := Lib.hid (HK2.out.same (But.of_below hb []))
      replace HK1 := Lib.hid hk1
      replace HB8 := Lib.hid (HB8.out.trans (hb.mono HB8.out.size))
      obtain ⟨A1, c1, rfl, -, hs1, -⟩ := hO.cut_
      rw [show (bodyM ⟨4, 2, [97, 98], 0⟩).length = 2 from rfl] at *
      have k1 := con8 (c := c1) hs1
      rw [show bodyM ⟨4, 2, [97, 98], 0⟩ = [97, 98] from rfl] at k1
      clear hk1 hb hO hs1
      go_wp2_with fail
      refine (want_kept HK1.out).mono ?_
      rintro e w11 ⟨rfl, k, hk11⟩
      rw [show wantM ⟨4, 2, [97, 98], 0⟩ = 0 from rfl]
      replace HK2 := Lib.hid (show Kept w1.heap.size w1 w11 g2 p8 ⟨1, 65536, [], 6⟩ from hk11 ▸ HK2.out.drewN k)
      replace HB8 := Lib.hid (show Below w.heap.size w w11 from hk11 ▸ below_drewN HB8.out k)
      clear HK1 k1 hk11
      go_wp2_with fail
      refine (body_kept HK2.out).mono ?_
      rintro e w12 ⟨v, rfl, hO, -, hb⟩
      replace HB8 := Lib.hid (HB8.out.trans (hb.mono HB8.out.size))
      obtain ⟨A2, c2, rfl, -, -, -⟩ := hO.cut_
      rw [show (bodyM ⟨1, 65536, [], 6⟩).length = 0 from rfl] at *
      clear hO hb HK2
      go_wp2_with fail
      go_ret
      exact ⟨rfl, HB8.out⟩
end Go.Proofs.Ytjbcdagkjonlfaa.Sh
