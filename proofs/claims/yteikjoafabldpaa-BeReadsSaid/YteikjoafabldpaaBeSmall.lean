/-
  The law file's own 'small' (hagioscopelaw01): it answers true, and leaves what was there as it was.
-/
import Derived.Test.YteikjoafabldpaaBeNum
namespace Go.Proofs.Yteikjoafabldpaa.Be
open Go.RowKit Go.Proofs.Yteikjoafabldpaa.Wd

theorem conv {w : World} {A : Option Addr} {n c : Nat} {xs : List UInt8} (h : Src w A n xs) : (convert 22 9 (.slice A n c)).run Try.prog w = .ok (.string ⟨xs.toArray⟩) w :=
  conv_src h Try.underlying22 Try.underlying5 Try.underlying9

theorem make_any (n : Nat) (hn : n ≤ 140737488355328) (u : World) : (Instr.makeSlice 22 (.int .i64 (n : Int)) (.int .i64 (n : Int))).run Try.prog u =
    .ok (.slice (some ⟨u.heap.size, 0, none⟩) n n) (u.alloc (.cells (cellsOf (List.replicate n 0)).toArray 5)) := by
  obtain ⟨i0, hi, hz0, hz1, hz2⟩ := info_parts info8
  have h := run_make (P := Try.prog) u 22 5 i0 (.int .u8 0) Try.underlying22 hi hz0 .i64 .i64 (n : Int) (n : Int) (by omega) (Int.le_refl _) (by rw [hz2]; omega) (by omega)
  rw [Int.toNat_natCast] at h
  rw [← made_eq]
  simpa [hz1, Value.cells] using h

theorem src_of {w : World} {g : Nat} {t : TypeId} {xs : List UInt8} (h : Blk w g t (cellsOf xs).toArray) : Src w (some ⟨g, 0, none⟩) xs.length xs :=
  Src.of_blk h (fun j c hj => by simpa using cellsOf_get hj)

set_option maxHeartbeats 1000000 in
theorem small_any (w : World) : Calls Try.prog 9 #[] w fun e w' => e = .returned (.bool true) ∧ Below w.heap.size w w' := by
  have hmk := make_any 256 (by omega)
  rw [show ((256 : Nat) : Int) = 256 from rfl] at hmk
  generalize hZ : (cellsOf (List.replicate 256 0)).toArray = Z at hmk
  clear hZ
  go_enter Try.func9, Try.ntmps9
  go_wp2_with fail
  refine (put_any none 0 0 3 258 3 [] w (Src.nil w) (by omega) (by decide)).mono ?_
  rintro e w1 ⟨rfl, hb1, hbel1⟩
  have H1 := Lib.hid (show Blk w1 w.heap.size 5 (cellsOf [0, 1, 2]).toArray from hb1)
  clear hb1
  have kc := Lib.run_convert_bytes_const (P := Try.prog) w1 22 5 #[.int .u8 97, .int .u8 98] 2 2 Try.underlying22 Try.underlying5
  go_wp2_with fail
  clear kc
  have hs2 : Src (w1.alloc (.cells #[.int .u8 97, .int .u8 98] 5 (2, 3))) (some ⟨w.heap.size, 0, none⟩) 3 [0, 1, 2] := (src_of H1.out).alloc _
  have hs3 : Src (w1.alloc (.cells #[.int .u8 97, .int .u8 98] 5 (2, 3))) (some ⟨w1.heap.size, 0, none⟩) 2 [97, 98] := Src.marked w1 _ _ _ [97, 98] rfl
  refine (vec_yes _ 3 3 1 _ 2 2 1 [0, 1, 2] [97, 98] _ hs2 hs3 (by omega) (by decide) (by decide)).mono ?_
  rintro e w2 ⟨rfl, hb2, hbel2⟩
  simp only [World.size_alloc] at hb2 hbel2
  have H2 := Lib.hid (show Blk w2 (w1.heap.size + 1) 5 (cellsOf [0, 1, 2, 2, 97, 98]).toArray from hb2)
  have H1b := Lib.hid ((H1.out.alloc _).below hbel2 (by have := H1.out.lt; omega))
  have hl1 := H1.out.lt
  have hbelw2 : Below w.heap.size w w2 := (hbel1.alloc hbel1.size _).trans (hbel2.mono (by omega))
  clear hs2 hs3 hb2 H1 hbel1 hbel2
  go_wp2_with fail
  refine (vec_no none 0 0 1 _ 256 256 1 [] _ (Src.nil _) (by omega) (by decide) (by omega) (by decide)).mono ?_
  rintro e w3 ⟨rfl, hb3, hbel3⟩
  simp only [World.size_alloc] at hb3 hbel3
  have H1c := Lib.hid ((H1b.out.alloc (.cells Z 5)).below hbel3 (by have := H1b.out.lt; omega))
  have H2c := Lib.hid ((H2.out.alloc (.cells Z 5)).below hbel3 (by have := H2.out.lt; omega))
  have hbelw3 : Below w.heap.size w w3 := (hbelw2.alloc hbelw2.size _).trans (hbel3.mono (by have := hbelw2.size; omega))
  clear hb3 H1b H2 hbelw2 hbel3
  go_wp2_with fail
  refine (read_any _ 6 6 _ w3 (src_of H2c.out) (by omega)).mono ?_
  rintro e w4 ⟨r, rfl, hr, hrd, hbel4⟩
  have H1d := Lib.hid (H1c.out.below hbel4 H1c.out.lt)
  have H2d := Lib.hid (H2c.out.below hbel4 H2c.out.lt)
  have hbelw4 : Below w.heap.size w w4 := hbelw3.trans (hbel4.mono hbelw3.size)
  have HRD := Lib.hid hrd
  have hrw : w.heap.size ≤ r := Nat.le_trans hbelw3.size hr
  clear hrd H1c H2c hbelw3 hbel4 hr
  go_wp2_with fail
  refine (num_any r 3 _ w4 HRD.out (fun rest h => by injection h with h; subst h; decide)).mono ?_
  rintro e w5 ⟨rfl, hrd5, hg5⟩
  have hrd5' : Rd w5 r (some [2, 97, 98]) := hrd5
  have e5 : (numS (some [0, 1, 2, 2, 97, 98]) 3).1 = 258 := by decide
  rw [e5]
  obtain ⟨cr, hcr⟩ := HRD.out.blk
  have H1e := Lib.hid (H1d.out.grown hg5 (by have := H1d.out.ne_ hcr (by decide); simp [this]))
  have H2e := Lib.hid (H2d.out.grown hg5 (by have := H2d.out.ne_ hcr (by decide); simp [this]))
  have hbelw5 : Below w.heap.size w w5 := below_of_only hbelw4 hg5 hbelw4.size hrw
  have HRD5 := Lib.hid hrd5'
  clear hrd5 hrd5' hcr H1d H2d HRD hbelw4 hg5 e5
  go_wp2_with fail
  refine (rvec_any r 1 _ w5 HRD5.out (fun rest h => by injection h with h; subst h; decide)).mono ?_
  rintro e w6 ⟨v6, rfl, hsl6, hrd6, hg6⟩
  have hrd6' : Rd w6 r (some []) := hrd6
  have hsl6' : Sl w6 v6 [97, 98] := hsl6
  obtain ⟨cr, hcr⟩ := HRD5.out.blk
  have H1f := Lib.hid (H1e.out.grown hg6 (by have := H1e.out.ne_ hcr (by decide); simp [this]))
  have H2f := Lib.hid (H2e.out.grown hg6 (by have := H2e.out.ne_ hcr (by decide); simp [this]))
  have hbelw6 : Below w.heap.size w w6 := below_of_only hbelw5 hg6 hbelw5.size hrw
  obtain ⟨A6, c6, rfl, _, _⟩ := hsl6'.src
  have HS6 := Lib.hid hsl6'
  have HRD6 := Lib.hid hrd6'
  clear hrd6 hrd6' hsl6 hsl6' hcr H1e H2e HRD5 hbelw5 hg6
  go_wp2_with fail
  refine (done_any r _ w6 HRD6.out).mono ?_
  rintro e w7 ⟨rfl, rfl⟩
  rw [show doneS (some []) = true from rfl]
  go_wp2_with fail
  refine (num_any r 0 _ w6 HRD6.out (fun rest h => by injection h with h; subst h; decide)).mono ?_
  rintro e w7 ⟨rfl, hrd7, hg7⟩
  have hrd7' : Rd w7 r none := hrd7
  rw [show (numS (some []) 0).1 = 0 from by decide]
  obtain ⟨cr, hcr⟩ := HRD6.out.blk
  have H1g := H1f.out.grown hg7 (by have := H1f.out.ne_ hcr (by decide); simp [this])
  have H2g := H2f.out.grown hg7 (by have := H2f.out.ne_ hcr (by decide); simp [this])
  have HS7 := HS6.out.grown hcr (by decide) hg7
  have hbelw7 : Below w.heap.size w w7 := below_of_only hbelw6 hg7 hbelw6.size hrw
  have HRD7 := Lib.hid hrd7'
  have k1 := conv (c := 3) (src_of H1g)
  have k2 := conv (c := 6) (src_of H2g)
  have k6 : (convert 22 9 (.slice A6 ([97, 98] : List UInt8).length c6)).run Try.prog w7 = .ok (.string ⟨([97, 98] : List UInt8).toArray⟩) w7 := by
    obtain ⟨A, c, e, _, hs⟩ := HS7.src
    injection e with e1 e2 e3
    subst e1 e3
    exact conv hs
  clear hrd7 hrd7' hcr H1f H2f H1g H2g HS6 HS7 HRD6 hbelw6 hg7
  simp only [List.length_cons, List.length_nil, Nat.zero_add, Nat.reduceAdd] at k1 k2 k6
  go_wp2_with fail
  refine (bad_any r none w7 HRD7.out).mono ?_
  rintro e w8 ⟨rfl, rfl⟩
  rw [show (none : Option (List UInt8)).isNone = true from rfl]
  go_wp2_with fail
  refine (done_any r none w7 HRD7.out).mono ?_
  rintro e w8 ⟨rfl, rfl⟩
  rw [show doneS none = false from rfl]
  go_wp2_with fail
  refine (left_any r none w7 HRD7.out).mono ?_
  rintro e w8 ⟨rfl, rfl⟩
  rw [show leftS none = 0 from rfl]
  go_wp2_with fail
  refine (put_any none 0 0 2 (-1) 2 [] w7 (Src.nil w7) (by omega) (by decide)).mono ?_
  rintro e w8 ⟨rfl, hb8, hbel8⟩
  have k8 := conv (c := 2) (src_of (show Blk w8 w7.heap.size 5 (cellsOf [255, 255]).toArray from hb8))
  simp only [List.length_cons, List.length_nil, Nat.zero_add, Nat.reduceAdd] at k8
  have hbelw8 : Below w.heap.size w w8 := hbelw7.trans (hbel8.mono hbelw7.size)
  clear hb8 hbel8 k1 k2 k6
  go_wp2_with fail
  go_ret
  exact ⟨rfl, hbelw8⟩
end Go.Proofs.Yteikjoafabldpaa.Be
