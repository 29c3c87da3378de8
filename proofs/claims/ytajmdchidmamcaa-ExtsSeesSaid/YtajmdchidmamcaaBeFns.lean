/-
  Contracts of package be's small functions over this seat's translation: clamp, tells, grown.
-/
import Derived.Test.YtajmdchidmamcaaWords
namespace Go.Proofs.Ytajmdchidmamcaa.Be
open Go.RowKit Go.Proofs.Ytajmdchidmamcaa.Wd

def clampI (n : Int) : Int := if n < 1 then 1 else if 4 < n then 4 else n
theorem clampI_bd (n : Int) : 1 ≤ clampI n ∧ clampI n ≤ 4 := by unfold clampI; split <;> (try split) <;> omega

theorem clamp_any (n : Int) (w : World) : Calls Try.prog 70 #[.int .i64 n] w fun e w' => e = .returned (.int .i64 (clampI n)) ∧ w = w' := by
  by_cases h1 : n < 1
  · go_enter Try.func70, Try.ntmps70
    go_wp2
    go_ret
    exact ⟨by simp [clampI, h1], rfl⟩
  · by_cases h4 : 4 < n
    · go_enter Try.func70, Try.ntmps70
      go_wp2
      go_ret
      exact ⟨by simp [clampI, h1, h4], rfl⟩
    · go_enter Try.func70, Try.ntmps70
      go_wp2
      go_ret
      exact ⟨by unfold clampI; rw [if_neg (by omega), if_neg (by omega)]; rfl, rfl⟩

theorem info8 : (Try.prog.info? 5).map (fun i => (i.zero, i.size, i.bytes)) = some (some (.int .u8 0), 1, 1) := by kernel_rfl

theorem made_eq (n : Nat) : madeCells #[.int .u8 0] n = (cellsOf (List.replicate n 0)).toArray := by
  rw [cellsOf_zero, ← toList_madeCells_one]

theorem splice_zero {α : Type} (L cs : List α) : splice L 0 cs = cs ++ L.drop cs.length := by simp [splice]

theorem grown_cells (n more : Nat) (xs : List UInt8) (h : xs.length = n) : splice (cellsOf (List.replicate (n + more) 0)) 0 (cellsOf xs) = cellsOf (xs ++ List.replicate more 0) := by
  subst h
  rw [splice_zero, cellsOf_length, cellsOf_append, cellsOf_zero, cellsOf_zero, List.drop_replicate]
  congr 2
  omega

set_option maxHeartbeats 400000 in
theorem grown_any (A : Option Addr) (n c more : Nat) (xs : List UInt8) (w : World) (hs : Src w A n xs) (hn : n + more ≤ 140737488355328) :
    Calls Try.prog 68 #[.slice A n c, .int .i64 (more : Int)] w fun e w' => e = .returned (.slice (some ⟨w.heap.size, 0, none⟩) (n + more) (n + more)) ∧
      Blk w' w.heap.size 5 (cellsOf (xs ++ List.replicate more 0)).toArray ∧ Below w.heap.size w w' := by
  obtain ⟨i0, hi, hz0, hz1, hz2⟩ := info_parts info8
  have hmk : ∀ u : World, (Instr.makeSlice 22 (.int .i64 ((n : Int) + (more : Int))) (.int .i64 ((n : Int) + (more : Int)))).run Try.prog u =
      .ok (.slice (some ⟨u.heap.size, 0, none⟩) (n + more) (n + more)) (u.alloc (.cells (cellsOf (List.replicate (n + more) 0)).toArray 5)) := fun u => by
    have h := run_make (P := Try.prog) u 22 5 i0 (.int .u8 0) Try.underlying22 hi hz0 .i64 .i64 ((n : Int) + (more : Int)) ((n : Int) + (more : Int)) (by omega) (Int.le_refl _) (by rw [hz2]; omega) (by omega)
    have e : ((n : Int) + (more : Int)).toNat = n + more := by omega
    rw [e] at h
    rw [← made_eq]
    simpa [hz1, Value.cells] using h
  have hb0 : Below w.heap.size w (w.alloc (.cells (cellsOf (List.replicate (n + more) 0)).toArray 5)) := (Below.refl _ _).alloc (Nat.le_refl _) _
  have hmin : (cellsOf xs).length = Nat.min n (n + more) := by rw [cellsOf_length, hs.1]; exact (Nat.min_eq_left (by omega)).symm
  have hfit : 0 + (cellsOf xs).length ≤ (cellsOf (List.replicate (n + more) 0)).length := by rw [cellsOf_length, cellsOf_length, List.length_replicate, hs.1]; omega
  have hpos : 0 < (cellsOf xs).length → some (⟨w.heap.size, 0, none⟩ : Addr) = some ⟨w.heap.size, 0, none⟩ ∧ ∃ ad, A = some ad ∧ ∀ j v, (cellsOf xs)[j]? = some v →
      (w.alloc (.cells (cellsOf (List.replicate (n + more) 0)).toArray 5)).cell? (ad.add j) = some v := by
    intro h0
    rw [cellsOf_length, hs.1] at h0
    obtain ⟨ad, e, hlt, hc⟩ := hs.2 h0
    refine ⟨rfl, ad, e, fun j v hv => ?_⟩
    rw [hb0.cell (by rw [block_of_add]; exact hlt)]
    simp only [cellsOf, List.getElem?_map, Option.map_eq_some_iff] at hv
    obtain ⟨x, hx, rfl⟩ := hv
    exact hc j x hx
  have hfin := grown_cells n more xs hs.1
  have Hfin := Lib.hid hfin
  have Hmin := Lib.hid hmin
  have Hpos := Lib.hid hpos
  have Hone := Lib.hid (cellsOf_one xs)
  clear hfin hmin hpos
  go_enter Try.func68, Try.ntmps68
  go_wp2_with ((with_reducible refine wpList_copy_splice rfl (.tmp 11) (.tmp 12) 22 22 rfl 5 Try.underlying22 (by kernel_rfl) _ _ _ _ _ _ rfl rfl w.heap.size 0 (cellsOf (List.replicate (n + more) 0)) 5 (heap_alloc_new w _) (cellsOf xs) Hmin.out Hpos.out hfit Hone.out w.heap.size w hb0 (Nat.le_refl _) ?_); intro w2 HG2 hB2)
  go_ret
  refine ⟨rfl, ?_, hB2⟩
  have := HG2.out
  rw [Hfin.out] at this
  exact this
end Go.Proofs.Ytajmdchidmamcaa.Be
