/-
  Contract of strings.Clone over this seat's translation (XAscTrim's, for seats without Trim).
-/
import Derived.Test.YtdofipjjodijcaaGreatDoorAscLow
import Derived.Lib.UnsafeStr
import Derived.Lib.BufferWrite
import Derived.Lib.Buffer
import Derived.Laws.MakeOwn
namespace Go.Proofs.YtdofipjjodijcaaGreatDoor.Asc
open Go.RowKit Go.Proofs.YtdofipjjodijcaaGreatDoor.Wd

theorem info8 : (Tryz.prog.info? 5).map (fun i => (i.zero, i.size, i.bytes)) = some (some (.int .u8 0), 1, 1) := by kernel_rfl
theorem cells8 : Tryz.prog.cellsOf 5 = 1 := by
  obtain ⟨i0, hi, _, hz1, _⟩ := info_parts info8
  simp [Program.cellsOf, hi, hz1]
theorem size8 : (Tryz.prog.info? 5).map (·.size) = some 1 := by
  obtain ⟨i0, hi, _, hz1, _⟩ := info_parts info8
  rw [hi]; simp [hz1]
theorem bytes_same (l : List UInt8) : Lib.byteCells l = cellsOf l := rfl

/-- make([]byte, n) -/
theorem make_any (n : Nat) (hn : n ≤ 140737488355328) (u : World) : (Instr.makeSlice 30 (.int .i64 (n : Int)) (.int .i64 (n : Int))).run Tryz.prog u =
    .ok (.slice (some ⟨u.heap.size, 0, none⟩) n n) (u.alloc (.cells (cellsOf (List.replicate n 0)).toArray 5)) := by
  obtain ⟨i0, hi, hz0, hz1, hz2⟩ := info_parts info8
  have h := run_make (P := Tryz.prog) u 30 5 i0 (.int .u8 0) Tryz.underlying30 hi hz0 .i64 .i64 (n : Int) (n : Int) (by omega) (Int.le_refl _) (by rw [hz2]; omega) (by omega)
  rw [Int.toNat_natCast] at h
  rw [cellsOf_zero, ← toList_madeCells_one]
  simpa [hz1, Value.cells] using h

/-- copy(b, s), where b has just the room -/
theorem copy_all (w : World) (s : ByteArray) (M : Array Value) (hM : M.size = s.size) : ∃ w2, (Builtin.copy_ #[30, 9] 3 #[.slice (some ⟨w.heap.size, 0, none⟩) s.size s.size, .string s]).run Tryz.prog (w.alloc (.cells M 5)) = .ok (goInt s.size) w2 ∧
    Blk w2 w.heap.size 5 (cellsOf (bs s)).toArray ∧ Below w.heap.size w w2 := by
  have h := Lib.run_copy_row_string (P := Tryz.prog) (w.alloc (.cells M 5)) 30 9 3 5 w.heap.size 0 s.size s.size s M 5 Tryz.underlying30 size8 (heap_alloc_new w _) (Nat.le_refl _) (by omega)
  have e : (M.toList.take 0 ++ Lib.byteCells s.data.toList ++ M.toList.drop (0 + s.size)) = cellsOf (bs s) := by
    rw [List.take_zero, List.nil_append, List.drop_of_length_le (by rw [Array.length_toList]; omega), List.append_nil]; rfl
  rw [e] at h
  refine ⟨_, h, setRow_heap _ _ M _ 5 (0, 0) (heap_alloc_new w _), ?_⟩
  exact ((Below.refl _ w).alloc (Nat.le_refl _) _).trans ⟨rfl, rfl, rfl, by simp, fun k hk => setRow_other _ _ _ _ (by omega)⟩

/-- a string over all of a row -/
theorem str_all (w : World) (g : Nat) (s : ByteArray) (h0 : s.size ≠ 0) (h63 : s.size ≤ 9223372036854775807) (hb : Blk w g 5 (cellsOf (bs s)).toArray) :
    (Builtin.unsafeString_ #[81, 3] 9 #[.pointer (some ⟨g, 0, none⟩), .int .i64 s.size]).run Tryz.prog w = .ok (.string s) (w.freeze ⟨g, 0, none⟩ s.size) := by
  have h := Lib.run_unsafeString_row (P := Tryz.prog) w 81 3 9 5 Tryz.underlying81 cells8 g (cellsOf (bs s)).length (by unfold World.shape?; rw [hb.heap]; simp) (bs s)
    (fun e => h0 (by rw [← bs_length, e]; rfl)) (by rw [cellsOf_length]; exact Nat.le_refl _) (by rw [bs_length]; exact h63)
    (fun j x hx => by rw [add_none, Nat.zero_add, hb.cell, List.getElem?_toArray]; exact cellsOf_get hx)
  have e : (⟨(bs s).toArray⟩ : ByteArray) = s := bs_inj rfl
  rw [e, bs_length] at h
  exact h

set_option maxRecDepth 100000 in
set_option maxHeartbeats 1000000 in
theorem clone_in (s : ByteArray) (w : World) (hs : s.size ≤ 140737488355328) :
    Calls Tryz.prog 44 #[.string s] w fun e w' => e = .returned (.string s) ∧ Below w.heap.size w w' := by
  by_cases h0 : s.size = 0
  · have e : s = ⟨#[]⟩ := bs_inj (bs_nil s h0)
    subst e
    go_enter Tryz.func44, Tryz.ntmps44
    go_wp2
    go_ret
    exact ⟨rfl, Below.refl _ _⟩
  · have hmk := make_any s.size hs
    have hMs : ((cellsOf (List.replicate s.size 0)).toArray).size = s.size := by simp [cellsOf]
    generalize (cellsOf (List.replicate s.size 0)).toArray = M at hmk hMs
    obtain ⟨w2, hcp, hb2, hbel⟩ := copy_all w s M hMs
    have hus := str_all w2 w.heap.size s h0 (by omega) hb2
    have HB := Lib.hid hbel
    clear hMs hb2
    go_enter Tryz.func44, Tryz.ntmps44
    go_wp2
    go_ret
    exact ⟨rfl, Lib.below_freeze HB.out (p := ⟨w.heap.size, 0, none⟩) (Nat.le_refl _) _⟩

theorem clone_any (s : ByteArray) (w : World) (hs : s.size ≤ 140737488355328) :
    Calls Tryz.prog 21 #[.string s] w fun e w' => e = .returned (.string s) ∧ Below w.heap.size w w' := by
  go_enter Tryz.func21, Tryz.ntmps21
  go_wp2_with (go_at_call 44; refine (clone_in _ _ hs).mono ?_; rintro e w' ⟨rfl, hb⟩)
  go_ret
  exact ⟨rfl, hb⟩
end Go.Proofs.YtdofipjjodijcaaGreatDoor.Asc
