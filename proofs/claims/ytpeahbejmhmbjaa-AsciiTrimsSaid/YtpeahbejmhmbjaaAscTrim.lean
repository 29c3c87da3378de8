/-
  Contracts of strings.Clone (as package ascii calls it) and of package ascii's Trim.
-/
import Derived.Test.YtpeahbejmhmbjaaAscLow
import Derived.Lib.UnsafeStr
import Derived.Lib.BufferWrite
import Derived.Lib.Buffer
import Derived.Laws.MakeOwn
namespace Go.Proofs.Ytpeahbejmhmbjaa.Asc
open Go.RowKit Go.Proofs.Ytpeahbejmhmbjaa.Wd

theorem info8 : (Try.prog.info? 5).map (fun i => (i.zero, i.size, i.bytes)) = some (some (.int .u8 0), 1, 1) := by kernel_rfl
theorem cells8 : Try.prog.cellsOf 5 = 1 := by
  obtain ⟨i0, hi, _, hz1, _⟩ := info_parts info8
  simp [Program.cellsOf, hi, hz1]
theorem size8 : (Try.prog.info? 5).map (·.size) = some 1 := by
  obtain ⟨i0, hi, _, hz1, _⟩ := info_parts info8
  rw [hi]; simp [hz1]
theorem bytes_same (l : List UInt8) : Lib.byteCells l = cellsOf l := rfl

/-- make([]byte, n) -/
theorem make_any (n : Nat) (hn : n ≤ 140737488355328) (u : World) : (Instr.makeSlice 34 (.int .i64 (n : Int)) (.int .i64 (n : Int))).run Try.prog u =
    .ok (.slice (some ⟨u.heap.size, 0, none⟩) n n) (u.alloc (.cells (cellsOf (List.replicate n 0)).toArray 5)) := by
  obtain ⟨i0, hi, hz0, hz1, hz2⟩ := info_parts info8
  have h := run_make (P := Try.prog) u 34 5 i0 (.int .u8 0) Try.underlying34 hi hz0 .i64 .i64 (n : Int) (n : Int) (by omega) (Int.le_refl _) (by rw [hz2]; omega) (by omega)
  rw [Int.toNat_natCast] at h
  rw [cellsOf_zero, ← toList_madeCells_one]
  simpa [hz1, Value.cells] using h

/-- copy(b, s), where b has just the room -/
theorem copy_all (w : World) (s : ByteArray) (M : Array Value) (hM : M.size = s.size) : ∃ w2, (Builtin.copy_ #[34, 9] 3 #[.slice (some ⟨w.heap.size, 0, none⟩) s.size s.size, .string s]).run Try.prog (w.alloc (.cells M 5)) = .ok (goInt s.size) w2 ∧
    Blk w2 w.heap.size 5 (cellsOf (bs s)).toArray ∧ Below w.heap.size w w2 := by
  have h := Lib.run_copy_row_string (P := Try.prog) (w.alloc (.cells M 5)) 34 9 3 5 w.heap.size 0 s.size s.size s M 5 Try.underlying34 size8 (heap_alloc_new w _) (Nat.le_refl _) (by omega)
  have e : (M.toList.take 0 ++ Lib.byteCells s.data.toList ++ M.toList.drop (0 + s.size)) = cellsOf (bs s) := by
    rw [List.take_zero, List.nil_append, List.drop_of_length_le (by rw [Array.length_toList]; omega), List.append_nil]; rfl
  rw [e] at h
  refine ⟨_, h, setRow_heap _ _ M _ 5 (0, 0) (heap_alloc_new w _), ?_⟩
  exact ((Below.refl _ w).alloc (Nat.le_refl _) _).trans ⟨rfl, rfl, rfl, by simp, fun k hk => setRow_other _ _ _ _ (by omega)⟩

/-- a string over all of a row -/
theorem str_all (w : World) (g : Nat) (s : ByteArray) (h0 : s.size ≠ 0) (h63 : s.size ≤ 9223372036854775807) (hb : Blk w g 5 (cellsOf (bs s)).toArray) :
    (Builtin.unsafeString_ #[41, 3] 9 #[.pointer (some ⟨g, 0, none⟩), .int .i64 s.size]).run Try.prog w = .ok (.string s) (w.freeze ⟨g, 0, none⟩ s.size) := by
  have h := Lib.run_unsafeString_row (P := Try.prog) w 41 3 9 5 Try.underlying41 cells8 g (cellsOf (bs s)).length (by unfold World.shape?; rw [hb.heap]; simp) (bs s)
    (fun e => h0 (by rw [← bs_length, e]; rfl)) (by rw [cellsOf_length]; exact Nat.le_refl _) (by rw [bs_length]; exact h63)
    (fun j x hx => by rw [add_none, Nat.zero_add, hb.cell, List.getElem?_toArray]; exact cellsOf_get hx)
  have e : (⟨(bs s).toArray⟩ : ByteArray) = s := bs_inj rfl
  rw [e, bs_length] at h
  exact h

set_option maxHeartbeats 1000000 in
theorem clone_in (s : ByteArray) (w : World) (hs : s.size ≤ 140737488355328) :
    Calls Try.prog 35 #[.string s] w fun e w' => e = .returned (.string s) ∧ Below w.heap.size w w' := by
  by_cases h0 : s.size = 0
  · have e : s = ⟨#[]⟩ := bs_inj (bs_nil s h0)
    subst e
    go_enter Try.func35, Try.ntmps35
    go_wp2
    go_ret
    exact ⟨rfl, Below.refl _ _⟩
  · have hmk := make_any s.size hs
    have hMs : ((cellsOf (List.replicate s.size 0)).toArray).size = s.size := by simp [cellsOf]
    generalize (cellsOf (List.replicate s.size 0)).toArray = M at hmk hMs
    obtain ⟨w2, hcp, hb2, hbel⟩ := copy_all w s M hMs
    have hus := str_all w2 w.heap.size s h0 (by omega) hb2
    have HB := Lib.hid hbel
    clear hMs hb2
    go_enter Try.func35, Try.ntmps35
    go_wp2
    go_ret
    exact ⟨rfl, Lib.below_freeze HB.out (p := ⟨w.heap.size, 0, none⟩) (Nat.le_refl _) _⟩

theorem clone_any (s : ByteArray) (w : World) (hs : s.size ≤ 140737488355328) :
    Calls Try.prog 30 #[.string s] w fun e w' => e = .returned (.string s) ∧ Below w.heap.size w w' := by
  go_enter Try.func30, Try.ntmps30
  go_wp2_with (go_at_call 35; refine (clone_in _ _ hs).mono ?_; rintro e w' ⟨rfl, hb⟩)
  go_ret
  exact ⟨rfl, hb⟩

theorem bs_extract (s : ByteArray) (a t : Nat) : bs (s.extract a t) = ((bs s).drop a).take (t - a) := by
  simp [bs, ByteArray.data_extract, Array.toList_extract, List.extract_eq_take_drop]

/-- what stands between the blanks -/
theorem trim_ends (l : List UInt8) (a t : Nat) (hat : a ≤ t) (htl : t ≤ l.length) (h1 : (l.take a).all blkB = true) (h2 : ∀ h : a < l.length, blkB l[a] = false)
    (h3 : (l.drop t).all blkB = true) (h4 : ∀ h : a < t, blkB (l[t - 1]'(by omega)) = false) : trimL l = (l.drop a).take (t - a) := by
  have hd : ∀ (p : UInt8 → Bool) (x y : List UInt8), x.all p = true → (x ++ y).dropWhile p = y.dropWhile p := by
    intro p x y hx
    exact List.dropWhile_append_of_pos (fun z hz => List.all_eq_true.1 hx z hz)
  have e1 : l.dropWhile blkB = l.drop a := by
    conv => lhs; rw [← List.take_append_drop a l]
    rw [hd _ _ _ h1]
    by_cases h : a < l.length
    · rw [List.drop_eq_getElem_cons h, List.dropWhile_cons_of_neg (by rw [h2 h]; simp)]
    · rw [List.drop_of_length_le (by omega)]; rfl
  have e2 : l.drop a = (l.drop a).take (t - a) ++ l.drop t := by
    conv => lhs; rw [← List.take_append_drop (t - a) (l.drop a)]
    rw [List.drop_drop, show a + (t - a) = t by omega]
  rw [trimL, e1, trimR]
  conv => lhs; rw [e2]
  rw [List.reverse_append, hd _ _ _ (by rw [List.all_reverse]; exact h3)]
  by_cases h : a < t
  · have e3 : ((l.drop a).take (t - a)) = ((l.drop a).take (t - a - 1)) ++ [l[t - 1]'(by omega)] := by
      have h5 : t - a - 1 < (l.drop a).length := by rw [List.length_drop]; omega
      conv => lhs; rw [show t - a = (t - a - 1) + 1 by omega, List.take_succ_eq_append_getElem h5]
      congr 2
      rw [List.getElem_drop]
      congr 1
      omega
    rw [e3, List.reverse_append]
    show (List.dropWhile blkB (l[t - 1] :: _)).reverse = _
    rw [List.dropWhile_cons_of_neg (by rw [h4 h]; simp)]
    simp
  · rw [show t - a = 0 by omega]; simp

def trimS (s : ByteArray) : ByteArray := ⟨(trimL (bs s)).toArray⟩
theorem trim_is (s : ByteArray) (a t : Nat) (hat : a ≤ t) (htl : t ≤ s.size) (h1 : ((bs s).take a).all blkB = true) (h2 : ∀ h : a < s.size, blkB (s[a]'h) = false)
    (h3 : ((bs s).drop t).all blkB = true) (h4 : ∀ h : a < t, blkB (s[t - 1]'(by omega)) = false) : s.extract a t = trimS s := by
  apply bs_inj
  show bs (s.extract a t) = trimL (bs s)
  rw [bs_extract, trim_ends (bs s) a t hat htl h1 h2 h3 h4]

theorem blk_take (s : ByteArray) (pos : Nat) (h : pos < s.size) (ht : ((bs s).take pos).all blkB = true) (hc : blkB (s[pos]'h) = true) : ((bs s).take (pos + 1)).all blkB = true := by
  rw [bs_take s pos h, List.all_append, ht]; simpa using hc
theorem blk_drop (s : ByteArray) (k : Nat) (h : k < s.size) (ht : ((bs s).drop (k + 1)).all blkB = true) (hc : blkB (s[k]'h) = true) : ((bs s).drop k).all blkB = true := by
  rw [bs_drop s k h, List.all_cons, hc, ht]; rfl
theorem blk_end (s : ByteArray) : ((bs s).drop s.size).all blkB = true := by rw [bs_end s s.size (by omega)]; rfl

theorem wrap32_byte (c : UInt8) : wrap32 (c.toNat : Int) = (c.toNat : Int) := by
  have := c.toNat_lt
  unfold wrap32
  omega

theorem size_ext (s : ByteArray) (a b : Nat) : (s.extract a b).size ≤ s.size := by
  rw [← bs_length, bs_extract, ← bs_length s]
  simp only [List.length_take, List.length_drop]
  omega
theorem ret_s {a b : ByteArray} (h : a = b) : Ending.returned (.string a) = .returned (.string b) := by rw [h]
theorem full_take (s : ByteArray) (pos : Nat) (h : ¬ pos < s.size) (ht : ((bs s).take pos).all blkB = true) : ((bs s).take s.size).all blkB = true := by
  rw [List.take_of_length_le (by rw [bs_length]; omega)] at ht
  rw [List.take_of_length_le (by rw [bs_length]; exact Nat.le_refl _)]
  exact ht

def TrimIn (s : ByteArray) (w : World) (x : Value) (w' : World) : Prop := ∃ pos, w' = w.iter s pos ∧ x = .int .i64 s.size ∧ pos ≤ s.size ∧ ((bs s).take pos).all blkB = true

set_option maxHeartbeats 2000000 in
theorem trim_any (s : ByteArray) (w : World) (hs : s.size ≤ 140737488355328) :
    Calls Try.prog 17 #[.string s] w fun e w' => e = .returned (.string (trimS s)) ∧ Below w.heap.size w w' := by
  go_enter Try.func17, Try.ntmps17
  go_wp2
  go_loopw [3] (fun x w' => TrimIn s w x w') (fun _ w' => s.size - w'.iterPos w.heap.size)
  case atStart => exact ⟨0, rfl, rfl, Nat.zero_le _, rfl⟩
  case round =>
    obtain ⟨pos, rfl, rfl, hle, ht⟩ := hrel
    have HT := Lib.hid ht
    clear ht
    by_cases hp : pos < s.size
    · obtain ⟨hr, h1⟩ := at_rune blk_low s pos hp
      have hnx : ∀ ty, (Instr.next (.pointer (some ⟨w.heap.size, 0, none⟩)) true ty).run Try.prog (w.iter s pos) = _ := fun ty => run_next_any w s pos ty hp
      cases hc : blkI ((s[pos]'hp).toNat : Int)
      · have HC := Lib.hid hc
        rw [hc] at hr
        have HR := Lib.hid hr
        clear hr hc h1
        generalize pos + (Utf8.decode s pos).2 = pos2 at hnx
        go_wp2_with (go_at_call 29; refine (isBlank_any _ _).mono ?_; rintro e w' ⟨rfl, rfl⟩; rw [HR.out])
        go_loop [4] (fun x => ∃ t : Nat, x = .int .i64 t ∧ pos ≤ t ∧ t ≤ s.size ∧ ((bs s).drop t).all blkB = true) (fun x => (intOf x).toNat)
        case atStart => exact ⟨s.size, rfl, hle, Nat.le_refl _, blk_end s⟩
        case round =>
          obtain ⟨t, rfl, hpt, hts, hbl⟩ := hrel
          have HBL := Lib.hid hbl
          clear hbl
          have hlim : ∀ a b, (s.extract a b).size ≤ 140737488355328 := fun a b => by have := size_ext s a b; omega
          have HL := Lib.hid hlim
          clear hlim
          by_cases hlt : pos < t
          · obtain ⟨k, rfl⟩ : ∃ k, t = k + 1 := ⟨t - 1, by omega⟩
            have hk : k < s.size := by omega
            cases hd : blkI ((s[k]'hk).toNat : Int)
            · have HD := Lib.hid hd
              have HD2 := Lib.hid ((congrArg blkI (wrap32_byte (s[k]'hk))).trans hd)
              clear hd
              go_wp2_with (first | (go_at_call 29; refine (isBlank_any _ _).mono ?_; rintro e w' ⟨rfl, rfl⟩; rw [HD2.out]) | (go_at_call 30; refine (clone_any _ _ (HL.out _ _)).mono ?_; rintro e w' ⟨rfl, hbe⟩))
              go_ret
              refine ⟨ret_s ?_, (below_iter w s _).trans (hbe.mono (below_iter w s _).size)⟩
              have hx := trim_is s pos (k + 1) hpt hts HT.out (fun _ => HC.out) HBL.out (fun _ => HD.out)
              rw [← hx]
            · have HD := Lib.hid hd
              have HD2 := Lib.hid ((congrArg blkI (wrap32_byte (s[k]'hk))).trans hd)
              clear hd
              go_wp2_with (go_at_call 29; refine (isBlank_any _ _).mono ?_; rintro e w' ⟨rfl, rfl⟩; rw [HD2.out])
              go_round
              case rel => exact ⟨k, by go_num, by omega, by omega, blk_drop s k hk HBL.out HD.out⟩
              case measure => simp [intOf]
          · go_wp2_with (go_at_call 30; refine (clone_any _ _ (HL.out _ _)).mono ?_; rintro e w' ⟨rfl, hbe⟩)
            go_ret
            refine ⟨ret_s ?_, (below_iter w s _).trans (hbe.mono (below_iter w s _).size)⟩
            have hx := trim_is s pos t hpt hts HT.out (fun _ => HC.out) HBL.out (fun h => absurd h hlt)
            rw [← hx]
      · have h1' := h1 hc
        rw [h1'] at hnx
        have HC := Lib.hid hc
        rw [hc] at hr
        have HR := Lib.hid hr
        clear hr hc h1 h1'
        go_wp2_with (go_at_call 29; refine (isBlank_any _ _).mono ?_; rintro e w' ⟨rfl, rfl⟩; rw [HR.out])
        go_roundw
        case rel => exact ⟨pos + 1, rfl, rfl, hp, blk_take s pos hp HT.out HC.out⟩
        case measure => simp; omega
    · have hnx := fun ty => run_next_end (P := Try.prog) w s pos ty hp
      go_wp2
      go_loop [4] (fun x => ∃ t : Nat, x = .int .i64 t ∧ s.size ≤ t ∧ t ≤ s.size ∧ ((bs s).drop t).all blkB = true) (fun x => (intOf x).toNat)
      case atStart => exact ⟨s.size, rfl, (Nat.le_refl _), Nat.le_refl _, blk_end s⟩
      case round =>
        obtain ⟨t, rfl, hpt, hts, hbl⟩ := hrel
        have HBL := Lib.hid hbl
        clear hbl
        have hlim : ∀ a b, (s.extract a b).size ≤ 140737488355328 := fun a b => by have := size_ext s a b; omega
        have HL := Lib.hid hlim
        clear hlim
        by_cases hlt : s.size < t
        · exact absurd hlt (by omega)
        · go_wp2_with (go_at_call 30; refine (clone_any _ _ (HL.out _ _)).mono ?_; rintro e w' ⟨rfl, hbe⟩)
          go_ret
          refine ⟨ret_s ?_, (below_iter w s _).trans (hbe.mono (below_iter w s _).size)⟩
          have hx := trim_is s s.size t hpt hts (full_take s pos hp HT.out) (fun h => absurd h (by omega)) HBL.out (fun h => absurd h hlt)
          rw [← hx]
end Go.Proofs.Ytpeahbejmhmbjaa.Asc
