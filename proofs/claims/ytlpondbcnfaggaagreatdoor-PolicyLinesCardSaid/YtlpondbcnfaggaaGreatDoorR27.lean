/-
  Contract of strings.Clone over this seat's translation (XAscTrim's, for seats without Trim).
-/
import Derived.Test.YtlpondbcnfaggaaGreatDoorR22
import Derived.Lib.UnsafeStr
import Derived.Lib.BufferWrite
import Derived.Lib.Buffer
import Derived.Laws.MakeOwn
import Derived.Test.YtlpondbcnfaggaaGreatDoorR25
import Derived.Test.YtlpondbcnfaggaaGreatDoorR12
import Derived.Test.YtlpondbcnfaggaaGreatDoorR03
import Derived.Test.YtlpondbcnfaggaaGreatDoorR26
namespace Go.Proofs.YtlpondbcnfaggaaGreatDoor.Asc
open Go.RowKit Go.Proofs.YtlpondbcnfaggaaGreatDoor.Wd

theorem info8 : (Tryz.prog.info? 5).map (fun i => (i.zero, i.size, i.bytes)) = some (some (.int .u8 0), 1, 1) := by kernel_rfl
theorem cells8 : Tryz.prog.cellsOf 5 = 1 := by
  obtain ⟨i0, hi, _, hz1, _⟩ := info_parts info8
  simp [Program.cellsOf, hi, hz1]
theorem size8 : (Tryz.prog.info? 5).map (·.size) = some 1 := by
  obtain ⟨i0, hi, _, hz1, _⟩ := info_parts info8
  rw [hi]; simp [hz1]
theorem bytes_same (l : List UInt8) : Lib.byteCells l = cellsOf l := rfl

/-- make([]byte, n) -/
theorem make_any (n : Nat) (hn : n ≤ 281474976710656) (u : World) : (Instr.makeSlice 110 (.int .i64 (n : Int)) (.int .i64 (n : Int))).run Tryz.prog u =
    .ok (.slice (some ⟨u.heap.size, 0, none⟩) n n) (u.alloc (.cells (cellsOf (List.replicate n 0)).toArray 5)) := by
  obtain ⟨i0, hi, hz0, hz1, hz2⟩ := info_parts info8
  have h := run_make (P := Tryz.prog) u 110 5 i0 (.int .u8 0) Tryz.underlying110 hi hz0 .i64 .i64 (n : Int) (n : Int) (by omega) (Int.le_refl _) (by rw [hz2]; omega) (by omega)
  rw [Int.toNat_natCast] at h
  rw [cellsOf_zero, ← toList_madeCells_one]
  simpa [hz1, Value.cells] using h

/-- copy(b, s), where b has just the room -/
theorem copy_all (w : World) (s : ByteArray) (M : Array Value) (hM : M.size = s.size) : ∃ w2, (Builtin.copy_ #[110, 9] 3 #[.slice (some ⟨w.heap.size, 0, none⟩) s.size s.size, .string s]).run Tryz.prog (w.alloc (.cells M 5)) = .ok (goInt s.size) w2 ∧
    Blk w2 w.heap.size 5 (cellsOf (bs s)).toArray ∧ Below w.heap.size w w2 := by
  have h := Lib.run_copy_row_string (P := Tryz.prog) (w.alloc (.cells M 5)) 110 9 3 5 w.heap.size 0 s.size s.size s M 5 Tryz.underlying110 size8 (heap_alloc_new w _) (Nat.le_refl _) (by omega)
  have e : (M.toList.take 0 ++ Lib.byteCells s.data.toList ++ M.toList.drop (0 + s.size)) = cellsOf (bs s) := by
    rw [List.take_zero, List.nil_append, List.drop_of_length_le (by rw [Array.length_toList]; omega), List.append_nil]; rfl
  rw [e] at h
  refine ⟨_, h, setRow_heap _ _ M _ 5 (0, 0) (heap_alloc_new w _), ?_⟩
  exact ((Below.refl _ w).alloc (Nat.le_refl _) _).trans ⟨rfl, rfl, rfl, by simp, fun k hk => setRow_other _ _ _ _ (by omega)⟩

/-- a string over all of a row -/
theorem str_all (w : World) (g : Nat) (s : ByteArray) (h0 : s.size ≠ 0) (h63 : s.size ≤ 9223372036854775807) (hb : Blk w g 5 (cellsOf (bs s)).toArray) :
    (Builtin.unsafeString_ #[163, 3] 9 #[.pointer (some ⟨g, 0, none⟩), .int .i64 s.size]).run Tryz.prog w = .ok (.string s) (w.freeze ⟨g, 0, none⟩ s.size) := by
  have h := Lib.run_unsafeString_row (P := Tryz.prog) w 163 3 9 5 Tryz.underlying163 cells8 g (cellsOf (bs s)).length (by unfold World.shape?; rw [hb.heap]; simp) (bs s)
    (fun e => h0 (by rw [← bs_length, e]; rfl)) (by rw [cellsOf_length]; exact Nat.le_refl _) (by rw [bs_length]; exact h63)
    (fun j x hx => by rw [add_none, Nat.zero_add, hb.cell, List.getElem?_toArray]; exact cellsOf_get hx)
  have e : (⟨(bs s).toArray⟩ : ByteArray) = s := bs_inj rfl
  rw [e, bs_length] at h
  exact h

set_option maxRecDepth 100000 in
set_option maxHeartbeats 1000000 in
theorem cloneL_in (s : ByteArray) (w : World) (hs : s.size ≤ 281474976710656) :
    Calls Tryz.prog 119 #[.string s] w fun e w' => e = .returned (.string s) ∧ Below w.heap.size w w' := by
  by_cases h0 : s.size = 0
  · have e : s = ⟨#[]⟩ := bs_inj (bs_nil s h0)
    subst e
    go_enter Tryz.func119, Tryz.ntmps119
    go_wp2
    go_ret
    exact ⟨rfl, Below.refl _ _⟩
  · have hmk := make_any s.size hs
    have hMs : ((cellsOf (List.replicate s.size 0)).toArray).size = s.size := by simp [cellsOf]
    generalize (cellsOf (List.replicate s.size 0)).toArray = M at hmk hMs
    obtain ⟨w2, hcp, hb2, hbel⟩ := copy_all w s M hMs
    have hus := str_all w2 w.heap.size s h0 (by omega) hb2
    have HB := Lib.hid hbel
    clear hMs hb2
    go_enter Tryz.func119, Tryz.ntmps119
    go_wp2
    go_ret
    exact ⟨rfl, Lib.below_freeze HB.out (p := ⟨w.heap.size, 0, none⟩) (Nat.le_refl _) _⟩

theorem cloneL_any (s : ByteArray) (w : World) (hs : s.size ≤ 281474976710656) :
    Calls Tryz.prog 76 #[.string s] w fun e w' => e = .returned (.string s) ∧ Below w.heap.size w w' := by
  go_enter Tryz.func76, Tryz.ntmps76
  go_wp2_with (go_at_call 119; refine (cloneL_in _ _ hs).mono ?_; rintro e w' ⟨rfl, hb⟩)
  go_ret
  exact ⟨rfl, hb⟩
theorem clone_in (s : ByteArray) (w : World) (hs : s.size ≤ 140737488355328) :
    Calls Tryz.prog 119 #[.string s] w fun e w' => e = .returned (.string s) ∧ Below w.heap.size w w' := cloneL_in s w (by omega)
theorem clone_any (s : ByteArray) (w : World) (hs : s.size ≤ 140737488355328) :
    Calls Tryz.prog 76 #[.string s] w fun e w' => e = .returned (.string s) ∧ Below w.heap.size w w' := cloneL_any s w (by omega)
end Go.Proofs.YtlpondbcnfaggaaGreatDoor.Asc

/-
  Rows of strings, one at least, in a block: as strings.Split lays them, as make lays room for them, as they are filled from the front. No condition.
-/
namespace Go.Proofs.YtlpondbcnfaggaaGreatDoor.Nm
open Go.RowKit Go.Proofs.YtlpondbcnfaggaaGreatDoor.Wd Go.Proofs.YtlpondbcnfaggaaGreatDoor.Asc Go.Proofs.YtlpondbcnfaggaaGreatDoor.Ad

theorem infT : (Tryz.prog.info? 9).map (fun i => (i.zero, i.size, i.bytes)) = some (some (.string ⟨#[]⟩), 1, 16) := by kernel_rfl
abbrev strs (L : List (List UInt8)) : List Value := L.map fun l => Value.string (str l)
/-- the slice v leads to the strings L -/
def RowL (w : World) (v : Value) (L : List (List UInt8)) : Prop :=
  ∃ g c, v = .slice (some ⟨g, 0, none⟩) L.length c ∧ L.length ≤ c ∧ g < w.heap.size ∧ ∀ k l, L[k]? = some l → w.cell? ⟨g, k, none⟩ = some (.string (str l))
section
variable {w w' : World} {v : Value} {L : List (List UInt8)}
theorem RowL.below (h : RowL w v L) (hb : Below w.heap.size w w') : RowL w' v L := by
  obtain ⟨g, c, hv, hc, hg, hr⟩ := h
  exact ⟨g, c, hv, hc, Nat.lt_of_lt_of_le hg hb.size, fun k l hk => (hb.cell (p := ⟨g, k, none⟩) hg).trans (hr k l hk)⟩
theorem RowL.drew (h : RowL w v L) (n : Nat) : RowL (w.drewN n) v L := h
end
theorem strs_at {L : List (List UInt8)} {k : Nat} {l : List UInt8} (h : L[k]? = some l) : (strs L).toArray[k]? = some (.string (str l)) := by
  rw [List.getElem?_toArray, List.getElem?_map, h]
  rfl
theorem RowL.new (w : World) (L : List (List UInt8)) : RowL (w.alloc (.cells (strs L).toArray 9)) (.slice (some ⟨w.heap.size, 0, none⟩) L.length L.length) L :=
  ⟨_, _, rfl, Nat.le_refl _, by simp, fun k l hk => by rw [(Blk.new w 9 _).cell]; exact strs_at hk⟩

/-- make([]string, n) -/
theorem make_strs (n : Nat) (hn : n ≤ 4294967296) : ∃ C : Array Value, C.size = n ∧ ∀ u : World, (Instr.makeSlice 30 (.int .i64 (n : Int)) (.int .i64 (n : Int))).run Tryz.prog u =
    .ok (.slice (some ⟨u.heap.size, 0, none⟩) n n) (u.alloc (.cells C 9)) := by
  obtain ⟨i0, hi, hz0, hz1, hz2⟩ := info_parts infT
  refine ⟨madeCells (Value.string ⟨#[]⟩).cells (n * i0.size), by rw [hz1]; simp [madeCells], fun u => ?_⟩
  have h := run_make (P := Tryz.prog) u 30 9 i0 (.string ⟨#[]⟩) Tryz.underlying30 hi hz0 .i64 .i64 (n : Int) (n : Int) (by omega) (Int.le_refl _) (by rw [hz2]; omega) (by omega)
  rw [Int.toNat_natCast] at h
  exact h

theorem spl_len (c : UInt8) : ∀ l, (splitS c l).length ≤ l.length + 1
  | [] => by simp [splitS]
  | x :: l => by
    have ih := spl_len c l
    have hne := List.length_pos_iff.2 (splitS_ne c l)
    unfold splitS
    split
    · simp; omega
    · simp; omega
theorem spl_mem (c : UInt8) : ∀ (l p : List UInt8), p ∈ splitS c l → p.length ≤ l.length
  | [], p, h => by simp [splitS] at h; subst h; simp
  | x :: l, p, h => by
    have hne := splitS_ne c l
    have ih := spl_mem c l
    unfold splitS at h
    cases hs : splitS c l with
    | nil => exact absurd hs hne
    | cons q r =>
      rw [hs] at h ih
      split at h
      · rcases List.mem_cons.1 h with rfl | h
        · simp
        · have := ih p h; simp; omega
      · rcases List.mem_cons.1 h with rfl | h
        · have := ih q (by simp); simpa using this
        · have := ih p (List.mem_cons_of_mem _ (by simpa using h)); simp; omega

/-- strings.Split at a sign -/
theorem split_any {B : Nat} (s : ByteArray) (c : UInt8) (w : World) (hE : Env B w) (hs : s.size < 4294967281) :
    Calls Tryz.prog 124 #[.string s, .string ⟨#[c]⟩] w fun e w' => ∃ v, e = .returned v ∧ RowL w' v (splitS c (bs s)) ∧ Below w.heap.size w w' := by
  obtain ⟨m, hm⟩ := hE.max
  refine (Tryz.strings_Split s ⟨#[c]⟩ m w hs hm (Nat.le_refl 1)).mono ?_
  rintro e w' ⟨rfl, rfl⟩
  refine ⟨_, rfl, ?_, (Below.refl _ _).alloc (Nat.le_refl _) _⟩
  rw [split_count, split_cells]
  exact RowL.new w (splitS c (bs s))

/-- strings of L in the row's places, as far as k -/
structure Fill (w : World) (g n k : Nat) (L : List (List UInt8)) : Prop where
  at_ : ∃ cur, Blk w g 9 cur ∧ cur.size = n ∧ ∀ j l, j < k → L[j]? = some l → cur[j]? = some (.string (str l))
theorem Fill.below {w w' : World} {g n k : Nat} {L : List (List UInt8)} (h : Fill w g n k L) (hb : Below w.heap.size w w') : Fill w' g n k L := by
  obtain ⟨cur, h1, h2, h3⟩ := h.at_
  exact ⟨cur, h1.below hb h1.lt, h2, h3⟩
theorem Fill.next {w : World} {g n k : Nat} {L : List (List UInt8)} {l : List UInt8} (h : Fill w g n k L) (hk : k < n) (hl : L[k]? = some l) : Fill (w.setCell ⟨g, k, none⟩ (.string (str l))) g n (k + 1) L := by
  obtain ⟨cur, h1, h2, h3⟩ := h.at_
  refine ⟨_, h1.set_ k _, by simpa using h2, fun j x hj hx => ?_⟩
  rw [Array.getElem?_setIfInBounds]
  by_cases e : k = j
  · subst e
    rw [if_pos rfl, if_pos (by omega)]
    rw [hl] at hx
    injection hx with hx
    rw [hx]
  · rw [if_neg e]
    exact h3 j x (by omega) hx
theorem Fill.row {w : World} {g n : Nat} {L : List (List UInt8)} (h : Fill w g n n L) (hn : L.length = n) : RowL w (.slice (some ⟨g, 0, none⟩) n n) L := by
  obtain ⟨cur, h1, h2, h3⟩ := h.at_
  exact ⟨g, n, by rw [hn], by omega, h1.lt, fun k l hk => by rw [h1.cell]; exact h3 k l (by have := (List.getElem?_eq_some_iff.1 hk).1; omega) hk⟩
theorem rev_at {L : List (List UInt8)} {n k : Nat} (hn : L.length = n) (hk : k < n) : L[n - 1 - k]? = L.reverse[k]? := by
  rw [List.getElem?_reverse (by omega), hn]

set_option maxRecDepth 100000 in
set_option maxHeartbeats 4000000 in
/-- what stands between dots, the last one first -/
theorem backward_any {B : Nat} (s : ByteArray) (w : World) (hE : Env B w) (hs : s.size < 4294967281) :
    Calls Tryz.prog 90 #[.string s] w fun e w' => ∃ v, e = .returned v ∧ RowL w' v (splitS 46 (bs s)).reverse ∧ Below w.heap.size w w' := by
  have HS := Lib.hid (split_any (B := B) s 46 w hE hs)
  have hsz : ∀ p ∈ splitS 46 (bs s), p.length ≤ 140737488355328 := fun p hp => by
    have := spl_mem 46 (bs s) p hp
    rw [bs_length] at this
    omega
  have hle := spl_len 46 (bs s)
  rw [bs_length] at hle
  obtain ⟨L, hL⟩ : ∃ L, splitS 46 (bs s) = L := ⟨_, rfl⟩
  obtain ⟨n, hn⟩ : ∃ n, L.length = n := ⟨_, rfl⟩
  rw [hL] at HS hsz hle ⊢
  rw [hn] at hle
  obtain ⟨C, hC, hmk⟩ := make_strs n (by omega)
  have HZ := Lib.hid hsz
  have HN := Lib.hid hn
  have hn9 : n ≤ 4294967281 := by omega
  clear hL hsz hle hE hs
  go_enter Tryz.func90, Tryz.ntmps90
  go_wp2_with fail
  refine HS.out.mono ?_
  rintro e w1 ⟨v, rfl, hr, hb⟩
  obtain ⟨g, c, rfl, hc, hg, hcell⟩ := hr
  rw [HN.out]
  have HB := Lib.hid hb
  have HC := Lib.hid hcell
  have HF : Hid (Fill (w1.alloc (.cells C 9)) w1.heap.size n 0 L.reverse) := Lib.hid ⟨C, Blk.new w1 _ C, hC, fun j l hj => by omega⟩
  have hw1 : w.heap.size ≤ w1.heap.size := hb.size
  clear hb hcell hC HS hc
  go_wp2_with fail
  clear hmk
  obtain ⟨G, hG⟩ : ∃ G, w1.heap.size = G := ⟨_, rfl⟩
  have HB1 : Hid (Below G w1 (w1.alloc (.cells C 9))) := Lib.hid ((Below.refl _ _).alloc (by rw [hG]; exact Nat.le_refl _) _)
  rw [hG] at hg hw1 HF ⊢
  have HW := Lib.hid hw1
  clear hw1
  go_loopw [13] (fun i wr => ∃ k : Nat, k ≤ n ∧ i = .int .i64 (k : Int) ∧ Hid (Fill wr G n k L.reverse) ∧ Hid (Below G w1 wr)) (fun i _ => n - (intOf i).toNat)
  case atStart => exact ⟨0, Nat.zero_le _, rfl, HF, HB1⟩
  case round =>
    obtain ⟨k, hk, rfl, HFk, HBk⟩ := hrel
    by_cases hlt : k < n
    · obtain ⟨p, hp⟩ : ∃ p, L.reverse[k]? = some p := ⟨_, List.getElem?_eq_getElem (by rw [List.length_reverse, HN.out]; exact hlt)⟩
      have hq : L[n - 1 - k]? = some p := by rw [rev_at HN.out hlt]; exact hp
      have hz := HZ.out p (List.mem_of_getElem? hq)
      obtain ⟨P, hP⟩ : ∃ P, str p = P := ⟨_, rfl⟩
      have hPz : P.size ≤ 140737488355328 := by rw [← hP, str_size]; exact hz
      obtain ⟨m, hm⟩ : ∃ m, n - 1 - k = m := ⟨_, rfl⟩
      have hmi : (n : Int) - 1 - (k : Int) = (m : Int) := by omega
      have hml : m < n := by omega
      rw [hm] at hq
      have hcl : wr.cell? ⟨g, m, none⟩ = some (.string P) := by rw [HBk.out.cell (p := ⟨g, m, none⟩) hg, ← hP]; exact HC.out m p hq
      have HK := Lib.hid (fun u => clone_any P u hPz)
      have HP := Lib.hid hP
      have Hp := Lib.hid hp
      clear hq hz hP hPz hm hp
      go_wp2_with fail
      refine (HK.out _).mono ?_
      rintro e w2 ⟨rfl, hb2⟩
      have HF2 := Lib.hid (HFk.out.below hb2)
      have HB2 := Lib.hid (HBk.out.trans (hb2.mono (by have := HBk.out.size; have := hG; omega)))
      obtain ⟨cur, hblk, hcs, _⟩ := HF2.out.at_
      have hcl2 : ∃ u, w2.cell? ⟨G, k, none⟩ = some u := by rw [hblk.cell]; exact ⟨_, Array.getElem?_eq_getElem (by omega)⟩
      obtain ⟨u, hcu⟩ := hcl2
      have hfr := hblk.frozen k
      have HF3 := Lib.hid (HF2.out.next hlt Hp.out)
      have HB3 := Lib.hid (HB2.out.setCell (p := ⟨G, k, none⟩) (Nat.le_refl _) (.string (str p)))
      rw [HP.out] at HF3 HB3
      clear hb2 hblk hcl HK
      go_wp2_with fail
      go_roundw
      case rel => exact ⟨k + 1, hlt, by go_num, HF3, HB3⟩
      case measure => simp [intOf]; omega
    · obtain rfl : k = n := by omega
      go_wp2_with fail
      go_ret
      refine ⟨_, rfl, HFk.out.row (by rw [List.length_reverse, HN.out]), HB.out.trans (HBk.out.mono HW.out)⟩
end Go.Proofs.YtlpondbcnfaggaaGreatDoor.Nm
