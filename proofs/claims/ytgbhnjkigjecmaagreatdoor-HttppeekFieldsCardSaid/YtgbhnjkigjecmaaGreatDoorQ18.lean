/-
  Contract of strings.Clone over this seat's translation (XAscTrim's, for seats without Trim).
-/
import Derived.Test.YtgbhnjkigjecmaaGreatDoorQ08
import Derived.Lib.UnsafeStr
import Derived.Lib.BufferWrite
import Derived.Lib.Buffer
import Derived.Laws.MakeOwn
import Derived.Test.YtgbhnjkigjecmaaGreatDoorQ16
import Derived.Test.YtgbhnjkigjecmaaGreatDoorQ17
namespace Go.Proofs.YtgbhnjkigjecmaaGreatDoor.Asc
open Go.RowKit Go.Proofs.YtgbhnjkigjecmaaGreatDoor.Wd

theorem info8 : (Tryz.prog.info? 5).map (fun i => (i.zero, i.size, i.bytes)) = some (some (.int .u8 0), 1, 1) := by kernel_rfl
theorem cells8 : Tryz.prog.cellsOf 5 = 1 := by
  obtain ⟨i0, hi, _, hz1, _⟩ := info_parts info8
  simp [Program.cellsOf, hi, hz1]
theorem size8 : (Tryz.prog.info? 5).map (·.size) = some 1 := by
  obtain ⟨i0, hi, _, hz1, _⟩ := info_parts info8
  rw [hi]; simp [hz1]
theorem bytes_same (l : List UInt8) : Lib.byteCells l = cellsOf l := rfl

/-- make([]byte, n) -/
theorem make_any (n : Nat) (hn : n ≤ 281474976710656) (u : World) : (Instr.makeSlice 22 (.int .i64 (n : Int)) (.int .i64 (n : Int))).run Tryz.prog u =
    .ok (.slice (some ⟨u.heap.size, 0, none⟩) n n) (u.alloc (.cells (cellsOf (List.replicate n 0)).toArray 5)) := by
  obtain ⟨i0, hi, hz0, hz1, hz2⟩ := info_parts info8
  have h := run_make (P := Tryz.prog) u 22 5 i0 (.int .u8 0) Tryz.underlying22 hi hz0 .i64 .i64 (n : Int) (n : Int) (by omega) (Int.le_refl _) (by rw [hz2]; omega) (by omega)
  rw [Int.toNat_natCast] at h
  rw [cellsOf_zero, ← toList_madeCells_one]
  simpa [hz1, Value.cells] using h

/-- copy(b, s), where b has just the room -/
theorem copy_all (w : World) (s : ByteArray) (M : Array Value) (hM : M.size = s.size) : ∃ w2, (Builtin.copy_ #[22, 9] 3 #[.slice (some ⟨w.heap.size, 0, none⟩) s.size s.size, .string s]).run Tryz.prog (w.alloc (.cells M 5)) = .ok (goInt s.size) w2 ∧
    Blk w2 w.heap.size 5 (cellsOf (bs s)).toArray ∧ Below w.heap.size w w2 := by
  have h := Lib.run_copy_row_string (P := Tryz.prog) (w.alloc (.cells M 5)) 22 9 3 5 w.heap.size 0 s.size s.size s M 5 Tryz.underlying22 size8 (heap_alloc_new w _) (Nat.le_refl _) (by omega)
  have e : (M.toList.take 0 ++ Lib.byteCells s.data.toList ++ M.toList.drop (0 + s.size)) = cellsOf (bs s) := by
    rw [List.take_zero, List.nil_append, List.drop_of_length_le (by rw [Array.length_toList]; omega), List.append_nil]; rfl
  rw [e] at h
  refine ⟨_, h, setRow_heap _ _ M _ 5 (0, 0) (heap_alloc_new w _), ?_⟩
  exact ((Below.refl _ w).alloc (Nat.le_refl _) _).trans ⟨rfl, rfl, rfl, by simp, fun k hk => setRow_other _ _ _ _ (by omega)⟩

/-- a string over all of a row -/
theorem str_all (w : World) (g : Nat) (s : ByteArray) (h0 : s.size ≠ 0) (h63 : s.size ≤ 9223372036854775807) (hb : Blk w g 5 (cellsOf (bs s)).toArray) :
    (Builtin.unsafeString_ #[112, 3] 9 #[.pointer (some ⟨g, 0, none⟩), .int .i64 s.size]).run Tryz.prog w = .ok (.string s) (w.freeze ⟨g, 0, none⟩ s.size) := by
  have h := Lib.run_unsafeString_row (P := Tryz.prog) w 112 3 9 5 Tryz.underlying112 cells8 g (cellsOf (bs s)).length (by unfold World.shape?; rw [hb.heap]; simp) (bs s)
    (fun e => h0 (by rw [← bs_length, e]; rfl)) (by rw [cellsOf_length]; exact Nat.le_refl _) (by rw [bs_length]; exact h63)
    (fun j x hx => by rw [add_none, Nat.zero_add, hb.cell, List.getElem?_toArray]; exact cellsOf_get hx)
  have e : (⟨(bs s).toArray⟩ : ByteArray) = s := bs_inj rfl
  rw [e, bs_length] at h
  exact h

set_option maxRecDepth 100000 in
set_option maxHeartbeats 1000000 in
theorem cloneL_in (s : ByteArray) (w : World) (hs : s.size ≤ 281474976710656) :
    Calls Tryz.prog 49 #[.string s] w fun e w' => e = .returned (.string s) ∧ Below w.heap.size w w' := by
  by_cases h0 : s.size = 0
  · have e : s = ⟨#[]⟩ := bs_inj (bs_nil s h0)
    subst e
    go_enter Tryz.func49, Tryz.ntmps49
    go_wp2
    go_ret
    exact ⟨rfl, Below.refl _ _⟩
  · have hmk := make_any s.size hs
    have hMs : ((cellsOf (List.replicate s.size 0)).toArray).size = s.size := by simp [cellsOf]
    generalize (cellsOf (List.replicate s.size 0)).toArray = M at hmk hMs
    obtain ⟨w2, hcp, hb2, hbel⟩ := copy_all w s M hMs
    have hus := str_all w2 w.heap.size s h0 (by omega) hb2
    have HB := Lib.hid hbel
    clear hMs hb2
    go_enter Tryz.func49, Tryz.ntmps49
    go_wp2
    go_ret
    exact ⟨rfl, Lib.below_freeze HB.out (p := ⟨w.heap.size, 0, none⟩) (Nat.le_refl _) _⟩

theorem cloneL_any (s : ByteArray) (w : World) (hs : s.size ≤ 281474976710656) :
    Calls Tryz.prog 24 #[.string s] w fun e w' => e = .returned (.string s) ∧ Below w.heap.size w w' := by
  go_enter Tryz.func24, Tryz.ntmps24
  go_wp2_with (go_at_call 49; refine (cloneL_in _ _ hs).mono ?_; rintro e w' ⟨rfl, hb⟩)
  go_ret
  exact ⟨rfl, hb⟩
theorem clone_in (s : ByteArray) (w : World) (hs : s.size ≤ 140737488355328) :
    Calls Tryz.prog 49 #[.string s] w fun e w' => e = .returned (.string s) ∧ Below w.heap.size w w' := cloneL_in s w (by omega)
theorem clone_any (s : ByteArray) (w : World) (hs : s.size ≤ 140737488355328) :
    Calls Tryz.prog 24 #[.string s] w fun e w' => e = .returned (.string s) ∧ Below w.heap.size w w' := cloneL_any s w (by omega)
end Go.Proofs.YtgbhnjkigjecmaaGreatDoor.Asc

/-
  Contracts of package reqline's minorOf and Parse over this seat's translation.
-/
namespace Go.Proofs.YtgbhnjkigjecmaaGreatDoor.Rl
open Go.RowKit Go.Proofs.YtgbhnjkigjecmaaGreatDoor.Wd Go.Proofs.YtgbhnjkigjecmaaGreatDoor.Asc Go.Proofs.YtgbhnjkigjecmaaGreatDoor.Tx Go.Proofs.YtgbhnjkigjecmaaGreatDoor.St

/-- what minorOf answers -/
def minT (m : Option Int) : Value := .tuple #[.int .i64 (m.getD 0), .bool m.isSome]
theorem minor_any (c : List UInt8) (C : ByteArray) (hC : str c = C) (w : World) :
    Calls Tryz.prog 53 #[.string C] w fun e w' => e = .returned (minT (minorS c)) ∧ w = w' := by
  by_cases e0 : c = v1 ++ [48]
  · have hc0 : (C.toList == [72, 84, 84, 80, 47, 49, 46, 48]) = true := by rw [← hC, lit_beq, e0]; rfl
    have HF := Lib.hid (show minorS c = some 0 by rw [minorS, if_pos e0])
    clear e0 hC
    go_enter Tryz.func53, Tryz.ntmps53
    go_wp2
    go_ret2
    rw [HF.out]
    exact ⟨rfl, rfl⟩
  · have hc0 : (C.toList == [72, 84, 84, 80, 47, 49, 46, 48]) = false := by rw [← hC, lit_beq]; exact decide_eq_false e0
    by_cases e1 : c = v1 ++ [49]
    · have hc1 : (C.toList == [72, 84, 84, 80, 47, 49, 46, 49]) = true := by rw [← hC, lit_beq, e1]; rfl
      have HF := Lib.hid (show minorS c = some 1 by rw [minorS, if_neg e0, if_pos e1])
      clear e0 e1 hC
      go_enter Tryz.func53, Tryz.ntmps53
      go_wp2
      go_ret2
      rw [HF.out]
      exact ⟨rfl, rfl⟩
    · have hc1 : (C.toList == [72, 84, 84, 80, 47, 49, 46, 49]) = false := by rw [← hC, lit_beq]; exact decide_eq_false e1
      have HF := Lib.hid (show minorS c = none by rw [minorS, if_neg e0, if_neg e1])
      clear e0 e1 hC
      go_enter Tryz.func53, Tryz.ntmps53
      go_wp2
      go_ret2
      rw [HF.out]
      exact ⟨rfl, rfl⟩

set_option maxRecDepth 100000 in
set_option maxHeartbeats 4000000 in
theorem parse_any {N : Nat} (l : List UInt8) (w : World) (hE : Env N w) (hl : l.length ≤ 1125899906842624) :
    Calls Tryz.prog 26 #[.string (str l)] w (ParP (parseS l) w) := by
  obtain ⟨q, hq⟩ : ∃ q, parseS l = q := ⟨_, rfl⟩
  rw [hq]
  have HQ := Lib.hid hq
  have HE := Lib.hid hE
  clear hq hE
  by_cases h2 : l.count 32 = 2
  · obtain ⟨a, b, c, rfl, fa, fb, fc⟩ := three h2
    have HP : Hid (partsS a b c = q) := Lib.hid (by rw [← HQ.out]; exact (parse_three fa fb fc).symm)
    have la : a.length ≤ 1125899906842624 := by simp at hl; omega
    have lb : b.length ≤ 1125899906842624 := by simp at hl; omega
    have lr : (b ++ 32 :: c).length ≤ 1125899906842624 := by simp at hl ⊢; omega
    obtain ⟨A, hA⟩ : ∃ A, str a = A := ⟨_, rfl⟩
    obtain ⟨B, hB⟩ : ∃ B, str b = B := ⟨_, rfl⟩
    obtain ⟨C, hC⟩ : ∃ C, str c = C := ⟨_, rfl⟩
    obtain ⟨R, hR⟩ : ∃ R, str (b ++ 32 :: c) = R := ⟨_, rfl⟩
    obtain ⟨S, hS⟩ : ∃ S, str (a ++ 32 :: (b ++ 32 :: c)) = S := ⟨_, rfl⟩
    have zA : A.size = a.length := by rw [← hA, str_size]
    have zB : B.size = b.length := by rw [← hB, str_size]
    have zR : R.size ≤ 4611686018427387904 := by rw [← hR, str_size]; omega
    have zS : S.size ≤ 4611686018427387904 := by rw [← hS, str_size]; omega
    have hx : partsS a b c = if allS tokI a = false ∨ 32 < A.size then (Rq.zero, (11 : Int)) else if allS visI b = false then (Rq.zero, 3) else if 8000 < B.size then (Rq.zero, 6) else match minorS c with | none => (Rq.zero, 5) | some k => (⟨a, b, k⟩, 0) := by rw [zA, zB]; rfl
    rw [hx] at HP
    have K0 := Lib.hid (show ((bs S).count 32 : Nat) = 2 from by rw [← hS]; exact h2)
    have K1 := Lib.hid (fun w => cutL_yes a (b ++ 32 :: c) 32 S w hS zS fa)
    have K2 := Lib.hid (fun w => cutL_yes b c 32 R w hR zR fb)
    have K3 := Lib.hid (minor_any c C hC)
    have K4 := Lib.hid (token_any A)
    have K5 := Lib.hid (visible_any B)
    rw [show bs A = a by rw [← hA, bs_str]] at K4
    rw [show bs B = b by rw [← hB, bs_str]] at K5
    rw [hA, hR] at K1
    rw [hB, hC] at K2
    generalize allS tokI a = tk at *
    generalize allS visI b = vs at *
    obtain ⟨mi, hmi⟩ : ∃ mi, minorS c = mi := ⟨_, rfl⟩
    rw [hmi] at K3 HP
    have sA : A.size ≤ 1125899906842624 := by omega
    have sB : B.size ≤ 1125899906842624 := by omega
    have HA := Lib.hid hA
    have HB := Lib.hid hB
    clear h2 HQ hl fa fb fc la lb lr zA zB zR zS hx hA hB hC hR hmi
    rw [hS]
    clear hS
    go_enter Tryz.func26, Tryz.ntmps26
    go_upto_region 1 with fail
    have H0 := Lib.hid (PaAt.new w)
    generalize (w.alloc (.cells #[.string ⟨#[]⟩, .string ⟨#[]⟩, .int .i64 0] 39)) = w0 at *
    go_wp2_with fail
    refine (count_any S 32 w0).mono ?_
    rintro e w0' ⟨rfl, rfl⟩
    rw [K0.out]
    go_wp2_with fail
    refine (K1.out w0).mono ?_
    rintro e w1 ⟨rfl, hbl⟩
    have H1 := Lib.hid (H0.out.more hbl)
    clear K0 K1 hbl H0
    go_wp2_with fail
    refine (K2.out w1).mono ?_
    rintro e w2 ⟨rfl, hbl⟩
    have H2 := Lib.hid (H1.out.more hbl)
    clear K2 hbl H1
    go_wp2_with fail
    refine (K3.out w2).mono ?_
    rintro e w2' ⟨rfl, rfl⟩
    clear K3
    have HX : Hid (minT mi = .tuple #[.int .i64 (mi.getD 0), .bool mi.isSome]) := Lib.hid rfl
    rw [HX.out]
    have HN : Hid (mi.isSome = false → mi = none) := Lib.hid (fun h => by cases mi <;> first | rfl | cases h)
    have HY : Hid (mi.isSome = true → mi = some (mi.getD 0)) := Lib.hid (match mi with | none => fun h => by cases h | some _ => fun _ => rfl)
    generalize mi.isSome = kn at *
    generalize mi.getD 0 = k at *
    clear HX
    go_wp2_with fail
    refine (K4.out w2).mono ?_
    rintro e w3 ⟨rfl, hbl⟩
    have H3 := Lib.hid (H2.out.more hbl)
    clear K4 hbl H2
    cases tk with
    | false =>
      have HF : Hid (q = (Rq.zero, 11)) := Lib.hid (by rw [← HP.out, if_pos (.inl rfl)])
      have hk0 := H3.out.ob.cell 0
      have hk1 := H3.out.ob.cell 1
      have hk2 := H3.out.ob.cell 2
      have hf0 := H3.out.ob.frozen 0
      have hf1 := H3.out.ob.frozen 1
      have hf2 := H3.out.ob.frozen 2
      go_wp2_with fail
      obtain ⟨hbk, hbe⟩ := H3.out.set (.string ⟨#[]⟩) (.string ⟨#[]⟩) (.int .i64 0)
      refine ret_two Tryz.results26 hbk undR rfl infR rfl rfl rfl ?_ rfl
      rw [HF.out]
      exact ⟨rfl, hbe⟩
    | true =>
      by_cases hm : 32 < A.size
      · have HF : Hid (q = (Rq.zero, 11)) := Lib.hid (by rw [← HP.out, if_pos (.inr hm)])
        have hmi : (32 : Int) < (A.size : Int) := by omega
        have hk0 := H3.out.ob.cell 0
        have hk1 := H3.out.ob.cell 1
        have hk2 := H3.out.ob.cell 2
        have hf0 := H3.out.ob.frozen 0
        have hf1 := H3.out.ob.frozen 1
        have hf2 := H3.out.ob.frozen 2
        go_wp2_with fail
        obtain ⟨hbk, hbe⟩ := H3.out.set (.string ⟨#[]⟩) (.string ⟨#[]⟩) (.int .i64 0)
        refine ret_two Tryz.results26 hbk undR rfl infR rfl rfl rfl ?_ rfl
        rw [HF.out]
        exact ⟨rfl, hbe⟩
      · have hmi : ¬ (32 : Int) < (A.size : Int) := by omega
        rw [if_neg (show ¬ (true = false ∨ 32 < A.size) from fun h => h.elim (fun h => by cases h) hm)] at HP
        go_wp2_with fail
        refine (K5.out w3).mono ?_
        rintro e w4 ⟨rfl, hbl⟩
        have H4 := Lib.hid (H3.out.more hbl)
        clear K5 hbl H3
        cases vs with
        | false =>
          have HF : Hid (q = (Rq.zero, 3)) := Lib.hid (by rw [← HP.out, if_pos rfl])
          have hk0 := H4.out.ob.cell 0
          have hk1 := H4.out.ob.cell 1
          have hk2 := H4.out.ob.cell 2
          have hf0 := H4.out.ob.frozen 0
          have hf1 := H4.out.ob.frozen 1
          have hf2 := H4.out.ob.frozen 2
          go_wp2_with fail
          obtain ⟨hbk, hbe⟩ := H4.out.set (.string ⟨#[]⟩) (.string ⟨#[]⟩) (.int .i64 0)
          refine ret_two Tryz.results26 hbk undR rfl infR rfl rfl rfl ?_ rfl
          rw [HF.out]
          exact ⟨rfl, hbe⟩
        | true =>
          rw [if_neg (show ¬ true = false from fun h => by cases h)] at HP
          by_cases hn : 8000 < B.size
          · have HF : Hid (q = (Rq.zero, 6)) := Lib.hid (by rw [← HP.out, if_pos hn])
            have hni : (8000 : Int) < (B.size : Int) := by omega
            have hk0 := H4.out.ob.cell 0
            have hk1 := H4.out.ob.cell 1
            have hk2 := H4.out.ob.cell 2
            have hf0 := H4.out.ob.frozen 0
            have hf1 := H4.out.ob.frozen 1
            have hf2 := H4.out.ob.frozen 2
            go_wp2_with fail
            obtain ⟨hbk, hbe⟩ := H4.out.set (.string ⟨#[]⟩) (.string ⟨#[]⟩) (.int .i64 0)
            refine ret_two Tryz.results26 hbk undR rfl infR rfl rfl rfl ?_ rfl
            rw [HF.out]
            exact ⟨rfl, hbe⟩
          · have hni : ¬ (8000 : Int) < (B.size : Int) := by omega
            rw [if_neg hn] at HP
            cases kn with
            | false =>
              have HF : Hid (q = (Rq.zero, 5)) := Lib.hid (by rw [← HP.out, HN.out rfl])
              have hk0 := H4.out.ob.cell 0
              have hk1 := H4.out.ob.cell 1
              have hk2 := H4.out.ob.cell 2
              have hf0 := H4.out.ob.frozen 0
              have hf1 := H4.out.ob.frozen 1
              have hf2 := H4.out.ob.frozen 2
              go_wp2_with fail
              obtain ⟨hbk, hbe⟩ := H4.out.set (.string ⟨#[]⟩) (.string ⟨#[]⟩) (.int .i64 0)
              refine ret_two Tryz.results26 hbk undR rfl infR rfl rfl rfl ?_ rfl
              rw [HF.out]
              exact ⟨rfl, hbe⟩
            | true =>
              have HF : Hid (q = (⟨a, b, k⟩, 0)) := Lib.hid (by rw [← HP.out, HY.out rfl])
              have sA2 : A.size ≤ 140737488355328 := by omega
              have sB2 : B.size ≤ 140737488355328 := by omega
              clear HP HN HY hm hn
              go_wp2_with fail
              refine (clone_any A w4 sA2).mono ?_
              rintro e w5 ⟨rfl, hbl⟩
              have H5 := Lib.hid (H4.out.more hbl)
              clear hbl H4
              go_wp2_with fail
              refine (clone_any B w5 sB2).mono ?_
              rintro e w6 ⟨rfl, hbl⟩
              have H6 := Lib.hid (H5.out.more hbl)
              clear hbl H5
              have hk0 := H6.out.ob.cell 0
              have hk1 := H6.out.ob.cell 1
              have hk2 := H6.out.ob.cell 2
              have hf0 := H6.out.ob.frozen 0
              have hf1 := H6.out.ob.frozen 1
              have hf2 := H6.out.ob.frozen 2
              go_wp2_with fail
              obtain ⟨hbk, hbe⟩ := H6.out.set (.string A) (.string B) (.int .i64 k)
              refine ret_two Tryz.results26 hbk undR rfl infR rfl rfl rfl ?_ rfl
              rw [HF.out]
              exact ⟨by rw [← HA.out, ← HB.out]; rfl, hbe⟩
  · have HF : Hid (q = (Rq.zero, 3)) := Lib.hid (by rw [← HQ.out]; exact parse_few h2)
    obtain ⟨S, hS⟩ : ∃ S, str l = S := ⟨_, rfl⟩
    have hb : bs S = l := by rw [← hS, bs_str]
    subst hb
    rw [hS]
    have hne : (((bs S).count 32 : Nat) : Int) ≠ 2 := by omega
    have hnb : ((((bs S).count 32 : Nat) : Int) != 2) = true := bne_iff_ne.2 hne
    clear hS HQ h2
    go_enter Tryz.func26, Tryz.ntmps26
    go_upto_region 1 with fail
    have H0 := Lib.hid (PaAt.new w)
    generalize (w.alloc (.cells #[.string ⟨#[]⟩, .string ⟨#[]⟩, .int .i64 0] 39)) = w0 at *
    go_wp2_with fail
    refine (count_any S 32 w0).mono ?_
    rintro e w0' ⟨rfl, rfl⟩
    have hk0 := H0.out.ob.cell 0
    have hk1 := H0.out.ob.cell 1
    have hk2 := H0.out.ob.cell 2
    have hf0 := H0.out.ob.frozen 0
    have hf1 := H0.out.ob.frozen 1
    have hf2 := H0.out.ob.frozen 2
    generalize (bs S).count 32 = n at *
    go_wp2_with fail
    obtain ⟨hbk, hbe⟩ := H0.out.set (.string ⟨#[]⟩) (.string ⟨#[]⟩) (.int .i64 0)
    refine ret_two Tryz.results26 hbk undR rfl infR rfl rfl rfl ?_ rfl
    rw [HF.out]
    exact ⟨rfl, hbe⟩
end Go.Proofs.YtgbhnjkigjecmaaGreatDoor.Rl
