/-
  Contracts of package name over this seat's translation: mayBe, isName, Normal and Labels answer what mayS, isN, normalS and labelsS say.
-/
import Derived.Test.YtlpondbcnfaggaaGreatDoorR27
import Derived.Test.YtlpondbcnfaggaaGreatDoorR22
import Derived.Test.YtlpondbcnfaggaaGreatDoorR28
import Derived.Test.YtlpondbcnfaggaaGreatDoorR29
import Derived.Shelf.Strings.SlTrimAscii
namespace Go.Proofs.YtlpondbcnfaggaaGreatDoor.Nm
open Go.RowKit Go.Proofs.YtlpondbcnfaggaaGreatDoor.Wd Go.Proofs.YtlpondbcnfaggaaGreatDoor.Asc Go.Proofs.YtlpondbcnfaggaaGreatDoor.Ad

abbrev labsA : ByteArray := ⟨#[97, 98, 99, 100, 101, 102, 103, 104, 105, 106, 107, 108, 109, 110, 111, 112, 113, 114, 115, 116, 117, 118, 119, 120, 121, 122, 95, 48, 49, 50, 51, 52, 53, 54, 55, 56, 57, 45]⟩
theorem labs_bs : bs labsA = labsN := rfl
theorem labs_asc : Tx.Asci (bs labsA) := by
  rw [labs_bs]
  show ∀ c ∈ labsN, c.toNat < 128
  decide
/-- strings.ContainsRune among the signs of labels, a sign of ASCII -/
theorem has_asc (c : UInt8) (h : c.toNat < 128) (w : World) :
    Calls Tryz.prog 125 #[.string labsA, .int .i32 (c.toNat : Int)] w fun e w' => e = .returned (.bool (maB c)) ∧ w = w' := by
  have HK : Hid (∀ w, Calls Tryz.prog 158 #[.string labsA, .int .i32 (c.toNat : Int)] w fun e w' => e = .returned (.int .i64 (Lib.indexByte labsN c)) ∧ w = w') := Lib.hid (fun w => by
    refine (Tryz.strings_IndexRune_ascii labsA (c.toNat : Int) w (by omega) (by omega)).mono ?_
    rintro e w1 ⟨rfl, rfl⟩
    refine ⟨?_, rfl⟩
    rw [show ((c.toNat : Int)).toNat.toUInt8 = c by simp]
    rfl)
  have HM := Lib.hid (ma_idx c)
  generalize Lib.indexByte labsN c = k at *
  go_enter Tryz.func125, Tryz.ntmps125
  go_wp2_with fail
  refine (HK.out _).mono ?_
  rintro e w1 ⟨rfl, rfl⟩
  go_wp2_with fail
  go_ret
  exact ⟨ret_b (by rw [← HM.out]), rfl⟩
/-- one past ASCII -/
theorem has_wide (r : Int) (h : 128 ≤ r) (w : World) :
    Calls Tryz.prog 125 #[.string labsA, .int .i32 r] w fun e w' => e = .returned (.bool false) ∧ Below w.heap.size w w' := by
  have HK := Lib.hid (fun w => Tx.irune_wide labsA labs_asc r h w)
  go_enter Tryz.func125, Tryz.ntmps125
  go_wp2_with fail
  refine (HK.out _).mono ?_
  rintro e w1 ⟨rfl, hb⟩
  go_wp2_with fail
  go_ret
  exact ⟨rfl, hb⟩
theorem pre_any (S : ByteArray) (c : UInt8) (w : World) :
    Calls Tryz.prog 107 #[.string S, .string ⟨#[c]⟩] w fun e w' => e = .returned (.bool (decide ((bs S).head? = some c))) ∧ w = w' := by
  refine (Tryz.strings_HasPrefix S ⟨#[c]⟩ w).mono fun _ _ ⟨h1, h2⟩ => ⟨?_, h2.symm⟩
  rw [h1]
  exact congrArg (fun b => Ending.returned (.bool b)) (pre_one c (bs S))
theorem suf_any (S : ByteArray) (c : UInt8) (w : World) (hS : S.size ≤ 9223372036854775807) :
    Calls Tryz.prog 39 #[.string S, .string ⟨#[c]⟩] w fun e w' => e = .returned (.bool (decide ((bs S).getLast? = some c))) ∧ w = w' := by
  refine (Tryz.strings_HasSuffix S ⟨#[c]⟩ w hS).mono fun _ _ ⟨h1, h2⟩ => ⟨?_, h2.symm⟩
  rw [h1]
  exact congrArg (fun b => Ending.returned (.bool b)) (suf_one c (bs S))
/-- strings.TrimSuffix at a dot -/
theorem dot_any (S : ByteArray) (w : World) (hS : S.size ≤ 9223372036854775807) :
    Calls Tryz.prog 49 #[.string S, .string ⟨#[46]⟩] w fun e w' => e = .returned (.string (str (trimS (bs S)))) ∧ w = w' := by
  refine (Tryz.strings_TrimSuffix S ⟨#[46]⟩ w hS).mono fun _ _ ⟨h1, h2⟩ => ⟨?_, h2.symm⟩
  rw [h1]
  exact congrArg (fun b => Ending.returned (.string (str b))) (cut_dot (bs S))
theorem set256 : (Tryz.prog.info? 177).map (fun i => (i.zero, i.size)) = some (some (.agg (Array.replicate 256 (.bool false))), 256) := by kernel_rfl
/-- strings.Trim of digits -/
theorem digs_any (S : ByteArray) (w : World) (hS : S.size ≤ 9223372036854775807) :
    Calls Tryz.prog 92 #[.string S, .string ⟨#[48, 49, 50, 51, 52, 53, 54, 55, 56, 57]⟩] w fun e w' => ∃ T : ByteArray, e = .returned (.string T) ∧ (T.toList.isEmpty = digS (bs S)) ∧ Below w.heap.size w w' := by
  have hT : Calls Tryz.prog 92 #[.string S, .string ⟨#[48, 49, 50, 51, 52, 53, 54, 55, 56, 57]⟩] w fun e w' => e = .returned (.string ⟨(Lib.trimS S.data.toList digN).toArray⟩) ∧ Below w.heap.size w w' :=
    Any.strings_Trim_laid Tryz.lays160 set256 S ⟨#[48, 49, 50, 51, 52, 53, 54, 55, 56, 57]⟩ w hS (by decide) (ascii_of_all (by decide))
  refine hT.mono ?_
  rintro e w1 ⟨rfl, hb⟩
  refine ⟨_, rfl, ?_, hb⟩
  have h := trim_digs (bs S)
  rw [Lib.toList_data]
  show (Lib.trimS (bs S) digN).isEmpty = digS (bs S)
  cases hd : digS (bs S) with
  | true => rw [h.2 hd]; rfl
  | false =>
    cases ht : Lib.trimS (bs S) digN with
    | nil => rw [h.1 ht] at hd; cases hd
    | cons _ _ => rfl

def LabAt (s : ByteArray) (w w' : World) : Prop := ∃ pos, w' = w.iter s pos ∧ pos ≤ s.size ∧ ((bs s).take pos).all maB = true
set_option maxRecDepth 100000 in
set_option maxHeartbeats 4000000 in
theorem may_any (s : ByteArray) (w : World) (hs : s.size < 4294967281) :
    Calls Tryz.prog 91 #[.string s] w fun e w' => e = .returned (.bool (mayS (bs s))) ∧ Below w.heap.size w w' := by
  have HP := Lib.hid (fun w => pre_any s 45 w)
  have HS := Lib.hid (fun w => suf_any s 45 w (by omega))
  have HM : Hid (mayS (bs s) = (decide (1 ≤ s.size) && decide (s.size ≤ 63) && (bs s).all maB && !decide ((bs s).head? = some 45) && !decide ((bs s).getLast? = some 45))) := Lib.hid (by
    unfold mayS
    rw [bs_length]
    simp only [ne_eq, decide_not])
  by_cases h0 : s.size = 0
  · obtain rfl := Asc.empty_of s h0
    clear HM
    go_enter Tryz.func91, Tryz.ntmps91
    go_wp2_with fail
    go_ret
    exact ⟨rfl, Below.refl _ _⟩
  have hne : (s.toList == (⟨#[]⟩ : ByteArray).toList) = false := by
    rw [beq_eq_false_iff_ne, Lib.toList_data, Lib.toList_data]
    intro e
    exact h0 (by rw [← bs_length]; exact congrArg List.length e)
  have hie : s.toList.isEmpty = false := by
    rw [Lib.toList_data]
    cases h : s.data.toList with
    | nil => exact absurd (by rw [← bs_length]; exact congrArg List.length h) h0
    | cons _ _ => rfl
  rw [decide_eq_true (show 1 ≤ s.size by omega), Bool.true_and] at HM
  by_cases h1 : 63 < s.size
  · have i1 : (63 : Int) < (s.size : Int) := by omega
    rw [decide_eq_false (show ¬ s.size ≤ 63 by omega)] at HM
    rw [HM.out]
    clear HM
    go_enter Tryz.func91, Tryz.ntmps91
    go_wp2_with fail
    go_ret
    exact ⟨rfl, Below.refl _ _⟩
  have i1 : ¬ (63 : Int) < (s.size : Int) := by omega
  rw [decide_eq_true (show s.size ≤ 63 by omega), Bool.true_and] at HM
  cases h2 : decide ((bs s).head? = some 45)
  case true =>
    rw [h2] at HM HP
    rw [HM.out, show (((bs s).all maB && !true) && !decide ((bs s).getLast? = some 45)) = false by simp]
    clear HM h2
    go_enter Tryz.func91, Tryz.ntmps91
    go_wp2_with (go_at_call 107; refine (HP.out _).mono ?_; rintro e w1 ⟨rfl, rfl⟩)
    go_ret
    exact ⟨rfl, Below.refl _ _⟩
  cases h3 : decide ((bs s).getLast? = some 45)
  case true =>
    rw [h2] at HM HP
    rw [h3] at HM HS
    rw [HM.out, show (((bs s).all maB && !false) && !true) = false by simp]
    clear HM h2 h3
    go_enter Tryz.func91, Tryz.ntmps91
    go_wp2_with (first | (go_at_call 107; refine (HP.out _).mono ?_; rintro e w1 ⟨rfl, rfl⟩) | (go_at_call 39; refine (HS.out _).mono ?_; rintro e w1 ⟨rfl, rfl⟩))
    go_ret
    exact ⟨rfl, Below.refl _ _⟩
  rw [h2] at HM HP
  rw [h3] at HM HS
  rw [HM.out, show (((bs s).all maB && !false) && !false) = (bs s).all maB by simp]
  clear HM h2 h3 h0 h1
  go_enter Tryz.func91, Tryz.ntmps91
  go_wp2_with (first | (go_at_call 107; refine (HP.out _).mono ?_; rintro e w1 ⟨rfl, rfl⟩) | (go_at_call 39; refine (HS.out _).mono ?_; rintro e w1 ⟨rfl, rfl⟩))
  clear HP HS hne hie i1
  go_loopw [4] (fun _ w' => LabAt s w w') (fun _ w' => s.size - w'.iterPos w.heap.size)
  case atStart => exact ⟨0, rfl, Nat.zero_le _, rfl⟩
  case round =>
    obtain ⟨pos, rfl, hle, ht⟩ := hrel
    have HT := Lib.hid ht
    clear ht
    by_cases hp : pos < s.size
    · by_cases ha : (s[pos]'hp).toNat < 128
      · have hnx : ∀ ty, (Instr.next (.pointer (some ⟨w.heap.size, 0, none⟩)) true ty).run Tryz.prog (w.iter s pos) = _ := fun ty => run_next_ascii (P := Tryz.prog) w s pos ty hp ha
        have HK := Lib.hid (fun u => has_asc (s[pos]'hp) ha u)
        cases hc : maB (s[pos]'hp)
        · have HC := Lib.hid (all_hit s maB pos hp hc)
          rw [hc] at HK
          clear hc ha
          go_wp2_with (go_at_call 125; refine (HK.out _).mono ?_; rintro e w1 ⟨rfl, rfl⟩)
          go_ret
          exact ⟨ret_b HC.out.symm, below_iter _ _ _⟩
        · have HC := Lib.hid (all_step s maB pos hp HT.out hc)
          rw [hc] at HK
          clear hc ha
          go_wp2_with (go_at_call 125; refine (HK.out _).mono ?_; rintro e w1 ⟨rfl, rfl⟩)
          go_roundw
          case rel => exact ⟨pos + 1, rfl, hp, HC.out⟩
          case measure => simp; omega
      · have hnx : ∀ ty, (Instr.next (.pointer (some ⟨w.heap.size, 0, none⟩)) true ty).run Tryz.prog (w.iter s pos) = _ := fun ty => run_next_any w s pos ty hp
        have HC := Lib.hid (all_hit s maB pos hp (ma_asc _ (by omega)))
        have hr : (128 : Int) ≤ ((Utf8.decode s pos).1 : Int) := by have := (decode_high s pos hp (by omega)).1; omega
        have HK := Lib.hid (fun u => has_wide _ hr u)
        generalize ((Utf8.decode s pos).1 : Int) = r at *
        generalize (Utf8.decode s pos).2 = d at *
        clear ha hr
        go_wp2_with (go_at_call 125; refine (HK.out _).mono ?_; rintro e w1 ⟨rfl, hb⟩)
        go_ret
        exact ⟨ret_b HC.out.symm, (below_iter w s (pos + d)).trans (hb.mono (below_iter w s (pos + d)).size)⟩
    · have hnx := fun ty => run_next_end (P := Tryz.prog) w s pos ty hp
      go_wp2
      go_ret
      exact ⟨ret_b (all_no s maB pos hp HT.out).symm, below_iter _ _ _⟩

theorem rev_last {L : List (List UInt8)} (h : L ≠ []) : L.reverse[0]? = some (L.getLastD []) := by
  rw [List.getElem?_reverse (List.length_pos_iff.2 h), Nat.sub_zero, ← List.getLast?_eq_getElem?, List.getLast?_eq_some_getLast h, List.getLastD_eq_getLast?, List.getLast?_eq_some_getLast h]
  rfl
theorem all_rev (L : List (List UInt8)) (f : List UInt8 → Bool) : L.reverse.all f = L.all f := by
  rw [Bool.eq_iff_iff, List.all_eq_true, List.all_eq_true]
  simp
theorem take_next {L : List (List UInt8)} {k : Nat} {p : List UInt8} (h : L[k]? = some p) : L.take (k + 1) = L.take k ++ [p] := by
  rw [List.take_add_one, h]
  rfl

set_option maxRecDepth 100000 in
set_option maxHeartbeats 4000000 in
theorem isName_any {B : Nat} (s : ByteArray) (w : World) (hE : Env B w) (hs : s.size < 4294967281) :
    Calls Tryz.prog 51 #[.string s] w fun e w' => e = .returned (.bool (isN (bs s))) ∧ Below w.heap.size w w' := by
  have HB := Lib.hid (backward_any (B := B) s w hE hs)
  have hI : isN (bs s) = ((splitS 46 (bs s)).reverse.all mayS && !digS (lastS (bs s))) := by rw [all_rev]; rfl
  have hsz : ∀ p ∈ (splitS 46 (bs s)).reverse, p.length < 4294967281 := fun p hp => by
    have := spl_mem 46 (bs s) p (List.mem_reverse.1 hp)
    rw [bs_length] at this
    omega
  have hle := spl_len 46 (bs s)
  rw [bs_length] at hle
  have h0 := rev_last (splitS_ne 46 (bs s))
  rw [show (splitS 46 (bs s)).getLastD [] = lastS (bs s) from rfl] at h0
  rw [← List.length_reverse] at hle
  obtain ⟨L, hL⟩ : ∃ L, (splitS 46 (bs s)).reverse = L := ⟨_, rfl⟩
  obtain ⟨n, hn⟩ : ∃ n, L.length = n := ⟨_, rfl⟩
  obtain ⟨q, hq⟩ : ∃ q, lastS (bs s) = q := ⟨_, rfl⟩
  rw [hL] at HB hI hsz hle h0
  rw [hq] at hI h0
  rw [hn] at hle
  have hqz := hsz q (List.mem_of_getElem? h0)
  have hn0 : 0 < n := by rw [← hn]; exact (List.getElem?_eq_some_iff.1 h0).1
  have HI := Lib.hid hI
  have HZ := Lib.hid hsz
  have HN := Lib.hid hn
  have H0 := Lib.hid h0
  have hn9 : n ≤ 4294967281 := by omega
  clear hI hL hsz hle hE hs h0 hq
  go_enter Tryz.func51, Tryz.ntmps51
  go_wp2_with fail
  refine HB.out.mono ?_
  rintro e w1 ⟨v, rfl, hr, hb⟩
  obtain ⟨g, c, rfl, hc, hg, hcell⟩ := hr
  rw [HN.out]
  have HBl := Lib.hid hb
  have HC := Lib.hid hcell
  have hw1 : w.heap.size ≤ w1.heap.size := hb.size
  have HW := Lib.hid hw1
  clear hb hcell hc HB hw1
  go_wp2_with fail
  go_loopw [10] (fun i wr => ∃ k : Nat, k ≤ n ∧ i = .int .i64 (k : Int) ∧ Hid ((L.take k).all mayS = true) ∧ Hid (Below w1.heap.size w1 wr)) (fun i _ => n - (intOf i).toNat)
  case atStart => exact ⟨0, Nat.zero_le _, rfl, Lib.hid rfl, Lib.hid (Below.refl _ _)⟩
  case round =>
    obtain ⟨k, hk, rfl, HA, HBk⟩ := hrel
    by_cases hlt : k < n
    · obtain ⟨p, hp⟩ : ∃ p, L[k]? = some p := ⟨_, List.getElem?_eq_getElem (by rw [HN.out]; exact hlt)⟩
      have hz := HZ.out p (List.mem_of_getElem? hp)
      obtain ⟨P, hP⟩ : ∃ P, str p = P := ⟨_, rfl⟩
      have hPz : P.size < 4294967281 := by rw [← hP, str_size]; exact hz
      have hcl : wr.cell? ⟨g, k, none⟩ = some (.string P) := by rw [HBk.out.cell (p := ⟨g, k, none⟩) hg, ← hP]; exact HC.out k p hp
      have hT := take_next hp
      have HK := Lib.hid (fun u => may_any P u hPz)
      rw [show bs P = p by rw [← hP]; rfl] at HK
      have hki : (k : Int) < (n : Int) := by omega
      cases hm : mayS p
      · rw [hm] at HK
        have HX : Hid (isN (bs s) = false) := Lib.hid (by
          rw [HI.out, Bool.and_eq_false_iff]
          exact .inl (List.all_eq_false.2 ⟨p, List.mem_of_getElem? hp, by rw [hm]; simp⟩))
        clear hm hT hz hP hPz hp
        go_wp2_with fail
        refine (HK.out _).mono ?_
        rintro e w2 ⟨rfl, hb2⟩
        have HB2 := Lib.hid (HBk.out.trans (hb2.mono HBk.out.size))
        clear hb2 hcl HK
        go_wp2_with fail
        go_ret
        exact ⟨ret_b HX.out.symm, HBl.out.trans (HB2.out.mono HW.out)⟩
      · rw [hm] at HK
        have HX : Hid ((L.take (k + 1)).all mayS = true) := Lib.hid (by rw [hT, List.all_append, HA.out]; simpa using hm)
        clear hm hT hz hP hPz hp
        go_wp2_with fail
        refine (HK.out _).mono ?_
        rintro e w2 ⟨rfl, hb2⟩
        have HB2 := Lib.hid (HBk.out.trans (hb2.mono HBk.out.size))
        clear hb2 hcl HK
        go_wp2_with fail
        go_roundw
        case rel => exact ⟨k + 1, hlt, by go_num, HX, HB2⟩
        case measure => simp [intOf]; omega
    · obtain rfl : k = n := by omega
      have hal : L.all mayS = true := by have h := HA.out; rwa [List.take_of_length_le (by rw [HN.out]; exact Nat.le_refl _)] at h
      have HI2 : Hid (isN (bs s) = !digS q) := Lib.hid (by rw [HI.out, hal, Bool.true_and])
      obtain ⟨P, hP⟩ : ∃ P, str q = P := ⟨_, rfl⟩
      have hPz : P.size ≤ 9223372036854775807 := by rw [← hP, str_size]; omega
      have hcl : wr.cell? ⟨g, 0, none⟩ = some (.string P) := by rw [HBk.out.cell (p := ⟨g, 0, none⟩) hg, ← hP]; exact HC.out 0 q H0.out
      have HK := Lib.hid (fun u => digs_any P u hPz)
      rw [show bs P = q by rw [← hP]; rfl] at HK
      have h0i : (0 : Int) < (k : Int) := by omega
      clear hal hP hPz HI H0
      go_wp2_with fail
      refine (HK.out _).mono ?_
      rintro e w2 ⟨T, rfl, hT, hb2⟩
      have HB2 := Lib.hid (HBk.out.trans (hb2.mono HBk.out.size))
      rw [← hT] at HI2
      clear hb2 hcl HK hT
      go_wp2_with fail
      go_ret
      exact ⟨ret_b HI2.out.symm, HBl.out.trans (HB2.out.mono HW.out)⟩
end Go.Proofs.YtlpondbcnfaggaaGreatDoor.Nm

/-
  Contracts of package name's Normal and Labels over this seat's translation: they answer what normalS and labelsS say.
-/
namespace Go.Proofs.YtlpondbcnfaggaaGreatDoor.Nm
open Go.RowKit Go.Proofs.YtlpondbcnfaggaaGreatDoor.Wd Go.Proofs.YtlpondbcnfaggaaGreatDoor.Asc Go.Proofs.YtlpondbcnfaggaaGreatDoor.Ad

/-- an address in a block of its own -/
theorem adr_new (w : World) (V : List UInt8) :
    Blk ((w.alloc (.cells #[Value.int .u8 0, Value.int .u8 0, Value.int .u8 0, Value.int .u8 0, Value.int .u8 0, Value.int .u8 0, Value.int .u8 0, Value.int .u8 0, Value.int .u8 0, Value.int .u8 0, Value.int .u8 0, Value.int .u8 0, Value.int .u8 0, Value.int .u8 0, Value.int .u8 0, Value.int .u8 0] 48)).setRow w.heap.size (Ad.cA V)) w.heap.size 48 (Ad.cA V) ∧
    Below w.heap.size w ((w.alloc (.cells #[Value.int .u8 0, Value.int .u8 0, Value.int .u8 0, Value.int .u8 0, Value.int .u8 0, Value.int .u8 0, Value.int .u8 0, Value.int .u8 0, Value.int .u8 0, Value.int .u8 0, Value.int .u8 0, Value.int .u8 0, Value.int .u8 0, Value.int .u8 0, Value.int .u8 0, Value.int .u8 0] 48)).setRow w.heap.size (Ad.cA V)) :=
  ⟨St.setRow_blk (Blk.new _ _ _), St.setRow_below ((Below.refl _ _).alloc (Nat.le_refl _) _) (Blk.new _ _ _) (Nat.le_refl _) _⟩
abbrev resN (q : List UInt8 × Int) : Ending := .returned (.tuple #[.string (str q.1), .int .i64 q.2])
theorem is_empty {T : ByteArray} (h : bs T = []) : T.toList.isEmpty = true ∧ (T.toList == (⟨#[]⟩ : ByteArray).toList) = true := by
  rw [Lib.toList_data, Lib.toList_data, show T.data.toList = [] from h]
  exact ⟨rfl, rfl⟩
theorem no_empty {T : ByteArray} (h : bs T ≠ []) : T.toList.isEmpty = false ∧ (T.toList == (⟨#[]⟩ : ByteArray).toList) = false := by
  rw [Lib.toList_data, Lib.toList_data]
  refine ⟨?_, beq_eq_false_iff_ne.2 h⟩
  cases hd : T.data.toList with
  | nil => exact absurd hd h
  | cons _ _ => rfl
theorem parse_at {B : Nat} (s : ByteArray) (hs : s.size < 4294967281) (o : Option (List UInt8)) (hx : Ad.parseS (bs s) = o) : ∃ V : List UInt8, V.length = 16 ∧ (∀ a, o = some a → V = a) ∧
    ∀ w, Ad.Env B w → Calls Tryz.prog 28 #[.string s] w fun e w' => e = .returned (.tuple #[.agg (Ad.cA V), .bool o.isSome]) ∧ Below w.heap.size w w' := by
  have h := fun w hE => Ad.parse_any (B := B) (bs s) w hE (by rw [bs_length]; exact hs)
  unfold Ad.AddrPost at h
  rw [str_bs, hx] at h
  cases o with
  | none => exact ⟨List.replicate 16 0, rfl, fun a e => (by cases e), h⟩
  | some a => exact ⟨a, Ad.parseS_len hx, fun b e => Option.some.inj e, h⟩

set_option linter.unusedSimpArgs false in
set_option maxRecDepth 100000 in
set_option maxHeartbeats 4000000 in
theorem norm_any {B : Nat} (s : ByteArray) (w : World) (hE : Env B w) (hs : s.size < 4294967281) :
    Calls Tryz.prog 27 #[.string s] w fun e w' => e = resN (normalS (bs s)) ∧ Below w.heap.size w w' := by
  have HE := Lib.hid hE
  clear hE
  cases hx : Ad.parseS (bs s) with
  | some a =>
    obtain ⟨V, hV, hVa, hP⟩ := parse_at (B := B) s hs _ hx
    obtain rfl := hVa a rfl
    have HPa2 : Hid (∀ w, Ad.Env B w → Calls Tryz.prog 28 #[.string s] w fun e w' => e = .returned (.tuple #[.agg (Ad.cA V), .bool true]) ∧ Below w.heap.size w w') := Lib.hid hP
    have HPr := Lib.hid (fun w hE => Ad.print_any (B := B) V hV w hE)
    rw [normal_addr hx]
    generalize Ad.ctext V = T at *
    clear hP hx hVa
    go_enter Tryz.func27, Tryz.ntmps27
    go_wp2_with fail
    refine (HPa2.out _ HE.out).mono ?_
    rintro e w2 ⟨rfl, hb⟩
    have HB1 := Lib.hid hb
    clear hb HPa2
    go_upto_region 2 with (refine St.go_st 48 (Blk.new _ _ _) Ad.info16 rfl (by rw [Ad.cA_size, hV]) (Ad.cA_one _) rfl rfl rfl rfl ?_)
    obtain ⟨hk, hbl⟩ := adr_new w2 V
    have HB2 := Lib.hid (HB1.out.trans (hbl.mono HB1.out.size))
    have HK := Lib.hid hk
    clear hk hbl HB1
    generalize (w2.alloc (.cells #[Value.int .u8 0, Value.int .u8 0, Value.int .u8 0, Value.int .u8 0, Value.int .u8 0, Value.int .u8 0, Value.int .u8 0, Value.int .u8 0, Value.int .u8 0, Value.int .u8 0, Value.int .u8 0, Value.int .u8 0, Value.int .u8 0, Value.int .u8 0, Value.int .u8 0, Value.int .u8 0] 48)).setRow w2.heap.size (Ad.cA V) = w3 at *
    generalize w2.heap.size = g at *
    have k3 := HK.out
    go_wp2_with (refine St.go_ld 48 k3 Ad.und16 rfl Ad.info16 (by rw [Ad.cA_size, hV]) rfl rfl rfl ?_)
    refine (HPr.out _ (HE.out.on HB2.out)).mono ?_
    rintro e w4 ⟨rfl, hb4⟩
    have HB4 := Lib.hid (HB2.out.trans (hb4.mono HB2.out.size))
    clear hb4 k3 HK HB2
    go_wp2_with fail
    go_ret2
    exact ⟨rfl, HB4.out⟩
  | none =>
    obtain ⟨V, hV, hVa, hP⟩ := parse_at (B := B) s hs _ hx
    clear hVa
    have HPa2 : Hid (∀ w, Ad.Env B w → Calls Tryz.prog 28 #[.string s] w fun e w' => e = .returned (.tuple #[.agg (Ad.cA V), .bool false]) ∧ Below w.heap.size w w') := Lib.hid hP
    have HL := Lib.hid (fun w => lower_any s w)
    obtain ⟨l, hl⟩ : ∃ l, lowS s = l := ⟨_, rfl⟩
    have hlb : bs l = (bs s).map lowB := by rw [← hl]; rfl
    have hlz : l.size = s.size := by rw [← hl, low_size]
    rw [hl] at HL
    have HT := Lib.hid (fun w => dot_any l w (by omega))
    obtain ⟨X, hX⟩ : ∃ X, str (trimS (bs l)) = X := ⟨_, rfl⟩
    have hXb : bs X = trimS (bs l) := by rw [← hX]; rfl
    have hXz : X.size ≤ s.size := by
      rw [← hlz, ← bs_length, ← bs_length, hXb]
      unfold trimS
      split
      · rw [List.length_dropLast]; omega
      · exact Nat.le_refl _
    rw [hX] at HT
    rw [normal_name hx, name_code, ← hlb, ← hXb, bs_length]
    have HI := Lib.hid (fun w hE => isName_any (B := B) X w hE (by omega))
    clear hP hx hl hlb hlz hX hXb
    by_cases h0 : bs X = []
    · obtain ⟨e1, e2⟩ := is_empty h0
      rw [if_pos h0]
      clear h0 HI
      go_enter Tryz.func27, Tryz.ntmps27
      go_wp2_with fail
      refine (HPa2.out _ HE.out).mono ?_
      rintro e w2 ⟨rfl, hb⟩
      have HB1 := Lib.hid hb
      clear hb HPa2
      go_upto_region 2 with (refine St.go_st 48 (Blk.new _ _ _) Ad.info16 rfl (by rw [Ad.cA_size, hV]) (Ad.cA_one _) rfl rfl rfl rfl ?_)
      obtain ⟨_, hbl⟩ := adr_new w2 V
      have HB2 := Lib.hid (HB1.out.trans (hbl.mono HB1.out.size))
      clear hbl HB1
      generalize (w2.alloc (.cells #[Value.int .u8 0, Value.int .u8 0, Value.int .u8 0, Value.int .u8 0, Value.int .u8 0, Value.int .u8 0, Value.int .u8 0, Value.int .u8 0, Value.int .u8 0, Value.int .u8 0, Value.int .u8 0, Value.int .u8 0, Value.int .u8 0, Value.int .u8 0, Value.int .u8 0, Value.int .u8 0] 48)).setRow w2.heap.size (Ad.cA V) = w3 at *
      go_wp2_with fail
      refine (HL.out _).mono ?_
      rintro e w4 ⟨rfl, hb⟩
      have HB4 := Lib.hid (HB2.out.trans (hb.mono HB2.out.size))
      clear hb HL HB2
      go_wp2_with fail
      refine (HT.out _).mono ?_
      rintro e w5 ⟨rfl, rfl⟩
      have HB5 := HB4
      clear HT HB4
      go_wp2_with fail
      go_ret2
      exact ⟨rfl, HB5.out⟩
    obtain ⟨e1, e2⟩ := no_empty h0
    rw [if_neg h0]
    by_cases h1 : 253 < X.size
    · have i1 : (253 : Int) < (X.size : Int) := by omega
      rw [if_pos h1]
      clear h0 h1 HI
      go_enter Tryz.func27, Tryz.ntmps27
      go_wp2_with fail
      refine (HPa2.out _ HE.out).mono ?_
      rintro e w2 ⟨rfl, hb⟩
      have HB1 := Lib.hid hb
      clear hb HPa2
      go_upto_region 2 with (refine St.go_st 48 (Blk.new _ _ _) Ad.info16 rfl (by rw [Ad.cA_size, hV]) (Ad.cA_one _) rfl rfl rfl rfl ?_)
      obtain ⟨_, hbl⟩ := adr_new w2 V
      have HB2 := Lib.hid (HB1.out.trans (hbl.mono HB1.out.size))
      clear hbl HB1
      generalize (w2.alloc (.cells #[Value.int .u8 0, Value.int .u8 0, Value.int .u8 0, Value.int .u8 0, Value.int .u8 0, Value.int .u8 0, Value.int .u8 0, Value.int .u8 0, Value.int .u8 0, Value.int .u8 0, Value.int .u8 0, Value.int .u8 0, Value.int .u8 0, Value.int .u8 0, Value.int .u8 0, Value.int .u8 0] 48)).setRow w2.heap.size (Ad.cA V) = w3 at *
      go_wp2_with fail
      refine (HL.out _).mono ?_
      rintro e w4 ⟨rfl, hb⟩
      have HB4 := Lib.hid (HB2.out.trans (hb.mono HB2.out.size))
      clear hb HL HB2
      go_wp2_with fail
      refine (HT.out _).mono ?_
      rintro e w5 ⟨rfl, rfl⟩
      have HB5 := HB4
      clear HT HB4
      go_wp2_with fail
      go_ret2
      exact ⟨rfl, HB5.out⟩
    have i1 : ¬ (253 : Int) < (X.size : Int) := by omega
    rw [if_neg h1]
    cases h2 : isN (bs X)
    · rw [if_pos rfl]
      rw [h2] at HI
      clear h0 h1 h2
      go_enter Tryz.func27, Tryz.ntmps27
      go_wp2_with fail
      refine (HPa2.out _ HE.out).mono ?_
      rintro e w2 ⟨rfl, hb⟩
      have HB1 := Lib.hid hb
      clear hb HPa2
      go_upto_region 2 with (refine St.go_st 48 (Blk.new _ _ _) Ad.info16 rfl (by rw [Ad.cA_size, hV]) (Ad.cA_one _) rfl rfl rfl rfl ?_)
      obtain ⟨_, hbl⟩ := adr_new w2 V
      have HB2 := Lib.hid (HB1.out.trans (hbl.mono HB1.out.size))
      clear hbl HB1
      generalize (w2.alloc (.cells #[Value.int .u8 0, Value.int .u8 0, Value.int .u8 0, Value.int .u8 0, Value.int .u8 0, Value.int .u8 0, Value.int .u8 0, Value.int .u8 0, Value.int .u8 0, Value.int .u8 0, Value.int .u8 0, Value.int .u8 0, Value.int .u8 0, Value.int .u8 0, Value.int .u8 0, Value.int .u8 0] 48)).setRow w2.heap.size (Ad.cA V) = w3 at *
      go_wp2_with fail
      refine (HL.out _).mono ?_
      rintro e w4 ⟨rfl, hb⟩
      have HB4 := Lib.hid (HB2.out.trans (hb.mono HB2.out.size))
      clear hb HL HB2
      go_wp2_with fail
      refine (HT.out _).mono ?_
      rintro e w5 ⟨rfl, rfl⟩
      have HB5 := HB4
      clear HT HB4
      go_wp2_with fail
      refine (HI.out _ (HE.out.on HB5.out)).mono ?_
      rintro e w6 ⟨rfl, hb⟩
      have HB6 := Lib.hid (HB5.out.trans (hb.mono HB5.out.size))
      clear hb
      go_wp2_with fail
      go_ret2
      exact ⟨rfl, HB6.out⟩
    · rw [if_neg (by simp)]
      rw [h2] at HI
      clear h0 h1 h2
      go_enter Tryz.func27, Tryz.ntmps27
      go_wp2_with fail
      refine (HPa2.out _ HE.out).mono ?_
      rintro e w2 ⟨rfl, hb⟩
      have HB1 := Lib.hid hb
      clear hb HPa2
      go_upto_region 2 with (refine St.go_st 48 (Blk.new _ _ _) Ad.info16 rfl (by rw [Ad.cA_size, hV]) (Ad.cA_one _) rfl rfl rfl rfl ?_)
      obtain ⟨_, hbl⟩ := adr_new w2 V
      have HB2 := Lib.hid (HB1.out.trans (hbl.mono HB1.out.size))
      clear hbl HB1
      generalize (w2.alloc (.cells #[Value.int .u8 0, Value.int .u8 0, Value.int .u8 0, Value.int .u8 0, Value.int .u8 0, Value.int .u8 0, Value.int .u8 0, Value.int .u8 0, Value.int .u8 0, Value.int .u8 0, Value.int .u8 0, Value.int .u8 0, Value.int .u8 0, Value.int .u8 0, Value.int .u8 0, Value.int .u8 0] 48)).setRow w2.heap.size (Ad.cA V) = w3 at *
      go_wp2_with fail
      refine (HL.out _).mono ?_
      rintro e w4 ⟨rfl, hb⟩
      have HB4 := Lib.hid (HB2.out.trans (hb.mono HB2.out.size))
      clear hb HL HB2
      go_wp2_with fail
      refine (HT.out _).mono ?_
      rintro e w5 ⟨rfl, rfl⟩
      have HB5 := HB4
      clear HT HB4
      go_wp2_with fail
      refine (HI.out _ (HE.out.on HB5.out)).mono ?_
      rintro e w6 ⟨rfl, hb⟩
      have HB6 := Lib.hid (HB5.out.trans (hb.mono HB5.out.size))
      clear hb
      go_wp2_with fail
      go_ret2
      exact ⟨by show _ = Ending.returned (.tuple #[.string (str (bs X)), .int .i64 0]); rw [str_bs]; rfl, HB6.out⟩

theorem RowL.one {w w' : World} (s : ByteArray) (hb : Below (w.alloc (.cells #[.string s] 9)).heap.size (w.alloc (.cells #[.string s] 9)) w') : RowL w' (.slice (some ⟨w.heap.size, 0, none⟩) 1 1) [bs s] := by
  have h := RowL.new w [bs s]
  rw [show (strs [bs s]).toArray = #[.string s] by simp [strs, str_bs]] at h
  exact h.below hb

set_option linter.unusedSimpArgs false in
set_option maxRecDepth 100000 in
set_option maxHeartbeats 4000000 in
theorem labels_any {B : Nat} (s : ByteArray) (w : World) (hE : Env B w) (hs : s.size < 4294967281) :
    Calls Tryz.prog 79 #[.string s] w fun e w' => ∃ v, e = .returned v ∧ RowL w' v (labelsS (bs s)) ∧ Below w.heap.size w w' := by
  have HE := Lib.hid hE
  clear hE
  cases hx : Ad.parseS (bs s) with
  | some a =>
    obtain ⟨V, hV, hVa, hP⟩ := parse_at (B := B) s hs _ hx
    clear hVa
    have HPa2 : Hid (∀ w, Ad.Env B w → Calls Tryz.prog 28 #[.string s] w fun e w' => e = .returned (.tuple #[.agg (Ad.cA V), .bool true]) ∧ Below w.heap.size w w') := Lib.hid hP
    have HC := Lib.hid (fun u => clone_any s u (by omega))
    have HQ : Hid (labelsS (bs s) = [bs s]) := Lib.hid (by unfold labelsS; rw [hx]; rfl)
    clear hP hx
    go_enter Tryz.func79, Tryz.ntmps79
    go_wp2_with fail
    refine (HPa2.out _ HE.out).mono ?_
    rintro e w2 ⟨rfl, hb⟩
    have HB1 := Lib.hid hb
    clear hb HPa2
    go_upto_region 2 with (refine St.go_st 48 (Blk.new _ _ _) Ad.info16 rfl (by rw [Ad.cA_size, hV]) (Ad.cA_one _) rfl rfl rfl rfl ?_)
    obtain ⟨_, hbl⟩ := adr_new w2 V
    have HB2 := Lib.hid (HB1.out.trans (hbl.mono HB1.out.size))
    clear hbl HB1
    generalize (w2.alloc (.cells #[Value.int .u8 0, Value.int .u8 0, Value.int .u8 0, Value.int .u8 0, Value.int .u8 0, Value.int .u8 0, Value.int .u8 0, Value.int .u8 0, Value.int .u8 0, Value.int .u8 0, Value.int .u8 0, Value.int .u8 0, Value.int .u8 0, Value.int .u8 0, Value.int .u8 0, Value.int .u8 0] 48)).setRow w2.heap.size (Ad.cA V) = w3 at *
    go_wp2_with fail
    refine (HC.out _).mono ?_
    rintro e w4 ⟨rfl, hb⟩
    have HB4 := Lib.hid (HB2.out.trans (hb.mono HB2.out.size))
    clear hb HC HB2
    go_wp2_with fail
    go_ret
    refine ⟨_, rfl, ?_, HB4.out.alloc HB4.out.size _⟩
    rw [HQ.out]
    exact RowL.one s (Below.refl _ _)
  | none =>
    obtain ⟨V, hV, hVa, hP⟩ := parse_at (B := B) s hs _ hx
    clear hVa
    have HPa2 : Hid (∀ w, Ad.Env B w → Calls Tryz.prog 28 #[.string s] w fun e w' => e = .returned (.tuple #[.agg (Ad.cA V), .bool false]) ∧ Below w.heap.size w w') := Lib.hid hP
    have HK := Lib.hid (fun u hE => backward_any (B := B) s u hE hs)
    have HQ : Hid (labelsS (bs s) = (splitS 46 (bs s)).reverse) := Lib.hid (by unfold labelsS; rw [hx]; rfl)
    clear hP hx
    go_enter Tryz.func79, Tryz.ntmps79
    go_wp2_with fail
    refine (HPa2.out _ HE.out).mono ?_
    rintro e w2 ⟨rfl, hb⟩
    have HB1 := Lib.hid hb
    clear hb HPa2
    go_upto_region 2 with (refine St.go_st 48 (Blk.new _ _ _) Ad.info16 rfl (by rw [Ad.cA_size, hV]) (Ad.cA_one _) rfl rfl rfl rfl ?_)
    obtain ⟨_, hbl⟩ := adr_new w2 V
    have HB2 := Lib.hid (HB1.out.trans (hbl.mono HB1.out.size))
    clear hbl HB1
    generalize (w2.alloc (.cells #[Value.int .u8 0, Value.int .u8 0, Value.int .u8 0, Value.int .u8 0, Value.int .u8 0, Value.int .u8 0, Value.int .u8 0, Value.int .u8 0, Value.int .u8 0, Value.int .u8 0, Value.int .u8 0, Value.int .u8 0, Value.int .u8 0, Value.int .u8 0, Value.int .u8 0, Value.int .u8 0] 48)).setRow w2.heap.size (Ad.cA V) = w3 at *
    go_wp2_with fail
    refine (HK.out _ (HE.out.on HB2.out)).mono ?_
    rintro e w4 ⟨v, rfl, hr, hb⟩
    have HB4 := Lib.hid (HB2.out.trans (hb.mono HB2.out.size))
    have HR := Lib.hid hr
    clear hb HK HB2 hr
    go_wp2_with fail
    go_ret
    exact ⟨_, rfl, by rw [HQ.out]; exact HR.out, HB4.out⟩
end Go.Proofs.YtlpondbcnfaggaaGreatDoor.Nm
