/-
  Contracts of package trie's isName, isAddress, parse over this seat's translation: they answer what nameB, parseS and cutP say. Texts of up to two billion bytes.
-/
import Derived.Test.YtlpondbcnfaggaaGreatDoorR23
import Derived.Test.YtlpondbcnfaggaaGreatDoorR14
import Derived.Test.YtlpondbcnfaggaaGreatDoorR30
import Derived.Test.YtlpondbcnfaggaaGreatDoorR22
import Derived.Test.YtlpondbcnfaggaaGreatDoorR27
namespace Go.Proofs.YtlpondbcnfaggaaGreatDoor.Tr
open Go.RowKit Go.Proofs.YtlpondbcnfaggaaGreatDoor.Wd Go.Proofs.YtlpondbcnfaggaaGreatDoor.Asc Go.Proofs.YtlpondbcnfaggaaGreatDoor.Tx Go.Proofs.YtlpondbcnfaggaaGreatDoor.St

theorem undH : Tryz.prog.underlying 63 = some (.struct (Tryz.prog.fieldsOf 63)) := by kernel_rfl
theorem infH : (Tryz.prog.info? 63).map (·.size) = some 2 := by kernel_rfl
/-- a pattern's shape: its name; whether it matches what is below it -/
def shC (N : ByteArray) (b : Bool) : Array Value := #[.string N, .bool b]
theorem shC_one (N : ByteArray) (b : Bool) : (shC N b).all (·.oneCell') = true := by simp [shC, Value.oneCell']
theorem shC_size (N : ByteArray) (b : Bool) : (shC N b).size = 2 := rfl
theorem sh_new (w : World) : ∃ w2, w.alloc (.cells #[.string ⟨#[]⟩, .bool false] 63) = w2 ∧ Blk w2 w.heap.size 63 (shC ⟨#[]⟩ false) ∧ Below w.heap.size w w2 :=
  ⟨_, rfl, Blk.new _ _ _, (Below.refl _ _).alloc (Nat.le_refl _) _⟩
set_option linter.unusedSimpArgs false in
set_option maxRecDepth 100000 in
set_option maxHeartbeats 4000000 in
theorem tname_any {B : Nat} (s : ByteArray) (w : World) (hE : Ad.Env B w) (hs : s.size ≤ 2147483640) :
    Calls Tryz.prog 70 #[.string s] w fun e w' => e = .returned (.bool (nameB (bs s))) ∧ Below w.heap.size w w' := by
  obtain ⟨X, E, hX⟩ : ∃ (X : ByteArray) (E : Int), Nm.normalS (bs s) = (bs X, E) := ⟨str (Nm.normalS (bs s)).1, (Nm.normalS (bs s)).2, rfl⟩
  have HN : Hid (Calls Tryz.prog 27 #[.string s] w fun e w' => e = .returned (.tuple #[.string X, .int .i64 E]) ∧ Below w.heap.size w w') := Lib.hid (by
    have h := Nm.norm_any s w hE (by omega)
    rw [hX] at h
    have e : Nm.resN (bs X, E) = .returned (.tuple #[.string X, .int .i64 E]) := by show Ending.returned (.tuple #[.string (str (bs X)), .int .i64 E]) = _; rw [str_bs]
    rw [e] at h
    exact h)
  have HM : Hid (nameB (bs s) = (decide (E = 0) && decide (bs X = bs s))) := Lib.hid (by
    unfold nameB
    rw [hX, Bool.eq_iff_iff]
    simp [and_comm])
  have hq := str_is X s
  clear hX hs hE
  go_enter Tryz.func70, Tryz.ntmps70
  go_wp2_with fail
  refine HN.out.mono ?_
  rintro e w2 ⟨rfl, hb⟩
  have HB := Lib.hid hb
  clear hb HN
  by_cases hE : E = 0
  · have d1 : decide (E = 0) = true := decide_eq_true hE
    have e1 : (E == 0) = true := by rw [beq_iff_eq]; exact hE
    rw [d1, Bool.true_and] at HM
    cases hd : decide (bs X = bs s)
    · rw [hd] at hq HM
      clear hd hE d1
      go_wp2_with fail
      go_ret
      exact ⟨by rw [HM.out]; rfl, HB.out⟩
    · rw [hd] at hq HM
      clear hd hE d1
      go_wp2_with fail
      go_ret
      exact ⟨by rw [HM.out]; rfl, HB.out⟩
  · have d1 : decide (E = 0) = false := decide_eq_false hE
    have e1 : (E == 0) = false := by rw [beq_eq_false_iff_ne]; exact hE
    rw [d1, Bool.false_and] at HM
    clear hE d1 hq
    go_wp2_with fail
    go_ret
    exact ⟨by rw [HM.out]; rfl, HB.out⟩
set_option linter.unusedSimpArgs false in
set_option maxRecDepth 100000 in
set_option maxHeartbeats 4000000 in
theorem taddr_any {B : Nat} (s : ByteArray) (w : World) (hE : Ad.Env B w) (hs : s.size ≤ 2147483640) :
    Calls Tryz.prog 71 #[.string s] w fun e w' => e = .returned (.bool (Ad.parseS (bs s)).isSome) ∧ Below w.heap.size w w' := by
  obtain ⟨V, hV, _, hP⟩ := Nm.parse_at (B := B) s (by omega) _ rfl
  have HP := Lib.hid (hP w hE)
  obtain ⟨o, ho⟩ : ∃ o, (Ad.parseS (bs s)).isSome = o := ⟨_, rfl⟩
  rw [ho] at HP ⊢
  clear hP ho hs hE
  go_enter Tryz.func71, Tryz.ntmps71
  go_wp2_with fail
  refine HP.out.mono ?_
  rintro e w2 ⟨rfl, hb⟩
  have HB1 := Lib.hid hb
  clear hb HP
  go_upto_region 2 with (refine St.go_st 48 (Blk.new _ _ _) Ad.info16 rfl (by rw [Ad.cA_size, hV]) (Ad.cA_one _) rfl rfl rfl rfl ?_)
  obtain ⟨_, hbl⟩ := Nm.adr_new w2 V
  have HB2 := Lib.hid (HB1.out.trans (hbl.mono HB1.out.size))
  clear hbl HB1
  generalize (w2.alloc (.cells #[Value.int .u8 0, Value.int .u8 0, Value.int .u8 0, Value.int .u8 0, Value.int .u8 0, Value.int .u8 0, Value.int .u8 0, Value.int .u8 0, Value.int .u8 0, Value.int .u8 0, Value.int .u8 0, Value.int .u8 0, Value.int .u8 0, Value.int .u8 0, Value.int .u8 0, Value.int .u8 0] 48)).setRow w2.heap.size (Ad.cA V) = w3 at *
  go_wp2_with fail
  go_ret
  exact ⟨rfl, HB2.out⟩
theorem not_star : nameB [42, 46] = false := by decide +kernel
theorem not_none : nameB [] = false := by
  unfold nameB
  rw [decide_eq_false_iff_not]
  intro h
  exact (Nm.normal_len h).1 rfl
/-- a pattern's kind and name, as the program goes about them -/
theorem cut_star (n : List UInt8) : cutP (42 :: 46 :: n) = if nameB n = true ∧ Ad.parseS n = none then (1, n) else (3, []) := by
  unfold cutP
  rw [if_neg (by simp)]
  cases n with
  | nil =>
    rw [if_neg (by simp), not_star, not_none]
    rfl
  | cons c n =>
    rw [if_pos ⟨by simp, rfl⟩]
    show (if (Ad.parseS (c :: n)).isSome = true ∨ nameB (c :: n) = false then _ else _) = _
    cases hp : Ad.parseS (c :: n) with
    | some a => rw [if_pos (.inl rfl), if_neg (fun h => by cases h.2)]
    | none =>
      cases hn : nameB (c :: n) with
      | false => rw [if_pos (.inr rfl), if_neg (fun h => by cases h.1)]
      | true => rw [if_neg (by rintro (h | h) <;> cases h), if_pos ⟨rfl, rfl⟩]; rfl
theorem cut_other {p : List UInt8} (h0 : p ≠ [42]) (h1 : Lib.hasPrefix p [42, 46] = false) : cutP p = if nameB p = true then (2, p) else (3, []) := by
  unfold cutP
  rw [if_neg h0, if_neg]
  rintro ⟨h2, h3⟩
  have : Lib.hasPrefix p [42, 46] = true := by
    rw [← Lib.hasPrefix_of_take]
    show (decide (2 ≤ p.length) && (p.take 2 == [42, 46])) = true
    rw [h3, decide_eq_true (by omega)]
    rfl
  rw [h1] at this
  cases this
/-- what parse answers -/
abbrev resP (q : Nat × List UInt8) : Ending := .returned (.tuple #[.agg (shC (str q.2) (decide (q.1 < 2))), .bool (decide (q.1 ≠ 3))])
theorem behind_star (S : ByteArray) (w : World) :
    Calls Tryz.prog 69 #[.string S, .string ⟨#[42, 46]⟩] w fun e w' => e = .returned (.tuple #[.string (str (Lib.trimPrefix (bs S) [42, 46])), .bool (Lib.hasPrefix (bs S) [42, 46])]) ∧ w = w' := by
  refine (Tryz.strings_CutPrefix S ⟨#[42, 46]⟩ w).mono fun _ _ ⟨h1, h2⟩ => ⟨?_, h2.symm⟩
  rw [h1]
  rfl
theorem end_suf' (h n : List UInt8) : Lib.hasSuffix h (46 :: n) = endB n h := by
  rw [Bool.eq_iff_iff, end_suf]
  unfold Lib.hasSuffix
  exact List.isSuffixOf_iff_suffix
set_option linter.unusedSimpArgs false in
set_option maxRecDepth 100000 in
set_option maxHeartbeats 4000000 in
theorem tparse_any {B : Nat} (s : ByteArray) (w : World) (hE : Ad.Env B w) (hs : s.size ≤ 2147483640) :
    Calls Tryz.prog 35 #[.string s] w fun e w' => e = resP (cutP (bs s)) ∧ Below w.heap.size w w' := by
  obtain ⟨z, hz, hzb, hzl⟩ := sh_new w
  have q0 := lit_is s [42]
  have HB0 := Lib.hid hzl
  have HZ := Lib.hid hz
  by_cases h0 : bs s = [42]
  · rw [decide_eq_true h0] at q0
    have HM : Hid (cutP (bs s) = (0, [])) := Lib.hid (by unfold cutP; rw [if_pos h0])
    clear h0 hs hz hzl
    go_enter Tryz.func35, Tryz.ntmps35
    go_upto_region 1 with fail
    rw [HZ.out]
    go_wp2_with (refine go_st 63 hzb infH (shC_size _ _) (shC_size ⟨#[]⟩ true) (shC_one _ _) rfl rfl rfl rfl ?_)
    refine ret_two Tryz.results35 (setRow_blk hzb) undH rfl infH rfl rfl rfl ?_ rfl
    exact ⟨by rw [HM.out]; rfl, setRow_below HB0.out hzb (Nat.le_refl _) _⟩
  rw [decide_eq_false h0] at q0
  cases h1 : Lib.hasPrefix (bs s) [42, 46] with
  | true =>
    obtain ⟨n, hn⟩ : ∃ n, bs s = 42 :: 46 :: n := by
      unfold Lib.hasPrefix at h1
      obtain ⟨n, hn⟩ := List.isPrefixOf_iff_prefix.1 h1
      exact ⟨n, hn.symm⟩
    have hT := behind_star s w
    have et : Lib.trimPrefix (bs s) [42, 46] = n := by unfold Lib.trimPrefix; rw [h1, hn]; rfl
    rw [h1, et] at hT
    have HM : Hid (cutP (bs s) = if nameB n = true ∧ Ad.parseS n = none then (1, n) else (3, [])) := Lib.hid (by rw [hn]; exact cut_star n)
    obtain ⟨T, hTT⟩ : ∃ T, str n = T := ⟨_, rfl⟩
    have hTb : bs T = n := by rw [← hTT, bs_str]
    have hTz : T.size ≤ 2147483640 := by
      rw [← bs_length, hTb]
      have := congrArg List.length hn
      rw [bs_length] at this
      simp only [List.length_cons] at this
      omega
    rw [hTT] at hT
    have HT := Lib.hid (fun w' => (show Calls Tryz.prog 69 #[.string s, .string ⟨#[42, 46]⟩] w' fun e w'' => e = .returned (.tuple #[.string T, .bool true]) ∧ w' = w'' from by
      have h := behind_star s w'
      rw [h1, et, hTT] at h
      exact h))
    have HA := Lib.hid (fun w' (hb : Below w.heap.size w w') => tname_any (B := B) T w' (hE.on hb) hTz)
    have HD := Lib.hid (fun w' (hb : Below w.heap.size w w') => taddr_any (B := B) T w' (hE.on hb) hTz)
    rw [hTb] at HA HD
    have HS : Hid (str n = T) := Lib.hid hTT
    obtain ⟨o, ho⟩ : ∃ o, nameB n = o := ⟨_, rfl⟩
    obtain ⟨d, hd⟩ : ∃ d, (Ad.parseS n).isSome = d := ⟨_, rfl⟩
    rw [ho] at HA HM
    rw [hd] at HD
    have HP : Hid (Ad.parseS n = none ↔ d = false) := Lib.hid (by rw [← hd]; cases Ad.parseS n <;> simp)
    clear hT h0 h1 hn et hTT hTb hTz hs hE hz hzl ho hd
    go_enter Tryz.func35, Tryz.ntmps35
    go_upto_region 1 with fail
    rw [HZ.out]
    go_wp2_with fail
    refine (HT.out _).mono ?_
    rintro e w2 ⟨rfl, rfl⟩
    go_wp2_with fail
    refine (HA.out _ HB0.out).mono ?_
    rintro e w3 ⟨rfl, hb3⟩
    have hz3 := hzb.below hb3 hzb.lt
    have HB3 := Lib.hid (HB0.out.trans (hb3.mono HB0.out.size))
    clear hb3 hzb HA HT
    cases o
    · have HM2 := Lib.hid (HM.out.trans (if_neg (fun h => by cases h.1)))
      go_wp2_with (refine go_st 63 hz3 infH (shC_size _ _) (shC_size ⟨#[]⟩ false) (shC_one _ _) rfl rfl rfl rfl ?_)
      refine ret_two Tryz.results35 (setRow_blk hz3) undH rfl infH rfl rfl rfl ?_ rfl
      exact ⟨by rw [HM2.out]; rfl, setRow_below HB3.out hz3 (Nat.le_refl _) _⟩
    · go_wp2_with fail
      refine (HD.out _ HB3.out).mono ?_
      rintro e w4 ⟨rfl, hb4⟩
      have hz4 := hz3.below hb4 hz3.lt
      have HB4 := Lib.hid (HB3.out.trans (hb4.mono HB3.out.size))
      clear hb4 hz3 HD
      cases d
      · have HM2 := Lib.hid (HM.out.trans (if_pos ⟨by first | rfl | trivial, HP.out.2 rfl⟩))
        go_wp2_with (refine go_st 63 hz4 infH (shC_size _ _) (shC_size T true) (shC_one _ _) rfl rfl rfl rfl ?_)
        refine ret_two Tryz.results35 (setRow_blk hz4) undH rfl infH rfl rfl rfl ?_ rfl
        exact ⟨by rw [HM2.out]; show _ = Ending.returned (.tuple #[.agg (shC (str n) true), .bool true]); rw [HS.out]; rfl, setRow_below HB4.out hz4 (Nat.le_refl _) _⟩
      · have HM2 := Lib.hid (HM.out.trans (if_neg (fun h => by have := HP.out.1 h.2; cases this)))
        go_wp2_with (refine go_st 63 hz4 infH (shC_size _ _) (shC_size ⟨#[]⟩ false) (shC_one _ _) rfl rfl rfl rfl ?_)
        refine ret_two Tryz.results35 (setRow_blk hz4) undH rfl infH rfl rfl rfl ?_ rfl
        exact ⟨by rw [HM2.out]; rfl, setRow_below HB4.out hz4 (Nat.le_refl _) _⟩
  | false =>
    have HM : Hid (cutP (bs s) = if nameB (bs s) = true then (2, bs s) else (3, [])) := Lib.hid (cut_other h0 h1)
    have HT := Lib.hid (fun w' => (show Calls Tryz.prog 69 #[.string s, .string ⟨#[42, 46]⟩] w' fun e w'' => e = .returned (.tuple #[.string s, .bool false]) ∧ w' = w'' from by
      have h := behind_star s w'
      rw [h1, show Lib.trimPrefix (bs s) [42, 46] = bs s from by unfold Lib.trimPrefix; rw [h1]; rfl, str_bs] at h
      exact h))
    have HA := Lib.hid (fun w' (hb : Below w.heap.size w w') => tname_any (B := B) s w' (hE.on hb) hs)
    obtain ⟨o, ho⟩ : ∃ o, nameB (bs s) = o := ⟨_, rfl⟩
    rw [ho] at HA HM
    clear h0 h1 hs hE hz hzl ho
    go_enter Tryz.func35, Tryz.ntmps35
    go_upto_region 1 with fail
    rw [HZ.out]
    go_wp2_with fail
    refine (HT.out _).mono ?_
    rintro e w2 ⟨rfl, rfl⟩
    go_wp2_with fail
    refine (HA.out _ HB0.out).mono ?_
    rintro e w3 ⟨rfl, hb3⟩
    have hz3 := hzb.below hb3 hzb.lt
    have HB3 := Lib.hid (HB0.out.trans (hb3.mono HB0.out.size))
    clear hb3 hzb HA HT
    cases o
    · have HM2 := Lib.hid (HM.out.trans (if_neg (fun h => by cases h)))
      go_wp2_with (refine go_st 63 hz3 infH (shC_size _ _) (shC_size ⟨#[]⟩ false) (shC_one _ _) rfl rfl rfl rfl ?_)
      refine ret_two Tryz.results35 (setRow_blk hz3) undH rfl infH rfl rfl rfl ?_ rfl
      exact ⟨by rw [HM2.out]; rfl, setRow_below HB3.out hz3 (Nat.le_refl _) _⟩
    · have HM2 := Lib.hid (HM.out.trans (if_pos rfl))
      go_wp2_with (refine go_st 63 hz3 infH (shC_size _ _) (shC_size s false) (shC_one _ _) rfl rfl rfl rfl ?_)
      refine ret_two Tryz.results35 (setRow_blk hz3) undH rfl infH rfl rfl rfl ?_ rfl
      exact ⟨by rw [HM2.out]; show _ = Ending.returned (.tuple #[.agg (shC (str (bs s)) false), .bool true]); rw [str_bs]; rfl, setRow_below HB3.out hz3 (Nat.le_refl _) _⟩
/-- parse's answer, its kind one of four -/
theorem tparse_at {B : Nat} (s : ByteArray) (hs : s.size ≤ 2147483640) : ∃ (K : Nat) (N : ByteArray), cutP (bs s) = (K, bs N) ∧ (K = 0 ∨ K = 1 ∨ K = 2 ∨ K = 3) ∧ N.size ≤ s.size ∧ (bs N = [] ↔ (K = 0 ∨ K = 3)) ∧
    ∀ w, Ad.Env B w → Calls Tryz.prog 35 #[.string s] w fun e w' => e = .returned (.tuple #[.agg (shC N (decide (K < 2))), .bool (decide (K ≠ 3))]) ∧ Below w.heap.size w w' := by
  refine ⟨(cutP (bs s)).1, str (cutP (bs s)).2, rfl, ?_, ?_, ?_, fun w hE => tparse_any s w hE hs⟩
  · rcases cut_cases (bs s) with ⟨_, c⟩ | ⟨n, _, _, _, _, c⟩ | ⟨_, _, c⟩ | c <;> rw [c] <;> simp
  · rw [str_size, ← bs_length s]
    rcases cut_cases (bs s) with ⟨_, c⟩ | ⟨n, e, _, _, _, c⟩ | ⟨_, _, c⟩ | c <;> rw [c]
    · exact Nat.zero_le _
    · rw [e]; simp only [List.length_cons]; omega
    · exact Nat.le_refl _
    · exact Nat.zero_le _
  · rw [bs_str]
    rcases cut_cases (bs s) with ⟨_, c⟩ | ⟨n, e, _, h2, _, c⟩ | ⟨_, h2, c⟩ | c <;> rw [c]
    · simp
    · have := (Nm.normal_len h2).1
      simpa using this
    · have := (Nm.normal_len h2).1
      simpa using this
    · simp
end Go.Proofs.YtlpondbcnfaggaaGreatDoor.Tr

/-
  Contracts of package trie's tail, bare, fresh, labels, isProtocol, fits, Matches over this seat's translation, and of slices.Index and slices.Contains at strings. Texts of up to two billion bytes.
-/
namespace Go.Proofs.YtlpondbcnfaggaaGreatDoor.Tr
open Go.RowKit Go.Proofs.YtlpondbcnfaggaaGreatDoor.Wd Go.Proofs.YtlpondbcnfaggaaGreatDoor.Asc Go.Proofs.YtlpondbcnfaggaaGreatDoor.Tx Go.Proofs.YtlpondbcnfaggaaGreatDoor.St

set_option linter.unusedSimpArgs false in
set_option maxRecDepth 100000 in
set_option maxHeartbeats 2000000 in
theorem ttail_any (h : ByteArray) (w : World) (hh : h.size ≤ 2147483640) :
    Calls Tryz.prog 80 #[.string h] w fun e w' => e = .returned (.string (str (tailS (bs h)))) ∧ w = w' := by
  have HR : Hid (str (tailS (bs h)) = h.extract (max 0 ((h.size : Int) - 1 - 253)).toNat h.size) := Lib.hid (by
    apply bs_inj
    rw [bs_str, bs_extract, List.take_of_length_le (by rw [List.length_drop, bs_length]; omega)]
    unfold tailS
    rw [bs_length]
    congr 1
    omega)
  go_enter Tryz.func80, Tryz.ntmps80
  go_wp2_with fail
  go_ret
  exact ⟨by rw [HR.out]; rfl, rfl⟩

theorem bare_cells (r : Ru) : (ruC r).setIfInBounds 0 (.bool false) = ruC { r with al := false } := by simp [ruC]
/-- a rule in a block, a zero rule in the next one -/
theorem box_zero (w : World) (C : Array Value) : ∃ w2, (w.alloc (.cells C 23)).alloc (.cells zU 23) = w2 ∧ Blk w2 w.heap.size 23 C ∧ Blk w2 (w.heap.size + 1) 23 (ruC Ru.zero) ∧ Below w.heap.size w w2 := by
  have b1 := Blk.new w 23 C
  have b2 := (ru_zero (w.alloc (.cells C 23))).1
  have l2 := (ru_zero (w.alloc (.cells C 23))).2
  have l1 : Below w.heap.size w (w.alloc (.cells C 23)) := (Below.refl _ _).alloc (Nat.le_refl _) _
  rw [alloc_size] at b2
  exact ⟨_, rfl, b1.below l2 b1.lt, b2, l1.trans (l2.mono l1.size)⟩
set_option linter.unusedSimpArgs false in
set_option maxRecDepth 100000 in
set_option maxHeartbeats 4000000 in
theorem tbare_any (r : Ru) (w : World) :
    Calls Tryz.prog 40 #[.agg (ruC r)] w fun e w' => e = .returned (.agg (ruC { r with al := false })) ∧ Below w.heap.size w w' := by
  obtain ⟨w2, hw, hb1, hb2, hl⟩ := box_zero w (ruC r)
  have HW := Lib.hid hw
  clear hw
  go_enter Tryz.func40, Tryz.ntmps40
  go_upto_region 1 with fail
  rw [HW.out]
  have c0 : w2.cell? ⟨w.heap.size, 0, none⟩ = some (.bool r.al) := hb1.cell 0
  have f0 := hb1.frozen 0
  have hs := hb1.set_ 0 (.bool false)
  rw [bare_cells] at hs
  have hs2 := hb2.far (p := ⟨w.heap.size, 0, none⟩) (show w.heap.size + 1 ≠ w.heap.size by omega) (.bool false)
  have hl2 := hl.setCell (p := ⟨w.heap.size, 0, none⟩) (Nat.le_refl _) (.bool false)
  clear hb1 hb2 hl HW
  go_upto_region 2 with fail
  clear c0 f0
  generalize w2.setCell ⟨w.heap.size, 0, none⟩ (.bool false) = w3 at *
  have HL := Lib.hid hl2
  clear hl2
  go_wp2_with (first | (refine go_ld (x := .tmp 1) 23 hs undU rfl infU (ruC_size _) rfl rfl rfl ?_) | (refine go_st 23 hs2 infU (ruC_size _) (ruC_size _) (ruC_one _) rfl rfl rfl rfl ?_))
  refine ret_one Tryz.results40 (setRow_blk hs2) undU rfl infU (ruC_size _) rfl ?_ rfl
  exact ⟨rfl, setRow_below HL.out hs2 (by omega) _⟩
/-- what a rule's cells hold, in a block -/
theorem ru_cells {w : World} {g t : Nat} {r : Ru} (h : Blk w g t (ruC r)) : w.cell? ⟨g, 0, none⟩ = some (.bool r.al) ∧ w.cell? ⟨g, 1, none⟩ = some (.int .i64 r.pr) ∧ w.cell? ⟨g, 2, none⟩ = some (.string (str r.pa)) ∧ w.cell? ⟨g, 3, none⟩ = some (.int .i64 r.po) ∧ w.cell? ⟨g, 4, none⟩ = some (.string (str r.ap)) :=
  ⟨h.cell 0, h.cell 1, h.cell 2, h.cell 3, h.cell 4⟩
theorem arr_same {cs : Array Value} {i : Nat} {v : Value} (hv : cs[i]? = some v) : cs.setIfInBounds i v = cs := by
  apply Array.ext_getElem?
  intro j
  rw [Array.getElem?_setIfInBounds]
  split
  · rename_i e
    subst e
    rw [hv]
    have := (Array.getElem?_eq_some_iff.1 hv).1
    simp [this]
  · rfl
theorem cell_same {w : World} {g t i : Nat} {cs : Array Value} {v : Value} (h : Blk w g t cs) (hv : cs[i]? = some v) : w.setCell ⟨g, i, none⟩ v = w := by
  have hh : ∀ f : Obj → Obj, f (.cells cs t (0, 0)) = .cells cs t (0, 0) → w.heap.modify g f = w.heap := by
    intro f hf
    apply Array.ext_getElem?
    intro j
    rw [Array.getElem?_modify]
    split
    · rename_i e
      subst e
      rw [h.heap]
      show some (f _) = _
      rw [hf]
    · rfl
  unfold World.setCell
  rw [hh _ (by show Obj.cells (if (none : Option _).isSome then cs else cs.setIfInBounds i v) t (0, 0) = _; rw [if_neg (by simp), arr_same hv])]
/-- what fresh keeps: the rule in a block, a zero rule in another -/
structure FrI (w : World) (G : Nat) (r : Ru) (ww : World) : Prop where
  box : Blk ww G 23 (ruC r)
  out : Blk ww (G + 1) 23 (ruC Ru.zero)
  bel : Below w.heap.size w ww
  lo : w.heap.size ≤ G
theorem FrI.on {w : World} {G : Nat} {r : Ru} {ww w' : World} (h : FrI w G r ww) (hb : Below ww.heap.size ww w') : FrI w G r w' :=
  ⟨h.box.below hb h.box.lt, h.out.below hb h.out.lt, h.bel.trans (hb.mono h.bel.size), h.lo⟩
set_option linter.unusedSimpArgs false in
set_option maxRecDepth 100000 in
set_option maxHeartbeats 8000000 in
theorem tfresh_any (r : Ru) (w : World) (h1 : r.pa.length ≤ 2147483640) (h2 : r.ap.length ≤ 2147483640) :
    Calls Tryz.prog 41 #[.agg (ruC r)] w fun e w' => e = .returned (.agg (ruC r)) ∧ Below w.heap.size w w' := by
  obtain ⟨w2, hw, hb1, hb2, hl⟩ := box_zero w (ruC r)
  have HW := Lib.hid hw
  have HI : Hid (FrI w w.heap.size r w2.drew) := Lib.hid (FrI.on ⟨hb1, hb2, hl, Nat.le_refl _⟩ (show Below w2.heap.size w2 w2.drew from (Below.refl _ _).drew))
  have HC1 := Lib.hid (fun w' => clone_any (str r.pa) w' (by rw [str_size]; omega))
  have HC2 := Lib.hid (fun w' => clone_any (str r.ap) w' (by rw [str_size]; omega))
  clear hw hb1 hb2 hl h1 h2
  go_enter Tryz.func41, Tryz.ntmps41
  go_upto_region 1 with fail
  rw [HW.out]
  clear HW
  generalize w.heap.size = G at *
  refine wp_region_held_drew (S := fun w' => w'.cell? ⟨G, 2, none⟩ = some (.string (str r.pa)) ∧ w'.cell? ⟨G, 4, none⟩ = some (.string (str r.ap))) (by kernel_rfl) ⟨(ru_cells HI.out.box).2.2.1, (ru_cells HI.out.box).2.2.2.2⟩ (fun h0 => ?_)
  refine hd_take 0 (some 3) (.pointer (some ⟨G, 2, none⟩)) rfl rfl (by kernel_rfl) (by kernel_rfl) (by kernel_rfl) (fun _ _ _ h => h) (Or.inl ⟨by rfl, fun w hw => by go_simp⟩) h0 ?_
  simp only [Act.put, List.setIfInBounds_toArray, List.set_cons_zero, List.set_cons_succ]
  refine hd_take 1 (some 4) (.string (str r.pa)) rfl rfl (by kernel_rfl) (by kernel_rfl) (by kernel_rfl) (fun _ _ _ h => h) (Or.inl ⟨by rfl, fun w hw => by have h9 := hw.1; go_simp⟩) h0 ?_
  simp only [Act.put, List.setIfInBounds_toArray, List.set_cons_zero, List.set_cons_succ]
  refine hd_take 3 (some 6) (.pointer (some ⟨G, 4, none⟩)) rfl rfl (by kernel_rfl) (by kernel_rfl) (by kernel_rfl) (fun _ _ _ h => h) (Or.inl ⟨by rfl, fun w hw => by go_simp⟩) h0 ?_
  simp only [Act.put, List.setIfInBounds_toArray, List.set_cons_zero, List.set_cons_succ]
  refine hd_take 4 (some 7) (.string (str r.ap)) rfl rfl (by kernel_rfl) (by kernel_rfl) (by kernel_rfl) (fun _ _ _ h => h) (Or.inl ⟨by rfl, fun w hw => by have h9 := hw.2; go_simp⟩) h0 ?_
  simp only [Act.put, List.setIfInBounds_toArray, List.set_cons_zero, List.set_cons_succ]
  refine wpAnyH_ready (rs := [2]) (by kernel_rfl) (by simp) (AllReadyH.cons rfl (fun K hK => ?_) AllReadyH.nil)
  go_simp
  go_wp2_with (go_at_call 76; refine (HC1.out _).mono ?_; rintro e w3 ⟨rfl, hb⟩; have HI3 := Lib.hid (HI.out.on hb); clear hb)
  refine hK.out _ _ ⟨(ru_cells HI3.out.box).2.2.1, (ru_cells HI3.out.box).2.2.2.2⟩ (fun h3 => ?_)
  clear hK K h0 HI HC1
  refine hd_take 6 (some 9) (.pointer (some ⟨G, 2, none⟩)) rfl rfl (by kernel_rfl) (by kernel_rfl) (by kernel_rfl) (fun _ _ _ h => h) (Or.inl ⟨by rfl, fun w hw => by go_simp⟩) h3 ?_
  simp only [Act.put, List.setIfInBounds_toArray, List.set_cons_zero, List.set_cons_succ]
  refine wpAnyH_ready (rs := [5]) (by kernel_rfl) (by simp) (AllReadyH.cons rfl (fun K hK => ?_) AllReadyH.nil)
  go_simp
  go_wp2_with (go_at_call 76; refine (HC2.out _).mono ?_; rintro e w4 ⟨rfl, hb⟩; have HI4 := Lib.hid (HI3.out.on hb); clear hb)
  refine hK.out _ _ ⟨(ru_cells HI4.out.box).2.2.1, (ru_cells HI4.out.box).2.2.2.2⟩ (fun h4 => ?_)
  clear hK K h3 HI3 HC2
  have c2 := (ru_cells HI4.out.box).2.2.1
  have f2 := HI4.out.box.frozen 2
  have c4 := (ru_cells HI4.out.box).2.2.2.2
  have f4 := HI4.out.box.frozen 4
  have e2 := cell_same (i := 2) (v := .string (str r.pa)) HI4.out.box rfl
  have e4 := cell_same (i := 4) (v := .string (str r.ap)) HI4.out.box rfl
  refine wpAnyH_ready (rs := [7]) (by kernel_rfl) (by simp) (AllReadyH.cons rfl (fun K hK => ?_) AllReadyH.nil)
  go_simp
  refine hK.out _ _ h4 (fun h5 => ?_)
  clear hK K
  refine hd_take 8 (some 10) (.pointer (some ⟨G, 4, none⟩)) rfl rfl (by kernel_rfl) (by kernel_rfl) (by kernel_rfl) (fun _ _ _ h => h) (Or.inl ⟨by rfl, fun w hw => by go_simp⟩) h5 ?_
  simp only [Act.put, List.setIfInBounds_toArray, List.set_cons_zero, List.set_cons_succ]
  refine wpAnyH_ready (rs := [9]) (by kernel_rfl) (by simp) (AllReadyH.cons rfl (fun K hK => ?_) AllReadyH.nil)
  go_simp
  refine hK.out _ _ h5 (fun h6 => ?_)
  clear hK K
  refine wpAnyH_done (by kernel_rfl) ?_ _
  have b5 := HI4.out.box
  have o5 := HI4.out.out
  clear c2 c4 f2 f4 e2 e4 h4 h5 h6
  go_wp2_with (first | (refine go_ld (x := .tmp 1) 23 b5 undU rfl infU (ruC_size _) rfl rfl rfl ?_) | (refine go_st 23 o5 infU (ruC_size _) (ruC_size _) (ruC_one _) rfl rfl rfl rfl ?_))
  refine ret_one Tryz.results41 (setRow_blk o5) undU rfl infU (ruC_size _) rfl ?_ rfl
  exact ⟨rfl, setRow_below HI4.out.bel o5 (by have := HI4.out.lo; omega) _⟩
end Go.Proofs.YtlpondbcnfaggaaGreatDoor.Tr
