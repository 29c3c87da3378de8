/-
  Contract of package cidr's Parse over this seat's translation.
-/
import Derived.Test.YtlpondbcnfaggaaGreatDoorR28
import Derived.Test.YtlpondbcnfaggaaGreatDoorR37
import Derived.Test.YtlpondbcnfaggaaGreatDoorR27
import Derived.Test.YtlpondbcnfaggaaGreatDoorR30
namespace Go.Proofs.YtlpondbcnfaggaaGreatDoor.Ad
open Go.RowKit Go.Proofs.YtlpondbcnfaggaaGreatDoor.Wd Go.Proofs.YtlpondbcnfaggaaGreatDoor.Asc

theorem builtC : Tryz.prog.built 95 [] = some (C.cells ⟨List.replicate 16 0, 0⟩) := by kernel_rfl
theorem cparseS_is (l : List UInt8) : cparseS l = (match parseS (Lib.cut l [47]).1 with
  | none => none
  | some a => match numS (Lib.cut l [47]).2.1 (if 0 ≤ Lib.indexByte (Lib.cut l [47]).1 58 then 128 else 32) with
    | none => none
    | some n => some (ofS a ((if 0 ≤ Lib.indexByte (Lib.cut l [47]).1 58 then 0 else 96) + n))) := rfl
def C0 : C := ⟨List.replicate 16 0, 0⟩
def CParsePost (l : List UInt8) (w : World) (e : Ending) (w' : World) : Prop :=
  e = .returned (.tuple #[.agg ((cparseS l).getD C0).cells, .bool (cparseS l).isSome]) ∧ Below w.heap.size w w'

set_option maxRecDepth 100000 in
set_option maxHeartbeats 4000000 in
theorem cparse_any {B : Nat} (l : List UInt8) (w : World) (hE : Env B w) (hl : l.length < 4294967281) :
    Calls Tryz.prog 172 #[.string (str l)] w (CParsePost l w) := by
  have HE := Lib.hid hE
  have hcl := cut_le l [47]
  have HC := Lib.hid (cparseS_is l)
  clear hE
  go_enter Tryz.func172, Tryz.ntmps172
  go_wp2_with fail
  have hR : Blk (w.alloc (.cells (C.cells ⟨List.replicate 16 0, 0⟩) 95)) w.heap.size 95 (C.cells ⟨List.replicate 16 0, 0⟩) := Blk.new _ _ _
  have hL : Below w.heap.size w (w.alloc (.cells (C.cells ⟨List.replicate 16 0, 0⟩) 95)) := (Below.refl _ _).alloc (Nat.le_refl _) _
  refine (cut_any l [47] _ (HE.out.on hL) hl).mono ?_
  rintro e w1 ⟨rfl, hb1⟩
  have R1 := hR.below hb1 hR.lt
  have L1 := hL.trans (hb1.mono hL.size)
  have E1 := HE.out.on L1
  clear hb1 hR hL
  generalize hcut : Lib.cut l [47] = cu at *
  obtain ⟨p1, p2, mo⟩ := cu
  simp only at HC hcl
  clear hcut
  go_wp2_with fail
  refine (parse_any p1 _ E1 (by omega)).mono ?_
  rintro e w2 ⟨rfl, hb2⟩
  have R2 := R1.below hb2 R1.lt
  have L2 := L1.trans (hb2.mono L1.size)
  have E2 := E1.on hb2
  have HV : Hid (∀ b, parseS p1 = some b → (parseS p1).getD (List.replicate 16 0) = b) := fun b hb => by rw [hb]; rfl
  have hV16 : ((parseS p1).getD (List.replicate 16 0)).length = 16 := by
    cases h : parseS p1 with
    | none => rfl
    | some a => exact parseS_len h
  generalize (parseS p1).getD (List.replicate 16 0) = V at *
  clear hb2 R1 L1 E1
  go_upto_region 3 with (refine go_st 48 (Blk.new _ _ _) info16 rfl (by rw [cA_size, hV16]) (cA_one _) rfl rfl rfl rfl ?_)
  have hn := new_below w2 48 #[Value.int .u8 0, Value.int .u8 0, Value.int .u8 0, Value.int .u8 0, Value.int .u8 0, Value.int .u8 0, Value.int .u8 0, Value.int .u8 0, Value.int .u8 0, Value.int .u8 0, Value.int .u8 0, Value.int .u8 0, Value.int .u8 0, Value.int .u8 0, Value.int .u8 0, Value.int .u8 0] (cA V)
  have b7 := new_blk w2 48 #[Value.int .u8 0, Value.int .u8 0, Value.int .u8 0, Value.int .u8 0, Value.int .u8 0, Value.int .u8 0, Value.int .u8 0, Value.int .u8 0, Value.int .u8 0, Value.int .u8 0, Value.int .u8 0, Value.int .u8 0, Value.int .u8 0, Value.int .u8 0, Value.int .u8 0, Value.int .u8 0] (cA V)
  generalize (w2.alloc (.cells #[Value.int .u8 0, Value.int .u8 0, Value.int .u8 0, Value.int .u8 0, Value.int .u8 0, Value.int .u8 0, Value.int .u8 0, Value.int .u8 0, Value.int .u8 0, Value.int .u8 0, Value.int .u8 0, Value.int .u8 0, Value.int .u8 0, Value.int .u8 0, Value.int .u8 0, Value.int .u8 0] 48)).setRow w2.heap.size (cA V) = w3 at *
  have R3 := Lib.hid (R2.below hn R2.lt)
  have L3 := Lib.hid (L2.trans (hn.mono L2.size))
  have E3 := Lib.hid (E2.on hn)
  have B7 := Lib.hid b7
  clear R2 L2 E2 hn b7
  have h27 : w.heap.size < w2.heap.size ∨ True := .inr trivial
  cases hp : parseS p1 with
  | none =>
    have HY := Lib.hid (show cparseS l = none by rw [HC.out, hp])
    have RR := R3
    have LL := L3
    clear HC hp
    go_wp2_with (first
      | (refine go_bd0 95 _ builtC rfl rfl ?_)
      | (refine go_st 95 RR.out info17 rfl rfl (C_one _) rfl rfl rfl rfl ?_))
    refine ret_two Tryz.results172 (setRow_blk RR.out) und17 rfl info17 rfl rfl rfl ?_ rfl
    exact ⟨by rw [HY.out]; rfl, setRow_below LL.out RR.out (Nat.le_refl _) _⟩
  | some a =>
    obtain rfl := HV.out a hp
    rw [hp] at HC
    simp only at HC
    have hsz : (str p2).size ≤ maxLen := by rw [str_size]; unfold maxLen; omega
    have hbs : bs (str p2) = p2 := rfl
    clear hp
    by_cases hc : 0 ≤ Lib.indexByte p1 58
    · rw [if_pos hc, if_pos hc] at HC
      have HD := Lib.hid (show decide (0 ≤ Lib.indexByte p1 58) = true from decide_eq_true hc)
      clear hc
      go_wp2_with fail
      refine (contains_any p1 58 _).mono ?_
      rintro e w4 ⟨rfl, hw4⟩
      subst hw4
      rw [HD.out]
      go_wp2_with fail
      refine (number_any (str p2) 128 _ hsz).mono ?_
      rintro e w5 ⟨rfl, hb5⟩
      rw [hbs]
      have RR := Lib.hid (R3.out.below hb5 R3.out.lt)
      have LL := Lib.hid (L3.out.trans (hb5.mono L3.out.size))
      have B75 := B7.out.below hb5 B7.out.lt
      clear hb5
      cases hn : numS p2 128 with
      | none =>
        have HY := Lib.hid (show cparseS l = none by rw [HC.out, hn])
        rw [dTup]
        clear HC hn
        go_wp2_with (first
          | (refine go_bd0 95 _ builtC rfl rfl ?_)
          | (refine go_st 95 RR.out info17 rfl rfl (C_one _) rfl rfl rfl rfl ?_))
        refine ret_two Tryz.results172 (setRow_blk RR.out) und17 rfl info17 rfl rfl rfl ?_ rfl
        exact ⟨by rw [HY.out]; rfl, setRow_below LL.out RR.out (Nat.le_refl _) _⟩
      | some n =>
        obtain ⟨n0, n1⟩ := numS_bd hn
        have HY := Lib.hid (show cparseS l = some (ofS V n) by rw [HC.out, hn]; simp only [Int.zero_add])
        rw [dTup]
        clear HC hn
        have hz := ofS_len V n
        rw [hV16] at hz
        go_wp2_with (refine go_ld 48 B75 und16 rfl info16 (by rw [cA_size, hV16]) rfl rfl rfl ?_)
        refine (of_any V hV16 n _).mono ?_
        rintro e w6 ⟨rfl, hb6⟩
        have R6 := RR.out.below hb6 RR.out.lt
        have L6 := LL.out.trans (hb6.mono LL.out.size)
        clear hb6
        go_wp2_with (refine go_st 95 R6 info17 rfl (C_size _ hz) (C_one _) rfl rfl rfl rfl ?_)
        refine ret_two Tryz.results172 (setRow_blk R6) und17 rfl info17 (C_size _ hz) rfl rfl ?_ rfl
        exact ⟨by rw [HY.out]; rfl, setRow_below L6 R6 (Nat.le_refl _) _⟩
    · rw [if_neg hc, if_neg hc] at HC
      have HD := Lib.hid (show decide (0 ≤ Lib.indexByte p1 58) = false from decide_eq_false hc)
      clear hc
      go_wp2_with fail
      refine (contains_any p1 58 _).mono ?_
      rintro e w4 ⟨rfl, hw4⟩
      subst hw4
      rw [HD.out]
      go_wp2_with fail
      refine (number_any (str p2) 32 _ hsz).mono ?_
      rintro e w5 ⟨rfl, hb5⟩
      rw [hbs]
      have RR := Lib.hid (R3.out.below hb5 R3.out.lt)
      have LL := Lib.hid (L3.out.trans (hb5.mono L3.out.size))
      have B75 := B7.out.below hb5 B7.out.lt
      clear hb5
      cases hn : numS p2 32 with
      | none =>
        have HY := Lib.hid (show cparseS l = none by rw [HC.out, hn])
        rw [dTup]
        clear HC hn
        go_wp2_with (first
          | (refine go_bd0 95 _ builtC rfl rfl ?_)
          | (refine go_st 95 RR.out info17 rfl rfl (C_one _) rfl rfl rfl rfl ?_))
        refine ret_two Tryz.results172 (setRow_blk RR.out) und17 rfl info17 rfl rfl rfl ?_ rfl
        exact ⟨by rw [HY.out]; rfl, setRow_below LL.out RR.out (Nat.le_refl _) _⟩
      | some n =>
        obtain ⟨n0, n1⟩ := numS_bd hn
        have HY := Lib.hid (show cparseS l = some (ofS V (96 + n)) by rw [HC.out, hn])
        rw [dTup]
        clear HC hn
        have hz := ofS_len V (96 + n)
        rw [hV16] at hz
        go_wp2_with (refine go_ld 48 B75 und16 rfl info16 (by rw [cA_size, hV16]) rfl rfl rfl ?_)
        refine (of_any V hV16 (96 + n) _).mono ?_
        rintro e w6 ⟨rfl, hb6⟩
        have R6 := RR.out.below hb6 RR.out.lt
        have L6 := LL.out.trans (hb6.mono LL.out.size)
        clear hb6
        go_wp2_with (refine go_st 95 R6 info17 rfl (C_size _ hz) (C_one _) rfl rfl rfl rfl ?_)
        refine ret_two Tryz.results172 (setRow_blk R6) und17 rfl info17 (C_size _ hz) rfl rfl ?_ rfl
        exact ⟨by rw [HY.out]; rfl, setRow_below L6 R6 (Nat.le_refl _) _⟩
end Go.Proofs.YtlpondbcnfaggaaGreatDoor.Ad

/-
  Contracts of package policy's digits, number, signed over this seat's translation. Condition: a line of up to a million bytes.
-/
namespace Go.Proofs.YtlpondbcnfaggaaGreatDoor.Po
open Go.RowKit Go.Proofs.YtlpondbcnfaggaaGreatDoor.Wd Go.Proofs.YtlpondbcnfaggaaGreatDoor.Asc Go.Proofs.YtlpondbcnfaggaaGreatDoor.Tx Go.Proofs.YtlpondbcnfaggaaGreatDoor.St Go.Proofs.YtlpondbcnfaggaaGreatDoor.Tr Go.Proofs.YtlpondbcnfaggaaGreatDoor.Te

theorem str_beqP (a b : List UInt8) : ((str a).toList == (str b).toList) = decide (a = b) := Tr.str_beq a b
theorem empty_beq (a : List UInt8) : ((str a).toList == (⟨#[]⟩ : ByteArray).toList) = decide (a = []) := Tr.str_beq a []
section
variable {w : World} {x : Nat} {ws : List (List UInt8)} {b : Bool}
/-- what reading words leaves: the answer, the words behind, whether one was bad -/
def WdP (w : World) (x : Nat) (v : Value) (ws : List (List UInt8)) (b : Bool) (e : Ending) (w' : World) : Prop := e = .returned v ∧ WdI w' x ws b ∧ But [x] w w'
set_option linter.unusedSimpArgs false in
set_option maxRecDepth 100000 in
set_option maxHeartbeats 4000000 in
theorem digits_any (h : WdI w x ws b) (s : ByteArray) (most : Int) (hs : s.size ≤ 1000000) :
    Calls Tryz.prog 170 #[.pointer (some ⟨x, 0, none⟩), .string s, .int .i64 most] w (WdP w x (.int .i64 (numV (bs s) most)) ws (b || !(numS (bs s) most).isSome)) := by
  obtain ⟨n, ok, hn⟩ : ∃ n ok, dTup (numS (bs s) most) = .tuple #[.int .i64 n, .bool ok] ∧ numV (bs s) most = n ∧ (numS (bs s) most).isSome = ok := by
    unfold numV
    cases numS (bs s) most with
    | none => exact ⟨0, false, rfl, rfl, rfl⟩
    | some n => exact ⟨n, true, rfl, rfl, rfl⟩
  have HN := Lib.hid (fun w' => show Calls Tryz.prog 96 #[.string s, .int .i64 most] w' fun e w'' => e = .returned (.tuple #[.int .i64 n, .bool ok]) ∧ Below w'.heap.size w' w'' from by
    rw [← hn.1]
    exact number_any s most w' (by unfold maxLen; omega))
  rw [hn.2.1, hn.2.2]
  have H := Lib.hid h
  clear h hn
  go_enter Tryz.func170, Tryz.ntmps170
  go_wp2_with fail
  refine (HN.out _).mono ?_
  rintro e w1 ⟨rfl, hb1⟩
  have HE := Lib.hid (expect_any (H.out.on hb1) ok)
  have HB := Lib.hid hb1
  clear hb1 HN
  go_wp2_with fail
  refine HE.out.mono ?_
  rintro e w2 ⟨rfl, h2, hb2⟩
  have H2 := Lib.hid h2
  have HB2 := Lib.hid (but_more (But.of_below HB.out [x]) hb2 (fun i hi => .inl hi))
  clear h2 hb2 HE
  go_wp2_with fail
  go_ret
  exact ⟨rfl, H2.out, HB2.out⟩
set_option linter.unusedSimpArgs false in
set_option maxRecDepth 100000 in
set_option maxHeartbeats 4000000 in
theorem number_anyW (h : WdI w x ws b) (most : Int) :
    Calls Tryz.prog 141 #[.pointer (some ⟨x, 0, none⟩), .int .i64 most] w (WdP w x (.int .i64 (numV (headW ws) most)) ws.tail (b || !(numS (headW ws) most).isSome)) := by
  have HL := Lib.hid h.len
  have HN := Lib.hid (next_any h)
  clear h
  go_enter Tryz.func141, Tryz.ntmps141
  go_wp2_with fail
  refine HN.out.mono ?_
  rintro e w1 ⟨rfl, h1, hb1⟩
  have HD := Lib.hid (digits_any h1 (str (headW ws)) most (by rw [str_size]; exact HL.out))
  rw [bs_str] at HD
  have HB := Lib.hid hb1
  clear hb1 h1 HN
  go_wp2_with fail
  refine HD.out.mono ?_
  rintro e w2 ⟨rfl, h2, hb2⟩
  have H2 := Lib.hid h2
  have HB2 := Lib.hid (HB.out.trans hb2)
  clear h2 hb2 HD
  go_wp2_with fail
  go_ret
  exact ⟨rfl, H2.out, HB2.out⟩
theorem sgn_cut (S : ByteArray) (w : World) :
    Calls Tryz.prog 69 #[.string S, .string ⟨#[45]⟩] w fun e w' => e = .returned (.tuple #[.string (str (sgnT (bs S))), .bool (decide ((bs S).head? = some 45))]) ∧ w = w' := by
  refine (Tryz.strings_CutPrefix S ⟨#[45]⟩ w).mono fun _ _ ⟨h1, h2⟩ => ⟨?_, h2.symm⟩
  rw [h1]
  have h3 : Lib.hasPrefix (bs S) [45] = decide ((bs S).head? = some 45) := Nm.pre_one 45 (bs S)
  have h4 : Lib.trimPrefix (bs S) [45] = sgnT (bs S) := by
    unfold Lib.trimPrefix sgnT
    rw [h3]
    by_cases hc : (bs S).head? = some 45
    · rw [if_pos hc, decide_eq_true hc]; rfl
    · rw [if_neg hc, decide_eq_false hc]; rfl
  show Ending.returned (.tuple #[.string (str (Lib.trimPrefix (bs S) [45])), .bool (Lib.hasPrefix (bs S) [45])]) = _
  rw [h3, h4]
set_option linter.unusedSimpArgs false in
set_option maxRecDepth 100000 in
set_option maxHeartbeats 4000000 in
theorem signed_any (h : WdI w x ws b) :
    Calls Tryz.prog 139 #[.pointer (some ⟨x, 0, none⟩), .int .i64 1000] w (WdP w x (.int .i64 (sgnV (headW ws))) ws.tail (b || !sgnOk (headW ws))) := by
  have HL := Lib.hid h.len
  have HN := Lib.hid (next_any h)
  have hst : (sgnT (headW ws)).length ≤ 1000000 := by
    have := HL.out
    unfold sgnT
    split
    · rw [List.length_drop]; omega
    · exact this
  have HC := Lib.hid (fun w' => sgn_cut (str (headW ws)) w')
  rw [bs_str] at HC
  obtain ⟨n, hn⟩ : ∃ n, numV (sgnT (headW ws)) 1000 = n := ⟨_, rfl⟩
  have hn2 : 0 ≤ n ∧ n ≤ 1000 := by
    rw [← hn]
    unfold numV
    cases hm : numS (sgnT (headW ws)) 1000 with
    | none => exact ⟨Int.le_refl _, by decide⟩
    | some m => exact Ad.numS_bd hm
  obtain ⟨hb1, hb2⟩ := hn2
  have HS := Lib.hid (show sgnV (headW ws) = if (headW ws).head? = some 45 then -n else n from by unfold sgnV; rw [hn])
  clear h
  go_enter Tryz.func139, Tryz.ntmps139
  go_wp2_with fail
  refine HN.out.mono ?_
  rintro e w1 ⟨rfl, h1, hb1'⟩
  have HD := Lib.hid (digits_any h1 (str (sgnT (headW ws))) 1000 (by rw [str_size]; exact hst))
  rw [bs_str, hn] at HD
  have HB := Lib.hid hb1'
  clear hb1' h1 HN hst hn
  go_wp2_with fail
  refine (HC.out _).mono ?_
  rintro e w2 ⟨rfl, rfl⟩
  clear HC
  obtain ⟨d, hd⟩ : ∃ d, decide ((headW ws).head? = some 45) = d := ⟨_, rfl⟩
  rw [hd]
  have HDc := Lib.hid hd
  clear hd
  go_wp2_with fail
  refine HD.out.mono ?_
  rintro e w2 ⟨rfl, h2, hb2'⟩
  have H2 := Lib.hid h2
  have HB2 := Lib.hid (HB.out.trans hb2')
  clear h2 hb2' HD
  cases d with
  | true =>
    have hs := HS.out
    rw [if_pos (of_decide_eq_true HDc.out)] at hs
    have HS2 := Lib.hid hs
    clear hs HS
    go_wp2_with fail
    go_ret
    exact ⟨by rw [HS2.out]; rfl, H2.out, HB2.out⟩
  | false =>
    have hs := HS.out
    rw [if_neg (of_decide_eq_false HDc.out)] at hs
    have HS2 := Lib.hid hs
    clear hs HS
    go_wp2_with fail
    go_ret
    exact ⟨by rw [HS2.out]; rfl, H2.out, HB2.out⟩
end
end Go.Proofs.YtlpondbcnfaggaaGreatDoor.Po

/-
  Contracts of package policy's skip, done over this seat's translation. Condition: a line of up to a million bytes.
-/
namespace Go.Proofs.YtlpondbcnfaggaaGreatDoor.Po
open Go.RowKit Go.Proofs.YtlpondbcnfaggaaGreatDoor.Wd Go.Proofs.YtlpondbcnfaggaaGreatDoor.Asc Go.Proofs.YtlpondbcnfaggaaGreatDoor.Tx Go.Proofs.YtlpondbcnfaggaaGreatDoor.St Go.Proofs.YtlpondbcnfaggaaGreatDoor.Tr Go.Proofs.YtlpondbcnfaggaaGreatDoor.Te

def isW (key : List UInt8) (ws : List (List UInt8)) : Bool := decide (headW ws = key)
def skipW (key : List UInt8) (ws : List (List UInt8)) : List (List UInt8) := if headW ws = key then ws.tail else ws
section
variable {w : World} {x : Nat} {ws : List (List UInt8)} {b : Bool}
set_option linter.unusedSimpArgs false in
set_option maxRecDepth 100000 in
set_option maxHeartbeats 4000000 in
theorem skip_any (h : WdI w x ws b) (key : List UInt8) :
    Calls Tryz.prog 137 #[.pointer (some ⟨x, 0, none⟩), .string (str key)] w (WdP w x (.bool (isW key ws)) (skipW key ws) b) := by
  obtain ⟨l, hx, hws, hl⟩ := h
  have hn1 := next_head l
  have hn2 := next_tail l
  have hn3 := (next_len l).2
  rw [hws] at hn1 hn2
  have hn1 : nextT l = headW ws := hn1
  have HW := Lib.hid (And.intro hws (And.intro hn2 (Nat.le_trans hn3 hl)))
  have H := Lib.hid hx
  have HL := Lib.hid hl
  obtain ⟨d, hd⟩ : ∃ d, isW key ws = d := ⟨_, rfl⟩
  obtain ⟨r, hr⟩ : ∃ r, skipW key ws = r := ⟨_, rfl⟩
  have he : (headW ws == key) = d := by
    rw [← hd]
    unfold isW
    by_cases hk : headW ws = key <;> simp [hk]
  have HQ := Lib.hid (show r = if d = true then ws.tail else ws from by
    rw [← hr, ← hd]
    unfold skipW isW
    by_cases hk : headW ws = key
    · rw [if_pos hk, decide_eq_true hk]; rfl
    · rw [if_neg hk, decide_eq_false hk]; rfl)
  rw [hd, hr]
  clear hd hr hws hn2 hn3 hl
  go_enter Tryz.func137, Tryz.ntmps137
  go_upto_region 2 with (first | (refine go_ld (x := .tmp 7) 157 hx undW rfl infW rfl rfl rfl rfl ?_) | (refine go_st 157 (Blk.new _ _ _) infW rfl rfl (wdC_one l b) rfl rfl rfl rfl ?_))
  obtain ⟨w1, hw1⟩ : ∃ w1, (w.alloc (.cells #[.string ⟨#[]⟩, .bool false] 157)).setRow w.heap.size (wdC l b) = w1 := ⟨_, rfl⟩
  have hy : Blk w1 w.heap.size 157 (wdC l b) := by rw [← hw1]; exact setRow_blk (Blk.new _ _ _)
  have hb1 : Below w.heap.size w w1 := by rw [← hw1]; exact setRow_below ((Below.refl _ _).alloc (Nat.le_refl _) _) (Blk.new _ _ _) (Nat.le_refl _) _
  first | rw [hw1] | (rw [show (w.alloc _).setRow w.heap.size (wdC l b) = w1 from hw1])
  have H1 := Lib.hid (H.out.below hb1 H.out.lt)
  have HB1 := Lib.hid hb1
  have HN := Lib.hid (next_at l b w.heap.size w1 hy HL.out)
  rw [hn1] at HN
  have HX := Lib.hid H.out.lt
  obtain ⟨y, hyy⟩ : ∃ y, w.heap.size = y := ⟨_, rfl⟩
  rw [hyy] at HN ⊢
  have HY := Lib.hid hyy
  clear hw1 hy hb1 hx hyy H hn1
  go_wp2_with fail
  refine HN.out.mono ?_
  rintro e w2 ⟨rfl, hy2, hb2⟩
  have H2 := Lib.hid (H1.out.but hb2 (fun hm => by have h1 := HX.out; have h2 := HY.out; simp only [List.mem_singleton] at hm; omega))
  have HB2 := Lib.hid (show Below w.heap.size w w2 from HB1.out.trans (hb2.below (fun i hi => by have h2 := HY.out; simp only [List.mem_singleton] at hi; omega) HB1.out.size))
  clear hb2 HN
  cases d with
  | true =>
    have hx2 := H2.out
    go_wp2_with (first | (refine go_ld (x := .tmp 5) 157 hy2 undW rfl infW rfl rfl rfl rfl ?_) | (refine go_st 157 hx2 infW rfl rfl (wdC_one (nextR l) b) rfl rfl rfl rfl ?_))
    go_ret
    have hq : r = ws.tail := HQ.out
    exact ⟨rfl, ⟨nextR l, setRow_blk hx2, HW.out.2.1.trans hq.symm, HW.out.2.2⟩, (But.of_below HB2.out [x]).row (.inl (by simp)) _⟩
  | false =>
    clear hy2
    go_wp2_with fail
    go_ret
    have hq : r = ws := HQ.out
    exact ⟨rfl, ⟨l, H2.out, HW.out.1.trans hq.symm, HL.out⟩, But.of_below HB2.out _⟩
set_option linter.unusedSimpArgs false in
set_option maxRecDepth 100000 in
set_option maxHeartbeats 4000000 in
theorem done_any (h : WdI w x ws b) :
    Calls Tryz.prog 138 #[.pointer (some ⟨x, 0, none⟩)] w fun e w' => e = .returned (.bool (!b && (headW ws).isEmpty)) ∧ But [x] w w' := by
  have HN := Lib.hid (next_any h)
  obtain ⟨l, hx, _, _⟩ := h
  have c1 : w.cell? ⟨x, 1, none⟩ = some (.bool b) := hx.cell 1
  clear hx
  cases b with
  | true =>
    clear HN
    go_enter Tryz.func138, Tryz.ntmps138
    go_wp2_with fail
    go_ret
    exact ⟨rfl, But.refl _ _⟩
  | false =>
    go_enter Tryz.func138, Tryz.ntmps138
    go_wp2_with fail
    refine HN.out.mono ?_
    rintro e w1 ⟨rfl, _, hb1⟩
    have HB := Lib.hid hb1
    clear hb1 HN c1
    go_wp2_with fail
    go_ret
    exact ⟨rfl, HB.out⟩
end
end Go.Proofs.YtlpondbcnfaggaaGreatDoor.Po

/-
  Contract of package policy's text over this seat's translation. Condition: a line of up to a million bytes.
-/
namespace Go.Proofs.YtlpondbcnfaggaaGreatDoor.Po
open Go.RowKit Go.Proofs.YtlpondbcnfaggaaGreatDoor.Wd Go.Proofs.YtlpondbcnfaggaaGreatDoor.Asc Go.Proofs.YtlpondbcnfaggaaGreatDoor.Tx Go.Proofs.YtlpondbcnfaggaaGreatDoor.St Go.Proofs.YtlpondbcnfaggaaGreatDoor.Tr Go.Proofs.YtlpondbcnfaggaaGreatDoor.Te

section
variable {w : World} {x : Nat} {ws : List (List UInt8)} {b : Bool}
set_option linter.unusedSimpArgs false in
set_option maxRecDepth 100000 in
set_option maxHeartbeats 4000000 in
theorem text_any (h : WdI w x ws b) :
    Calls Tryz.prog 140 #[.pointer (some ⟨x, 0, none⟩)] w (WdP w x (.string (str (headW ws))) ws.tail (b || (headW ws).isEmpty)) := by
  have HL := Lib.hid h.len
  have HN := Lib.hid (next_any h)
  clear h
  have HC := Lib.hid (fun w' => clone_any (str (headW ws)) w' (by rw [str_size]; have := HL.out; omega))
  go_enter Tryz.func140, Tryz.ntmps140
  go_wp2_with fail
  refine HN.out.mono ?_
  rintro e w1 ⟨rfl, h1, hb1⟩
  have HE := Lib.hid (expect_any h1 (!(headW ws).isEmpty))
  rw [Bool.not_not] at HE
  have HB := Lib.hid hb1
  clear hb1 h1 HN
  go_wp2_with fail
  refine HE.out.mono ?_
  rintro e w2 ⟨rfl, h2, hb2⟩
  have H2 := Lib.hid h2
  have HB2 := Lib.hid (HB.out.trans hb2)
  clear h2 hb2 HE
  go_wp2_with fail
  refine (HC.out _).mono ?_
  rintro e w3 ⟨rfl, hb3⟩
  have H3 := Lib.hid (H2.out.on hb3)
  have HB3 := Lib.hid (HB2.out.trans (But.of_below hb3 [x]))
  clear hb3 HC
  go_wp2_with fail
  go_ret
  exact ⟨rfl, H3.out, HB3.out⟩
end
end Go.Proofs.YtlpondbcnfaggaaGreatDoor.Po
