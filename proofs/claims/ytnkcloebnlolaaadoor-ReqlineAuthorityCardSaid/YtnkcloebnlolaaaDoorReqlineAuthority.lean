/-
  ReqlineAuthority: of an authority without / ? and #, behind http:// in letters great or small, with nothing or one of these signs behind it, package reqline's Authority tells just that, and its Form is the absolute one; else the small case comes out right. Conditions: none beyond the statement's own.
-/
import Derived.Test.YtnkcloebnlolaaaDoorRlSmall
import Derived.Test.YtnkcloebnlolaaaDoorLiftReq
import Derived.Test.YtnkcloebnlolaaaDoorCards
import Derived.Test.YtnkcloebnlolaaaDoorTie
set_option maxRecDepth 100000
namespace Go.Proofs.YtnkcloebnlolaaaDoor.reqlineAuthority
open Go.ChangeMaps (open_string shut_string)
open Go.ChangeShapes Go.WideShapes Go.ChangeAt Go.RowKit Go.Proofs.YtnkcloebnlolaaaDoor.Wd Go.Proofs.YtnkcloebnlolaaaDoor.Asc Go.Proofs.YtnkcloebnlolaaaDoor.Tx Go.Proofs.YtnkcloebnlolaaaDoor.St Go.Proofs.YtnkcloebnlolaaaDoor.Rl Go.Proofs.YtnkcloebnlolaaaDoor.Lift

abbrev get : List UInt8 := [71, 69, 84]
theorem while_app {p : UInt8 → Bool} : ∀ {a x : List UInt8}, a.all p = true → (x = [] ∨ ∃ c l, x = c :: l ∧ p c = false) → (a ++ x).takeWhile p = a
  | [], x, _, h => by
    rcases h with rfl | ⟨c, l, rfl, h⟩
    · rfl
    · rw [List.nil_append, List.takeWhile_cons, h]; rfl
  | c :: a, x, h1, h => by
    rw [List.all_cons, Bool.and_eq_true] at h1
    rw [List.cons_append, List.takeWhile_cons, if_pos h1.1, while_app h1.2 h]
theorem tail_auth {s a x : List UInt8} (hs : s.length = 7) (hl : s.map lowB = http) (ha : a.all (fun c => !endB c) = true) (hx : x = [] ∨ ∃ c l, x = c :: l ∧ endB c = true) : authS (s ++ a ++ x) = some a := by
  have e1 : (s ++ a ++ x).take 7 = s := by rw [List.append_assoc, List.take_append_of_le_length (by omega), List.take_of_length_le (by omega)]
  have e2 : (s ++ a ++ x).drop 7 = a ++ x := by rw [List.append_assoc, List.drop_append_of_le_length (by omega), List.drop_of_length_le (by omega), List.nil_append]
  rw [auth_is (by simp; omega) (by rw [e1]; exact hl), e2, while_app ha]
  rcases hx with rfl | ⟨c, l, rfl, h⟩
  · exact .inl rfl
  · exact .inr ⟨c, l, rfl, by rw [h]; rfl⟩
theorem tail_form {c : UInt8} {s a x : List UInt8} (hc : c ≠ 42 ∧ c ≠ 47) (h : authS ((c :: s) ++ a ++ x) = some a) : formS ⟨get, (c :: s) ++ a ++ x, 0⟩ = 2 := by
  unfold formS
  rw [if_neg (show ¬ get = cnct by decide), if_neg (by intro e; simp only [List.cons_append] at e; injection e with e _; exact hc.1 e), if_neg (by intro e; simp only [List.cons_append, List.head?_cons] at e; injection e with e; exact hc.2 e), if_pos (by show (authS _).isSome = true; rw [h]; rfl)]

def InA (a : ByteArray) (x : Value) : Prop := ∃ k : Nat, x = .int .i64 k ∧ k ≤ a.size ∧ ((bs a).take k).all (fun c => !endB c) = true

set_option linter.unusedSimpArgs false in
set_option maxHeartbeats 8000000 in
theorem walk (W : World) (a : ByteArray) (ha0 : a.size ≤ maxLen) (t : ByteArray) (ht0 : t.size ≤ maxLen) (great : Bool) (hE : Env W.heap.size W) :
    Calls Tryd.prog 6 #[.string a, .string t, .bool great] W fun e w' => e = .returned (.bool true) ∧ Below W.heap.size W w' := by
  have HS := Lib.hid (fun w hE => small_any (N := W.heap.size) w hE)
  have HE := Lib.hid hE
  have sa : a.size ≤ 9223372036854775807 := ha0
  have st : t.size ≤ 9223372036854775807 := ht0
  clear hE ha0 ht0
  go_enter Tryd.func6, Tryd.ntmps6
  go_wp2_with fail
  refine (HS.out W HE.out).mono ?_
  rintro e w1 ⟨rfl, hb⟩
  have HL := Lib.hid hb
  clear hb HS HE
  by_cases h1 : 1000 < a.size
  · have i1 : (1000 : Int) < (a.size : Int) := by omega
    go_wp2_with fail
    go_ret
    exact ⟨rfl, HL.out⟩
  have i1 : ¬ (1000 : Int) < (a.size : Int) := by omega
  by_cases h2 : 1000 < t.size
  · have i2 : (1000 : Int) < (t.size : Int) := by omega
    go_wp2_with fail
    go_ret
    exact ⟨rfl, HL.out⟩
  have i2 : ¬ (1000 : Int) < (t.size : Int) := by omega
  have za : a.size ≤ 1000 := by omega
  have zt : t.size ≤ 1000 := by omega
  clear h1 h2
  go_wp2_with fail
  go_loop [8] (fun x => InA a x) (fun x => a.size - (intOf x).toNat)
  case atStart => exact ⟨0, rfl, Nat.zero_le _, rfl⟩
  case round =>
    obtain ⟨k, rfl, hk, ht⟩ := hrel
    have HT := Lib.hid ht
    clear ht
    by_cases hp : k < a.size
    · have hei := end_is (a[k]'hp)
      have HNx := Lib.hid (fun hc : endB (a[k]'hp) = false => (show ((bs a).take (k + 1)).all (fun c => !endB c) = true by rw [bs_take a k hp, List.all_append, HT.out]; simp [hc]))
      obtain ⟨c, hc⟩ : ∃ c, a[k]'hp = c := ⟨_, rfl⟩
      rw [hc] at hei HNx
      have hidx : a[k]'hp = c := hc
      clear hc
      by_cases a1 : (c.toNat : Int) = 47
      · have b1 : ((c.toNat : Int) == 47) = true := by simp [a1]
        have d1 : decide ((c.toNat : Int) = 47) = true := decide_eq_true a1
        clear hei a1
        go_wp2_with fail
        go_ret
        exact ⟨rfl, HL.out⟩
      · have b1 : ((c.toNat : Int) == 47) = false := by simp [a1]
        have d1 : decide ((c.toNat : Int) = 47) = false := decide_eq_false a1
        by_cases a2 : (c.toNat : Int) = 63
        · have b2 : ((c.toNat : Int) == 63) = true := by simp [a2]
          have d2 : decide ((c.toNat : Int) = 63) = true := decide_eq_true a2
          clear hei a1 a2
          go_wp2_with fail
          go_ret
          exact ⟨rfl, HL.out⟩
        · have b2 : ((c.toNat : Int) == 63) = false := by simp [a2]
          have d2 : decide ((c.toNat : Int) = 63) = false := decide_eq_false a2
          by_cases a3 : (c.toNat : Int) = 35
          · have b3 : ((c.toNat : Int) == 35) = true := by simp [a3]
            have d3 : decide ((c.toNat : Int) = 35) = true := decide_eq_true a3
            clear hei a1 a2 a3
            go_wp2_with fail
            go_ret
            exact ⟨rfl, HL.out⟩
          · have b3 : ((c.toNat : Int) == 35) = false := by simp [a3]
            have d3 : decide ((c.toNat : Int) = 35) = false := decide_eq_false a3
            have HX : Hid (endB c = false) := Lib.hid (by rw [hei, d1, d2, d3]; rfl)
            clear hei a1 a2 a3
            go_wp2_with fail
            go_round
            case rel => exact ⟨k + 1, by go_num, by omega, HNx.out HX.out⟩
            case measure => simp [intOf]; omega
    · have HA := Lib.hid (show (bs a).all (fun c => !endB c) = true by have := HT.out; rwa [List.take_of_length_le (by rw [bs_length]; omega)] at this)
      have ea : (a.toList == a.toList) = true := by simp
      clear HT
      by_cases h0 : t.size = 0
      · have h0' : t = ⟨#[]⟩ := bs_inj (bs_nil t h0)
        subst h0'
        clear h0 zt st i2
        cases great with
        | true =>
          have zX : ((⟨#[]⟩ : ByteArray)).size ≤ 1001 := by decide
          have HAu := Lib.hid (tail_auth (s := [72, 116, 116, 80, 58, 47, 47]) (a := bs a) (x := bs (⟨#[]⟩ : ByteArray)) rfl (by decide) HA.out (.inl rfl))
          have HFo := Lib.hid (tail_form (c := 72) (s := [116, 116, 80, 58, 47, 47]) (a := bs a) (x := bs (⟨#[]⟩ : ByteArray)) (by decide) HAu.out)
          have HT : Hid ((⟨#[72, 116, 116, 80, 58, 47, 47]⟩ : ByteArray) ++ a ++ (⟨#[]⟩ : ByteArray) = str ([72, 116, 116, 80, 58, 47, 47] ++ bs a ++ bs (⟨#[]⟩ : ByteArray))) := Lib.hid (by apply bs_inj; rw [bs_add, bs_add, bs_str]; rfl)
          have z1 : ((⟨#[72, 116, 116, 80, 58, 47, 47]⟩ : ByteArray) ++ a).size ≤ 1007 := by rw [ByteArray.size_append]; show 7 + a.size ≤ _; omega
          have z2 : ((⟨#[72, 116, 116, 80, 58, 47, 47]⟩ : ByteArray) ++ a ++ (⟨#[]⟩ : ByteArray)).size ≤ 2008 := by rw [ByteArray.size_append]; omega
          have AU := Lib.hid (fun w => aut_is _ _ HT.out _ HAu.out (by rw [← str_size, ← HT.out]; omega) w)
          have FO := Lib.hid (fun w => frm_is ⟨get, [72, 116, 116, 80, 58, 47, 47] ++ bs a ++ bs (⟨#[]⟩ : ByteArray), 0⟩ 2 HFo.out (by show ([72, 116, 116, 80, 58, 47, 47] ++ bs a ++ bs (⟨#[]⟩ : ByteArray)).length ≤ _; rw [← str_size, ← HT.out]; omega) w)
          have hSS : optT (some (bs a)) = .tuple #[.string a, .bool true] := by rw [optT, str_bs]
          rw [hSS] at AU
          have BU := Lib.hid (show Tryd.prog.built 23 [(0, .string ⟨#[71, 69, 84]⟩), (1, .string ((⟨#[72, 116, 116, 80, 58, 47, 47]⟩ : ByteArray) ++ a ++ (⟨#[]⟩ : ByteArray)))] = some (rqC ⟨get, [72, 116, 116, 80, 58, 47, 47] ++ bs a ++ bs (⟨#[]⟩ : ByteArray), 0⟩) by rw [HT.out]; kernel_rfl)
          clear HT HAu HFo hSS HA
          go_wp2_with fail
          refine (AU.out w1).mono ?_
          rintro e w2 ⟨rfl, hb⟩
          have HL2 := Lib.hid (HL.out.trans (hb.mono HL.out.size))
          clear hb AU HL
          go_wp2_with (refine go_bdR _ _ BU.out (by rfl) rfl (by simp only [List.map_toArray, List.map_cons, List.map_nil]; rfl) ?_)
          refine (FO.out w2).mono ?_
          rintro e w3 ⟨rfl, hb⟩
          have HL3 := Lib.hid (HL2.out.trans (hb.mono HL2.out.size))
          clear hb FO HL2
          go_wp2_with fail
          go_ret
          exact ⟨rfl, HL3.out⟩
        | false =>
          have zX : ((⟨#[]⟩ : ByteArray)).size ≤ 1001 := by decide
          have HAu := Lib.hid (tail_auth (s := [104, 116, 116, 112, 58, 47, 47]) (a := bs a) (x := bs (⟨#[]⟩ : ByteArray)) rfl (by decide) HA.out (.inl rfl))
          have HFo := Lib.hid (tail_form (c := 104) (s := [116, 116, 112, 58, 47, 47]) (a := bs a) (x := bs (⟨#[]⟩ : ByteArray)) (by decide) HAu.out)
          have HT : Hid ((⟨#[104, 116, 116, 112, 58, 47, 47]⟩ : ByteArray) ++ a ++ (⟨#[]⟩ : ByteArray) = str ([104, 116, 116, 112, 58, 47, 47] ++ bs a ++ bs (⟨#[]⟩ : ByteArray))) := Lib.hid (by apply bs_inj; rw [bs_add, bs_add, bs_str]; rfl)
          have z1 : ((⟨#[104, 116, 116, 112, 58, 47, 47]⟩ : ByteArray) ++ a).size ≤ 1007 := by rw [ByteArray.size_append]; show 7 + a.size ≤ _; omega
          have z2 : ((⟨#[104, 116, 116, 112, 58, 47, 47]⟩ : ByteArray) ++ a ++ (⟨#[]⟩ : ByteArray)).size ≤ 2008 := by rw [ByteArray.size_append]; omega
          have AU := Lib.hid (fun w => aut_is _ _ HT.out _ HAu.out (by rw [← str_size, ← HT.out]; omega) w)
          have FO := Lib.hid (fun w => frm_is ⟨get, [104, 116, 116, 112, 58, 47, 47] ++ bs a ++ bs (⟨#[]⟩ : ByteArray), 0⟩ 2 HFo.out (by show ([104, 116, 116, 112, 58, 47, 47] ++ bs a ++ bs (⟨#[]⟩ : ByteArray)).length ≤ _; rw [← str_size, ← HT.out]; omega) w)
          have hSS : optT (some (bs a)) = .tuple #[.string a, .bool true] := by rw [optT, str_bs]
          rw [hSS] at AU
          have BU := Lib.hid (show Tryd.prog.built 23 [(0, .string ⟨#[71, 69, 84]⟩), (1, .string ((⟨#[104, 116, 116, 112, 58, 47, 47]⟩ : ByteArray) ++ a ++ (⟨#[]⟩ : ByteArray)))] = some (rqC ⟨get, [104, 116, 116, 112, 58, 47, 47] ++ bs a ++ bs (⟨#[]⟩ : ByteArray), 0⟩) by rw [HT.out]; kernel_rfl)
          clear HT HAu HFo hSS HA
          go_wp2_with fail
          refine (AU.out w1).mono ?_
          rintro e w2 ⟨rfl, hb⟩
          have HL2 := Lib.hid (HL.out.trans (hb.mono HL.out.size))
          clear hb AU HL
          go_wp2_with (refine go_bdR _ _ BU.out (by rfl) rfl (by simp only [List.map_toArray, List.map_cons, List.map_nil]; rfl) ?_)
          refine (FO.out w2).mono ?_
          rintro e w3 ⟨rfl, hb⟩
          have HL3 := Lib.hid (HL2.out.trans (hb.mono HL2.out.size))
          clear hb FO HL2
          go_wp2_with fail
          go_ret
          exact ⟨rfl, HL3.out⟩
      · have hp0 : 0 < t.size := by omega
        have hemp : t.toList.isEmpty = false := by
          rw [Lib.toList_data]
          cases h : t.data.toList with
          | nil => have : (bs t).length = 0 := by rw [bs, h]; rfl
                   rw [bs_length] at this; omega
          | cons _ _ => rfl
        have hei := end_is (t[0]'hp0)
        have hbt : bs t = (t[0]'hp0) :: (bs t).drop 1 := by
          have := bs_drop t 0 hp0
          rwa [List.drop_zero] at this
        obtain ⟨c, hc⟩ : ∃ c, t[0]'hp0 = c := ⟨_, rfl⟩
        rw [hc] at hei hbt
        have hidx : t[0]'hp0 = c := hc
        have HBt := Lib.hid hbt
        clear hc h0 hbt
        by_cases a1 : (c.toNat : Int) = 47
        · have b1 : ((c.toNat : Int) != 47) = false := by simp [a1]
          have d1 : decide ((c.toNat : Int) = 47) = true := decide_eq_true a1
          have HX : Hid (endB c = true) := Lib.hid (by rw [hei, d1]; rfl)
          clear hei a1
          cases great with
          | true =>
            have zX : (t).size ≤ 1001 := by omega
            have HAu := Lib.hid (tail_auth (s := [72, 116, 116, 80, 58, 47, 47]) (a := bs a) (x := bs t) rfl (by decide) HA.out (.inr ⟨c, _, HBt.out, HX.out⟩))
            have HFo := Lib.hid (tail_form (c := 72) (s := [116, 116, 80, 58, 47, 47]) (a := bs a) (x := bs t) (by decide) HAu.out)
            have HT : Hid ((⟨#[72, 116, 116, 80, 58, 47, 47]⟩ : ByteArray) ++ a ++ t = str ([72, 116, 116, 80, 58, 47, 47] ++ bs a ++ bs t)) := Lib.hid (by apply bs_inj; rw [bs_add, bs_add, bs_str]; rfl)
            have z1 : ((⟨#[72, 116, 116, 80, 58, 47, 47]⟩ : ByteArray) ++ a).size ≤ 1007 := by rw [ByteArray.size_append]; show 7 + a.size ≤ _; omega
            have z2 : ((⟨#[72, 116, 116, 80, 58, 47, 47]⟩ : ByteArray) ++ a ++ t).size ≤ 2008 := by rw [ByteArray.size_append]; omega
            have AU := Lib.hid (fun w => aut_is _ _ HT.out _ HAu.out (by rw [← str_size, ← HT.out]; omega) w)
            have FO := Lib.hid (fun w => frm_is ⟨get, [72, 116, 116, 80, 58, 47, 47] ++ bs a ++ bs t, 0⟩ 2 HFo.out (by show ([72, 116, 116, 80, 58, 47, 47] ++ bs a ++ bs t).length ≤ _; rw [← str_size, ← HT.out]; omega) w)
            have hSS : optT (some (bs a)) = .tuple #[.string a, .bool true] := by rw [optT, str_bs]
            rw [hSS] at AU
            have BU := Lib.hid (show Tryd.prog.built 23 [(0, .string ⟨#[71, 69, 84]⟩), (1, .string ((⟨#[72, 116, 116, 80, 58, 47, 47]⟩ : ByteArray) ++ a ++ t))] = some (rqC ⟨get, [72, 116, 116, 80, 58, 47, 47] ++ bs a ++ bs t, 0⟩) by rw [HT.out]; kernel_rfl)
            clear HT HAu HFo hSS HA
            go_wp2_with fail
            refine (AU.out w1).mono ?_
            rintro e w2 ⟨rfl, hb⟩
            have HL2 := Lib.hid (HL.out.trans (hb.mono HL.out.size))
            clear hb AU HL
            go_wp2_with (refine go_bdR _ _ BU.out (by rfl) rfl (by simp only [List.map_toArray, List.map_cons, List.map_nil]; rfl) ?_)
            refine (FO.out w2).mono ?_
            rintro e w3 ⟨rfl, hb⟩
            have HL3 := Lib.hid (HL2.out.trans (hb.mono HL2.out.size))
            clear hb FO HL2
            go_wp2_with fail
            go_ret
            exact ⟨rfl, HL3.out⟩
          | false =>
            have zX : (t).size ≤ 1001 := by omega
            have HAu := Lib.hid (tail_auth (s := [104, 116, 116, 112, 58, 47, 47]) (a := bs a) (x := bs t) rfl (by decide) HA.out (.inr ⟨c, _, HBt.out, HX.out⟩))
            have HFo := Lib.hid (tail_form (c := 104) (s := [116, 116, 112, 58, 47, 47]) (a := bs a) (x := bs t) (by decide) HAu.out)
            have HT : Hid ((⟨#[104, 116, 116, 112, 58, 47, 47]⟩ : ByteArray) ++ a ++ t = str ([104, 116, 116, 112, 58, 47, 47] ++ bs a ++ bs t)) := Lib.hid (by apply bs_inj; rw [bs_add, bs_add, bs_str]; rfl)
            have z1 : ((⟨#[104, 116, 116, 112, 58, 47, 47]⟩ : ByteArray) ++ a).size ≤ 1007 := by rw [ByteArray.size_append]; show 7 + a.size ≤ _; omega
            have z2 : ((⟨#[104, 116, 116, 112, 58, 47, 47]⟩ : ByteArray) ++ a ++ t).size ≤ 2008 := by rw [ByteArray.size_append]; omega
            have AU := Lib.hid (fun w => aut_is _ _ HT.out _ HAu.out (by rw [← str_size, ← HT.out]; omega) w)
            have FO := Lib.hid (fun w => frm_is ⟨get, [104, 116, 116, 112, 58, 47, 47] ++ bs a ++ bs t, 0⟩ 2 HFo.out (by show ([104, 116, 116, 112, 58, 47, 47] ++ bs a ++ bs t).length ≤ _; rw [← str_size, ← HT.out]; omega) w)
            have hSS : optT (some (bs a)) = .tuple #[.string a, .bool true] := by rw [optT, str_bs]
            rw [hSS] at AU
            have BU := Lib.hid (show Tryd.prog.built 23 [(0, .string ⟨#[71, 69, 84]⟩), (1, .string ((⟨#[104, 116, 116, 112, 58, 47, 47]⟩ : ByteArray) ++ a ++ t))] = some (rqC ⟨get, [104, 116, 116, 112, 58, 47, 47] ++ bs a ++ bs t, 0⟩) by rw [HT.out]; kernel_rfl)
            clear HT HAu HFo hSS HA
            go_wp2_with fail
            refine (AU.out w1).mono ?_
            rintro e w2 ⟨rfl, hb⟩
            have HL2 := Lib.hid (HL.out.trans (hb.mono HL.out.size))
            clear hb AU HL
            go_wp2_with (refine go_bdR _ _ BU.out (by rfl) rfl (by simp only [List.map_toArray, List.map_cons, List.map_nil]; rfl) ?_)
            refine (FO.out w2).mono ?_
            rintro e w3 ⟨rfl, hb⟩
            have HL3 := Lib.hid (HL2.out.trans (hb.mono HL2.out.size))
            clear hb FO HL2
            go_wp2_with fail
            go_ret
            exact ⟨rfl, HL3.out⟩
        · have b1 : ((c.toNat : Int) != 47) = true := by simp [a1]
          have d1 : decide ((c.toNat : Int) = 47) = false := decide_eq_false a1
          by_cases a2 : (c.toNat : Int) = 63
          · have b2 : ((c.toNat : Int) != 63) = false := by simp [a2]
            have d2 : decide ((c.toNat : Int) = 63) = true := decide_eq_true a2
            have HX : Hid (endB c = true) := Lib.hid (by rw [hei, d1, d2]; rfl)
            clear hei a1 a2
            cases great with
            | true =>
              have zX : (t).size ≤ 1001 := by omega
              have HAu := Lib.hid (tail_auth (s := [72, 116, 116, 80, 58, 47, 47]) (a := bs a) (x := bs t) rfl (by decide) HA.out (.inr ⟨c, _, HBt.out, HX.out⟩))
              have HFo := Lib.hid (tail_form (c := 72) (s := [116, 116, 80, 58, 47, 47]) (a := bs a) (x := bs t) (by decide) HAu.out)
              have HT : Hid ((⟨#[72, 116, 116, 80, 58, 47, 47]⟩ : ByteArray) ++ a ++ t = str ([72, 116, 116, 80, 58, 47, 47] ++ bs a ++ bs t)) := Lib.hid (by apply bs_inj; rw [bs_add, bs_add, bs_str]; rfl)
              have z1 : ((⟨#[72, 116, 116, 80, 58, 47, 47]⟩ : ByteArray) ++ a).size ≤ 1007 := by rw [ByteArray.size_append]; show 7 + a.size ≤ _; omega
              have z2 : ((⟨#[72, 116, 116, 80, 58, 47, 47]⟩ : ByteArray) ++ a ++ t).size ≤ 2008 := by rw [ByteArray.size_append]; omega
              have AU := Lib.hid (fun w => aut_is _ _ HT.out _ HAu.out (by rw [← str_size, ← HT.out]; omega) w)
              have FO := Lib.hid (fun w => frm_is ⟨get, [72, 116, 116, 80, 58, 47, 47] ++ bs a ++ bs t, 0⟩ 2 HFo.out (by show ([72, 116, 116, 80, 58, 47, 47] ++ bs a ++ bs t).length ≤ _; rw [← str_size, ← HT.out]; omega) w)
              have hSS : optT (some (bs a)) = .tuple #[.string a, .bool true] := by rw [optT, str_bs]
              rw [hSS] at AU
              have BU := Lib.hid (show Tryd.prog.built 23 [(0, .string ⟨#[71, 69, 84]⟩), (1, .string ((⟨#[72, 116, 116, 80, 58, 47, 47]⟩ : ByteArray) ++ a ++ t))] = some (rqC ⟨get, [72, 116, 116, 80, 58, 47, 47] ++ bs a ++ bs t, 0⟩) by rw [HT.out]; kernel_rfl)
              clear HT HAu HFo hSS HA
              go_wp2_with fail
              refine (AU.out w1).mono ?_
              rintro e w2 ⟨rfl, hb⟩
              have HL2 := Lib.hid (HL.out.trans (hb.mono HL.out.size))
              clear hb AU HL
              go_wp2_with (refine go_bdR _ _ BU.out (by rfl) rfl (by simp only [List.map_toArray, List.map_cons, List.map_nil]; rfl) ?_)
              refine (FO.out w2).mono ?_
              rintro e w3 ⟨rfl, hb⟩
              have HL3 := Lib.hid (HL2.out.trans (hb.mono HL2.out.size))
              clear hb FO HL2
              go_wp2_with fail
              go_ret
              exact ⟨rfl, HL3.out⟩
            | false =>
              have zX : (t).size ≤ 1001 := by omega
              have HAu := Lib.hid (tail_auth (s := [104, 116, 116, 112, 58, 47, 47]) (a := bs a) (x := bs t) rfl (by decide) HA.out (.inr ⟨c, _, HBt.out, HX.out⟩))
              have HFo := Lib.hid (tail_form (c := 104) (s := [116, 116, 112, 58, 47, 47]) (a := bs a) (x := bs t) (by decide) HAu.out)
              have HT : Hid ((⟨#[104, 116, 116, 112, 58, 47, 47]⟩ : ByteArray) ++ a ++ t = str ([104, 116, 116, 112, 58, 47, 47] ++ bs a ++ bs t)) := Lib.hid (by apply bs_inj; rw [bs_add, bs_add, bs_str]; rfl)
              have z1 : ((⟨#[104, 116, 116, 112, 58, 47, 47]⟩ : ByteArray) ++ a).size ≤ 1007 := by rw [ByteArray.size_append]; show 7 + a.size ≤ _; omega
              have z2 : ((⟨#[104, 116, 116, 112, 58, 47, 47]⟩ : ByteArray) ++ a ++ t).size ≤ 2008 := by rw [ByteArray.size_append]; omega
              have AU := Lib.hid (fun w => aut_is _ _ HT.out _ HAu.out (by rw [← str_size, ← HT.out]; omega) w)
              have FO := Lib.hid (fun w => frm_is ⟨get, [104, 116, 116, 112, 58, 47, 47] ++ bs a ++ bs t, 0⟩ 2 HFo.out (by show ([104, 116, 116, 112, 58, 47, 47] ++ bs a ++ bs t).length ≤ _; rw [← str_size, ← HT.out]; omega) w)
              have hSS : optT (some (bs a)) = .tuple #[.string a, .bool true] := by rw [optT, str_bs]
              rw [hSS] at AU
              have BU := Lib.hid (show Tryd.prog.built 23 [(0, .string ⟨#[71, 69, 84]⟩), (1, .string ((⟨#[104, 116, 116, 112, 58, 47, 47]⟩ : ByteArray) ++ a ++ t))] = some (rqC ⟨get, [104, 116, 116, 112, 58, 47, 47] ++ bs a ++ bs t, 0⟩) by rw [HT.out]; kernel_rfl)
              clear HT HAu HFo hSS HA
              go_wp2_with fail
              refine (AU.out w1).mono ?_
              rintro e w2 ⟨rfl, hb⟩
              have HL2 := Lib.hid (HL.out.trans (hb.mono HL.out.size))
              clear hb AU HL
              go_wp2_with (refine go_bdR _ _ BU.out (by rfl) rfl (by simp only [List.map_toArray, List.map_cons, List.map_nil]; rfl) ?_)
              refine (FO.out w2).mono ?_
              rintro e w3 ⟨rfl, hb⟩
              have HL3 := Lib.hid (HL2.out.trans (hb.mono HL2.out.size))
              clear hb FO HL2
              go_wp2_with fail
              go_ret
              exact ⟨rfl, HL3.out⟩
          · have b2 : ((c.toNat : Int) != 63) = true := by simp [a2]
            have d2 : decide ((c.toNat : Int) = 63) = false := decide_eq_false a2
            by_cases a3 : (c.toNat : Int) = 35
            · have b3 : ((c.toNat : Int) != 35) = false := by simp [a3]
              have d3 : decide ((c.toNat : Int) = 35) = true := decide_eq_true a3
              have HX : Hid (endB c = true) := Lib.hid (by rw [hei, d1, d2, d3]; rfl)
              clear hei a1 a2 a3
              cases great with
              | true =>
                have zX : (t).size ≤ 1001 := by omega
                have HAu := Lib.hid (tail_auth (s := [72, 116, 116, 80, 58, 47, 47]) (a := bs a) (x := bs t) rfl (by decide) HA.out (.inr ⟨c, _, HBt.out, HX.out⟩))
                have HFo := Lib.hid (tail_form (c := 72) (s := [116, 116, 80, 58, 47, 47]) (a := bs a) (x := bs t) (by decide) HAu.out)
                have HT : Hid ((⟨#[72, 116, 116, 80, 58, 47, 47]⟩ : ByteArray) ++ a ++ t = str ([72, 116, 116, 80, 58, 47, 47] ++ bs a ++ bs t)) := Lib.hid (by apply bs_inj; rw [bs_add, bs_add, bs_str]; rfl)
                have z1 : ((⟨#[72, 116, 116, 80, 58, 47, 47]⟩ : ByteArray) ++ a).size ≤ 1007 := by rw [ByteArray.size_append]; show 7 + a.size ≤ _; omega
                have z2 : ((⟨#[72, 116, 116, 80, 58, 47, 47]⟩ : ByteArray) ++ a ++ t).size ≤ 2008 := by rw [ByteArray.size_append]; omega
                have AU := Lib.hid (fun w => aut_is _ _ HT.out _ HAu.out (by rw [← str_size, ← HT.out]; omega) w)
                have FO := Lib.hid (fun w => frm_is ⟨get, [72, 116, 116, 80, 58, 47, 47] ++ bs a ++ bs t, 0⟩ 2 HFo.out (by show ([72, 116, 116, 80, 58, 47, 47] ++ bs a ++ bs t).length ≤ _; rw [← str_size, ← HT.out]; omega) w)
                have hSS : optT (some (bs a)) = .tuple #[.string a, .bool true] := by rw [optT, str_bs]
                rw [hSS] at AU
                have BU := Lib.hid (show Tryd.prog.built 23 [(0, .string ⟨#[71, 69, 84]⟩), (1, .string ((⟨#[72, 116, 116, 80, 58, 47, 47]⟩ : ByteArray) ++ a ++ t))] = some (rqC ⟨get, [72, 116, 116, 80, 58, 47, 47] ++ bs a ++ bs t, 0⟩) by rw [HT.out]; kernel_rfl)
                clear HT HAu HFo hSS HA
                go_wp2_with fail
                refine (AU.out w1).mono ?_
                rintro e w2 ⟨rfl, hb⟩
                have HL2 := Lib.hid (HL.out.trans (hb.mono HL.out.size))
                clear hb AU HL
                go_wp2_with (refine go_bdR _ _ BU.out (by rfl) rfl (by simp only [List.map_toArray, List.map_cons, List.map_nil]; rfl) ?_)
                refine (FO.out w2).mono ?_
                rintro e w3 ⟨rfl, hb⟩
                have HL3 := Lib.hid (HL2.out.trans (hb.mono HL2.out.size))
                clear hb FO HL2
                go_wp2_with fail
                go_ret
                exact ⟨rfl, HL3.out⟩
              | false =>
                have zX : (t).size ≤ 1001 := by omega
                have HAu := Lib.hid (tail_auth (s := [104, 116, 116, 112, 58, 47, 47]) (a := bs a) (x := bs t) rfl (by decide) HA.out (.inr ⟨c, _, HBt.out, HX.out⟩))
                have HFo := Lib.hid (tail_form (c := 104) (s := [116, 116, 112, 58, 47, 47]) (a := bs a) (x := bs t) (by decide) HAu.out)
                have HT : Hid ((⟨#[104, 116, 116, 112, 58, 47, 47]⟩ : ByteArray) ++ a ++ t = str ([104, 116, 116, 112, 58, 47, 47] ++ bs a ++ bs t)) := Lib.hid (by apply bs_inj; rw [bs_add, bs_add, bs_str]; rfl)
                have z1 : ((⟨#[104, 116, 116, 112, 58, 47, 47]⟩ : ByteArray) ++ a).size ≤ 1007 := by rw [ByteArray.size_append]; show 7 + a.size ≤ _; omega
                have z2 : ((⟨#[104, 116, 116, 112, 58, 47, 47]⟩ : ByteArray) ++ a ++ t).size ≤ 2008 := by rw [ByteArray.size_append]; omega
                have AU := Lib.hid (fun w => aut_is _ _ HT.out _ HAu.out (by rw [← str_size, ← HT.out]; omega) w)
                have FO := Lib.hid (fun w => frm_is ⟨get, [104, 116, 116, 112, 58, 47, 47] ++ bs a ++ bs t, 0⟩ 2 HFo.out (by show ([104, 116, 116, 112, 58, 47, 47] ++ bs a ++ bs t).length ≤ _; rw [← str_size, ← HT.out]; omega) w)
                have hSS : optT (some (bs a)) = .tuple #[.string a, .bool true] := by rw [optT, str_bs]
                rw [hSS] at AU
                have BU := Lib.hid (show Tryd.prog.built 23 [(0, .string ⟨#[71, 69, 84]⟩), (1, .string ((⟨#[104, 116, 116, 112, 58, 47, 47]⟩ : ByteArray) ++ a ++ t))] = some (rqC ⟨get, [104, 116, 116, 112, 58, 47, 47] ++ bs a ++ bs t, 0⟩) by rw [HT.out]; kernel_rfl)
                clear HT HAu HFo hSS HA
                go_wp2_with fail
                refine (AU.out w1).mono ?_
                rintro e w2 ⟨rfl, hb⟩
                have HL2 := Lib.hid (HL.out.trans (hb.mono HL.out.size))
                clear hb AU HL
                go_wp2_with (refine go_bdR _ _ BU.out (by rfl) rfl (by simp only [List.map_toArray, List.map_cons, List.map_nil]; rfl) ?_)
                refine (FO.out w2).mono ?_
                rintro e w3 ⟨rfl, hb⟩
                have HL3 := Lib.hid (HL2.out.trans (hb.mono HL2.out.size))
                clear hb FO HL2
                go_wp2_with fail
                go_ret
                exact ⟨rfl, HL3.out⟩
            · have b3 : ((c.toNat : Int) != 35) = true := by simp [a3]
              have d3 : decide ((c.toNat : Int) = 35) = false := decide_eq_false a3
              clear hei a1 a2 a3 HBt
              cases great with
              | true =>
                have zX : (((⟨#[47]⟩ : ByteArray) ++ t)).size ≤ 1001 := by rw [ByteArray.size_append]; show 1 + t.size ≤ _; omega
                have HAu := Lib.hid (tail_auth (s := [72, 116, 116, 80, 58, 47, 47]) (a := bs a) (x := bs ((⟨#[47]⟩ : ByteArray) ++ t)) rfl (by decide) HA.out (.inr ⟨47, bs t, by rw [bs_add]; rfl, by decide⟩))
                have HFo := Lib.hid (tail_form (c := 72) (s := [116, 116, 80, 58, 47, 47]) (a := bs a) (x := bs ((⟨#[47]⟩ : ByteArray) ++ t)) (by decide) HAu.out)
                have HT : Hid ((⟨#[72, 116, 116, 80, 58, 47, 47]⟩ : ByteArray) ++ a ++ ((⟨#[47]⟩ : ByteArray) ++ t) = str ([72, 116, 116, 80, 58, 47, 47] ++ bs a ++ bs ((⟨#[47]⟩ : ByteArray) ++ t))) := Lib.hid (by apply bs_inj; rw [bs_add, bs_add, bs_str]; rfl)
                have z1 : ((⟨#[72, 116, 116, 80, 58, 47, 47]⟩ : ByteArray) ++ a).size ≤ 1007 := by rw [ByteArray.size_append]; show 7 + a.size ≤ _; omega
                have z2 : ((⟨#[72, 116, 116, 80, 58, 47, 47]⟩ : ByteArray) ++ a ++ ((⟨#[47]⟩ : ByteArray) ++ t)).size ≤ 2008 := by rw [ByteArray.size_append]; omega
                have AU := Lib.hid (fun w => aut_is _ _ HT.out _ HAu.out (by rw [← str_size, ← HT.out]; omega) w)
                have FO := Lib.hid (fun w => frm_is ⟨get, [72, 116, 116, 80, 58, 47, 47] ++ bs a ++ bs ((⟨#[47]⟩ : ByteArray) ++ t), 0⟩ 2 HFo.out (by show ([72, 116, 116, 80, 58, 47, 47] ++ bs a ++ bs ((⟨#[47]⟩ : ByteArray) ++ t)).length ≤ _; rw [← str_size, ← HT.out]; omega) w)
                have hSS : optT (some (bs a)) = .tuple #[.string a, .bool true] := by rw [optT, str_bs]
                rw [hSS] at AU
                have BU := Lib.hid (show Tryd.prog.built 23 [(0, .string ⟨#[71, 69, 84]⟩), (1, .string ((⟨#[72, 116, 116, 80, 58, 47, 47]⟩ : ByteArray) ++ a ++ ((⟨#[47]⟩ : ByteArray) ++ t)))] = some (rqC ⟨get, [72, 116, 116, 80, 58, 47, 47] ++ bs a ++ bs ((⟨#[47]⟩ : ByteArray) ++ t), 0⟩) by rw [HT.out]; kernel_rfl)
                clear HT HAu HFo hSS HA
                go_wp2_with fail
                refine (AU.out w1).mono ?_
                rintro e w2 ⟨rfl, hb⟩
                have HL2 := Lib.hid (HL.out.trans (hb.mono HL.out.size))
                clear hb AU HL
                go_wp2_with (refine go_bdR _ _ BU.out (by rfl) rfl (by simp only [List.map_toArray, List.map_cons, List.map_nil]; rfl) ?_)
                refine (FO.out w2).mono ?_
                rintro e w3 ⟨rfl, hb⟩
                have HL3 := Lib.hid (HL2.out.trans (hb.mono HL2.out.size))
                clear hb FO HL2
                go_wp2_with fail
                go_ret
                exact ⟨rfl, HL3.out⟩
              | false =>
                have zX : (((⟨#[47]⟩ : ByteArray) ++ t)).size ≤ 1001 := by rw [ByteArray.size_append]; show 1 + t.size ≤ _; omega
                have HAu := Lib.hid (tail_auth (s := [104, 116, 116, 112, 58, 47, 47]) (a := bs a) (x := bs ((⟨#[47]⟩ : ByteArray) ++ t)) rfl (by decide) HA.out (.inr ⟨47, bs t, by rw [bs_add]; rfl, by decide⟩))
                have HFo := Lib.hid (tail_form (c := 104) (s := [116, 116, 112, 58, 47, 47]) (a := bs a) (x := bs ((⟨#[47]⟩ : ByteArray) ++ t)) (by decide) HAu.out)
                have HT : Hid ((⟨#[104, 116, 116, 112, 58, 47, 47]⟩ : ByteArray) ++ a ++ ((⟨#[47]⟩ : ByteArray) ++ t) = str ([104, 116, 116, 112, 58, 47, 47] ++ bs a ++ bs ((⟨#[47]⟩ : ByteArray) ++ t))) := Lib.hid (by apply bs_inj; rw [bs_add, bs_add, bs_str]; rfl)
                have z1 : ((⟨#[104, 116, 116, 112, 58, 47, 47]⟩ : ByteArray) ++ a).size ≤ 1007 := by rw [ByteArray.size_append]; show 7 + a.size ≤ _; omega
                have z2 : ((⟨#[104, 116, 116, 112, 58, 47, 47]⟩ : ByteArray) ++ a ++ ((⟨#[47]⟩ : ByteArray) ++ t)).size ≤ 2008 := by rw [ByteArray.size_append]; omega
                have AU := Lib.hid (fun w => aut_is _ _ HT.out _ HAu.out (by rw [← str_size, ← HT.out]; omega) w)
                have FO := Lib.hid (fun w => frm_is ⟨get, [104, 116, 116, 112, 58, 47, 47] ++ bs a ++ bs ((⟨#[47]⟩ : ByteArray) ++ t), 0⟩ 2 HFo.out (by show ([104, 116, 116, 112, 58, 47, 47] ++ bs a ++ bs ((⟨#[47]⟩ : ByteArray) ++ t)).length ≤ _; rw [← str_size, ← HT.out]; omega) w)
                have hSS : optT (some (bs a)) = .tuple #[.string a, .bool true] := by rw [optT, str_bs]
                rw [hSS] at AU
                have BU := Lib.hid (show Tryd.prog.built 23 [(0, .string ⟨#[71, 69, 84]⟩), (1, .string ((⟨#[104, 116, 116, 112, 58, 47, 47]⟩ : ByteArray) ++ a ++ ((⟨#[47]⟩ : ByteArray) ++ t)))] = some (rqC ⟨get, [104, 116, 116, 112, 58, 47, 47] ++ bs a ++ bs ((⟨#[47]⟩ : ByteArray) ++ t), 0⟩) by rw [HT.out]; kernel_rfl)
                clear HT HAu HFo hSS HA
                go_wp2_with fail
                refine (AU.out w1).mono ?_
                rintro e w2 ⟨rfl, hb⟩
                have HL2 := Lib.hid (HL.out.trans (hb.mono HL.out.size))
                clear hb AU HL
                go_wp2_with (refine go_bdR _ _ BU.out (by rfl) rfl (by simp only [List.map_toArray, List.map_cons, List.map_nil]; rfl) ?_)
                refine (FO.out w2).mono ?_
                rintro e w3 ⟨rfl, hb⟩
                have HL3 := Lib.hid (HL2.out.trans (hb.mono HL2.out.size))
                clear hb FO HL2
                go_wp2_with fail
                go_ret
                exact ⟨rfl, HL3.out⟩

set_option maxRecDepth 100000 in
set_option linter.unusedVariables false in
theorem lifted (os : Os) (started : os.Started) (H : Type) (enc : TypeId × Value → H) :
    ReturnsInHanded {} Tryd.checked os 6 .any (fun w args => (Rows.reqlineAuthoritySpec.pre enc Tryd.prog Tryd.f6 [] false w args ∧ laidMetH Tryd.prog laid3 w) ∧ sizedMet enc Tryd.prog Tryd.f6 (OpenSpec.ofChange Rows.reqlineAuthoritySpec) false w args)
      (Rows.reqlineAuthoritySpec.post enc Tryd.prog Tryd.f6 false true false false) := by
  refine returns_laid (C := Tryd.checked) (X := fun w _ => laidMetH Tryd.prog laid3 w) (fun _ _ _ hh h => h.of_heap hh) own started (by kernel_rfl) Tryd.func6
    (ChangeSpec.witness_shaped (enc := enc) (C := Tryd.checked) (os := os) (X := fun w _ => laidMetH Tryd.prog laid3 w) false (World.doorLaid Tryd.prog 24 os) #[.string .empty, .string .empty, .bool false] 8 rfl (World.shaped_of_RefB (by kernel_rfl) (by kernel_rfl)) (by kernel_rfl) (by kernel_rfl) (by kernel_rfl) (door_met os _)) ?_
  intro W base args ds gs before hval0 hW hL hshp
  have hE := env_of hL hshp
  have hval : ∀ (j : Nat) t v, Tryd.f6.params[j]? = some t → args[j]? = some v → Value.okWide Tryd.prog W .any base t v := hval0
  have hW' := hW
  obtain ⟨p, q, hA0, hV, rfl, hfz, hnd⟩ := hW
  have hA : DataW.TrodAll enc Tryd.prog W 0 (fun _ => true) true Tryd.f6.params.toList args.toList ds p := hA0
  rw [Tryd.params6] at hA hval
  obtain ⟨v0, vs0, d0, ds0, p0, q0, hargs, rfl, rfl, h0, r0⟩ := trodAll_cons hA
  obtain ⟨v1, vs1, d1, ds1, p1, q1, rfl, rfl, rfl, h1, r1⟩ := trodAll_cons r0
  obtain ⟨v2, vs2, d2, ds2, p2, q2, rfl, rfl, rfl, h2, r2⟩ := trodAll_cons r1
  obtain ⟨rfl, rfl, rfl⟩ := trodAll_nil r2
  obtain rfl : args = #[v0, v1, v2] := by cases args; simp_all
  obtain ⟨rfl, rfl⟩ := trodVars_none hV
  have k0 := h0
  have lt0 : ∀ x ∈ p0, x.block < W.heap.size := by obtain ⟨m, hm⟩ := k0; exact DataW.trod_lt m _ _ _ hm
  obtain ⟨s0, rfl, rfl, rfl, hs0⟩ := open_string Tryd.underlying9 (hval 0 9 v0 rfl rfl) h0
  have k1 := h1
  have lt1 : ∀ x ∈ p1, x.block < W.heap.size := by obtain ⟨m, hm⟩ := k1; exact DataW.trod_lt m _ _ _ hm
  obtain ⟨s1, rfl, rfl, rfl, hs1⟩ := open_string Tryd.underlying9 (hval 1 9 v1 rfl rfl) h1
  have k2 := h2
  have lt2 : ∀ x ∈ p2, x.block < W.heap.size := by obtain ⟨m, hm⟩ := k2; exact DataW.trod_lt m _ _ _ hm
  obtain ⟨a2, rfl, rfl, rfl⟩ := open_bool Tryd.underlying4 (hval 2 4 v2 rfl rfl) h2
  clear hA0 hval0
  refine (walk W s0 hs0 s1 hs1 a2 hE).mono fun e W' ⟨he, bel⟩ => ?_
  subst he
  exact ⟨_, rfl, _, _, _, [], _, [], hW', trodAll_mk1 (shut_bool Tryd.underlying4 _), (trodAll_cons_mk (Below.trod Lift.laidOut (by kernel_rfl) (of_decide_eq_true (by kernel_rfl)) k0 bel lt0) (trodAll_cons_mk (Below.trod Lift.laidOut (by kernel_rfl) (of_decide_eq_true (by kernel_rfl)) k1 bel lt1) (trodAll_cons_mk (Below.trod Lift.laidOut (by kernel_rfl) (of_decide_eq_true (by kernel_rfl)) k2 bel lt2) trodAll_mk0))), rfl, bel.frame _, fun h => by cases h⟩

theorem over : Rows.reqlineAuthorityRow.holds Tryd.pinned (OpenSpec.ofChange Rows.reqlineAuthoritySpec) :=
  OpenClaim.holds_of_wide 6 Tryd.f6 rfl rfl rfl rfl rfl rfl rfl ⟨rfl, rfl, rfl, rfl, rfl⟩ rfl rfl rfl rfl rfl (by kernel_rfl) Tryd.func6 (by kernel_rfl)
    (of_decide_eq_true (by kernel_rfl)) (by unfold Func.isWrapper; first | (rw [if_pos (by decide +kernel)]; kernel_rfl) | (rw [if_neg (by decide +kernel)]; exact ⟨rfl, rfl⟩))
    (fun os started H enc _ => lifted os started H enc)

theorem proved : Rows.ReqlineAuthorityCardSaid :=
  Claim7.holds_tied_plain_at .later [] [.data, .data, .data] true (true, "6cf545e2bb98b62287d2de85b61d76cc33adb4d7a6870d89833e676b30f47edb") false
    over (fun _ h => by cases h) (by kernel_rfl) (fun _ h => by cases h) reqlineAuthority_row_tie rfl ⟨rfl, rfl⟩ (by kernel_rfl) rfl
    (fun f fn hf hfn => by
      obtain rfl : f = 6 := Option.some.inj ((show Tryd.prog.funcNamed "hagioscope/hagioscopelaw11.ReqlineAuthority" = some 6 by kernel_rfl).symm.trans hf) |>.symm
      obtain rfl : fn = Tryd.f6 := (Option.some.inj (Tryd.func6.symm.trans hfn)).symm
      exact ⟨by kernel_rfl, fun j t ht => by
        rw [Tryd.params6] at ht
        have hm : t ∈ [9, 9, 4] := by simpa using Array.mem_of_getElem? ht
        have hall : ([9, 9, 4].all fun u => !Tryd.prog.wantsStandIn u) = true := by kernel_rfl
        exact (show Tryd.prog.wantsStandIn t = false by simpa using List.all_eq_true.1 hall t hm)⟩)
    (by kernel_rfl)
#print axioms proved
end Go.Proofs.YtnkcloebnlolaaaDoor.reqlineAuthority
