/-
  Contract of package authority's Of over this seat's translation: it answers what ofS says. Conditions: a target, and the text that is found, of at most 1000000 bytes, and at most 1000000 fields.
-/
import Derived.Test.YtgpgkfbbpiialaaGreatDoorAuFns
import Derived.Test.YtgpgkfbbpiialaaGreatDoorFdFind
import Derived.Test.YtgpgkfbbpiialaaGreatDoorRlForm
import Derived.Test.YtgpgkfbbpiialaaGreatDoorAuRPar
import Derived.Test.YtgpgkfbbpiialaaGreatDoorRlRAuth
import Derived.Test.YtgpgkfbbpiialaaGreatDoorFdRFind
namespace Go.Proofs.YtgpgkfbbpiialaaGreatDoor.Au
open Go.RowKit Go.Proofs.YtgpgkfbbpiialaaGreatDoor.Wd Go.Proofs.YtgpgkfbbpiialaaGreatDoor.Asc Go.Proofs.YtgpgkfbbpiialaaGreatDoor.Tx Go.Proofs.YtgpgkfbbpiialaaGreatDoor.St

theorem auth_len (l : List UInt8) : ((Rl.authS l).getD []).length ≤ l.length := by
  unfold Rl.authS
  split
  · exact Nat.zero_le _
  · have h := (List.takeWhile_prefix (l := l.drop 7) (fun c => !Rl.endB c)).length_le
    rw [List.length_drop] at h
    show (List.takeWhile _ _).length ≤ _
    omega
theorem opt_bs (o : Option (List UInt8)) : bs (Rl.optS o) = o.getD [] := by cases o <;> rfl
theorem host_low : (bs (⟨#[104, 111, 115, 116]⟩ : ByteArray)).map lowB = hostN := by decide
theorem find_host (l : List Fd.Fld) (A : Option Addr) (n cap : Nat) (w : World) (hs : Fd.SrcF w A l) (hn : l.length = n) (hm : n ≤ 1000000) (hM : (Fd.findS hostN l).1.length ≤ 1000000) :
    Calls Tryz.prog 16 #[.slice A n cap, .string ⟨#[104, 111, 115, 116]⟩] w fun e w' => e = .returned (.tuple #[.string (str (Fd.findS hostN l).1), .int .i64 ((Fd.findS hostN l).2 : Nat)]) ∧ Below w.heap.size w w' := by
  have h := Fd.find_at l A n cap ⟨#[104, 111, 115, 116]⟩ w hs hn hm (by rw [host_low]; omega)
  rw [host_low] at h
  exact h

set_option linter.unusedSimpArgs false in
set_option maxRecDepth 100000 in
set_option maxHeartbeats 8000000 in
theorem of_any {B : Nat} (r : Rl.Rq) (l : List Fd.Fld) (A : Option Addr) (n cap : Nat) (w : World) (hE : Ad.Env B w) (hs : Fd.SrcF w A l) (hn : l.length = n) (hm : n ≤ 1000000) (ht : r.targ.length ≤ 1000000)
    (hM : (Fd.findS hostN l).1.length ≤ 1000000) :
    Calls Tryz.prog 7 #[.agg (Rl.rqC r), .slice A n cap] w (ResP (ofS r l) w) := by
  have HE := Lib.hid hE
  have HS := Lib.hid hs
  have HFi := Lib.hid (fun w hs => find_host l A n cap w hs hn hm hM)
  have HFo := Lib.hid (fun w => Rl.form_any r ht w)
  obtain ⟨k, hk⟩ : ∃ k, r.minor = k := ⟨_, rfl⟩
  have hC : Rl.rqC r = #[.string (str r.meth), .string (str r.targ), .int .i64 k] := by rw [← hk]; rfl
  obtain ⟨X, hX⟩ : ∃ X, str r.meth = X := ⟨_, rfl⟩
  obtain ⟨Y, hY⟩ : ∃ Y, str r.targ = Y := ⟨_, rfl⟩
  have HAu := Lib.hid (fun w => Rl.auth_any r.targ Y hY (by rw [← hY, str_size]; exact ht) w)
  have hal := auth_len r.targ
  have hO : ofS r l = if Rl.formS r = 4 then ([], 0, 11) else if Rl.formS r = 0 then ([], 0, 3) else if 1 < (Fd.findS hostN l).2 then ([], 0, 7)
    else if Rl.formS r = 2 then parseS (bs (Rl.optS (Rl.authS r.targ))) else if (Fd.findS hostN l).2 = 0 then ([], 0, 8) else parseS (Fd.findS hostN l).1 := by rw [opt_bs]; rfl
  obtain ⟨Q, hQ⟩ : ∃ Q, ofS r l = Q := ⟨_, rfl⟩
  rw [hQ] at hO ⊢
  rw [Rl.opt_str] at HAu
  have hoz : (Rl.optS (Rl.authS r.targ)).size ≤ 1000000 := by rw [← bs_length, opt_bs]; omega
  generalize (Rl.authS r.targ).isSome = ab at *
  generalize Rl.optS (Rl.authS r.targ) = O at *
  generalize Rl.formS r = F at *
  obtain ⟨q, hq⟩ : ∃ q, Fd.findS hostN l = q := ⟨_, rfl⟩
  rw [hq] at HFi hO hM
  obtain ⟨t, c⟩ := q
  simp only at HFi hO hM
  obtain ⟨T, hT⟩ : ∃ T, str t = T := ⟨_, rfl⟩
  have hTb : bs T = t := by rw [← hT, bs_str]
  have hTz : T.size ≤ 1000000 := by rw [← hT, str_size]; exact hM
  rw [← hTb] at hO
  rw [hT] at HFi
  rw [hX, hY] at hC
  have HO := Lib.hid hO
  have HP := Lib.hid (fun w hE => parse_any (B := B) T w hE (by omega))
  have HPo := Lib.hid (fun w hE => parse_any (B := B) O w hE (by omega))
  unfold ResP at HP HPo
  rw [hC] at HFo
  rw [hC]
  clear hE hs hn hm ht hM hk hX hY hal hq hT hTb hO hQ hC
  have hcz : ∀ m : Nat, c = m → True := fun _ _ => trivial
  clear hcz
  go_enter Tryz.func7, Tryz.ntmps7
  go_upto_region 1 with fail
  have b1 := Blk.new w 23 #[.string X, .string Y, .int .i64 k]
  have hbel : Below w.heap.size w (w.alloc (.cells #[.string X, .string Y, .int .i64 k] 23)) := (Below.refl _ _).alloc (Nat.le_refl _) _
  generalize w.alloc (.cells #[.string X, .string Y, .int .i64 k] 23) = w1 at *
  obtain ⟨G, hG⟩ : ∃ G, w.heap.size = G := ⟨_, rfl⟩
  have HS1 := Lib.hid (HS.out.below hbel)
  have HE1 := Lib.hid (HE.out.on hbel)
  rw [hG] at b1 hbel
  have HK1 := Lib.hid b1
  have HL1 := Lib.hid hbel
  have HG := Lib.hid hG
  rw [hG]
  clear b1 hbel hG HS HE
  go_wp2_with fail
  refine (HFi.out w1 HS1.out).mono ?_
  rintro e w2 ⟨rfl, hb⟩
  have HK2 := Lib.hid (HK1.out.below hb HK1.out.lt)
  have HL2 := Lib.hid (HL1.out.trans (hb.mono (Nat.le_of_lt HK1.out.lt)))
  have HE2 := Lib.hid (HE1.out.on hb)
  clear hb HK1 HL1 HE1 HS1 HFi
  have k2 := HK2.out
  have hz : (#[Value.string X, .string Y, .int .i64 k] : Array Value).size = 3 := rfl
  go_wp2_with (refine go_ld 23 k2 Rl.undR rfl Rl.infR hz rfl rfl rfl ?_)
  refine (HFo.out w2).mono ?_
  rintro e w3 ⟨rfl, hb⟩
  have HK3 := Lib.hid (HK2.out.below hb HK2.out.lt)
  have HL3 := Lib.hid (HL2.out.trans (hb.mono (Nat.le_of_lt HK2.out.lt)))
  have HE3 := Lib.hid (HE2.out.on hb)
  have c1 := HK3.out.cell 1
  clear hb HK2 HL2 HE2 k2 HFo
  by_cases f4 : F = 4
  · subst f4
    rw [if_pos rfl] at HO
    clear HP HPo HAu
    go_wp2_with fail
    go_ret3
    exact ⟨by rw [HO.out]; rfl, by rw [HG.out]; exact HL3.out⟩
  rw [if_neg f4] at HO
  have n4 : (F == 4) = false := by simpa using f4
  by_cases f0 : F = 0
  · subst f0
    rw [if_pos rfl] at HO
    clear HP HPo HAu f4
    go_wp2_with fail
    go_ret3
    exact ⟨by rw [HO.out]; rfl, by rw [HG.out]; exact HL3.out⟩
  rw [if_neg f0] at HO
  have n0 : (F == 0) = false := by simpa using f0
  by_cases f2 : F = 2
  · subst f2
    rw [if_pos rfl] at HO
    clear f4 f0 HP
    go_wp2_with fail
    refine (HAu.out w3).mono ?_
    rintro e w4 ⟨rfl, hb⟩
    have HL4 := Lib.hid (HL3.out.trans (hb.mono (Nat.le_of_lt HK3.out.lt)))
    have HE4 := Lib.hid (HE3.out.on hb)
    have HG4 := Lib.hid (Nat.le_trans (Nat.le_of_lt HK3.out.lt) hb.size)
    clear hb HAu HL3 HE3 HK3 c1
    by_cases c2 : 1 < c
    · rw [if_pos c2] at HO
      have i2 : (1 : Int) < (c : Int) := by omega
      clear HPo c2
      go_wp2_with fail
      go_ret3
      exact ⟨by rw [HO.out]; rfl, by rw [HG.out]; exact HL4.out⟩
    · rw [if_neg c2] at HO
      have i2 : ¬ (1 : Int) < (c : Int) := by omega
      clear c2
      go_wp2_with fail
      refine (HPo.out w4 HE4.out).mono ?_
      rintro e w5 ⟨rfl, hb⟩
      have HL5 := Lib.hid (HL4.out.trans (hb.mono HG4.out))
      clear hb HPo HL4 HE4
      generalize parseS (bs O) = Z at *
      unfold resT
      go_wp2_with fail
      go_ret3
      exact ⟨by rw [HO.out]; rfl, by rw [HG.out]; exact HL5.out⟩
  rw [if_neg f2] at HO
  have n2 : (F == 2) = false := by simpa using f2
  clear f4 f0 f2 HPo HAu
  by_cases c0 : c = 0
  · subst c0
    rw [if_neg (by omega), if_pos rfl] at HO
    clear HP
    go_wp2_with fail
    go_ret3
    exact ⟨by rw [HO.out]; rfl, by rw [HG.out]; exact HL3.out⟩
  have m0 : ((c : Int) == 0) = false := by rw [beq_eq_false_iff_ne]; omega
  by_cases c2 : 1 < c
  · rw [if_pos c2] at HO
    have i2 : (1 : Int) < (c : Int) := by omega
    clear HP c2 c0
    go_wp2_with fail
    go_ret3
    exact ⟨by rw [HO.out]; rfl, by rw [HG.out]; exact HL3.out⟩
  · rw [if_neg c2, if_neg c0] at HO
    have i2 : ¬ (1 : Int) < (c : Int) := by omega
    clear c2 c0
    go_wp2_with fail
    refine (HP.out w3 HE3.out).mono ?_
    rintro e w5 ⟨rfl, hb⟩
    have HL5 := Lib.hid (HL3.out.trans (hb.mono (Nat.le_of_lt HK3.out.lt)))
    clear hb HP HL3 HE3
    generalize parseS (bs T) = Z at *
    unfold resT
    go_wp2_with fail
    go_ret3
    exact ⟨by rw [HO.out]; rfl, by rw [HG.out]; exact HL5.out⟩
end Go.Proofs.YtgpgkfbbpiialaaGreatDoor.Au

/-
  Contract of hagioscoperef13's Of over this seat's translation: it answers what ofS says. Conditions: a target, and the text that is found, of at most 1000000 bytes, and at most 1000000 fields.
-/
namespace Go.Proofs.YtgpgkfbbpiialaaGreatDoor.Au
open Go.RowKit Go.Proofs.YtgpgkfbbpiialaaGreatDoor.Wd Go.Proofs.YtgpgkfbbpiialaaGreatDoor.Asc Go.Proofs.YtgpgkfbbpiialaaGreatDoor.Tx Go.Proofs.YtgpgkfbbpiialaaGreatDoor.St

theorem rfind_host (l : List Fd.Fld) (A : Option Addr) (n cap : Nat) (w : World) (hs : Fd.SrcF w A l) (hn : l.length = n) (hm : n ≤ 1000000) :
    Calls Tryz.prog 19 #[.slice A n cap, .string ⟨#[104, 111, 115, 116]⟩] w fun e w' => e = .returned (.tuple #[.string (str (Fd.findS hostN l).1), .int .i64 ((Fd.findS hostN l).2 : Nat)]) ∧ Below w.heap.size w w' := by
  have h := Fd.rfind_any l A n cap ⟨#[104, 111, 115, 116]⟩ w hs hn hm (by decide)
  rw [host_low] at h
  exact h

set_option linter.unusedSimpArgs false in
set_option maxRecDepth 100000 in
set_option maxHeartbeats 8000000 in
theorem rof_any (r : Rl.Rq) (l : List Fd.Fld) (A : Option Addr) (n cap : Nat) (w : World) (hs : Fd.SrcF w A l) (hn : l.length = n) (hm : n ≤ 1000000) (ht : r.targ.length ≤ 1000000)
    (hM : (Fd.findS hostN l).1.length ≤ 1000000) :
    Calls Tryz.prog 8 #[.agg (Rl.rqC r), .slice A n cap] w (ResP (ofS r l) w) := by
  have HS := Lib.hid hs
  have HFi := Lib.hid (fun w hs => rfind_host l A n cap w hs hn hm)
  have HFo := Lib.hid (fun w => Rl.rform_any r ht w)
  obtain ⟨k, hk⟩ : ∃ k, r.minor = k := ⟨_, rfl⟩
  have hC : Rl.rqC r = #[.string (str r.meth), .string (str r.targ), .int .i64 k] := by rw [← hk]; rfl
  obtain ⟨X, hX⟩ : ∃ X, str r.meth = X := ⟨_, rfl⟩
  obtain ⟨Y, hY⟩ : ∃ Y, str r.targ = Y := ⟨_, rfl⟩
  have HAu := Lib.hid (fun w => Rl.rauth_any r.targ Y hY (by rw [← hY, str_size]; exact ht) w)
  have hal := auth_len r.targ
  have hO : ofS r l = if Rl.formS r = 4 then ([], 0, 11) else if Rl.formS r = 0 then ([], 0, 3) else if 1 < (Fd.findS hostN l).2 then ([], 0, 7)
    else if Rl.formS r = 2 then parseS (bs (Rl.optS (Rl.authS r.targ))) else if (Fd.findS hostN l).2 = 0 then ([], 0, 8) else parseS (Fd.findS hostN l).1 := by rw [opt_bs]; rfl
  obtain ⟨Q, hQ⟩ : ∃ Q, ofS r l = Q := ⟨_, rfl⟩
  rw [hQ] at hO ⊢
  rw [Rl.opt_str] at HAu
  have hoz : (Rl.optS (Rl.authS r.targ)).size ≤ 1000000 := by rw [← bs_length, opt_bs]; omega
  generalize (Rl.authS r.targ).isSome = ab at *
  generalize Rl.optS (Rl.authS r.targ) = O at *
  generalize Rl.formS r = F at *
  obtain ⟨q, hq⟩ : ∃ q, Fd.findS hostN l = q := ⟨_, rfl⟩
  rw [hq] at HFi hO hM
  obtain ⟨t, c⟩ := q
  simp only at HFi hO hM
  obtain ⟨T, hT⟩ : ∃ T, str t = T := ⟨_, rfl⟩
  have hTb : bs T = t := by rw [← hT, bs_str]
  have hTz : T.size ≤ 1000000 := by rw [← hT, str_size]; exact hM
  rw [← hTb] at hO
  rw [hT] at HFi
  rw [hX, hY] at hC
  have HO := Lib.hid hO
  have HP := Lib.hid (fun w => rparse_any T w (by omega))
  have HPo := Lib.hid (fun w => rparse_any O w (by omega))
  unfold ResP at HP HPo
  rw [hC] at HFo
  rw [hC]
  clear hs hn hm ht hM hk hX hY hal hq hT hTb hO hQ hC
  go_enter Tryz.func8, Tryz.ntmps8
  go_upto_region 1 with fail
  have b1 := Blk.new w 23 #[.string X, .string Y, .int .i64 k]
  have hbel : Below w.heap.size w (w.alloc (.cells #[.string X, .string Y, .int .i64 k] 23)) := (Below.refl _ _).alloc (Nat.le_refl _) _
  generalize w.alloc (.cells #[.string X, .string Y, .int .i64 k] 23) = w1 at *
  obtain ⟨G, hG⟩ : ∃ G, w.heap.size = G := ⟨_, rfl⟩
  have HS1 := Lib.hid (HS.out.below hbel)
  rw [hG] at b1 hbel
  have HK1 := Lib.hid b1
  have HL1 := Lib.hid hbel
  have HG := Lib.hid hG
  rw [hG]
  clear b1 hbel hG HS
  go_wp2_with fail
  refine (HFi.out w1 HS1.out).mono ?_
  rintro e w2 ⟨rfl, hb⟩
  have HK2 := Lib.hid (HK1.out.below hb HK1.out.lt)
  have HL2 := Lib.hid (HL1.out.trans (hb.mono (Nat.le_of_lt HK1.out.lt)))
  have c2 := HK2.out.cell 1
  clear hb HK1 HL1 HS1 HFi
  go_wp2_with fail
  refine (HAu.out w2).mono ?_
  rintro e w3 ⟨rfl, hb⟩
  have HK3 := Lib.hid (HK2.out.below hb HK2.out.lt)
  have HL3 := Lib.hid (HL2.out.trans (hb.mono (Nat.le_of_lt HK2.out.lt)))
  have k3 := HK3.out
  clear hb HK2 HL2 HAu c2
  have hz : (#[Value.string X, .string Y, .int .i64 k] : Array Value).size = 3 := rfl
  go_wp2_with (refine go_ld 23 k3 Rl.undR rfl Rl.infR hz rfl rfl rfl ?_)
  refine (HFo.out w3).mono ?_
  rintro e w4 ⟨rfl, hb⟩
  have HL4 := Lib.hid (HL3.out.trans (hb.mono (Nat.le_of_lt HK3.out.lt)))
  have HG4 := Lib.hid (Nat.le_trans (Nat.le_of_lt HK3.out.lt) hb.size)
  clear hb HK3 HL3 k3 HFo
  by_cases f4 : F = 4
  · subst f4
    rw [if_pos rfl] at HO
    clear HP HPo
    go_wp2_with fail
    go_ret3
    exact ⟨by rw [HO.out]; rfl, by rw [HG.out]; exact HL4.out⟩
  rw [if_neg f4] at HO
  have n4 : (F == 4) = false := by simpa using f4
  by_cases f0 : F = 0
  · subst f0
    rw [if_pos rfl] at HO
    clear HP HPo f4
    go_wp2_with fail
    go_ret3
    exact ⟨by rw [HO.out]; rfl, by rw [HG.out]; exact HL4.out⟩
  rw [if_neg f0] at HO
  have n0 : (F == 0) = false := by simpa using f0
  by_cases c2 : 1 < c
  · rw [if_pos c2] at HO
    have i2 : (1 : Int) < (c : Int) := by omega
    clear HP HPo c2 f4 f0
    go_wp2_with fail
    go_ret3
    exact ⟨by rw [HO.out]; rfl, by rw [HG.out]; exact HL4.out⟩
  rw [if_neg c2] at HO
  have i2 : ¬ (1 : Int) < (c : Int) := by omega
  by_cases f2 : F = 2
  · subst f2
    rw [if_pos rfl] at HO
    clear f4 f0 HP c2
    go_wp2_with fail
    refine (HPo.out w4).mono ?_
    rintro e w5 ⟨rfl, hb⟩
    have HL5 := Lib.hid (HL4.out.trans (hb.mono HG4.out))
    clear hb HPo HL4
    generalize parseS (bs O) = Z at *
    unfold resT
    go_wp2_with fail
    go_ret3
    exact ⟨by rw [HO.out]; rfl, by rw [HG.out]; exact HL5.out⟩
  rw [if_neg f2] at HO
  have n2 : (F == 2) = false := by simpa using f2
  clear f4 f0 f2 HPo
  by_cases c0 : c = 0
  · subst c0
    rw [if_pos rfl] at HO
    clear HP c2
    go_wp2_with fail
    go_ret3
    exact ⟨by rw [HO.out]; rfl, by rw [HG.out]; exact HL4.out⟩
  have m0 : ((c : Int) == 0) = false := by rw [beq_eq_false_iff_ne]; omega
  rw [if_neg c0] at HO
  clear c2 c0
  go_wp2_with fail
  refine (HP.out w4).mono ?_
  rintro e w5 ⟨rfl, hb⟩
  have HL5 := Lib.hid (HL4.out.trans (hb.mono HG4.out))
  clear hb HP HL4
  generalize parseS (bs T) = Z at *
  unfold resT
  go_wp2_with fail
  go_ret3
  exact ⟨by rw [HO.out]; rfl, by rw [HG.out]; exact HL5.out⟩
end Go.Proofs.YtgpgkfbbpiialaaGreatDoor.Au
