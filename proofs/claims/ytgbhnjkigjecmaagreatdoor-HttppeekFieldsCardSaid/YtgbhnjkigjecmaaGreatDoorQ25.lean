/-
  Contract of package field's Find over this seat's translation: it answers what findS says.
-/
import Derived.Test.YtgbhnjkigjecmaaGreatDoorQ13
import Derived.Test.YtgbhnjkigjecmaaGreatDoorQ18
import Derived.IntWalk
import Derived.Deep.Cut
import Derived.Test.YtgbhnjkigjecmaaGreatDoorQ24
import Derived.Test.YtgbhnjkigjecmaaGreatDoorQ21
namespace Go.Proofs.YtgbhnjkigjecmaaGreatDoor.Fd
open Go.RowKit Go.Proofs.YtgbhnjkigjecmaaGreatDoor.Wd Go.Proofs.YtgbhnjkigjecmaaGreatDoor.Asc Go.Proofs.YtgbhnjkigjecmaaGreatDoor.Tx Go.Proofs.YtgbhnjkigjecmaaGreatDoor.St

theorem eq_bytes (X Y : ByteArray) : (X.toList == Y.toList) = decide (X = Y) := by
  have := str_beq (bs X) (bs Y)
  rw [str_bs, str_bs] at this
  rw [this]
  by_cases h : X = Y
  · rw [h]; simp
  · rw [decide_eq_false h, decide_eq_false (fun e => h (bs_inj e))]
/-- what Find of both answers -/
def FindP (p : List UInt8 × Nat) (w : World) (e : Ending) (w' : World) : Prop := e = .returned (.tuple #[.string (str p.1), .int .i64 (p.2 : Nat)]) ∧ Below w.heap.size w w'
/-- where a search is: the first k fields -/
structure At (nm : List UInt8) (l : List Fld) (k : Nat) (T : ByteArray) (c : Nat) : Prop where
  is : findS nm (l.take k) = (bs T, c)
  le : c ≤ k
theorem At.start (nm : List UInt8) (l : List Fld) : At nm l 0 ⟨#[]⟩ 0 := ⟨by rw [List.take_zero, find_nil]; rfl, Nat.le_refl _⟩
theorem At.miss {nm : List UInt8} {l : List Fld} {k c : Nat} {T : ByteArray} {f : Fld} (h : At nm l k T c) (hf : l[k]? = some f) (hn : f.name ≠ nm) : At nm l (k + 1) T c :=
  ⟨by rw [take_snoc hf, find_miss hn]; exact h.is, Nat.le_succ_of_le h.le⟩
theorem At.first {nm : List UInt8} {l : List Fld} {k : Nat} {T : ByteArray} {f : Fld} (h : At nm l k T 0) (hf : l[k]? = some f) (hn : f.name = nm) : At nm l (k + 1) (str f.text) 1 :=
  ⟨by rw [take_snoc hf, find_first hn (by rw [h.is])]; rfl, by omega⟩
theorem At.more {nm : List UInt8} {l : List Fld} {k c : Nat} {T : ByteArray} {f : Fld} (h : At nm l k T c) (hf : l[k]? = some f) (hn : f.name = nm) (hc : c ≠ 0) : At nm l (k + 1) T (c + 1) :=
  ⟨by rw [take_snoc hf, find_more hn (by rw [h.is]; exact hc), h.is], by have := h.le; omega⟩
theorem At.fin {nm : List UInt8} {l : List Fld} {k c : Nat} {T : ByteArray} (h : At nm l k T c) (hk : k = l.length) : findS nm l = (bs T, c) := by
  rw [← h.is, hk, List.take_length]
theorem At.size {nm : List UInt8} {l : List Fld} {k c : Nat} {T : ByteArray} {M : Nat} (h : At nm l k T c) (hM : ∀ f ∈ l, f.text.length ≤ M) : T.size ≤ M := by
  have h1 := find_mem (nm := nm) (l := l.take k)
  rw [h.is] at h1
  rcases h1 with h1 | ⟨f, hf, h1⟩
  · have : (bs T).length = 0 := by rw [show bs T = [] from h1]; rfl
    rw [bs_length] at this
    omega
  · have := hM f (List.mem_of_mem_take hf)
    rw [h1] at this
    exact this

set_option maxRecDepth 100000 in
set_option maxHeartbeats 4000000 in
theorem find_at (l : List Fld) (A : Option Addr) (n cap : Nat) (S : ByteArray) (w : World) (hs : SrcF w A l) (hn : l.length = n) (hm : n ≤ 1000000) (hM : (findS ((bs S).map lowB) l).1.length ≤ 140737488355328) :
    Calls Tryz.prog 28 #[.slice A n cap, .string S] w (FindP (findS ((bs S).map lowB) l) w) := by
  obtain ⟨nm, hnm⟩ : ∃ nm, (bs S).map lowB = nm := ⟨_, rfl⟩
  obtain ⟨NM, hNM⟩ : ∃ NM, lowS S = NM := ⟨_, rfl⟩
  have HNM := Lib.hid (show bs NM = nm by rw [← hNM, ← hnm]; rfl)
  have HLo := Lib.hid (lower_any S w)
  rw [hNM] at HLo
  rw [hnm] at hM ⊢
  have HS := Lib.hid hs
  have HN := Lib.hid hn
  have HM := Lib.hid hM
  clear hs hn hM hnm hNM
  go_enter Tryz.func28, Tryz.ntmps28
  go_wp2_with fail
  refine HLo.out.mono ?_
  rintro e w1 ⟨rfl, hb⟩
  have HB1 := Lib.hid hb
  clear hb HLo
  go_wp2_with fail
  go_loopw [6, 7, 14] (fun x6 x7 x14 wr => ∃ (k c : Nat) (T : ByteArray), k ≤ n ∧ x6 = .string T ∧ x7 = .int .i64 (c : Nat) ∧ x14 = .int .i64 (k : Nat) ∧ Hid (At nm l k T c) ∧ Hid (Below w.heap.size w wr)) (fun _ _ x14 _ => n - (intOf x14).toNat)
  case atStart => exact ⟨0, 0, ⟨#[]⟩, Nat.zero_le _, rfl, rfl, rfl, Lib.hid (At.start nm l), HB1⟩
  case round =>
    obtain ⟨k, c, T, hk, rfl, rfl, rfl, HA, HB⟩ := hrel
    have hck := HA.out.le
    by_cases hlt : k < n
    · have hki : (k : Int) < (n : Int) := by omega
      obtain ⟨f, g, o, hf, rfl, hgw, h0, h1⟩ := HS.out.get (k := k) (by rw [HN.out]; exact hlt) HB.out
      have HF := Lib.hid hf
      obtain ⟨X, hX⟩ : ∃ X, str f.name = X := ⟨_, rfl⟩
      obtain ⟨Y, hY⟩ : ∃ Y, str f.text = Y := ⟨_, rfl⟩
      rw [hX] at h0
      rw [hY] at h1
      have HX := Lib.hid (show bs X = f.name by rw [← hX]; rfl)
      have HY := Lib.hid hY
      clear hf hX hY
      go_upto_region 6 with fail
      have HZ1 := Lib.hid (Blk.new wr 45 #[Value.string X, .string Y])
      have hz0 : (wr.alloc (.cells #[Value.string X, .string Y] 45)).cell? ⟨wr.heap.size, 0, none⟩ = some (.string X) := by rw [HZ1.out.cell]; rfl
      have hz1 : (wr.alloc (.cells #[Value.string X, .string Y] 45)).cell? ⟨wr.heap.size, 1, none⟩ = some (.string Y) := by rw [HZ1.out.cell]; rfl
      have HBn := Lib.hid (HB.out.alloc HB.out.size (.cells #[Value.string X, .string Y] 45))
      clear HB h0 h1 HB1
      generalize wr.alloc (.cells #[Value.string X, .string Y] 45) = w2 at *
      generalize wr.heap.size = z at *
      by_cases hXN : X = NM
      · have HQ := Lib.hid (show f.name = nm by rw [← HX.out, hXN]; exact HNM.out)
        have e1 : (X.toList == NM.toList) = true := by rw [eq_bytes, hXN]; simp
        have e2 : (X.toList != NM.toList) = false := by rw [bne, e1]; rfl
        clear hXN
        by_cases hc : c = 0
        · subst hc
          have HA2 := Lib.hid (HA.out.first HF.out HQ.out)
          rw [HY.out] at HA2
          have e3 : (((0 : Nat) : Int) == 0) = true := rfl
          go_wp2_with fail
          go_roundw
          case rel => exact ⟨k + 1, 1, Y, by omega, rfl, rfl, by go_num, HA2, HBn⟩
          case measure => simp [intOf]; omega
        · have HA2 := Lib.hid (HA.out.more HF.out HQ.out hc)
          have e3 : ((c : Int) == 0) = false := by simp; omega
          clear hc
          go_wp2_with fail
          go_roundw
          case rel => exact ⟨k + 1, c + 1, T, by omega, rfl, by go_num, by go_num, HA2, HBn⟩
          case measure => simp [intOf]; omega
      · have HQ := Lib.hid (show f.name ≠ nm by rw [← HX.out, ← HNM.out]; exact fun e => hXN (bs_inj e))
        have e1 : (X.toList == NM.toList) = false := by rw [eq_bytes]; exact decide_eq_false hXN
        have e2 : (X.toList != NM.toList) = true := by rw [bne, e1]; rfl
        have HA2 := Lib.hid (HA.out.miss HF.out HQ.out)
        clear hXN
        go_wp2_with fail
        go_roundw
        case rel => exact ⟨k + 1, c, T, by omega, rfl, rfl, by go_num, HA2, HBn⟩
        case measure => simp [intOf]; omega
    · have HR := Lib.hid (HA.out.fin (by rw [HN.out]; omega))
      have hT : T.size ≤ 140737488355328 := by have h := HM.out; rw [HR.out] at h; exact h
      have hki : ¬ (k : Int) < (n : Int) := by omega
      go_wp2_with fail
      refine (clone_any T wr hT).mono ?_
      rintro e w3 ⟨rfl, hb⟩
      have HB3 := Lib.hid (HB.out.trans (hb.mono HB.out.size))
      clear hb
      go_wp2_with fail
      go_ret2
      rw [HR.out]
      exact ⟨by show Ending.returned (.tuple #[.string T, .int .i64 (c : Nat)]) = .returned (.tuple #[.string (str (bs T)), .int .i64 (c : Nat)]); rw [str_bs], HB3.out⟩
theorem find_any (l : List Fld) (A : Option Addr) (n cap : Nat) (S : ByteArray) (w : World) (hs : SrcF w A l) (hn : l.length = n) (hm : n ≤ 1000000) (hM : ∀ f ∈ l, f.text.length ≤ 140737488355328) :
    Calls Tryz.prog 28 #[.slice A n cap, .string S] w (FindP (findS ((bs S).map lowB) l) w) := by
  refine find_at l A n cap S w hs hn hm ?_
  rcases find_mem (nm := (bs S).map lowB) (l := l) with h | ⟨f, hf, h⟩
  · rw [h]; exact Nat.zero_le _
  · rw [← h]; exact hM f hf
end Go.Proofs.YtgbhnjkigjecmaaGreatDoor.Fd

/-
  Contract of package authority's Of over this seat's translation: it answers what ofS says. Conditions: a target, and the text that is found, of at most 1000000 bytes, and at most 1000000 fields.
-/
namespace Go.Proofs.YtgbhnjkigjecmaaGreatDoor.Au
open Go.RowKit Go.Proofs.YtgbhnjkigjecmaaGreatDoor.Wd Go.Proofs.YtgbhnjkigjecmaaGreatDoor.Asc Go.Proofs.YtgbhnjkigjecmaaGreatDoor.Tx Go.Proofs.YtgbhnjkigjecmaaGreatDoor.St

theorem auth_len (l : List UInt8) : ((Rl.authS l).getD []).length ≤ l.length := by
  unfold Rl.authS
  split
  · exact Nat.zero_le _
  · have h := (List.takeWhile_prefix (l := l.drop 7) (fun c => !Rl.endB c)).length_le
    rw [List.length_drop] at h
    show (List.takeWhile _ _).length ≤ _
    omega
theorem opt_bs (o : Option (List UInt8)) : bs (Rl.optS o) = o.getD [] := by cases o <;> rfl
theorem host_low : (bs (⟨#[104, 111, 115, 116]⟩ : ByteArray)).map lowB = hostN := by decide
theorem find_host (l : List Fd.Fld) (A : Option Addr) (n cap : Nat) (w : World) (hs : Fd.SrcF w A l) (hn : l.length = n) (hm : n ≤ 1000000) (hM : (Fd.findS hostN l).1.length ≤ 1000000) :
    Calls Tryz.prog 28 #[.slice A n cap, .string ⟨#[104, 111, 115, 116]⟩] w fun e w' => e = .returned (.tuple #[.string (str (Fd.findS hostN l).1), .int .i64 ((Fd.findS hostN l).2 : Nat)]) ∧ Below w.heap.size w w' := by
  have h := Fd.find_at l A n cap ⟨#[104, 111, 115, 116]⟩ w hs hn hm (by rw [host_low]; omega)
  rw [host_low] at h
  exact h

set_option linter.unusedSimpArgs false in
set_option maxRecDepth 100000 in
set_option maxHeartbeats 8000000 in
theorem of_any {B : Nat} (r : Rl.Rq) (l : List Fd.Fld) (A : Option Addr) (n cap : Nat) (w : World) (hE : Ad.Env B w) (hs : Fd.SrcF w A l) (hn : l.length = n) (hm : n ≤ 1000000) (ht : r.targ.length ≤ 1000000)
    (hM : (Fd.findS hostN l).1.length ≤ 1000000) :
    Calls Tryz.prog 17 #[.agg (Rl.rqC r), .slice A n cap] w (ResP (ofS r l) w) := by
  have HE := Lib.hid hE
  have HS := Lib.hid hs
  have HFi := Lib.hid (fun w hs => find_host l A n cap w hs hn hm hM)
  have HFo := Lib.hid (fun w => Rl.form_any r ht w)
  obtain ⟨k, hk⟩ : ∃ k, r.minor = k := ⟨_, rfl⟩
  have hC : Rl.rqC r = #[.string (str r.meth), .string (str r.targ), .int .i64 k] := by rw [← hk]; rfl
  obtain ⟨X, hX⟩ : ∃ X, str r.meth = X := ⟨_, rfl⟩
  obtain ⟨Y, hY⟩ : ∃ Y, str r.targ = Y := ⟨_, rfl⟩
  have HAu := Lib.hid (fun w => Rl.auth_any r.targ Y hY (by rw [← hY, str_size]; exact ht) w)
  have hal := auth_len r.targ
  have hO : ofS r l = if Rl.formS r = 4 then ([], 0, 11) else if Rl.formS r = 0 then ([], 0, 3) else if 1 < (Fd.findS hostN l).2 then ([], 0, 7)
    else if Rl.formS r = 2 then parseS (bs (Rl.optS (Rl.authS r.targ))) else if (Fd.findS hostN l).2 = 0 then ([], 0, 8) else parseS (Fd.findS hostN l).1 := by rw [opt_bs]; rfl
  obtain ⟨Q, hQ⟩ : ∃ Q, ofS r l = Q := ⟨_, rfl⟩
  rw [hQ] at hO ⊢
  rw [Rl.opt_str] at HAu
  have hoz : (Rl.optS (Rl.authS r.targ)).size ≤ 1000000 := by rw [← bs_length, opt_bs]; omega
  generalize (Rl.authS r.targ).isSome = ab at *
  generalize Rl.optS (Rl.authS r.targ) = O at *
  generalize Rl.formS r = F at *
  obtain ⟨q, hq⟩ : ∃ q, Fd.findS hostN l = q := ⟨_, rfl⟩
  rw [hq] at HFi hO hM
  obtain ⟨t, c⟩ := q
  simp only at HFi hO hM
  obtain ⟨T, hT⟩ : ∃ T, str t = T := ⟨_, rfl⟩
  have hTb : bs T = t := by rw [← hT, bs_str]
  have hTz : T.size ≤ 1000000 := by rw [← hT, str_size]; exact hM
  rw [← hTb] at hO
  rw [hT] at HFi
  rw [hX, hY] at hC
  have HO := Lib.hid hO
  have HP := Lib.hid (fun w hE => parse_any (B := B) T w hE (by omega))
  have HPo := Lib.hid (fun w hE => parse_any (B := B) O w hE (by omega))
  unfold ResP at HP HPo
  rw [hC] at HFo
  rw [hC]
  clear hE hs hn hm ht hM hk hX hY hal hq hT hTb hO hQ hC
  have hcz : ∀ m : Nat, c = m → True := fun _ _ => trivial
  clear hcz
  go_enter Tryz.func17, Tryz.ntmps17
  go_upto_region 1 with fail
  have b1 := Blk.new w 39 #[.string X, .string Y, .int .i64 k]
  have hbel : Below w.heap.size w (w.alloc (.cells #[.string X, .string Y, .int .i64 k] 39)) := (Below.refl _ _).alloc (Nat.le_refl _) _
  generalize w.alloc (.cells #[.string X, .string Y, .int .i64 k] 39) = w1 at *
  obtain ⟨G, hG⟩ : ∃ G, w.heap.size = G := ⟨_, rfl⟩
  have HS1 := Lib.hid (HS.out.below hbel)
  have HE1 := Lib.hid (HE.out.on hbel)
  rw [hG] at b1 hbel
  have HK1 := Lib.hid b1
  have HL1 := Lib.hid hbel
  have HG := Lib.hid hG
  rw [hG]
  clear b1 hbel hG HS HE
  go_wp2_with fail
  refine (HFi.out w1 HS1.out).mono ?_
  rintro e w2 ⟨rfl, hb⟩
  have HK2 := Lib.hid (HK1.out.below hb HK1.out.lt)
  have HL2 := Lib.hid (HL1.out.trans (hb.mono (Nat.le_of_lt HK1.out.lt)))
  have HE2 := Lib.hid (HE1.out.on hb)
  clear hb HK1 HL1 HE1 HS1 HFi
  have k2 := HK2.out
  have hz : (#[Value.string X, .string Y, .int .i64 k] : Array Value).size = 3 := rfl
  go_wp2_with (refine go_ld 39 k2 Rl.undR rfl Rl.infR hz rfl rfl rfl ?_)
  refine (HFo.out w2).mono ?_
  rintro e w3 ⟨rfl, hb⟩
  have HK3 := Lib.hid (HK2.out.below hb HK2.out.lt)
  have HL3 := Lib.hid (HL2.out.trans (hb.mono (Nat.le_of_lt HK2.out.lt)))
  have HE3 := Lib.hid (HE2.out.on hb)
  have c1 := HK3.out.cell 1
  clear hb HK2 HL2 HE2 k2 HFo
  by_cases f4 : F = 4
  · subst f4
    rw [if_pos rfl] at HO
    clear HP HPo HAu
    go_wp2_with fail
    go_ret3
    exact ⟨by rw [HO.out]; rfl, by rw [HG.out]; exact HL3.out⟩
  rw [if_neg f4] at HO
  have n4 : (F == 4) = false := by simpa using f4
  by_cases f0 : F = 0
  · subst f0
    rw [if_pos rfl] at HO
    clear HP HPo HAu f4
    go_wp2_with fail
    go_ret3
    exact ⟨by rw [HO.out]; rfl, by rw [HG.out]; exact HL3.out⟩
  rw [if_neg f0] at HO
  have n0 : (F == 0) = false := by simpa using f0
  by_cases f2 : F = 2
  · subst f2
    rw [if_pos rfl] at HO
    clear f4 f0 HP
    go_wp2_with fail
    refine (HAu.out w3).mono ?_
    rintro e w4 ⟨rfl, hb⟩
    have HL4 := Lib.hid (HL3.out.trans (hb.mono (Nat.le_of_lt HK3.out.lt)))
    have HE4 := Lib.hid (HE3.out.on hb)
    have HG4 := Lib.hid (Nat.le_trans (Nat.le_of_lt HK3.out.lt) hb.size)
    clear hb HAu HL3 HE3 HK3 c1
    by_cases c2 : 1 < c
    · rw [if_pos c2] at HO
      have i2 : (1 : Int) < (c : Int) := by omega
      clear HPo c2
      go_wp2_with fail
      go_ret3
      exact ⟨by rw [HO.out]; rfl, by rw [HG.out]; exact HL4.out⟩
    · rw [if_neg c2] at HO
      have i2 : ¬ (1 : Int) < (c : Int) := by omega
      clear c2
      go_wp2_with fail
      refine (HPo.out w4 HE4.out).mono ?_
      rintro e w5 ⟨rfl, hb⟩
      have HL5 := Lib.hid (HL4.out.trans (hb.mono HG4.out))
      clear hb HPo HL4 HE4
      generalize parseS (bs O) = Z at *
      unfold resT
      go_wp2_with fail
      go_ret3
      exact ⟨by rw [HO.out]; rfl, by rw [HG.out]; exact HL5.out⟩
  rw [if_neg f2] at HO
  have n2 : (F == 2) = false := by simpa using f2
  clear f4 f0 f2 HPo HAu
  by_cases c0 : c = 0
  · subst c0
    rw [if_neg (by omega), if_pos rfl] at HO
    clear HP
    go_wp2_with fail
    go_ret3
    exact ⟨by rw [HO.out]; rfl, by rw [HG.out]; exact HL3.out⟩
  have m0 : ((c : Int) == 0) = false := by rw [beq_eq_false_iff_ne]; omega
  by_cases c2 : 1 < c
  · rw [if_pos c2] at HO
    have i2 : (1 : Int) < (c : Int) := by omega
    clear HP c2 c0
    go_wp2_with fail
    go_ret3
    exact ⟨by rw [HO.out]; rfl, by rw [HG.out]; exact HL3.out⟩
  · rw [if_neg c2, if_neg c0] at HO
    have i2 : ¬ (1 : Int) < (c : Int) := by omega
    clear c2 c0
    go_wp2_with fail
    refine (HP.out w3 HE3.out).mono ?_
    rintro e w5 ⟨rfl, hb⟩
    have HL5 := Lib.hid (HL3.out.trans (hb.mono (Nat.le_of_lt HK3.out.lt)))
    clear hb HP HL3 HE3
    generalize parseS (bs T) = Z at *
    unfold resT
    go_wp2_with fail
    go_ret3
    exact ⟨by rw [HO.out]; rfl, by rw [HG.out]; exact HL5.out⟩
end Go.Proofs.YtgbhnjkigjecmaaGreatDoor.Au
