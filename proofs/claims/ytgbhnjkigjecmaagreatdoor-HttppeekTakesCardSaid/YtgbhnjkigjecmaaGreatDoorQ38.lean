/-
  Contracts of hagioscoperef11's Authority and Form over this seat's translation: they answer what authS and formS say.
-/
import Derived.Test.YtgbhnjkigjecmaaGreatDoorQ21
namespace Go.Proofs.YtgbhnjkigjecmaaGreatDoor.Rl
open Go.RowKit Go.Proofs.YtgbhnjkigjecmaaGreatDoor.Wd Go.Proofs.YtgbhnjkigjecmaaGreatDoor.Asc Go.Proofs.YtgbhnjkigjecmaaGreatDoor.Tx Go.Proofs.YtgbhnjkigjecmaaGreatDoor.St

theorem while_at {p : UInt8 → Bool} : ∀ {D : List UInt8} {m : Nat}, (D.take m).all p = true → (∀ h : m < D.length, p D[m] = false) → D.takeWhile p = D.take m
  | [], m, _, _ => by simp
  | c :: D, 0, _, h => by
    have := h (by simp)
    rw [List.takeWhile_cons, if_neg (by simpa using this)]; rfl
  | c :: D, m + 1, h1, h2 => by
    rw [List.take_succ_cons, List.all_cons, Bool.and_eq_true] at h1
    rw [List.takeWhile_cons, if_pos h1.1, List.take_succ_cons, while_at h1.2 (fun h => h2 (by simpa using h))]
set_option maxRecDepth 100000 in
theorem end_is (c : UInt8) : endB c = (decide ((c.toNat : Int) = 47) || decide ((c.toNat : Int) = 63) || decide ((c.toNat : Int) = 35)) := by
  have h : ∀ c : Fin 256, endB (UInt8.ofNat c.1) = (decide ((c.1 : Int) = 47) || decide ((c.1 : Int) = 63) || decide ((c.1 : Int) = 35)) := by decide
  have := h ⟨c.toNat, c.toNat_lt⟩
  simpa using this
theorem drop_at (S : ByteArray) (k : Nat) (h7 : 7 ≤ k) (h : k < S.size) : ∃ hh : k - 7 < ((bs S).drop 7).length, ((bs S).drop 7)[k - 7]'hh = S[k]'h := by
  refine ⟨by rw [List.length_drop, bs_length]; omega, ?_⟩
  rw [List.getElem_drop, ← bs_get S k h]
  congr 1
  omega
theorem drop_next (S : ByteArray) (k : Nat) (h7 : 7 ≤ k) (h : k < S.size) (p : UInt8 → Bool) (ht : (((bs S).drop 7).take (k - 7)).all p = true) (hc : p (S[k]'h) = true) : (((bs S).drop 7).take (k + 1 - 7)).all p = true := by
  obtain ⟨hh, e⟩ := drop_at S k h7 h
  rw [show k + 1 - 7 = (k - 7) + 1 by omega, List.take_succ_eq_append_getElem hh, List.all_append, ht, e]
  simpa using hc
/-- where it ends -/
theorem auth_end (S : ByteArray) (k : Nat) (h7 : 7 ≤ k) (hk : k ≤ S.size) (hh : ((bs S).take 7).map lowB = http) (ht : (((bs S).drop 7).take (k - 7)).all (fun c => !endB c) = true) (hc : ∀ h : k < S.size, endB (S[k]'h) = true) :
    authS (bs S) = some (bs (S.extract 7 k)) := by
  rw [auth_is (by rw [bs_length]; omega) hh, bs_extract, while_at ht (fun h => by
    have hlt : k < S.size := by rw [List.length_drop, bs_length] at h; omega
    obtain ⟨h2, e⟩ := drop_at S k h7 hlt
    rw [e, hc hlt]; rfl)]

def AutIn (S : ByteArray) (x : Value) : Prop := ∃ k : Nat, x = .int .i64 k ∧ 7 ≤ k ∧ k ≤ S.size ∧ (((bs S).drop 7).take (k - 7)).all (fun c => !endB c) = true
set_option maxRecDepth 100000 in
set_option maxHeartbeats 4000000 in
theorem rauth_any (l : List UInt8) (S : ByteArray) (hS : str l = S) (hl : S.size ≤ 1000000) (w : World) :
    Calls Tryz.prog 80 #[.string S] w fun e w' => e = .returned (optT (authS l)) ∧ Below w.heap.size w w' := by
  have hb : bs S = l := by rw [← hS, bs_str]
  subst hb
  clear hS
  by_cases h7 : S.size < 7
  · have HF := Lib.hid (auth_short (l := bs S) (by rw [bs_length]; exact h7))
    have hi : (S.size : Int) < 7 := by omega
    clear h7
    go_enter Tryz.func80, Tryz.ntmps80
    go_wp2_with fail
    go_ret2
    rw [HF.out]
    exact ⟨rfl, Below.refl _ _⟩
  · have hi : ¬ (S.size : Int) < 7 := by omega
    have hi2 : (7 : Int) ≤ (S.size : Int) := by omega
    obtain ⟨L, hL⟩ : ∃ L, lowS (S.extract 0 7) = L := ⟨_, rfl⟩
    have hx : (S.extract 0 7).size ≤ 140737488355328 := by rw [← bs_length, bs_extract, List.length_take]; omega
    have HLo := Lib.hid (fun w => rlowers_any (S.extract 0 7) w hx)
    rw [hL] at HLo
    have hLb : L = str (((bs S).take 7).map lowB) := by
      rw [← hL]; apply bs_inj; rw [bs_low, bs_extract, List.drop_zero, Nat.sub_zero]; rfl
    have hLe : (L.toList == [104, 116, 116, 112, 58, 47, 47]) = decide (((bs S).take 7).map lowB = http) := by rw [hLb, lit_beq]; rfl
    by_cases hh : ((bs S).take 7).map lowB = http
    · rw [decide_eq_true hh] at hLe
      have HE := Lib.hid (fun k h7 hk ht hc => auth_end S k h7 hk hh ht hc)
      clear hh hLb hL hx h7
      go_enter Tryz.func80, Tryz.ntmps80
      go_wp2_with (go_at_call 45; refine (HLo.out _).mono ?_; rintro e w1 ⟨rfl, hb1⟩)
      have HB := Lib.hid hb1
      clear hb1 HLo hLe
      go_loop [4] (fun x => AutIn S x) (fun x => S.size - (intOf x).toNat)
      case atStart => exact ⟨7, rfl, Nat.le_refl _, by omega, rfl⟩
      case round =>
        obtain ⟨k, rfl, h7, hk, ht⟩ := hrel
        have HT := Lib.hid ht
        clear ht
        have hk1 : (k : Int) ≤ (S.size : Int) := by omega
        have hk7 : (7 : Int) ≤ (k : Int) := by omega
        by_cases hp : k < S.size
        · have hei := end_is (S[k]'hp)
          have HNx := Lib.hid (fun hc => drop_next S k h7 hp (fun c => !endB c) HT.out hc)
          have HEn := Lib.hid (fun hc => HE.out k h7 hk HT.out hc)
          obtain ⟨c, hc⟩ : ∃ c, S[k]'hp = c := ⟨_, rfl⟩
          rw [hc] at hei HNx
          have HC := Lib.hid hc
          have hidx : S[k]'hp = c := hc
          clear hc
          by_cases a1 : (c.toNat : Int) = 47
          · have b1 : ((c.toNat : Int) != 47) = false := by simp [a1]
            have d1 : decide ((c.toNat : Int) = 47) = true := decide_eq_true a1
            have HX : Hid (endB c = true) := Lib.hid (by rw [hei, d1]; rfl)
            clear hei a1
            go_wp2_with fail
            go_ret2
            rw [HEn.out (fun _ => (congrArg endB HC.out).trans HX.out)]
            exact ⟨by rw [optT, str_bs]; rfl, HB.out⟩
          · have b1 : ((c.toNat : Int) != 47) = true := by simp [a1]
            have d1 : decide ((c.toNat : Int) = 47) = false := decide_eq_false a1
            by_cases a2 : (c.toNat : Int) = 63
            · have b2 : ((c.toNat : Int) != 63) = false := by simp [a2]
              have d2 : decide ((c.toNat : Int) = 63) = true := decide_eq_true a2
              have HX : Hid (endB c = true) := Lib.hid (by rw [hei, d1, d2]; rfl)
              clear hei a1 a2
              go_wp2_with fail
              go_ret2
              rw [HEn.out (fun _ => (congrArg endB HC.out).trans HX.out)]
              exact ⟨by rw [optT, str_bs]; rfl, HB.out⟩
            · have b2 : ((c.toNat : Int) != 63) = true := by simp [a2]
              have d2 : decide ((c.toNat : Int) = 63) = false := decide_eq_false a2
              by_cases a3 : (c.toNat : Int) = 35
              · have b3 : ((c.toNat : Int) != 35) = false := by simp [a3]
                have d3 : decide ((c.toNat : Int) = 35) = true := decide_eq_true a3
                have HX : Hid (endB c = true) := Lib.hid (by rw [hei, d1, d2, d3]; rfl)
                clear hei a1 a2 a3
                go_wp2_with fail
                go_ret2
                rw [HEn.out (fun _ => (congrArg endB HC.out).trans HX.out)]
                exact ⟨by rw [optT, str_bs]; rfl, HB.out⟩
              · have b3 : ((c.toNat : Int) != 35) = true := by simp [a3]
                have d3 : decide ((c.toNat : Int) = 35) = false := decide_eq_false a3
                have HX : Hid (endB c = false) := Lib.hid (by rw [hei, d1, d2, d3]; rfl)
                clear hei a1 a2 a3
                go_wp2_with fail
                go_round
                case rel => exact ⟨k + 1, by go_num, by omega, by omega, HNx.out (by rw [HX.out]; rfl)⟩
                case measure => simp [intOf]; omega
        · have HEn := Lib.hid (HE.out k h7 hk HT.out (fun h => absurd h hp))
          go_wp2_with fail
          go_ret2
          rw [HEn.out]
          exact ⟨by rw [optT, str_bs]; rfl, HB.out⟩
    · rw [decide_eq_false hh] at hLe
      have HF := Lib.hid (auth_not hh)
      clear hh hLb hL hx h7
      go_enter Tryz.func80, Tryz.ntmps80
      go_wp2_with (go_at_call 45; refine (HLo.out _).mono ?_; rintro e w1 ⟨rfl, hb1⟩)
      go_ret2
      rw [HF.out]
      exact ⟨rfl, hb1⟩

set_option maxRecDepth 100000 in
set_option maxHeartbeats 4000000 in
theorem rform_any (r : Rq) (h2 : r.targ.length ≤ 1000000) (w : World) :
    Calls Tryz.prog 81 #[.agg (rqC r)] w fun e w' => e = .returned (.int .i64 (formS r)) ∧ Below w.heap.size w w' := by
  obtain ⟨k, hk⟩ : ∃ k, r.minor = k := ⟨_, rfl⟩
  have hC : rqC r = #[.string (str r.meth), .string (str r.targ), .int .i64 k] := by rw [← hk]; rfl
  obtain ⟨A, hA⟩ : ∃ A, str r.meth = A := ⟨_, rfl⟩
  obtain ⟨B, hB⟩ : ∃ B, str r.targ = B := ⟨_, rfl⟩
  rw [hC, hA, hB]
  have hf : formS r = if r.meth = cnct then 4 else if r.targ = [42] then 3 else if r.targ.head? = some 47 then 1 else if (authS r.targ).isSome then 2 else 0 := rfl
  have hBb : bs B = r.targ := by rw [← hB, bs_str]
  have hBz : B.size ≤ 1000000 := by rw [← hB, str_size]; exact h2
  have e1 : (A.toList == [67, 79, 78, 78, 69, 67, 84]) = decide (r.meth = cnct) := by rw [← hA, lit_beq]; rfl
  have e2 : (B.toList == [42]) = decide (r.targ = [42]) := by rw [← hB, lit_beq]
  have hh : r.targ.head? = some 47 ↔ ∃ h : 0 < B.size, (((B[0]'h).toNat : Nat) : Int) = 47 := by
    rw [← hBb]
    by_cases h0 : 0 < B.size
    · rw [List.head?_eq_getElem?, List.getElem?_eq_getElem (by rw [bs_length]; exact h0), bs_get B 0 h0]
      constructor
      · intro h
        injection h with h
        exact ⟨h0, by rw [h]; rfl⟩
      · rintro ⟨_, h⟩
        congr 1
        exact UInt8.toNat.inj (by show _ = 47; omega)
    · rw [bs_nil B (by omega)]
      constructor
      · intro h; cases h
      · rintro ⟨h, _⟩; exact absurd h h0
  have ha : ∀ w, Calls Tryz.prog 80 #[.string B] w fun e w' => e = .returned (.tuple #[(isS (authS r.targ)).1, .bool (authS r.targ).isSome]) ∧ Below w.heap.size w w' := fun w => by
    rw [← opt_is]; exact rauth_any r.targ B hB hBz w
  have HA := Lib.hid ha
  have HF := Lib.hid hf
  have HH := Lib.hid hh
  generalize formS r = F at *
  clear hk hC hA hBb hBz ha hf hB hh
  generalize (isS (authS r.targ)).1 = x at *
  generalize hsm : (authS r.targ).isSome = sm at *
  go_enter Tryz.func81, Tryz.ntmps81
  go_upto_region 1 with fail
  have b0 := Blk.new w 39 #[.string A, .string B, .int .i64 k]
  have hbel : Below w.heap.size w (w.alloc (.cells #[.string A, .string B, .int .i64 k] 39)) := (Below.refl _ _).alloc (Nat.le_refl _) _
  generalize w.alloc (.cells #[.string A, .string B, .int .i64 k] 39) = w1 at *
  generalize hG : w.heap.size = G at *
  have HG := Lib.hid hG
  have HB0 := Lib.hid b0
  have HBL := Lib.hid hbel
  have c1 := b0.cell 1
  clear b0 hbel hG
  go_wp2_with fail
  refine (HA.out w1).mono ?_
  rintro e w2 ⟨rfl, hb⟩
  have b2 := HB0.out.below hb HB0.out.lt
  have HL2 := Lib.hid (HBL.out.trans (hb.mono (Nat.le_of_lt HB0.out.lt)))
  have c0 := b2.cell 0
  have c2 := b2.cell 1
  clear c1 hb b2 HA
  by_cases c1 : r.meth = cnct
  · rw [if_pos c1] at HF
    rw [decide_eq_true c1] at e1
    clear e2 HH c1
    go_wp2_with fail
    go_ret
    exact ⟨by rw [HF.out]; rfl, by rw [HG.out]; exact HL2.out⟩
  · rw [if_neg c1] at HF
    rw [decide_eq_false c1] at e1
    by_cases c3 : r.targ = [42]
    · rw [if_pos c3] at HF
      rw [decide_eq_true c3] at e2
      clear HH c1 c3
      go_wp2_with fail
      go_ret
      exact ⟨by rw [HF.out]; rfl, by rw [HG.out]; exact HL2.out⟩
    · rw [if_neg c3] at HF
      rw [decide_eq_false c3] at e2
      clear c1 c3
      by_cases h0 : 0 < B.size
      · by_cases h47 : (((B[0]'h0).toNat : Nat) : Int) = 47
        · rw [if_pos (HH.out.2 ⟨h0, h47⟩)] at HF
          have hbb : ((((B[0]'h0).toNat : Nat) : Int) == 47) = true := by simp [h47]
          have hi0 : (0 : Int) < (B.size : Int) := by omega
          clear HH h47
          go_wp2_with fail
          go_ret
          exact ⟨by rw [HF.out]; rfl, by rw [HG.out]; exact HL2.out⟩
        · rw [if_neg (fun h => by obtain ⟨_, h⟩ := HH.out.1 h; exact h47 h)] at HF
          have hbb : ((((B[0]'h0).toNat : Nat) : Int) == 47) = false := by simp [h47]
          have hi0 : (0 : Int) < (B.size : Int) := by omega
          clear HH h47
          cases sm with
          | true =>
            rw [if_pos rfl] at HF
            go_wp2_with fail
            go_ret
            exact ⟨by rw [HF.out]; rfl, by rw [HG.out]; exact HL2.out⟩
          | false =>
            rw [if_neg (by simp)] at HF
            go_wp2_with fail
            go_ret
            exact ⟨by rw [HF.out]; rfl, by rw [HG.out]; exact HL2.out⟩
      · rw [if_neg (fun h => by obtain ⟨h, _⟩ := HH.out.1 h; exact h0 h)] at HF
        have hi0 : ¬ (0 : Int) < (B.size : Int) := by omega
        clear HH
        cases sm with
        | true =>
          rw [if_pos rfl] at HF
          go_wp2_with fail
          go_ret
          exact ⟨by rw [HF.out]; rfl, by rw [HG.out]; exact HL2.out⟩
        | false =>
          rw [if_neg (by simp)] at HF
          go_wp2_with fail
          go_ret
          exact ⟨by rw [HF.out]; rfl, by rw [HG.out]; exact HL2.out⟩
end Go.Proofs.YtgbhnjkigjecmaaGreatDoor.Rl
