/-
  Contracts of package reqline's Form, and of hagioscoperef11's Authority and Form, over this seat's translation: they answer what formS and authS say.
-/
import Derived.Test.YtgpgkfbbpiialaaGreatDoorRlAuth
namespace Go.Proofs.YtgpgkfbbpiialaaGreatDoor.Rl
open Go.RowKit Go.Proofs.YtgpgkfbbpiialaaGreatDoor.Wd Go.Proofs.YtgpgkfbbpiialaaGreatDoor.Asc Go.Proofs.YtgpgkfbbpiialaaGreatDoor.Tx Go.Proofs.YtgpgkfbbpiialaaGreatDoor.St

theorem prefix_is (b : List UInt8) : Lib.hasPrefix b [47] = decide (b.head? = some 47) := by
  cases b with
  | nil => rfl
  | cons c l =>
    by_cases h : c = 47
    · subst h; simp [Lib.hasPrefix]
    · have h' : ((47 : UInt8) == c) = false := by rw [beq_eq_false_iff_ne]; exact fun e => h e.symm
      simp [Lib.hasPrefix, List.isPrefixOf, h, h']
def isS (o : Option (List UInt8)) : Value × Bool := match o with | none => (.string ⟨#[]⟩, false) | some l => (.string (str l), true)
theorem opt_is (o : Option (List UInt8)) : optT o = .tuple #[(isS o).1, .bool o.isSome] := by cases o <;> rfl

set_option maxRecDepth 100000 in
set_option maxHeartbeats 4000000 in
theorem form_any (r : Rq) (h2 : r.targ.length ≤ 1000000) (w : World) :
    Calls Tryz.prog 17 #[.agg (rqC r)] w fun e w' => e = .returned (.int .i64 (formS r)) ∧ Below w.heap.size w w' := by
  obtain ⟨k, hk⟩ : ∃ k, r.minor = k := ⟨_, rfl⟩
  have hC : rqC r = #[.string (str r.meth), .string (str r.targ), .int .i64 k] := by rw [← hk]; rfl
  obtain ⟨A, hA⟩ : ∃ A, str r.meth = A := ⟨_, rfl⟩
  obtain ⟨B, hB⟩ : ∃ B, str r.targ = B := ⟨_, rfl⟩
  rw [hC, hA, hB]
  have hf : formS r = if r.meth = cnct then 4 else if r.targ = [42] then 3 else if r.targ.head? = some 47 then 1 else if (authS r.targ).isSome then 2 else 0 := rfl
  have hBb : bs B = r.targ := by rw [← hB, bs_str]
  have hBz : B.size ≤ 1000000 := by rw [← hB, str_size]; exact h2
  have e1 : (A.toList == [67, 79, 78, 78, 69, 67, 84]) = decide (r.meth = cnct) := by rw [← hA, lit_beq]; rfl
  have e2 : (B.toList == [42]) = decide (r.targ = [42]) := by rw [← hB, lit_beq]
  have hp : ∀ w, Calls Tryz.prog 22 #[.string B, .string ⟨#[47]⟩] w fun e w' => e = .returned (.bool (decide (r.targ.head? = some 47))) ∧ w = w' := fun w => by
    have h := prefix_any B ⟨#[47]⟩ w
    rw [show bs (⟨#[47]⟩ : ByteArray) = [47] from rfl, prefix_is, hBb] at h
    exact h
  have ha : ∀ w, Calls Tryz.prog 18 #[.string B] w fun e w' => e = .returned (.tuple #[(isS (authS r.targ)).1, .bool (authS r.targ).isSome]) ∧ Below w.heap.size w w' := fun w => by
    rw [← opt_is]; exact auth_any r.targ B hB hBz w
  have HP := Lib.hid hp
  have HA := Lib.hid ha
  have HF := Lib.hid hf
  generalize formS r = F at *
  clear hk hC hA hBb hBz hp ha hf hB
  generalize (isS (authS r.targ)).1 = x at *
  by_cases c1 : r.meth = cnct
  · rw [if_pos c1] at HF
    rw [decide_eq_true c1] at e1
    clear e2 HP HA c1
    go_enter Tryz.func17, Tryz.ntmps17
    go_wp2_with fail
    go_ret
    exact ⟨by rw [HF.out]; rfl, (Below.refl _ _).alloc (Nat.le_refl _) _⟩
  · rw [if_neg c1] at HF
    rw [decide_eq_false c1] at e1
    by_cases c2 : r.targ = [42]
    · rw [if_pos c2] at HF
      rw [decide_eq_true c2] at e2
      clear HP HA c1 c2
      go_enter Tryz.func17, Tryz.ntmps17
      go_wp2_with fail
      go_ret
      exact ⟨by rw [HF.out]; rfl, (Below.refl _ _).alloc (Nat.le_refl _) _⟩
    · rw [if_neg c2] at HF
      rw [decide_eq_false c2] at e2
      by_cases c3 : r.targ.head? = some 47
      · rw [if_pos c3] at HF
        rw [decide_eq_true c3] at HP
        clear HA c1 c2 c3
        go_enter Tryz.func17, Tryz.ntmps17
        go_wp2_with (go_at_call 22; refine (HP.out _).mono ?_; rintro e w1 ⟨rfl, rfl⟩)
        go_ret
        exact ⟨by rw [HF.out]; rfl, (Below.refl _ _).alloc (Nat.le_refl _) _⟩
      · rw [if_neg c3] at HF
        rw [decide_eq_false c3] at HP
        cases hs : (authS r.targ).isSome with
        | true =>
          rw [hs, if_pos rfl] at HF
          rw [hs] at HA
          clear c1 c2 c3 hs
          go_enter Tryz.func17, Tryz.ntmps17
          go_wp2_with (first
            | (go_at_call 22; refine (HP.out _).mono ?_; rintro e w1 ⟨rfl, rfl⟩)
            | (go_at_call 18; refine (HA.out _).mono ?_; rintro e w2 ⟨rfl, hb⟩))
          go_ret
          exact ⟨by rw [HF.out]; rfl, ((Below.refl _ _).alloc (Nat.le_refl _) _).trans (hb.mono (by simp))⟩
        | false =>
          rw [hs, if_neg (by simp)] at HF
          rw [hs] at HA
          clear c1 c2 c3 hs
          go_enter Tryz.func17, Tryz.ntmps17
          go_wp2_with (first
            | (go_at_call 22; refine (HP.out _).mono ?_; rintro e w1 ⟨rfl, rfl⟩)
            | (go_at_call 18; refine (HA.out _).mono ?_; rintro e w2 ⟨rfl, hb⟩))
          go_ret
          exact ⟨by rw [HF.out]; rfl, ((Below.refl _ _).alloc (Nat.le_refl _) _).trans (hb.mono (by simp))⟩
end Go.Proofs.YtgpgkfbbpiialaaGreatDoor.Rl
