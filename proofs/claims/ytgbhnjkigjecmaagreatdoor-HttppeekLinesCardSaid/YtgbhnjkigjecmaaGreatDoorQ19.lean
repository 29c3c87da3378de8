/-
  A request is built (RlSmall's, for seats without reqline.Parse). Plain lemma, no condition.
-/
import Derived.Test.YtgbhnjkigjecmaaGreatDoorQ12
import Derived.Test.YtgbhnjkigjecmaaGreatDoorQ08
import Derived.Test.YtgbhnjkigjecmaaGreatDoorQ01
namespace Go.Proofs.YtgbhnjkigjecmaaGreatDoor.Rl
open Go.RowKit Go.Proofs.YtgbhnjkigjecmaaGreatDoor.Wd Go.Proofs.YtgbhnjkigjecmaaGreatDoor.Asc Go.Proofs.YtgbhnjkigjecmaaGreatDoor.Tx Go.Proofs.YtgbhnjkigjecmaaGreatDoor.St

theorem go_bdR {ops : Array Oper} {rest : List Oper} {o : Oper} {a : Act} {w : World} {Q : Exit → Act → World → Prop} {fs : Array (Nat × Operand)} (vs : List (Nat × Value)) (r : Rq) (hB : Tryz.prog.built 39 vs = some (rqC r))
    (hw : Region.wanted o (yielded ops a.tmps) = true) (ho : o.op = .build 39 fs) (hv : (fs.map fun (i, x) => (i, a.eval x)).toList = vs)
    (h : wpList Tryz.prog ops Q rest (a.put o.dst (.agg (rqC r))) w) : wpList Tryz.prog ops Q (o :: rest) a w := by
  show if Region.wanted o (yielded ops a.tmps) = true then _ else _
  rw [if_pos hw]
  have e : Tryz.prog.built 39 (fs.map fun (i, x) => (i, a.eval x)).toList = some (rqC r) := by rw [hv]; exact hB
  refine .inl (wp_build _ _ ho (by rw [e]; rfl) ?_)
  rw [e]
  exact h
end Go.Proofs.YtgbhnjkigjecmaaGreatDoor.Rl

/-
  Contracts of package field's isControl, strings.ContainsFunc of it, and hagioscoperef12's text: may all bytes stand in a text?
-/
namespace Go.Proofs.YtgbhnjkigjecmaaGreatDoor.Fd
open Go.RowKit Go.Proofs.YtgbhnjkigjecmaaGreatDoor.Wd Go.Proofs.YtgbhnjkigjecmaaGreatDoor.Asc Go.Proofs.YtgbhnjkigjecmaaGreatDoor.Tx

set_option maxHeartbeats 400000 in
theorem isControl_any (r : Int) (w : World) : Calls Tryz.prog 57 #[.int .i32 r] w fun e w' => e = .returned (.bool (ctlI r)) ∧ w = w' := by
  by_cases a1 : r = 9
  · subst a1
    go_enter Tryz.func57, Tryz.ntmps57
    go_wp2
    go_ret
    exact ⟨ret_b (by decide), rfl⟩
  · by_cases a2 : r = 127
    · subst a2
      go_enter Tryz.func57, Tryz.ntmps57
      go_wp2
      go_ret
      exact ⟨ret_b (by decide), rfl⟩
    · have b1 : (r != 9) = true := by simpa using a1
      have b2 : (r == 127) = false := by simpa using a2
      by_cases a3 : r < 32
      · go_enter Tryz.func57, Tryz.ntmps57
        go_wp2
        go_ret
        exact ⟨ret_b (by simp [ctlI]; omega), rfl⟩
      · go_enter Tryz.func57, Tryz.ntmps57
        go_wp2
        go_ret
        exact ⟨ret_b (by simp [ctlI]; omega), rfl⟩

theorem any_no (s : ByteArray) (pos : Nat) (h : ¬ pos < s.size) (ht : ((bs s).take pos).any ctlB = false) : (bs s).any ctlB = false := by
  rwa [List.take_of_length_le (by rw [bs_length]; omega)] at ht
theorem any_hit (s : ByteArray) (pos : Nat) (h : pos < s.size) (hc : ctlB (s[pos]'h) = true) : (bs s).any ctlB = true :=
  List.any_eq_true.2 ⟨s[pos]'h, List.getElem_mem (by rw [bs_length]; exact h), hc⟩
theorem any_step (s : ByteArray) (pos : Nat) (h : pos < s.size) (ht : ((bs s).take pos).any ctlB = false) (hc : ctlB (s[pos]'h) = false) : ((bs s).take (pos + 1)).any ctlB = false := by
  rw [bs_take s pos h, List.any_append, ht]; simpa using hc
/-- behind a rune that is no ASCII -/
theorem any_wide (s : ByteArray) (pos : Nat) (h : pos < s.size) (ha : 128 ≤ (s[pos]'h).toNat) (ht : ((bs s).take pos).any ctlB = false) :
    pos + (Utf8.decode s pos).2 ≤ s.size ∧ ((bs s).take (pos + (Utf8.decode s pos).2)).any ctlB = false := by
  obtain ⟨hle, hh⟩ := wide_high s pos h ha
  refine ⟨hle, ?_⟩
  generalize (Utf8.decode s pos).2 = n at *
  induction n with
  | zero => exact ht
  | succ n ih =>
    have h1 : pos + n < s.size := by omega
    have h2 := hh n (by omega)
    rw [get_eq s _ h1] at h2
    exact any_step s (pos + n) h1 (ih (by omega) (fun k hk => hh k (by omega))) (ctl_low _ (by omega))

def NoCtl (s : ByteArray) (w w' : World) : Prop := ∃ pos, w' = w.iter s pos ∧ pos ≤ s.size ∧ ((bs s).take pos).any ctlB = false

set_option maxHeartbeats 1000000 in
theorem index_any (s : ByteArray) (w : World) :
    Calls Tryz.prog 139 #[.string s, .func (.func 57) #[] #[], .bool true] w fun e w' => (∃ k : Int, e = .returned (.int .i64 k) ∧ (decide (k ≥ 0) = (bs s).any ctlB)) ∧ Below w.heap.size w w' := by
  go_enter Tryz.func139, Tryz.ntmps139
  go_wp2
  go_loopw [7, 8] (fun _ _ w' => NoCtl s w w') (fun _ _ w' => s.size - w'.iterPos w.heap.size)
  case atStart => exact ⟨0, rfl, Nat.zero_le _, rfl⟩
  case round =>
    obtain ⟨pos, rfl, hle, ht⟩ := hrel
    have HT := Lib.hid ht
    clear ht
    by_cases hp : pos < s.size
    · obtain ⟨hr, h1⟩ := at_rune ctl_low s pos hp
      have hnx : ∀ ty, (Instr.next (.pointer (some ⟨w.heap.size, 0, none⟩)) true ty).run Tryz.prog (w.iter s pos) = _ := fun ty => run_next_any w s pos ty hp
      cases hc : ctlI ((s[pos]'hp).toNat : Int)
      · obtain ⟨q, hq, q1, q2, q3⟩ : ∃ q, pos + (Utf8.decode s pos).2 = q ∧ pos < q ∧ q ≤ s.size ∧ ((bs s).take q).any ctlB = false := by
          by_cases ha : (s[pos]'hp).toNat < 128
          · rw [decode_ascii s pos hp ha]
            exact ⟨pos + 1, rfl, by omega, hp, any_step s pos hp HT.out hc⟩
          · obtain ⟨a1, a2⟩ := any_wide s pos hp (by omega) HT.out
            have := (decode_high s pos hp (by omega)).2
            exact ⟨_, rfl, by omega, a1, a2⟩
        rw [hq] at hnx
        have HQ := Lib.hid q3
        rw [hc] at hr
        have HR := Lib.hid hr
        clear hr hc h1 q3 hq
        go_wp2_with (go_at_call 57; refine (isControl_any _ _).mono ?_; rintro e w' ⟨rfl, rfl⟩; rw [HR.out])
        go_roundw
        case rel => exact ⟨q, rfl, q2, HQ.out⟩
        case measure => simp; omega
      · have HC := Lib.hid (any_hit s pos hp hc)
        rw [hc] at hr
        have HR := Lib.hid hr
        clear hr hc h1
        go_wp2_with (go_at_call 57; refine (isControl_any _ _).mono ?_; rintro e w' ⟨rfl, rfl⟩; rw [HR.out])
        go_ret
        exact ⟨⟨_, rfl, by rw [HC.out]; simp⟩, below_iter _ _ _⟩
    · have hnx := fun ty => run_next_end (P := Tryz.prog) w s pos ty hp
      go_wp2
      go_ret
      exact ⟨⟨_, rfl, by rw [any_no s pos hp HT.out]; decide⟩, below_iter _ _ _⟩

/-- strings.ContainsFunc(s, isControl) -/
theorem contains_any (s : ByteArray) (w : World) :
    Calls Tryz.prog 56 #[.string s, .func (.func 57) #[] #[]] w fun e w' => e = .returned (.bool ((bs s).any ctlB)) ∧ Below w.heap.size w w' := by
  have hi : Calls Tryz.prog 97 #[.string s, .func (.func 57) #[] #[]] w fun e w' => (∃ k : Int, e = .returned (.int .i64 k) ∧ (decide (k ≥ 0) = (bs s).any ctlB)) ∧ Below w.heap.size w w' := by
    go_enter Tryz.func97, Tryz.ntmps97
    go_wp2_with (go_at_call 139; refine (index_any _ _).mono ?_; rintro e w' ⟨⟨k, rfl, hk⟩, hb⟩; have HK := Lib.hid hk; clear hk)
    go_ret
    exact ⟨⟨k, rfl, HK.out⟩, hb⟩
  go_enter Tryz.func56, Tryz.ntmps56
  go_wp2_with (go_at_call 97; refine hi.mono ?_; rintro e w' ⟨⟨k, rfl, hk⟩, hb⟩; have HK := Lib.hid hk; clear hk)
  go_ret
  exact ⟨ret_b (by rw [← HK.out]), hb⟩

set_option maxHeartbeats 1000000 in
/-- hagioscoperef12's text -/
theorem text_any (s : ByteArray) (w : World) (hs : s.size ≤ 9223372036854775807) :
    Calls Tryz.prog 44 #[.string s] w fun e w' => e = .returned (.bool (!(bs s).any ctlB)) ∧ w = w' := by
  go_enter Tryz.func44, Tryz.ntmps44
  go_wp2
  go_loop [3] (fun x => ∃ k : Nat, x = .int .i64 k ∧ k ≤ s.size ∧ ((bs s).take k).any ctlB = false) (fun x => s.size - (intOf x).toNat)
  case atStart => exact ⟨0, rfl, Nat.zero_le _, rfl⟩
  case round =>
    obtain ⟨k, rfl, hk, ht⟩ := hrel
    have HT := Lib.hid ht
    clear ht
    by_cases hp : k < s.size
    · have HN := fun (h : ctlB (s[k]'hp) = false) => Lib.hid (any_step s k hp HT.out h)
      have HY := fun (h : ctlB (s[k]'hp) = true) => Lib.hid (any_hit s k hp h)
      by_cases a1 : ((s[k]'hp).toNat : Int) < 32
      · cases a2 : (((s[k]'hp).toNat : Int) != 9)
        · have H := HN (by simp at a2; simp [ctlB, ctlI]; omega)
          have a3 : (((s[k]'hp).toNat : Int) == 127) = false := by simp at a2 ⊢; omega
          clear HN HY
          go_wp2
          go_round
          case rel => exact ⟨k + 1, by go_num, hp, H.out⟩
          case measure => simp [intOf]; omega
        · have H := HY (by simp at a2; simp [ctlB, ctlI]; omega)
          clear HN HY
          go_wp2
          go_ret
          exact ⟨ret_b (by rw [H.out]; rfl), rfl⟩
      · cases a3 : (((s[k]'hp).toNat : Int) == 127)
        · have H := HN (by simp at a3; simp [ctlB, ctlI]; omega)
          clear HN HY
          go_wp2
          go_round
          case rel => exact ⟨k + 1, by go_num, hp, H.out⟩
          case measure => simp [intOf]; omega
        · have H := HY (by simp at a3; simp [ctlB, ctlI]; omega)
          clear HN HY
          go_wp2
          go_ret
          exact ⟨ret_b (by rw [H.out]; rfl), rfl⟩
    · go_wp2
      go_ret
      exact ⟨ret_b (by rw [any_no s k hp HT.out]; rfl), rfl⟩
end Go.Proofs.YtgbhnjkigjecmaaGreatDoor.Fd
