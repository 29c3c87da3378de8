/-
  Contracts of package ascii's Trim and hagioscoperef02's Trim over this seat's translation (AscTrim's and RefAsc2's, for the seats of later layers).
-/
import Derived.Test.YtgbhnjkigjecmaaGreatDoorQ18
import Derived.Test.YtgbhnjkigjecmaaGreatDoorQ08
import Derived.Test.YtgbhnjkigjecmaaGreatDoorQ13
import Derived.Test.YtgbhnjkigjecmaaGreatDoorQ19
import Derived.Test.YtgbhnjkigjecmaaGreatDoorQ17
import Derived.IntWalk
import Derived.Deep.Cut
namespace Go.Proofs.YtgbhnjkigjecmaaGreatDoor.Asc
open Go.RowKit Go.Proofs.YtgbhnjkigjecmaaGreatDoor.Wd

/-- what stands between the blanks -/
theorem trim_ends (l : List UInt8) (a t : Nat) (hat : a ≤ t) (htl : t ≤ l.length) (h1 : (l.take a).all blkB = true) (h2 : ∀ h : a < l.length, blkB l[a] = false)
    (h3 : (l.drop t).all blkB = true) (h4 : ∀ h : a < t, blkB (l[t - 1]'(by omega)) = false) : trimL l = (l.drop a).take (t - a) := by
  have hd : ∀ (p : UInt8 → Bool) (x y : List UInt8), x.all p = true → (x ++ y).dropWhile p = y.dropWhile p := by
    intro p x y hx
    exact List.dropWhile_append_of_pos (fun z hz => List.all_eq_true.1 hx z hz)
  have e1 : l.dropWhile blkB = l.drop a := by
    conv => lhs; rw [← List.take_append_drop a l]
    rw [hd _ _ _ h1]
    by_cases h : a < l.length
    · rw [List.drop_eq_getElem_cons h, List.dropWhile_cons_of_neg (by rw [h2 h]; simp)]
    · rw [List.drop_of_length_le (by omega)]; rfl
  have e2 : l.drop a = (l.drop a).take (t - a) ++ l.drop t := by
    conv => lhs; rw [← List.take_append_drop (t - a) (l.drop a)]
    rw [List.drop_drop, show a + (t - a) = t by omega]
  rw [trimL, e1, trimR]
  conv => lhs; rw [e2]
  rw [List.reverse_append, hd _ _ _ (by rw [List.all_reverse]; exact h3)]
  by_cases h : a < t
  · have e3 : ((l.drop a).take (t - a)) = ((l.drop a).take (t - a - 1)) ++ [l[t - 1]'(by omega)] := by
      have h5 : t - a - 1 < (l.drop a).length := by rw [List.length_drop]; omega
      conv => lhs; rw [show t - a = (t - a - 1) + 1 by omega, List.take_succ_eq_append_getElem h5]
      congr 2
      rw [List.getElem_drop]
      congr 1
      omega
    rw [e3, List.reverse_append]
    show (List.dropWhile blkB (l[t - 1] :: _)).reverse = _
    rw [List.dropWhile_cons_of_neg (by rw [h4 h]; simp)]
    simp
  · rw [show t - a = 0 by omega]; simp

def trimS (s : ByteArray) : ByteArray := ⟨(trimL (bs s)).toArray⟩
theorem trim_is (s : ByteArray) (a t : Nat) (hat : a ≤ t) (htl : t ≤ s.size) (h1 : ((bs s).take a).all blkB = true) (h2 : ∀ h : a < s.size, blkB (s[a]'h) = false)
    (h3 : ((bs s).drop t).all blkB = true) (h4 : ∀ h : a < t, blkB (s[t - 1]'(by omega)) = false) : s.extract a t = trimS s := by
  apply bs_inj
  show bs (s.extract a t) = trimL (bs s)
  rw [bs_extract, trim_ends (bs s) a t hat htl h1 h2 h3 h4]

theorem blk_take (s : ByteArray) (pos : Nat) (h : pos < s.size) (ht : ((bs s).take pos).all blkB = true) (hc : blkB (s[pos]'h) = true) : ((bs s).take (pos + 1)).all blkB = true := by
  rw [bs_take s pos h, List.all_append, ht]; simpa using hc
theorem blk_drop (s : ByteArray) (k : Nat) (h : k < s.size) (ht : ((bs s).drop (k + 1)).all blkB = true) (hc : blkB (s[k]'h) = true) : ((bs s).drop k).all blkB = true := by
  rw [bs_drop s k h, List.all_cons, hc, ht]; rfl
theorem blk_end (s : ByteArray) : ((bs s).drop s.size).all blkB = true := by rw [bs_end s s.size (by omega)]; rfl

theorem wrap32_byte (c : UInt8) : wrap32 (c.toNat : Int) = (c.toNat : Int) := by
  have := c.toNat_lt
  unfold wrap32
  omega

theorem size_ext (s : ByteArray) (a b : Nat) : (s.extract a b).size ≤ s.size := by
  rw [← bs_length, bs_extract, ← bs_length s]
  simp only [List.length_take, List.length_drop]
  omega
theorem full_take (s : ByteArray) (pos : Nat) (h : ¬ pos < s.size) (ht : ((bs s).take pos).all blkB = true) : ((bs s).take s.size).all blkB = true := by
  rw [List.take_of_length_le (by rw [bs_length]; omega)] at ht
  rw [List.take_of_length_le (by rw [bs_length]; exact Nat.le_refl _)]
  exact ht

def TrimIn (s : ByteArray) (w : World) (x : Value) (w' : World) : Prop := ∃ pos, w' = w.iter s pos ∧ x = .int .i64 s.size ∧ pos ≤ s.size ∧ ((bs s).take pos).all blkB = true

set_option maxHeartbeats 2000000 in
theorem trim_any (s : ByteArray) (w : World) (hs : s.size ≤ 281474976710656) :
    Calls Tryz.prog 58 #[.string s] w fun e w' => e = .returned (.string (trimS s)) ∧ Below w.heap.size w w' := by
  go_enter Tryz.func58, Tryz.ntmps58
  go_wp2
  go_loopw [3] (fun x w' => TrimIn s w x w') (fun _ w' => s.size - w'.iterPos w.heap.size)
  case atStart => exact ⟨0, rfl, rfl, Nat.zero_le _, rfl⟩
  case round =>
    obtain ⟨pos, rfl, rfl, hle, ht⟩ := hrel
    have HT := Lib.hid ht
    clear ht
    by_cases hp : pos < s.size
    · obtain ⟨hr, h1⟩ := at_rune blk_low s pos hp
      have hnx : ∀ ty, (Instr.next (.pointer (some ⟨w.heap.size, 0, none⟩)) true ty).run Tryz.prog (w.iter s pos) = _ := fun ty => run_next_any w s pos ty hp
      cases hc : blkI ((s[pos]'hp).toNat : Int)
      · have HC := Lib.hid hc
        rw [hc] at hr
        have HR := Lib.hid hr
        clear hr hc h1
        generalize pos + (Utf8.decode s pos).2 = pos2 at hnx
        go_wp2_with (go_at_call 98; refine (isBlank_any _ _).mono ?_; rintro e w' ⟨rfl, rfl⟩; rw [HR.out])
        go_loop [4] (fun x => ∃ t : Nat, x = .int .i64 t ∧ pos ≤ t ∧ t ≤ s.size ∧ ((bs s).drop t).all blkB = true) (fun x => (intOf x).toNat)
        case atStart => exact ⟨s.size, rfl, hle, Nat.le_refl _, blk_end s⟩
        case round =>
          obtain ⟨t, rfl, hpt, hts, hbl⟩ := hrel
          have HBL := Lib.hid hbl
          clear hbl
          have hlim : ∀ a b, (s.extract a b).size ≤ 281474976710656 := fun a b => by have := size_ext s a b; omega
          have HL := Lib.hid hlim
          clear hlim
          by_cases hlt : pos < t
          · obtain ⟨k, rfl⟩ : ∃ k, t = k + 1 := ⟨t - 1, by omega⟩
            have hk : k < s.size := by omega
            cases hd : blkI ((s[k]'hk).toNat : Int)
            · have HD := Lib.hid hd
              have HD2 := Lib.hid ((congrArg blkI (wrap32_byte (s[k]'hk))).trans hd)
              clear hd
              go_wp2_with (first | (go_at_call 98; refine (isBlank_any _ _).mono ?_; rintro e w' ⟨rfl, rfl⟩; rw [HD2.out]) | (go_at_call 24; refine (cloneL_any _ _ (HL.out _ _)).mono ?_; rintro e w' ⟨rfl, hbe⟩))
              go_ret
              refine ⟨ret_s ?_, (below_iter w s _).trans (hbe.mono (below_iter w s _).size)⟩
              have hx := trim_is s pos (k + 1) hpt hts HT.out (fun _ => HC.out) HBL.out (fun _ => HD.out)
              rw [← hx]
            · have HD := Lib.hid hd
              have HD2 := Lib.hid ((congrArg blkI (wrap32_byte (s[k]'hk))).trans hd)
              clear hd
              go_wp2_with (go_at_call 98; refine (isBlank_any _ _).mono ?_; rintro e w' ⟨rfl, rfl⟩; rw [HD2.out])
              go_round
              case rel => exact ⟨k, by go_num, by omega, by omega, blk_drop s k hk HBL.out HD.out⟩
              case measure => simp [intOf]
          · go_wp2_with (go_at_call 24; refine (cloneL_any _ _ (HL.out _ _)).mono ?_; rintro e w' ⟨rfl, hbe⟩)
            go_ret
            refine ⟨ret_s ?_, (below_iter w s _).trans (hbe.mono (below_iter w s _).size)⟩
            have hx := trim_is s pos t hpt hts HT.out (fun _ => HC.out) HBL.out (fun h => absurd h hlt)
            rw [← hx]
      · have h1' := h1 hc
        rw [h1'] at hnx
        have HC := Lib.hid hc
        rw [hc] at hr
        have HR := Lib.hid hr
        clear hr hc h1 h1'
        go_wp2_with (go_at_call 98; refine (isBlank_any _ _).mono ?_; rintro e w' ⟨rfl, rfl⟩; rw [HR.out])
        go_roundw
        case rel => exact ⟨pos + 1, rfl, rfl, hp, blk_take s pos hp HT.out HC.out⟩
        case measure => simp; omega
    · have hnx := fun ty => run_next_end (P := Tryz.prog) w s pos ty hp
      go_wp2
      go_loop [4] (fun x => ∃ t : Nat, x = .int .i64 t ∧ s.size ≤ t ∧ t ≤ s.size ∧ ((bs s).drop t).all blkB = true) (fun x => (intOf x).toNat)
      case atStart => exact ⟨s.size, rfl, (Nat.le_refl _), Nat.le_refl _, blk_end s⟩
      case round =>
        obtain ⟨t, rfl, hpt, hts, hbl⟩ := hrel
        have HBL := Lib.hid hbl
        clear hbl
        have hlim : ∀ a b, (s.extract a b).size ≤ 281474976710656 := fun a b => by have := size_ext s a b; omega
        have HL := Lib.hid hlim
        clear hlim
        by_cases hlt : s.size < t
        · exact absurd hlt (by omega)
        · go_wp2_with (go_at_call 24; refine (cloneL_any _ _ (HL.out _ _)).mono ?_; rintro e w' ⟨rfl, hbe⟩)
          go_ret
          refine ⟨ret_s ?_, (below_iter w s _).trans (hbe.mono (below_iter w s _).size)⟩
          have hx := trim_is s s.size t hpt hts (full_take s pos hp HT.out) (fun h => absurd h (by omega)) HBL.out (fun h => absurd h hlt)
          rw [← hx]
theorem blk_is {c : UInt8} (h : ((c.toNat : Int) == 32) = true ∨ ((c.toNat : Int) == 9) = true) : blkB c = true := by
  simp only [blkB, blkI, decide_eq_true_eq]
  simpa using h

set_option maxHeartbeats 2000000 in
theorem rtrim_any (s : ByteArray) (w : World) (hs : s.size ≤ 140737488355328) :
    Calls Tryz.prog 46 #[.string s] w fun e w' => e = .returned (.string (trimS s)) ∧ w = w' := by
  go_enter Tryz.func46, Tryz.ntmps46
  go_wp2
  go_loop [3] (fun x => ∃ k : Nat, x = .int .i64 k ∧ k ≤ s.size ∧ ((bs s).take k).all blkB = true) (fun x => s.size - (intOf x).toNat)
  case atStart => exact ⟨0, rfl, Nat.zero_le _, rfl⟩
  case round =>
    obtain ⟨k, rfl, hk, ht⟩ := hrel
    have HT := Lib.hid ht
    clear ht
    by_cases hp : k < s.size
    · cases c1 : (((s[k]'hp).toNat : Int) == 32)
      · cases c2 : (((s[k]'hp).toNat : Int) == 9)
        · have HC : Hid (blkB (s[k]'hp) = false) := Lib.hid (by simp only [blkB, blkI, decide_eq_false_iff_not]; simpa using And.intro c1 c2)
          go_wp2
          go_loop [4] (fun x => ∃ t : Nat, x = .int .i64 t ∧ k ≤ t ∧ t ≤ s.size ∧ ((bs s).drop t).all blkB = true) (fun x => (intOf x).toNat)
          case atStart => exact ⟨s.size, rfl, hk, Nat.le_refl _, blk_end s⟩
          case round =>
            obtain ⟨t, rfl, hpt, hts, hbl⟩ := hrel
            have HBL := Lib.hid hbl
            clear hbl c1 c2
            by_cases hlt : k < t
            · obtain ⟨q, rfl⟩ : ∃ q, t = q + 1 := ⟨t - 1, by omega⟩
              have hq : q < s.size := by omega
              cases d1 : (((s[q]'hq).toNat : Int) == 32)
              · cases d2 : (((s[q]'hq).toNat : Int) == 9)
                · have HD : Hid (blkB (s[q]'hq) = false) := Lib.hid (by simp only [blkB, blkI, decide_eq_false_iff_not]; simpa using And.intro d1 d2)
                  go_wp2
                  go_ret
                  exact ⟨ret_s (by have hx := trim_is s k (q + 1) hpt hts HT.out (fun _ => HC.out) HBL.out (fun _ => HD.out); rw [← hx]), rfl⟩
                · have HD := Lib.hid (blk_is (.inr d2))
                  go_wp2
                  go_round
                  case rel => exact ⟨q, by go_num, by omega, by omega, blk_drop s q hq HBL.out HD.out⟩
                  case measure => simp [intOf]
              · have HD := Lib.hid (blk_is (.inl d1))
                go_wp2
                go_round
                case rel => exact ⟨q, by go_num, by omega, by omega, blk_drop s q hq HBL.out HD.out⟩
                case measure => simp [intOf]
            · go_wp2
              go_ret
              exact ⟨ret_s (by have hx := trim_is s k t hpt hts HT.out (fun _ => HC.out) HBL.out (fun h => absurd h hlt); rw [← hx]), rfl⟩
        · have HC := Lib.hid (blk_is (.inr c2))
          go_wp2
          go_round
          case rel => exact ⟨k + 1, by go_num, hp, blk_take s k hp HT.out HC.out⟩
          case measure => simp [intOf]; omega
      · have HC := Lib.hid (blk_is (.inl c1))
        go_wp2
        go_round
        case rel => exact ⟨k + 1, by go_num, hp, blk_take s k hp HT.out HC.out⟩
        case measure => simp [intOf]; omega
    · obtain rfl : k = s.size := by omega
      go_wp2
      go_loop [4] (fun x => ∃ t : Nat, x = .int .i64 t ∧ s.size ≤ t ∧ t ≤ s.size ∧ ((bs s).drop t).all blkB = true) (fun x => (intOf x).toNat)
      case atStart => exact ⟨s.size, rfl, Nat.le_refl _, Nat.le_refl _, blk_end s⟩
      case round =>
        obtain ⟨t, rfl, hpt, hts, hbl⟩ := hrel
        have HBL := Lib.hid hbl
        clear hbl
        have hlt : ¬ s.size < t := by omega
        go_wp2
        go_ret
        exact ⟨ret_s (by have hx := trim_is s s.size t hpt hts HT.out (fun h => absurd h (by omega)) HBL.out (fun h => absurd h hlt); rw [← hx]), rfl⟩

end Go.Proofs.YtgbhnjkigjecmaaGreatDoor.Asc

/-
  Contract of package field's Parse over this seat's translation: it answers what parseS says.
-/
namespace Go.Proofs.YtgbhnjkigjecmaaGreatDoor.Fd
open Go.RowKit Go.Proofs.YtgbhnjkigjecmaaGreatDoor.Wd Go.Proofs.YtgbhnjkigjecmaaGreatDoor.Asc Go.Proofs.YtgbhnjkigjecmaaGreatDoor.Tx Go.Proofs.YtgbhnjkigjecmaaGreatDoor.St

theorem ret_fd {fd : Fld} {p : Fld × Int} {k : Int} {w w' : World} {X : Array Value} (hp : p = (fd, k)) (hX : X = fdC fd) (hb : Below w.heap.size w w') : ParP p w (.returned (.tuple #[.agg X, .int .i64 k])) w' := by
  subst hp hX
  exact ⟨rfl, hb⟩

set_option maxRecDepth 100000 in
set_option maxHeartbeats 4000000 in
theorem parse_any {N : Nat} (l : List UInt8) (w : World) (hE : Env N w) (hl : l.length ≤ 281474976710656) :
    Calls Tryz.prog 27 #[.string (str l)] w (ParP (parseS l) w) := by
  obtain ⟨q, hq⟩ : ∃ q, parseS l = q := ⟨_, rfl⟩
  rw [hq]
  have HQ := Lib.hid hq
  have HE := Lib.hid hE
  clear hq hE
  obtain ⟨S, hS⟩ : ∃ S, str l = S := ⟨_, rfl⟩
  have zS : S.size ≤ 4611686018427387904 := by rw [← hS, str_size]; omega
  rcases first_of (c := 58) l with h0 | ⟨a, b, rfl, h0⟩
  · have HF : Hid (q = (Fld.zero, 9)) := Lib.hid (by rw [← HQ.out]; exact parse_free h0)
    have K1 := Lib.hid (fun w => cutL_not l 58 S w hS h0)
    rw [hS] at K1 ⊢
    clear hS zS hl h0 HQ
    go_enter Tryz.func27, Tryz.ntmps27
    go_upto_region 1 with fail
    have H0 := Lib.hid (PaAt.new w)
    generalize (w.alloc (.cells #[.string ⟨#[]⟩, .string ⟨#[]⟩] 45)) = w0 at *
    go_wp2_with fail
    refine (K1.out w0).mono ?_
    rintro e w1 ⟨rfl, hbl⟩
    have H1 := Lib.hid (H0.out.more hbl)
    clear K1 hbl H0
    have hk0 := H1.out.ob.cell 0
    have hk1 := H1.out.ob.cell 1
    have hf0 := H1.out.ob.frozen 0
    have hf1 := H1.out.ob.frozen 1
    go_wp2_with fail
    obtain ⟨hbk, hbe⟩ := H1.out.set (.string ⟨#[]⟩) (.string ⟨#[]⟩)
    refine ret_two Tryz.results27 hbk undF rfl infF rfl rfl rfl ?_ rfl
    exact ret_fd HF.out rfl hbe
  · obtain ⟨A, hA⟩ : ∃ A, str a = A := ⟨_, rfl⟩
    obtain ⟨B, hB⟩ : ∃ B, str b = B := ⟨_, rfl⟩
    have hP : partsS a b = q := by rw [← HQ.out]; exact (parse_at h0).symm
    have K1 := Lib.hid (fun w => cutL_yes a b 58 S w hS zS h0)
    have K2 := Lib.hid (token_any A)
    have K3 := Lib.hid (contains_any B)
    have K4 := Lib.hid (lower_any A)
    have K5 := Lib.hid (fun w => trim_any B w (by rw [← hB, str_size]; simp at hl; omega))
    have HN := Lib.hid (show lowS A = str (a.map lowB) by rw [← hA]; rfl)
    have HT := Lib.hid (show trimS B = str (trimL b) by rw [← hB]; rfl)
    rw [show bs A = a by rw [← hA, bs_str]] at K2
    rw [show bs B = b by rw [← hB, bs_str]] at K3
    rw [hA, hB] at K1
    have H9 := Lib.hid (fun h => (hP.symm.trans (parts_no (a := a) (b := b) h)))
    have H3 := Lib.hid (fun h g => (hP.symm.trans (parts_bad (a := a) (b := b) h g)))
    have HY := Lib.hid (fun h g => (hP.symm.trans (parts_ok (a := a) (b := b) h g)))
    rw [hS]
    generalize allS tokI a = tk at *
    generalize b.any ctlB = ct at *
    generalize lowS A = L at *
    generalize trimS B = T at *
    clear hS zS hl h0 HQ hA hB hP
    go_enter Tryz.func27, Tryz.ntmps27
    go_upto_region 1 with fail
    have H0 := Lib.hid (PaAt.new w)
    generalize (w.alloc (.cells #[.string ⟨#[]⟩, .string ⟨#[]⟩] 45)) = w0 at *
    go_wp2_with fail
    refine (K1.out w0).mono ?_
    rintro e w1 ⟨rfl, hbl⟩
    have H1 := Lib.hid (H0.out.more hbl)
    clear K1 hbl H0
    go_wp2_with fail
    refine (K2.out w1).mono ?_
    rintro e w2 ⟨rfl, hbl⟩
    have H2 := Lib.hid (H1.out.more hbl)
    clear K2 hbl H1
    cases tk with
    | false =>
      have HF := Lib.hid (H9.out (by trivial))
      clear H9 H3 HY
      have hk0 := H2.out.ob.cell 0
      have hk1 := H2.out.ob.cell 1
      have hf0 := H2.out.ob.frozen 0
      have hf1 := H2.out.ob.frozen 1
      go_wp2_with fail
      obtain ⟨hbk, hbe⟩ := H2.out.set (.string ⟨#[]⟩) (.string ⟨#[]⟩)
      refine ret_two Tryz.results27 hbk undF rfl infF rfl rfl rfl ?_ rfl
      exact ret_fd HF.out rfl hbe
    | true =>
      go_wp2_with fail
      refine (K3.out w2).mono ?_
      rintro e w3 ⟨rfl, hbl⟩
      have H4 := Lib.hid (H2.out.more hbl)
      clear K3 hbl H2
      cases ct with
      | true =>
        have HF := Lib.hid (H3.out (by trivial) (by trivial))
        clear H9 H3 HY
        have hk0 := H4.out.ob.cell 0
        have hk1 := H4.out.ob.cell 1
        have hf0 := H4.out.ob.frozen 0
        have hf1 := H4.out.ob.frozen 1
        go_wp2_with fail
        obtain ⟨hbk, hbe⟩ := H4.out.set (.string ⟨#[]⟩) (.string ⟨#[]⟩)
        refine ret_two Tryz.results27 hbk undF rfl infF rfl rfl rfl ?_ rfl
        exact ret_fd HF.out rfl hbe
      | false =>
        have HF := Lib.hid (HY.out (by trivial) (by trivial))
        clear H9 H3 HY
        go_wp2_with fail
        refine (K4.out w3).mono ?_
        rintro e w4 ⟨rfl, hbl⟩
        have H5 := Lib.hid (H4.out.more hbl)
        clear K4 hbl H4
        go_wp2_with fail
        refine (K5.out w4).mono ?_
        rintro e w5 ⟨rfl, hbl⟩
        have H6 := Lib.hid (H5.out.more hbl)
        clear K5 hbl H5
        have hk0 := H6.out.ob.cell 0
        have hk1 := H6.out.ob.cell 1
        have hf0 := H6.out.ob.frozen 0
        have hf1 := H6.out.ob.frozen 1
        go_wp2_with fail
        obtain ⟨hbk, hbe⟩ := H6.out.set (.string L) (.string T)
        refine ret_two Tryz.results27 hbk undF rfl infF rfl rfl rfl ?_ rfl
        exact ret_fd HF.out (by rw [HN.out, HT.out]; rfl) hbe
end Go.Proofs.YtgbhnjkigjecmaaGreatDoor.Fd
