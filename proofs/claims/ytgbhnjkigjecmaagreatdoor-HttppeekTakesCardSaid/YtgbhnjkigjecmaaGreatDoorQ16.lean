/-
  Contract of hagioscoperef02's Visible over this seat's translation (XRefAsc's, for seats without the rest).
-/
import Derived.Test.YtgbhnjkigjecmaaGreatDoorQ08
import Derived.Test.YtgbhnjkigjecmaaGreatDoorQ12
import Derived.Test.YtgbhnjkigjecmaaGreatDoorQ15
namespace Go.Proofs.YtgbhnjkigjecmaaGreatDoor.Asc
open Go.RowKit Go.Proofs.YtgbhnjkigjecmaaGreatDoor.Wd

set_option maxHeartbeats 1000000 in
theorem rvisible_any (s : ByteArray) (w : World) (hs : s.size ≤ maxLen) :
    Calls Tryz.prog 41 #[.string s] w fun e w' => e = .returned (.bool (allS visI (bs s))) ∧ w = w' := by
  unfold maxLen at hs
  go_enter Tryz.func41, Tryz.ntmps41
  go_wp2
  go_loop [3] (fun x => ∃ k : Nat, x = .int .i64 k ∧ k ≤ s.size ∧ ((bs s).take k).all (fun c => visI (c.toNat : Int)) = true) (fun x => s.size - (intOf x).toNat)
  case atStart => exact ⟨0, rfl, Nat.zero_le _, rfl⟩
  case round =>
    obtain ⟨k, rfl, hk, ht⟩ := hrel
    have HT := Lib.hid ht
    clear ht
    by_cases hlt : k < s.size
    · by_cases c1 : ((s[k]'hlt).toNat : Int) < 33
      · go_wp2
        go_ret
        exact ⟨ret_b (allS_no visI s k hlt (by simp [visI]; omega)).symm, rfl⟩
      · by_cases c2 : 126 < ((s[k]'hlt).toNat : Int)
        · go_wp2
          go_ret
          exact ⟨ret_b (allS_no visI s k hlt (by simp [visI]; omega)).symm, rfl⟩
        · go_wp2
          go_round
          case rel => exact ⟨k + 1, by go_num, hlt, take_all visI s k hlt HT.out (by simp [visI]; omega)⟩
          case measure => simp [intOf]; omega
    · go_wp2
      go_ret
      exact ⟨ret_b (allS_nil visI s k hlt hk HT.out), rfl⟩

end Go.Proofs.YtgbhnjkigjecmaaGreatDoor.Asc

/-
  Contract of hagioscoperef11's Parse over this seat's translation: it answers what parseS says.
-/
namespace Go.Proofs.YtgbhnjkigjecmaaGreatDoor.Rl
open Go.RowKit Go.Proofs.YtgbhnjkigjecmaaGreatDoor.Wd Go.Proofs.YtgbhnjkigjecmaaGreatDoor.Asc Go.Proofs.YtgbhnjkigjecmaaGreatDoor.Tx Go.Proofs.YtgbhnjkigjecmaaGreatDoor.St

/-- what Parse of both answers -/
def ParP (p : Rq × Int) (w : World) (e : Ending) (w' : World) : Prop := e = .returned (.tuple #[.agg (rqC p.1), .int .i64 p.2]) ∧ Below w.heap.size w w'
/-- the answer's own block, and all that lay there -/
structure PaAt (w wx : World) : Prop where
  ob : Blk wx w.heap.size 39 #[.string ⟨#[]⟩, .string ⟨#[]⟩, .int .i64 0]
  bel : Below w.heap.size w wx
theorem PaAt.more {w wx w' : World} (h : PaAt w wx) (hb : Below wx.heap.size wx w') : PaAt w w' := ⟨h.ob.below hb h.ob.lt, h.bel.trans (hb.mono h.bel.size)⟩
theorem PaAt.new (w : World) : PaAt w (w.alloc (.cells #[.string ⟨#[]⟩, .string ⟨#[]⟩, .int .i64 0] 39)) := ⟨Blk.new _ _ _, (Below.refl _ _).alloc (Nat.le_refl _) _⟩

theorem PaAt.set {w wx : World} (h : PaAt w wx) (x0 x1 x2 : Value) :
    Blk (((wx.setCell ⟨w.heap.size, 0, none⟩ x0).setCell ⟨w.heap.size, 1, none⟩ x1).setCell ⟨w.heap.size, 2, none⟩ x2) w.heap.size 39 #[x0, x1, x2] ∧
    Below w.heap.size w (((wx.setCell ⟨w.heap.size, 0, none⟩ x0).setCell ⟨w.heap.size, 1, none⟩ x1).setCell ⟨w.heap.size, 2, none⟩ x2) := by
  obtain ⟨h1, h2⟩ := three3 wx w.heap.size _ _ _ _ x0 x1 x2 h.ob
  exact ⟨h1, h.bel.grown h2 h.bel.size (fun j hj => by injection hj with hj; omega)⟩

theorem len_three {α : Type} : ∀ {L : List α}, L.length = 3 → ∃ a b c, L = [a, b, c]
  | [a, b, c], _ => ⟨a, b, c, rfl⟩

set_option maxRecDepth 100000 in
set_option maxHeartbeats 4000000 in
theorem rparse_any (l : List UInt8) (w : World) (hl : l.length ≤ 4294967290) :
    Calls Tryz.prog 20 #[.string (str l)] w (ParP (parseS l) w) := by
  obtain ⟨q, hq⟩ : ∃ q, parseS l = q := ⟨_, rfl⟩
  rw [hq]
  have HQ := Lib.hid hq
  have hs : (str l).size ≤ 4294967290 := by rw [str_size]; exact hl
  clear hq
  go_enter Tryz.func20, Tryz.ntmps20
  go_upto_region 1 with fail
  have H0 := Lib.hid (PaAt.new w)
  generalize (w.alloc (.cells #[.string ⟨#[]⟩, .string ⟨#[]⟩, .int .i64 0] 39)) = w0 at *
  go_wp2_with fail
  refine (rcut_any (str l) 32 w0 hs).mono ?_
  rintro e w1 ⟨v, rfl, ho, hbl⟩
  rw [bs_str] at ho
  obtain ⟨g, cap, rfl, hg, hgl, hcap, hcell⟩ := ho.form (splitS_ne 32 l)
  have H1 := Lib.hid (H0.out.more hbl)
  have hln := splitS_len 32 l
  have hne : w.heap.size ≠ g := by have := H0.out.ob.lt; omega
  clear H0 hbl ho
  by_cases h3 : (splitS 32 l).length = 3
  · obtain ⟨a, b, c, he⟩ : ∃ a b c, splitS 32 l = [a, b, c] := len_three h3
    have HP : Hid (partsS a b c = q) := Lib.hid (by rw [← HQ.out]; exact (parse_split he).symm)
    have la : a.length ≤ 4294967290 := Nat.le_trans (splitS_mem 32 l a (by rw [he]; simp)) hl
    have lb : b.length ≤ 4294967290 := Nat.le_trans (splitS_mem 32 l b (by rw [he]; simp)) hl
    have lc : c.length ≤ 4294967290 := Nat.le_trans (splitS_mem 32 l c (by rw [he]; simp)) hl
    rw [h3] at hcap ⊢
    rw [he] at hcell
    have c0 := hcell 0 a rfl
    have c1 := hcell 1 b rfl
    have c2 := hcell 2 c rfl
    clear hcell hln h3 he hs hl HQ
    obtain ⟨A, hA⟩ : ∃ A, str a = A := ⟨_, rfl⟩
    obtain ⟨B, hB⟩ : ∃ B, str b = B := ⟨_, rfl⟩
    obtain ⟨C, hC⟩ : ∃ C, str c = C := ⟨_, rfl⟩
    have zA : A.size = a.length := by rw [← hA, str_size]
    have zB : B.size = b.length := by rw [← hB, str_size]
    have bA : bs A = a := by rw [← hA, bs_str]
    have bB : bs B = b := by rw [← hB, bs_str]
    rw [hA] at c0
    rw [hB] at c1
    rw [hC] at c2
    have HA := Lib.hid hA
    have HB := Lib.hid hB
    have HC := Lib.hid hC
    have tA := rtoken_any A w1 (by rw [zA]; unfold maxLen; omega)
    have tB := fun w => rvisible_any B w (by rw [zB]; unfold maxLen; omega)
    rw [bA] at tA
    rw [bB] at tB
    have hx : partsS a b c = if allS tokI a = false ∨ 32 < A.size then (Rq.zero, (11 : Int)) else if allS visI b = false then (Rq.zero, 3) else if 8000 < B.size then (Rq.zero, 6) else match minorS c with | none => (Rq.zero, 5) | some k => (⟨a, b, k⟩, 0) := by rw [zA, zB]; rfl
    rw [hx] at HP
    generalize allS tokI a = tk at *
    generalize allS visI b = vs at *
    have sA : A.size ≤ 4294967290 := by omega
    have sB : B.size ≤ 4294967290 := by omega
    have TB := Lib.hid tB
    clear hA hB hC hx zA zB bA bB tB la lb lc
    go_wp2_with fail
    refine tA.mono ?_
    rintro e w2 ⟨rfl, hbl⟩
    replace c0 := (hbl.cell (p := ⟨g, 0, none⟩) hgl).trans c0
    replace c1 := (hbl.cell (p := ⟨g, 1, none⟩) hgl).trans c1
    replace c2 := (hbl.cell (p := ⟨g, 2, none⟩) hgl).trans c2
    have H2 := Lib.hid (H1.out.more hbl)
    clear H1 hbl tA hgl
    go_wp2_with fail
    refine (TB.out w2).mono ?_
    rintro e w2' ⟨rfl, rfl⟩
    clear TB
    have hk0 := H2.out.ob.cell 0
    have hk1 := H2.out.ob.cell 1
    have hk2 := H2.out.ob.cell 2
    have hf0 := H2.out.ob.frozen 0
    have hf1 := H2.out.ob.frozen 1
    have hf2 := H2.out.ob.frozen 2
    cases tk with
    | false =>
      have HF : Hid (q = (Rq.zero, 11)) := Lib.hid (by rw [← HP.out, if_pos (.inl rfl)])
      go_wp2_with fail
      obtain ⟨hbk, hbe⟩ := H2.out.set (.string ⟨#[]⟩) (.string ⟨#[]⟩) (.int .i64 0)
      refine ret_two Tryz.results20 hbk undR rfl infR rfl rfl rfl ?_ rfl
      rw [HF.out]
      exact ⟨rfl, hbe⟩
    | true =>
      by_cases hm : 32 < A.size
      · have HF : Hid (q = (Rq.zero, 11)) := Lib.hid (by rw [← HP.out, if_pos (.inr hm)])
        have hmi : (32 : Int) < (A.size : Int) := by omega
        go_wp2_with fail
        obtain ⟨hbk, hbe⟩ := H2.out.set (.string ⟨#[]⟩) (.string ⟨#[]⟩) (.int .i64 0)
        refine ret_two Tryz.results20 hbk undR rfl infR rfl rfl rfl ?_ rfl
        rw [HF.out]
        exact ⟨rfl, hbe⟩
      · have hmi : ¬ (32 : Int) < (A.size : Int) := by omega
        rw [if_neg (show ¬ (true = false ∨ 32 < A.size) from fun h => h.elim (fun h => by cases h) hm)] at HP
        cases vs with
        | false =>
          have HF : Hid (q = (Rq.zero, 3)) := Lib.hid (by rw [← HP.out, if_pos rfl])
          go_wp2_with fail
          obtain ⟨hbk, hbe⟩ := H2.out.set (.string ⟨#[]⟩) (.string ⟨#[]⟩) (.int .i64 0)
          refine ret_two Tryz.results20 hbk undR rfl infR rfl rfl rfl ?_ rfl
          rw [HF.out]
          exact ⟨rfl, hbe⟩
        | true =>
          rw [if_neg (show ¬ true = false from fun h => by cases h)] at HP
          by_cases hn : 8000 < B.size
          · have HF : Hid (q = (Rq.zero, 6)) := Lib.hid (by rw [← HP.out, if_pos hn])
            have hni : (8000 : Int) < (B.size : Int) := by omega
            go_wp2_with fail
            obtain ⟨hbk, hbe⟩ := H2.out.set (.string ⟨#[]⟩) (.string ⟨#[]⟩) (.int .i64 0)
            refine ret_two Tryz.results20 hbk undR rfl infR rfl rfl rfl ?_ rfl
            rw [HF.out]
            exact ⟨rfl, hbe⟩
          · have hni : ¬ (8000 : Int) < (B.size : Int) := by omega
            rw [if_neg hn] at HP
            by_cases e0 : c = v1 ++ [48]
            · have HF : Hid (q = (⟨a, b, 0⟩, 0)) := Lib.hid (by rw [← HP.out, minorS, if_pos e0])
              have hc0 : (C.toList == [72, 84, 84, 80, 47, 49, 46, 48]) = true := by rw [← HC.out, lit_beq, e0]; rfl
              clear HP e0 hm hn
              go_wp2_with fail
              have H3 := Lib.hid (show PaAt w w2 from H2.out)
              go_region_held (fun w' => w'.cell? ⟨g, 0, none⟩ = some (.string A) ∧ w'.cell? ⟨g, 1, none⟩ = some (.string B)) (first | exact ⟨c0, c1⟩ | (refine ⟨?_, ?_⟩ <;> simp [*, World.cell?_setCell_far])) (fail)
              all_goals go_wp2_with fail
              all_goals (
                obtain ⟨hbk, hbe⟩ := H3.out.set (.string A) (.string B) (.int .i64 0)
                refine ret_two Tryz.results20 hbk undR rfl infR rfl rfl rfl ?_ rfl
                rw [HF.out]
                exact ⟨by rw [← HA.out, ← HB.out]; rfl, hbe.drew⟩)
            · have hc0 : (C.toList == [72, 84, 84, 80, 47, 49, 46, 48]) = false := by rw [← HC.out, lit_beq]; exact decide_eq_false e0
              by_cases e1 : c = v1 ++ [49]
              · have HF : Hid (q = (⟨a, b, 1⟩, 0)) := Lib.hid (by rw [← HP.out, minorS, if_neg e0, if_pos e1])
                have hc1 : (C.toList == [72, 84, 84, 80, 47, 49, 46, 49]) = true := by rw [← HC.out, lit_beq, e1]; rfl
                clear HP e0 e1 hm hn
                go_wp2_with fail
                have H3 := Lib.hid (show PaAt w w2 from H2.out)
                go_region_held (fun w' => w'.cell? ⟨g, 0, none⟩ = some (.string A) ∧ w'.cell? ⟨g, 1, none⟩ = some (.string B)) (first | exact ⟨c0, c1⟩ | (refine ⟨?_, ?_⟩ <;> simp [*, World.cell?_setCell_far])) (fail)
                all_goals go_wp2_with fail
                all_goals (
                  obtain ⟨hbk, hbe⟩ := H3.out.set (.string A) (.string B) (.int .i64 1)
                  refine ret_two Tryz.results20 hbk undR rfl infR rfl rfl rfl ?_ rfl
                  rw [HF.out]
                  exact ⟨by rw [← HA.out, ← HB.out]; rfl, hbe.drew⟩)
              · have HF : Hid (q = (Rq.zero, 5)) := Lib.hid (by rw [← HP.out, minorS, if_neg e0, if_neg e1])
                have hc1 : (C.toList == [72, 84, 84, 80, 47, 49, 46, 49]) = false := by rw [← HC.out, lit_beq]; exact decide_eq_false e1
                clear HP e0 e1 hm hn
                go_wp2_with fail
                obtain ⟨hbk, hbe⟩ := H2.out.set (.string ⟨#[]⟩) (.string ⟨#[]⟩) (.int .i64 0)
                refine ret_two Tryz.results20 hbk undR rfl infR rfl rfl rfl ?_ rfl
                rw [HF.out]
                exact ⟨rfl, hbe⟩
  · have HF : Hid (q = (Rq.zero, 3)) := Lib.hid (by rw [← HQ.out]; exact parse_not h3)
    have hne : (((splitS 32 l).length : Int) != 3) = true := by simp; omega
    have hk0 := H1.out.ob.cell 0
    have hk1 := H1.out.ob.cell 1
    have hk2 := H1.out.ob.cell 2
    have hf0 := H1.out.ob.frozen 0
    have hf1 := H1.out.ob.frozen 1
    have hf2 := H1.out.ob.frozen 2
    generalize (splitS 32 l).length = n at *
    clear hcell HQ
    go_wp2_with fail
    obtain ⟨hbk, hbe⟩ := H1.out.set (.string ⟨#[]⟩) (.string ⟨#[]⟩) (.int .i64 0)
    refine ret_two Tryz.results20 hbk undR rfl infR rfl rfl rfl ?_ rfl
    rw [HF.out]
    exact ⟨rfl, hbe⟩
end Go.Proofs.YtgbhnjkigjecmaaGreatDoor.Rl
