/-
  Rows of strings of the call's own, and the contract of hagioscoperef03.Cut (XRfCut's, for seats without package addr).
-/
import Derived.Test.YtgbhnjkigjecmaaGreatDoorQ01
import Derived.Test.YtgbhnjkigjecmaaGreatDoorQ08
import Derived.Test.YtgbhnjkigjecmaaGreatDoorQ12
import Derived.RegionTactic
import Derived.IntWalk
import Derived.Deep.Cut
import Derived.WalkSpells
import Derived.Lib.SliceRun
namespace Go.Proofs.YtgbhnjkigjecmaaGreatDoor.Tx
open Go.RowKit Go.Proofs.YtgbhnjkigjecmaaGreatDoor.Wd Go.Proofs.YtgbhnjkigjecmaaGreatDoor.Asc

theorem infS : (Tryz.prog.info? 9).map (fun i => (i.zero, i.size, i.bytes)) = some (some (.string ⟨#[]⟩), 1, 16) := by kernel_rfl
abbrev strsOf (L : List (List UInt8)) : List Value := L.map fun l => Value.string (str l)
/-- the slice v owns the strings L, in blocks from B on -/
def OwnR (w : World) (B : Nat) (v : Value) (L : List (List UInt8)) : Prop := w.ownsRow B 9 1 v L.length (strsOf L)
theorem OwnR.one {w : World} {B : Nat} (hB : B ≤ w.heap.size) (l : List UInt8) : OwnR (w.alloc (.cells #[.string (str l)] 9)) B (.slice (some ⟨w.heap.size, 0, none⟩) 1 1) [l] :=
  ⟨rfl, .inr ⟨w.heap.size, 1, #[.string (str l)], rfl, hB, heap_alloc_new w _, Nat.le_refl _, by unfold maxLen; omega, rfl, rfl⟩⟩
theorem OwnR.below {w w' : World} {B B' : Nat} {v : Value} {L : List (List UInt8)} (h : OwnR w B v L) (hb : Below B' w w') (hB : w.heap.size ≤ B') : OwnR w' B v L := by
  obtain ⟨hl, h0 | ⟨g, cap, cur, hv, hg, hh, r⟩⟩ := h
  · exact ⟨hl, .inl h0⟩
  · exact ⟨hl, .inr ⟨g, cap, cur, hv, hg, (hb.block g (by have := Blk.lt (t := 9) (cs := cur) hh; omega)).trans hh, r⟩⟩
theorem OwnR.form {w : World} {B : Nat} {v : Value} {L : List (List UInt8)} (h : OwnR w B v L) (hn : L ≠ []) :
    ∃ g cap, v = .slice (some ⟨g, 0, none⟩) L.length cap ∧ B ≤ g ∧ g < w.heap.size ∧ L.length ≤ cap ∧ ∀ k l, L[k]? = some l → w.cell? ⟨g, k, none⟩ = some (.string (str l)) := by
  obtain ⟨hl, h0 | ⟨g, cap, cur, hv, hg, hh, hc, _, _, ht⟩⟩ := h
  · exact absurd (List.eq_nil_of_length_eq_zero h0.2) hn
  · refine ⟨g, cap, hv, hg, Blk.lt (t := 9) (cs := cur) hh, hc, fun k l hk => ?_⟩
    rw [Blk.cell (t := 9) (cs := cur) hh, ← Array.getElem?_toList]
    have h2 : (strsOf L)[k]? = some (.string (str l)) := by simp [hk]
    rw [← ht, Nat.mul_one, List.getElem?_take] at h2
    split at h2
    · exact h2
    · cases h2
theorem OwnR.last {w : World} {B : Nat} {v : Value} {I : List (List UInt8)} {x : List UInt8} (h : OwnR w B v (I ++ [x])) :
    ∃ g cap cur, v = .slice (some ⟨g, 0, none⟩) (I.length + 1) cap ∧ B ≤ g ∧ Blk w g 9 cur ∧ I.length + 1 ≤ cap ∧ cur[I.length]? = some (.string (str x)) ∧
      ∀ (y : List UInt8) (w2 : World), Blk w2 g 9 (cur.setIfInBounds I.length (.string (str y))) → OwnR w2 B v (I ++ [y]) := by
  obtain ⟨hl, h0 | ⟨g, cap, cur, hv, hg, hh, hc, hm, hz, ht⟩⟩ := h
  · exact absurd h0.2 (by simp)
  · rw [List.length_append, List.length_cons, List.length_nil] at hv hc ht
    have hat : cur[I.length]? = some (.string (str x)) := by
      rw [← Array.getElem?_toList]
      have h2 : (strsOf (I ++ [x]))[I.length]? = some (.string (str x)) := by simp
      rw [← ht, Nat.mul_one, List.getElem?_take] at h2
      split at h2
      · exact h2
      · cases h2
    refine ⟨g, cap, cur, hv, hg, hh, hc, hat, fun y w2 h2 => ⟨by simp, .inr ⟨g, cap, _, by rw [hv]; simp, hg, h2, by simpa using hc, hm, by simpa using hz, ?_⟩⟩⟩
    have e : (I ++ [y]).length * 1 = I.length + 1 := by simp
    rw [e, Array.toList_setIfInBounds, List.take_set]
    rw [Nat.mul_one] at ht
    rw [ht]
    simp [strsOf]

section
variable {w : World}
theorem wpList_appR {ops : Array Oper} {rest : List Oper} {o : Oper} {a : Act} {Q : Exit → Act → World → Prop} (hgd : o.guard = none) (s x : Operand)
    (ho : o.op = .call { callee := .builtin .append, args := #[s, x], argTypes := #[26, 26] })
    (B : Nat) (v : Value) (L : List (List UInt8)) (hs : a.eval s = v) (hown : OwnR w B v L) (g c : Nat) (l : List UInt8) (hx : a.eval x = .slice (some ⟨g, 0, none⟩) 1 c) (hsrc : w.cell? ⟨g, 0, none⟩ = some (.string (str l)))
    (hlen : L.length + 1 ≤ 4294967296) (hB : B ≤ w.heap.size)
    (h : ∀ v' w', Hid (OwnR w' B v' (L ++ [l])) → Hid (Below B w w') → wpList Tryz.prog ops Q rest (a.put o.dst v') w') : wpList Tryz.prog ops Q (o :: rest) a w := by
  obtain ⟨i0, hi, hz0, hz1, hz2⟩ := info_parts infS
  obtain ⟨v', w', hrun, h2, h3, _, _⟩ := run_append_own_at (P := Tryz.prog) w B 26 o.type 9 i0 (.string ⟨#[]⟩) 1 16 Tryz.underlying26 hi hz0 hz1 hz2 rfl (by omega) v L.length (strsOf L) hown ⟨g, 0, none⟩ 1 c [.string (str l)] rfl
    (fun j u hu => by
      cases j with
      | zero => simp at hu; subst hu; exact hsrc
      | succ j => simp at hu) (by simp [Value.oneCell']) (by unfold maxLen; omega) (by omega) hB
  have e1 : OwnR w' B v' (L ++ [l]) := by
    unfold OwnR
    rw [List.length_append, strsOf, List.map_append]
    exact h2
  have e2 : Below B w w' := (Below.refl _ _).grown h3 hB (fun k hk => by
    obtain ⟨_, ⟨rfl, _⟩ | ⟨g, cap, cur, rfl, hg, _⟩⟩ := hown
    · simp [Value.ownBlock] at hk
    · simp [Value.ownBlock] at hk; omega)
  refine wpList_plain hgd fun K hK => ?_
  unfold Oper.wp execOp
  simp only [ho, resolve, invoke, builtin, Sem.run_bind, Sem.run_pure, Result.andThen_ok, List.map_toArray, List.map_cons, List.map_nil, hs, hx, hrun]
  exact hK _ _ (h v' w' (Lib.hid e1) (Lib.hid e2))
end

def CutAt (s : ByteArray) (c : UInt8) (w : World) (v i : Value) (w' : World) : Prop :=
  ∃ k : Nat, k ≤ s.size ∧ i = .int .i64 k ∧ OwnR w' w.heap.size v (splitS c ((bs s).take k)) ∧ Below w.heap.size w w'
set_option maxRecDepth 100000 in
set_option maxHeartbeats 2000000 in
theorem rcut_any (s : ByteArray) (c : UInt8) (w : World) (hs : s.size ≤ 4294967290) :
    Calls Tryz.prog 39 #[.string s, .int .u8 c.toNat] w fun e w' => ∃ v, e = .returned v ∧ OwnR w' w.heap.size v (splitS c (bs s)) ∧ Below w.heap.size w w' := by
  go_enter Tryz.func39, Tryz.ntmps39
  go_wp2_with fail
  go_loopw [5, 6] (fun v i w' => CutAt s c w v i w') (fun _ i _ => s.size - (intOf i).toNat)
  case atStart => exact ⟨0, Nat.zero_le _, rfl, OwnR.one (Nat.le_refl _) [], (Below.refl _ _).alloc (Nat.le_refl _) _⟩
  case round =>
    obtain ⟨k, hk, rfl, hown, hbel⟩ := hrel
    have HO := Lib.hid hown
    have HL := Lib.hid hbel
    have hsz := hbel.size
    clear hown hbel
    by_cases hlt : k < s.size
    · have HT := Lib.hid (splitS_snoc c ((bs s).take k) (s[k]'hlt))
      rw [← bs_take s k hlt] at HT
      have hle := splitS_len c ((bs s).take k)
      rw [List.length_take, bs_length] at hle
      by_cases hc : s[k]'hlt = c
      · rw [if_pos hc] at HT
        have hc1 : (((s[k]'hlt).toNat : Int) == (c.toNat : Int)) = true := by rw [hc]; simp
        clear hc
        have HA := Lib.hid (HO.out.below ((Below.refl wr.heap.size wr).alloc (Nat.le_refl _) (.cells #[Value.string (str [])] 9)) (Nat.le_refl _))
        go_wp2_with (refine wpList_appR rfl _ _ rfl w.heap.size _ _ rfl (by exact HA.out) _ _ [] rfl (by simp) (by omega) (by simp; omega) ?_; intro v2 w2 ho2 hb2)
        go_roundw
        case rel => exact ⟨k + 1, by omega, by go_num, by rw [HT.out]; exact ho2.out, HL.out.trans (((Below.refl _ _).alloc (Nat.le_refl _) _).mono hsz |>.trans hb2.out)⟩
        case measure => simp [intOf]; omega
      · rw [if_neg hc] at HT
        have hc1 : (((s[k]'hlt).toNat : Int) == (c.toNat : Int)) = false := by
          rw [beq_eq_false_iff_ne]
          intro e
          exact hc (UInt8.toNat.inj (by omega))
        have HX := Lib.hid (show str ((splitS c ((bs s).take k)).getLastD []) ++ s.extract k (k + 1) = str ((splitS c ((bs s).take k)).getLastD [] ++ [s[k]'hlt]) by
          apply bs_inj
          rw [bs_add, bs_extract, bs_drop s k hlt, Nat.add_sub_cancel_left]
          rfl)
        have hIl : (splitS c ((bs s).take k)).dropLast.length ≤ 4294967295 := by rw [List.length_dropLast]; omega
        have hxs := split_last_le c ((bs s).take k)
        rw [List.length_take] at hxs
        have hes : (s.extract k (k + 1)).size = 1 := by rw [← bs_length, bs_extract, List.length_take, List.length_drop, bs_length]; omega
        clear hle
        rw [split_last] at HO
        generalize (splitS c ((bs s).take k)).dropLast = I at *
        generalize (splitS c ((bs s).take k)).getLastD [] = x at *
        obtain ⟨g, cap, cur, rfl, hg, hb, hcap, hcur, hset⟩ := HO.out.last
        have hcell : wr.cell? ⟨g, I.length, none⟩ = some (.string (str x)) := by rw [hb.cell]; exact hcur
        have hfr := hb.frozen I.length
        have hxz : (str x).size ≤ 4294967290 := by rw [str_size]; omega
        have hI : (I.length : Int) + 1 - 1 = I.length := by omega
        have HB := Lib.hid hb
        have HS := Lib.hid hset
        have HG := Lib.hid hg
        clear hc hb hset hcur HO
        go_wp2_with fail
        go_region
        all_goals go_wp2_with fail
        all_goals (
          rw [HX.out]
          go_roundw
          case rel => exact ⟨k + 1, by omega, by go_num, by rw [HT.out]; exact HS.out _ _ (HB.out.set_ _ _), (HL.out.setCell (p := ⟨g, I.length, none⟩) HG.out _).drew⟩
          case measure => simp [intOf]; omega)
    · obtain rfl : k = s.size := by omega
      go_wp2
      go_ret
      rw [show (bs s).take s.size = bs s from List.take_of_length_le (by rw [bs_length]; omega)] at HO
      exact ⟨_, rfl, HO.out, HL.out⟩
end Go.Proofs.YtgbhnjkigjecmaaGreatDoor.Tx
