/-
  Rows of strings of the call's own, and the contract of hagioscoperef03.Cut.
-/
import Derived.Test.YtgbhnjkigjecmaaGreatDoorQ10
import Derived.Test.YtgbhnjkigjecmaaGreatDoorQ09
import Derived.Test.YtgbhnjkigjecmaaGreatDoorQ05
import Derived.Test.YtgbhnjkigjecmaaGreatDoorQ14
namespace Go.Proofs.YtgbhnjkigjecmaaGreatDoor.Ad
open Go.RowKit Go.Proofs.YtgbhnjkigjecmaaGreatDoor.Wd Go.Proofs.YtgbhnjkigjecmaaGreatDoor.Asc

theorem infS : (Tryz.prog.info? 9).map (fun i => (i.zero, i.size, i.bytes)) = some (some (.string ⟨#[]⟩), 1, 16) := by kernel_rfl
abbrev strsOf (L : List (List UInt8)) : List Value := L.map fun l => Value.string (str l)
/-- the slice v owns the strings L, in blocks from B on -/
def OwnR (w : World) (B : Nat) (v : Value) (L : List (List UInt8)) : Prop := w.ownsRow B 9 1 v L.length (strsOf L)
theorem OwnR.one {w : World} {B : Nat} (hB : B ≤ w.heap.size) (l : List UInt8) : OwnR (w.alloc (.cells #[.string (str l)] 9)) B (.slice (some ⟨w.heap.size, 0, none⟩) 1 1) [l] :=
  ⟨rfl, .inr ⟨w.heap.size, 1, #[.string (str l)], rfl, hB, heap_alloc_new w _, Nat.le_refl _, by unfold maxLen; omega, rfl, rfl⟩⟩
theorem OwnR.below {w w' : World} {B B' : Nat} {v : Value} {L : List (List UInt8)} (h : OwnR w B v L) (hb : Below B' w w') (hB : w.heap.size ≤ B') : OwnR w' B v L := by
  obtain ⟨hl, h0 | ⟨g, cap, cur, hv, hg, hh, r⟩⟩ := h
  · exact ⟨hl, .inl h0⟩
  · exact ⟨hl, .inr ⟨g, cap, cur, hv, hg, (hb.block g (by have := Blk.lt (t := 9) (cs := cur) hh; omega)).trans hh, r⟩⟩
theorem OwnR.form {w : World} {B : Nat} {v : Value} {L : List (List UInt8)} (h : OwnR w B v L) (hn : L ≠ []) :
    ∃ g cap, v = .slice (some ⟨g, 0, none⟩) L.length cap ∧ B ≤ g ∧ g < w.heap.size ∧ L.length ≤ cap ∧ ∀ k l, L[k]? = some l → w.cell? ⟨g, k, none⟩ = some (.string (str l)) := by
  obtain ⟨hl, h0 | ⟨g, cap, cur, hv, hg, hh, hc, _, _, ht⟩⟩ := h
  · exact absurd (List.eq_nil_of_length_eq_zero h0.2) hn
  · refine ⟨g, cap, hv, hg, Blk.lt (t := 9) (cs := cur) hh, hc, fun k l hk => ?_⟩
    rw [Blk.cell (t := 9) (cs := cur) hh, ← Array.getElem?_toList]
    have h2 : (strsOf L)[k]? = some (.string (str l)) := by simp [hk]
    rw [← ht, Nat.mul_one, List.getElem?_take] at h2
    split at h2
    · exact h2
    · cases h2
theorem OwnR.last {w : World} {B : Nat} {v : Value} {I : List (List UInt8)} {x : List UInt8} (h : OwnR w B v (I ++ [x])) :
    ∃ g cap cur, v = .slice (some ⟨g, 0, none⟩) (I.length + 1) cap ∧ B ≤ g ∧ Blk w g 9 cur ∧ I.length + 1 ≤ cap ∧ cur[I.length]? = some (.string (str x)) ∧
      ∀ (y : List UInt8) (w2 : World), Blk w2 g 9 (cur.setIfInBounds I.length (.string (str y))) → OwnR w2 B v (I ++ [y]) := by
  obtain ⟨hl, h0 | ⟨g, cap, cur, hv, hg, hh, hc, hm, hz, ht⟩⟩ := h
  · exact absurd h0.2 (by simp)
  · rw [List.length_append, List.length_cons, List.length_nil] at hv hc ht
    have hat : cur[I.length]? = some (.string (str x)) := by
      rw [← Array.getElem?_toList]
      have h2 : (strsOf (I ++ [x]))[I.length]? = some (.string (str x)) := by simp
      rw [← ht, Nat.mul_one, List.getElem?_take] at h2
      split at h2
      · exact h2
      · cases h2
    refine ⟨g, cap, cur, hv, hg, hh, hc, hat, fun y w2 h2 => ⟨by simp, .inr ⟨g, cap, _, by rw [hv]; simp, hg, h2, by simpa using hc, hm, by simpa using hz, ?_⟩⟩⟩
    have e : (I ++ [y]).length * 1 = I.length + 1 := by simp
    rw [e, Array.toList_setIfInBounds, List.take_set]
    rw [Nat.mul_one] at ht
    rw [ht]
    simp [strsOf]

section
variable {w : World}
theorem wpList_appR {ops : Array Oper} {rest : List Oper} {o : Oper} {a : Act} {Q : Exit → Act → World → Prop} (hgd : o.guard = none) (s x : Operand)
    (ho : o.op = .call { callee := .builtin .append, args := #[s, x], argTypes := #[26, 26] })
    (B : Nat) (v : Value) (L : List (List UInt8)) (hs : a.eval s = v) (hown : OwnR w B v L) (g c : Nat) (l : List UInt8) (hx : a.eval x = .slice (some ⟨g, 0, none⟩) 1 c) (hsrc : w.cell? ⟨g, 0, none⟩ = some (.string (str l)))
    (hlen : L.length + 1 ≤ 4294967296) (hB : B ≤ w.heap.size)
    (h : ∀ v' w', Hid (OwnR w' B v' (L ++ [l])) → Hid (Below B w w') → wpList Tryz.prog ops Q rest (a.put o.dst v') w') : wpList Tryz.prog ops Q (o :: rest) a w := by
  obtain ⟨i0, hi, hz0, hz1, hz2⟩ := info_parts infS
  obtain ⟨v', w', hrun, h2, h3, _, _⟩ := run_append_own_at (P := Tryz.prog) w B 26 o.type 9 i0 (.string ⟨#[]⟩) 1 16 Tryz.underlying26 hi hz0 hz1 hz2 rfl (by omega) v L.length (strsOf L) hown ⟨g, 0, none⟩ 1 c [.string (str l)] rfl
    (fun j u hu => by
      cases j with
      | zero => simp at hu; subst hu; exact hsrc
      | succ j => simp at hu) (by simp [Value.oneCell']) (by unfold maxLen; omega) (by omega) hB
  have e1 : OwnR w' B v' (L ++ [l]) := by
    unfold OwnR
    rw [List.length_append, strsOf, List.map_append]
    exact h2
  have e2 : Below B w w' := (Below.refl _ _).grown h3 hB (fun k hk => by
    obtain ⟨_, ⟨rfl, _⟩ | ⟨g, cap, cur, rfl, hg, _⟩⟩ := hown
    · simp [Value.ownBlock] at hk
    · simp [Value.ownBlock] at hk; omega)
  refine wpList_plain hgd fun K hK => ?_
  unfold Oper.wp execOp
  simp only [ho, resolve, invoke, builtin, Sem.run_bind, Sem.run_pure, Result.andThen_ok, List.map_toArray, List.map_cons, List.map_nil, hs, hx, hrun]
  exact hK _ _ (h v' w' (Lib.hid e1) (Lib.hid e2))
end

theorem splitS_len (c : UInt8) : ∀ l, (splitS c l).length ≤ l.length + 1
  | [] => by simp [splitS]
  | x :: l => by
    have ih := splitS_len c l
    have hne := List.length_pos_iff.2 (splitS_ne c l)
    unfold splitS
    split
    · simp; omega
    · simp; omega
theorem split_last (c : UInt8) (l : List UInt8) : splitS c l = (splitS c l).dropLast ++ [(splitS c l).getLastD []] := by
  have hne := splitS_ne c l
  generalize splitS c l = L at *
  cases h : L.getLast? with
  | none => exact absurd (List.getLast?_eq_none_iff.1 h) hne
  | some x =>
    obtain ⟨I, rfl⟩ := List.getLast?_eq_some_iff.1 h
    simp

theorem splitS_mem (c : UInt8) : ∀ (l p : List UInt8), p ∈ splitS c l → p.length ≤ l.length
  | [], p, h => by simp [splitS] at h; subst h; simp
  | x :: l, p, h => by
    have hne := splitS_ne c l
    have ih := splitS_mem c l
    unfold splitS at h
    cases hs : splitS c l with
    | nil => exact absurd hs hne
    | cons q r =>
      rw [hs] at h ih
      split at h
      · rcases List.mem_cons.1 h with rfl | h
        · simp
        · have := ih p h; simp; omega
      · rcases List.mem_cons.1 h with rfl | h
        · have := ih q (by simp); simpa using this
        · have := ih p (List.mem_cons_of_mem _ (by simpa using h)); simp; omega

theorem split_last_le (c : UInt8) (l : List UInt8) : ((splitS c l).getLastD []).length ≤ l.length := by
  refine splitS_mem c l _ ?_
  have h := split_last c l
  generalize (splitS c l).getLastD [] = x at *
  rw [h]
  simp

def CutAt (s : ByteArray) (c : UInt8) (w : World) (v i : Value) (w' : World) : Prop :=
  ∃ k : Nat, k ≤ s.size ∧ i = .int .i64 k ∧ OwnR w' w.heap.size v (splitS c ((bs s).take k)) ∧ Below w.heap.size w w'
set_option maxRecDepth 100000 in
set_option maxHeartbeats 2000000 in
theorem rcut_any (s : ByteArray) (c : UInt8) (w : World) (hs : s.size ≤ 4294967290) :
    Calls Tryz.prog 39 #[.string s, .int .u8 c.toNat] w fun e w' => ∃ v, e = .returned v ∧ OwnR w' w.heap.size v (splitS c (bs s)) ∧ Below w.heap.size w w' := by
  go_enter Tryz.func39, Tryz.ntmps39
  go_wp2_with fail
  go_loopw [5, 6] (fun v i w' => CutAt s c w v i w') (fun _ i _ => s.size - (intOf i).toNat)
  case atStart => exact ⟨0, Nat.zero_le _, rfl, OwnR.one (Nat.le_refl _) [], (Below.refl _ _).alloc (Nat.le_refl _) _⟩
  case round =>
    obtain ⟨k, hk, rfl, hown, hbel⟩ := hrel
    have HO := Lib.hid hown
    have HL := Lib.hid hbel
    have hsz := hbel.size
    clear hown hbel
    by_cases hlt : k < s.size
    · have HT := Lib.hid (splitS_snoc c ((bs s).take k) (s[k]'hlt))
      rw [← bs_take s k hlt] at HT
      have hle := splitS_len c ((bs s).take k)
      rw [List.length_take, bs_length] at hle
      by_cases hc : s[k]'hlt = c
      · rw [if_pos hc] at HT
        have hc1 : (((s[k]'hlt).toNat : Int) == (c.toNat : Int)) = true := by rw [hc]; simp
        clear hc
        have HA := Lib.hid (HO.out.below ((Below.refl wr.heap.size wr).alloc (Nat.le_refl _) (.cells #[Value.string (str [])] 9)) (Nat.le_refl _))
        go_wp2_with (refine wpList_appR rfl _ _ rfl w.heap.size _ _ rfl (by exact HA.out) _ _ [] rfl (by simp) (by omega) (by simp; omega) ?_; intro v2 w2 ho2 hb2)
        go_roundw
        case rel => exact ⟨k + 1, by omega, by go_num, by rw [HT.out]; exact ho2.out, HL.out.trans (((Below.refl _ _).alloc (Nat.le_refl _) _).mono hsz |>.trans hb2.out)⟩
        case measure => simp [intOf]; omega
      · rw [if_neg hc] at HT
        have hc1 : (((s[k]'hlt).toNat : Int) == (c.toNat : Int)) = false := by
          rw [beq_eq_false_iff_ne]
          intro e
          exact hc (UInt8.toNat.inj (by omega))
        have HX := Lib.hid (show str ((splitS c ((bs s).take k)).getLastD []) ++ s.extract k (k + 1) = str ((splitS c ((bs s).take k)).getLastD [] ++ [s[k]'hlt]) by
          apply bs_inj
          rw [bs_add, bs_extract, bs_drop s k hlt, Nat.add_sub_cancel_left]
          rfl)
        have hIl : (splitS c ((bs s).take k)).dropLast.length ≤ 4294967295 := by rw [List.length_dropLast]; omega
        have hxs := split_last_le c ((bs s).take k)
        rw [List.length_take] at hxs
        have hes : (s.extract k (k + 1)).size = 1 := by rw [← bs_length, bs_extract, List.length_take, List.length_drop, bs_length]; omega
        clear hle
        rw [split_last] at HO
        generalize (splitS c ((bs s).take k)).dropLast = I at *
        generalize (splitS c ((bs s).take k)).getLastD [] = x at *
        obtain ⟨g, cap, cur, rfl, hg, hb, hcap, hcur, hset⟩ := HO.out.last
        have hcell : wr.cell? ⟨g, I.length, none⟩ = some (.string (str x)) := by rw [hb.cell]; exact hcur
        have hfr := hb.frozen I.length
        have hxz : (str x).size ≤ 4294967290 := by rw [str_size]; omega
        have hI : (I.length : Int) + 1 - 1 = I.length := by omega
        have HB := Lib.hid hb
        have HS := Lib.hid hset
        have HG := Lib.hid hg
        clear hc hb hset hcur HO
        go_wp2_with fail
        go_region
        all_goals go_wp2_with fail
        all_goals (
          rw [HX.out]
          go_roundw
          case rel => exact ⟨k + 1, by omega, by go_num, by rw [HT.out]; exact HS.out _ _ (HB.out.set_ _ _), (HL.out.setCell (p := ⟨g, I.length, none⟩) HG.out _).drew⟩
          case measure => simp [intOf]; omega)
    · obtain rfl : k = s.size := by omega
      go_wp2
      go_ret
      rw [show (bs s).take s.size = bs s from List.take_of_length_le (by rw [bs_length]; omega)] at HO
      exact ⟨_, rfl, HO.out, HL.out⟩
end Go.Proofs.YtgbhnjkigjecmaaGreatDoor.Ad

/-
  Contract of hagioscoperef03's dotted.
-/
namespace Go.Proofs.YtgbhnjkigjecmaaGreatDoor.Ad
open Go.RowKit Go.Proofs.YtgbhnjkigjecmaaGreatDoor.Wd Go.Proofs.YtgbhnjkigjecmaaGreatDoor.Asc

theorem OwnR.lower {w : World} {B B' : Nat} {v : Value} {L : List (List UInt8)} (h : OwnR w B v L) (hB : B' ≤ B) : OwnR w B' v L := by
  obtain ⟨hl, h0 | ⟨g, cap, cur, hv, hg, r⟩⟩ := h
  · exact ⟨hl, .inl h0⟩
  · exact ⟨hl, .inr ⟨g, cap, cur, hv, Nat.le_trans hB hg, r⟩⟩
/-- a block that begins with strings -/
structure RowS (w : World) (g n : Nat) (L : List (List UInt8)) : Prop where
  len : L.length = n
  blk : ∃ cur, Blk w g 9 cur ∧ ∀ (k : Nat) (l : List UInt8), L[k]? = some l → cur[k]? = some (Value.string (str l))
theorem RowS.but {S : List Nat} {w w' : World} {g n : Nat} {L : List (List UInt8)} (h : RowS w g n L) (k : But S w w') (hg : g ∉ S) : RowS w' g n L :=
  ⟨h.len, by obtain ⟨cur, hb, hc⟩ := h.blk; exact ⟨cur, hb.but k hg, hc⟩⟩
theorem RowS.below {B : Nat} {w w' : World} {g n : Nat} {L : List (List UInt8)} (h : RowS w g n L) (k : Below B w w') (hg : w.heap.size ≤ B) : RowS w' g n L :=
  ⟨h.len, by obtain ⟨cur, hb, hc⟩ := h.blk; exact ⟨cur, hb.below k (by have := hb.lt; omega), hc⟩⟩
theorem RowS.cell {w : World} {g n : Nat} {L : List (List UInt8)} (h : RowS w g n L) {k : Nat} {l : List UInt8} (hk : L[k]? = some l) : w.cell? ⟨g, k, none⟩ = some (.string (str l)) := by
  obtain ⟨cur, hb, hc⟩ := h.blk
  rw [hb.cell]
  exact hc k l hk
theorem RowS.ne {w : World} {g n : Nat} {L : List (List UInt8)} (h : RowS w g n L) {p : Option Nat} {c : Nat} {bs : List UInt8} (ha : At w p c bs) : g ∉ p.toList := by
  obtain ⟨cur, hb, _⟩ := h.blk
  have h1 := ha.ne hb (by decide)
  cases p with
  | none => simp
  | some b =>
    intro hm
    simp at hm
    exact h1 (by rw [hm])
theorem OwnR.row {w : World} {B : Nat} {v : Value} {L : List (List UInt8)} (h : OwnR w B v L) (hn : L ≠ []) : ∃ g cap, v = .slice (some ⟨g, 0, none⟩) L.length cap ∧ B ≤ g ∧ L.length ≤ cap ∧ RowS w g L.length L := by
  obtain ⟨hl, h0 | ⟨g, cap, cur, hv, hg, hh, hc, _, _, ht⟩⟩ := h
  · exact absurd (List.eq_nil_of_length_eq_zero h0.2) hn
  · refine ⟨g, cap, hv, hg, hc, ⟨rfl, cur, hh, fun k l hk => ?_⟩⟩
    rw [← Array.getElem?_toList]
    have h2 : (strsOf L)[k]? = some (.string (str l)) := by simp [hk]
    rw [← ht, Nat.mul_one, List.getElem?_take] at h2
    split at h2
    · exact h2
    · cases h2
theorem at_own {w : World} {B : Nat} {p : Option Nat} {c : Nat} {xs : List UInt8} (h : At w p c xs) (hp : ∀ b, p = some b → B ≤ b) : Own w B (.slice (ad p) xs.length c) xs := by
  obtain ⟨hl, h0 | ⟨g, cap, cur, hv, hg, r⟩⟩ := h.own
  · exact ⟨hl, .inl h0⟩
  · cases p with
    | none => cases hv
    | some b =>
      have e : b = g := by injection hv with hv _ _; injection hv with hv; injection hv
      subst e
      exact ⟨hl, .inr ⟨b, cap, cur, hv, hp b rfl, r⟩⟩
theorem wpList_app_at {P : Program} {w : World} {ops : Array Oper} {rest : List Oper} {o : Oper} {a : Act} {Q : Exit → Act → World → Prop} (hgd : o.guard = none) (s x : Operand) (t : TypeId)
    (ho : o.op = .call { callee := .builtin .append, args := #[s, x], argTypes := #[t, t] }) (ht : P.underlying t = some (.slice 5)) (hinfo : (P.info? 5).map (fun i => (i.zero, i.size, i.bytes)) = some (some (.int .u8 0), 1, 1))
    (p : Option Nat) (n c : Nat) (xs : List UInt8) (hs : a.eval s = .slice (ad p) n c) (hn : n = xs.length) (hat : At w p c xs) (A2 : Option Addr) (m c2 : Nat) (ys : List UInt8) (hx : a.eval x = .slice A2 m c2) (hsrc : Src w A2 m ys)
    (hlen : n + m ≤ 140737488355328)
    (h : ∀ p' c' w', Hid (At w' p' c' (xs ++ ys)) → Hid (p' = p ∨ p' = some w.heap.size) → Hid (But p.toList w w') → wpList P ops Q rest (a.put o.dst (.slice (ad p') (n + m) c')) w') : wpList P ops Q (o :: rest) a w := by
  subst hn
  obtain ⟨i0, hi, hz0, hz1, hz2⟩ := info_parts hinfo
  obtain ⟨p', c', w', hrun, h2, h3, h4⟩ := run_app_at (ty := o.type) ht hi hz0 hz1 hz2 hat (c2 := c2) hsrc hlen
  refine wpList_plain hgd fun K hK => ?_
  unfold Oper.wp execOp
  simp only [ho, resolve, invoke, builtin, Sem.run_bind, Sem.run_pure, Result.andThen_ok, List.map_toArray, List.map_cons, List.map_nil, hs, hx, hrun]
  exact hK _ _ (h p' c' w' (Lib.hid h2) (Lib.hid h3) (Lib.hid h4))
theorem but_below {B : Nat} {S : List Nat} {w w' : World} (h : But S w w') (hB : B ≤ w.heap.size) (hS : ∀ i ∈ S, B ≤ i) : Below B w w' :=
  ⟨h.os, h.tape, h.output, h.size, fun i hi => h.block i (by omega) (fun hm => by have := hS i hm; omega)⟩
theorem numsS_snoc : ∀ (L : List (List UInt8)) (p : List UInt8), numsS (L ++ [p]) = (numsS L).bind fun x => (numS p 255).map fun n => x ++ [UInt8.ofNat n.toNat]
  | [], p => by
    simp only [List.nil_append, numsS]
    cases numS p 255 <;> rfl
  | q :: L, p => by
    rw [List.cons_append, numsS, numsS]
    cases numS q 255 with
    | none => rfl
    | some n =>
      rw [numsS_snoc L p]
      cases numsS L with
      | none => rfl
      | some x => cases numS p 255 <;> rfl
theorem numsS_none : ∀ (L R : List (List UInt8)), numsS L = none → numsS (L ++ R) = none
  | [], R, h => by simp [numsS] at h
  | q :: L, R, h => by
    rw [List.cons_append, numsS]
    rw [numsS] at h
    cases hq : numS q 255 with
    | none => rfl
    | some n =>
      rw [hq] at h
      have h1 : numsS L = none := by simpa using h
      rw [numsS_none L R h1]
      rfl
theorem numsS_len : ∀ (L : List (List UInt8)) (x : List UInt8), numsS L = some x → x.length = L.length
  | [], x, h => by simp [numsS] at h; subst h; rfl
  | q :: L, x, h => by
    rw [numsS] at h
    cases hq : numS q 255 with
    | none => rw [hq] at h; cases h
    | some n =>
      rw [hq] at h
      simp only [Option.map_eq_some_iff] at h
      obtain ⟨y, hy, rfl⟩ := h
      simp [numsS_len L y hy]

def RDotAt (s : ByteArray) (w : World) (v i : Value) (w' : World) (g : Nat) : Prop :=
  ∃ (k : Nat) (x : List UInt8) (p : Option Nat) (c : Nat), k ≤ 4 ∧ i = .int .i64 k ∧ numsS ((splitS 46 (bs s)).take k) = some x ∧ v = .slice (ad p) x.length c ∧ At w' p c x ∧ (∀ b, p = some b → w.heap.size ≤ b) ∧ RowS w' g 4 (splitS 46 (bs s)) ∧ Below w.heap.size w w'
def RDotPost (s : ByteArray) (w : World) (e : Ending) (w' : World) : Prop :=
  ∃ v, e = .returned (.tuple #[v, .bool (dotR (bs s)).isSome]) ∧ Own w' w.heap.size v ((dotR (bs s)).getD []) ∧ Below w.heap.size w w'
set_option maxRecDepth 100000 in
set_option maxHeartbeats 2000000 in
theorem rdotted_any (s : ByteArray) (w : World) (hs : s.size ≤ 4294967290) : Calls Tryz.prog 122 #[.string s] w (RDotPost s w) := by
  go_enter Tryz.func122, Tryz.ntmps122
  go_wp2_with fail
  refine (rcut_any s 46 _ hs).mono ?_
  rintro e w1 ⟨v, rfl, hown, hb1⟩
  obtain ⟨g, cap, rfl, hg, hcap, hrow⟩ := hown.row (splitS_ne _ _)
  have hln := splitS_len 46 (bs s)
  rw [bs_length] at hln
  have HD := Lib.hid (show dotR (bs s) = if (splitS 46 (bs s)).length = 4 then numsS (splitS 46 (bs s)) else none from rfl)
  have HR := Lib.hid hrow
  have HL := Lib.hid hb1
  clear hown hb1 hrow
  generalize hn : (splitS 46 (bs s)).length = n at *
  by_cases h4 : n = 4
  · subst h4
    rw [if_pos rfl] at HD
    go_wp2_with fail
    go_loopw [5, 6] (fun v i w' => RDotAt s w v i w' g) (fun _ i _ => 4 - (intOf i).toNat)
    case atStart => exact ⟨0, [], none, 0, by omega, rfl, rfl, rfl, At.nil _, fun b hb => (by cases hb), HR.out, HL.out⟩
    case round =>
      obtain ⟨k, x, p, c0, hk, rfl, hx, rfl, hown, hpb, hrow, hbel⟩ := hrel
      have HX := Lib.hid hx
      have HO := Lib.hid hown
      have HPB := Lib.hid hpb
      clear hpb
      have HR1 := Lib.hid hrow
      have HL1 := Lib.hid hbel
      have hsz := hbel.size
      have hxl := numsS_len _ _ hx
      rw [List.length_take, hn] at hxl
      have HXL := Lib.hid hxl
      clear hx hown hbel hxl
      by_cases hlt : k < 4
      · have hp : (splitS 46 (bs s))[k]? = some ((splitS 46 (bs s))[k]'(by omega)) := List.getElem?_eq_getElem (by omega)
        have hcell := hrow.cell hp
        have hT : (splitS 46 (bs s)).take (k + 1) = (splitS 46 (bs s)).take k ++ [(splitS 46 (bs s))[k]'(by omega)] := by rw [List.take_add_one, hp]; rfl
        have hpl := splitS_mem 46 (bs s) _ (List.mem_of_getElem? hp)
        generalize (splitS 46 (bs s))[k]'(by omega) = q at *
        have HT := Lib.hid hT
        have hps : (str q).size ≤ maxLen := by rw [str_size]; rw [bs_length] at hpl; unfold maxLen; omega
        have HPS := Lib.hid hps
        clear hp hT hps hrow
        go_wp2_with fail
        refine (rnumber_any (str q) 255 _ HPS.out).mono ?_
        rintro e w2 ⟨rfl, rfl⟩
        rw [show bs (str q) = q from rfl]
        cases hnum : numS q 255 with
        | none =>
          have HZ := Lib.hid (show dotR (bs s) = none by
            rw [HD.out, ← List.take_append_drop (k + 1) (splitS 46 (bs s))]
            exact numsS_none _ _ (by rw [HT.out, numsS_snoc, HX.out, hnum]; rfl))
          rw [dTup]
          clear hnum
          go_wp2
          go_ret2
          exact ⟨_, by rw [HZ.out]; rfl, by rw [HZ.out]; exact ⟨rfl, .inl ⟨rfl, rfl⟩⟩, HL1.out⟩
        | some m =>
          obtain ⟨m0, m1⟩ := numS_bd hnum
          have HZ := Lib.hid (show numsS ((splitS 46 (bs s)).take (k + 1)) = some (x ++ [UInt8.ofNat m.toNat]) by rw [HT.out, numsS_snoc, HX.out, hnum]; rfl)
          rw [dTup]
          clear hnum
          obtain ⟨c, rfl⟩ : ∃ c : UInt8, m = (c.toNat : Int) := ⟨UInt8.ofNat m.toNat, by rw [UInt8.toNat_ofNat']; omega⟩
          rw [show UInt8.ofNat ((c.toNat : Int)).toNat = c by simp] at HZ
          have HA := Lib.hid (HO.out.but (S := []) ((But.refl _ wr).alloc (.cells #[Value.int .u8 (c.toNat : Int)] 5)) (fun _ _ => by simp))
          have HSR := Lib.hid (show Src (wr.alloc (.cells #[Value.int .u8 (c.toNat : Int)] 5)) (some ⟨wr.heap.size, 0, none⟩) 1 [c] from src_all (a := [c]) (Blk.new wr _ _))
          go_wp2_with (refine wpList_app_at rfl _ _ _ rfl und8 inf8 p _ _ _ rfl rfl (by exact HA.out) _ _ _ [c] rfl (by exact HSR.out) (by have := HXL.out; omega) ?_; intro p3 c3 w3 hat3 hp3 hb3)
          go_roundw
          case rel =>
            have hb0 : But p.toList wr w3 := ((But.refl _ wr).alloc _).trans hb3.out
            exact ⟨k + 1, x ++ [c], p3, c3, by omega, by go_num, HZ.out, by simp, hat3.out, fun b hb => (by
              rcases hp3.out with h | h
              · exact HPB.out b (by rw [← h]; exact hb)
              · rw [h] at hb; injection hb with hb; subst hb; simp; omega), HR1.out.but hb0 (HR1.out.ne HO.out), HL1.out.trans (but_below hb0 hsz (fun i hi => HPB.out i (by simpa using hi)))⟩
          case measure => simp [intOf]; omega
      · obtain rfl : k = 4 := by omega
        rw [List.take_of_length_le (by omega)] at HX
        go_wp2
        go_ret2
        exact ⟨_, by rw [HD.out, HX.out]; rfl, by rw [HD.out, HX.out]; exact at_own HO.out HPB.out, HL1.out⟩
  · rw [if_neg h4] at HD
    go_wp2
    go_ret2
    exact ⟨_, by rw [HD.out]; rfl, by rw [HD.out]; exact ⟨rfl, .inl ⟨rfl, rfl⟩⟩, HL.out⟩
end Go.Proofs.YtgbhnjkigjecmaaGreatDoor.Ad

/-
  Contract of hagioscoperef03's groups.
-/
namespace Go.Proofs.YtgbhnjkigjecmaaGreatDoor.Ad
open Go.RowKit Go.Proofs.YtgbhnjkigjecmaaGreatDoor.Wd Go.Proofs.YtgbhnjkigjecmaaGreatDoor.Asc

def RGrpAt (s : ByteArray) (last : Bool) (w : World) (v i : Value) (w' : World) (g n : Nat) : Prop :=
  ∃ (k : Nat) (x : List UInt8) (p : Option Nat) (c : Nat), k ≤ n ∧ i = .int .i64 k ∧ x.length ≤ 4 * k ∧ grpsR last (splitS 58 (bs s)) = (grpsR last ((splitS 58 (bs s)).drop k)).map (x ++ ·) ∧ v = .slice (ad p) x.length c ∧ At w' p c x ∧ (∀ b, p = some b → w.heap.size ≤ b) ∧ RowS w' g n (splitS 58 (bs s)) ∧ Below w.heap.size w w'
def RGrpPost (s : ByteArray) (last : Bool) (w : World) (e : Ending) (w' : World) : Prop :=
  ∃ v, e = .returned (.tuple #[v, .bool (groupsR (bs s) last).isSome]) ∧ Own w' w.heap.size v ((groupsR (bs s) last).getD []) ∧ Below w.heap.size w w'
theorem nil_of_some {last : Bool} {x d : List UInt8} : (some d : Option (List UInt8)).map (x ++ ·) = (grpsR last []).map ((x ++ d) ++ ·) := by simp [grpsR]
theorem grps_end {q d : List UInt8} (h : hexS q = none) (hd : dotR q = some d) : grpsR true [q] = some d := by unfold grpsR; rw [h, hd]; simp
set_option maxRecDepth 100000 in
set_option maxHeartbeats 4000000 in
theorem rgroups_any (s : ByteArray) (last : Bool) (w : World) (hs : s.size ≤ 4294967290) : Calls Tryz.prog 124 #[.string s, .bool last] w (RGrpPost s last w) := by
  by_cases h0 : s = ⟨#[]⟩
  · subst h0
    have HD := Lib.hid (show groupsR (bs ⟨#[]⟩) last = some [] by rw [groupsR, if_pos]; rfl)
    go_enter Tryz.func124, Tryz.ntmps124
    go_wp2
    go_ret2
    exact ⟨_, by rw [HD.out]; rfl, by rw [HD.out]; exact ⟨rfl, .inl ⟨rfl, rfl⟩⟩, Below.refl _ _⟩
  · have hne : bs s ≠ [] := fun h => h0 (bs_inj h)
    have hne2 : ¬ s.toList = [] := by rw [Lib.toList_data]; exact hne
    have hne1 : s.toList.isEmpty = false := by simpa using hne2
    have HD := Lib.hid (show groupsR (bs s) last = grpsR last (splitS 58 (bs s)) by rw [groupsR, if_neg hne])
    clear hne
    go_enter Tryz.func124, Tryz.ntmps124
    go_wp2_with fail
    refine (rcut_any s 58 _ hs).mono ?_
    rintro e w1 ⟨v, rfl, hown, hb1⟩
    obtain ⟨g, cap, rfl, hg, hcap, hrow⟩ := hown.row (splitS_ne _ _)
    have hln := splitS_len 58 (bs s)
    rw [bs_length] at hln
    have HR := Lib.hid hrow
    have HL := Lib.hid hb1
    clear hown hb1 hrow
    generalize hn : (splitS 58 (bs s)).length = n at *
    go_wp2_with fail
    go_loopw [7, 8] (fun v i w' => RGrpAt s last w v i w' g n) (fun _ i _ => n - (intOf i).toNat)
    case atStart => exact ⟨0, [], none, 0, by omega, rfl, by simp, (by rw [List.drop_zero]; cases grpsR last (splitS 58 (bs s)) <;> rfl), rfl, At.nil _, fun b hb => (by cases hb), HR.out, HL.out⟩
    case round =>
      obtain ⟨k, x, p, c0, hk, rfl, hxl, hx, rfl, hown, hpb, hrow, hbel⟩ := hrel
      have HX := Lib.hid hx
      have HO := Lib.hid hown
      have HPB := Lib.hid hpb
      have HR1 := Lib.hid hrow
      have HL1 := Lib.hid hbel
      have HXL := Lib.hid hxl
      have hsz := hbel.size
      clear hpb hx hown hbel hxl
      by_cases hlt : k < n
      · have hp : (splitS 58 (bs s))[k]? = some ((splitS 58 (bs s))[k]'(by omega)) := List.getElem?_eq_getElem (by omega)
        have hcell := hrow.cell hp
        have hT : (splitS 58 (bs s)).drop k = (splitS 58 (bs s))[k]'(by omega) :: (splitS 58 (bs s)).drop (k + 1) := List.drop_eq_getElem_cons (by omega)
        have hpl := splitS_mem 58 (bs s) _ (List.mem_of_getElem? hp)
        generalize (splitS 58 (bs s))[k]'(by omega) = q at *
        have HT := Lib.hid hT
        have HQ := Lib.hid (show (str q).size ≤ 4294967290 by rw [str_size]; rw [bs_length] at hpl; omega)
        have HE := Lib.hid (show (splitS 58 (bs s)).drop (k + 1) = [] ↔ ¬ k + 1 < n by rw [List.drop_eq_nil_iff, hn]; omega)
        clear hp hT hrow hpl
        go_wp2_with fail
        refine (rhex_any (str q) _ (Nat.le_trans HQ.out (by unfold maxLen; omega))).mono ?_
        rintro e w2 ⟨rfl, rfl⟩
        rw [show bs (str q) = q from rfl]
        cases hh : hexS q with
        | some m =>
          obtain ⟨m0, m1⟩ := hexS_bd hh
          obtain ⟨N, rfl⟩ : ∃ N : Nat, m = (N : Int) := ⟨m.toNat, by omega⟩
          have HZ := Lib.hid (show grpsR last (splitS 58 (bs s)) = (grpsR last ((splitS 58 (bs s)).drop (k + 1))).map ((x ++ [UInt8.ofNat (N / 256), UInt8.ofNat (N % 256)]) ++ ·) by
            rw [HX.out, HT.out, grpsR, hh]
            cases grpsR last ((splitS 58 (bs s)).drop (k + 1)) <;> simp)
          have e1 := fstB N (by omega)
          have e2 := sndB N
          rw [dTup]
          clear hh HT HX
          have HSR := Lib.hid (show Src (wr.alloc (.cells #[Value.int .u8 ((N / 256 : Nat) : Int), Value.int .u8 ((N % 256 : Nat) : Int)] 5)) (some ⟨wr.heap.size, 0, none⟩) 2 [UInt8.ofNat (N / 256), UInt8.ofNat (N % 256)] from by
            have h := src_all (a := [UInt8.ofNat (N / 256), UInt8.ofNat (N % 256)]) (Blk.new wr 5 _)
            rw [show cA [UInt8.ofNat (N / 256), UInt8.ofNat (N % 256)] = #[Value.int .u8 ((UInt8.ofNat (N / 256)).toNat : Int), Value.int .u8 ((UInt8.ofNat (N % 256)).toNat : Int)] from rfl, e1, e2] at h
            exact h)
          clear e1 e2
          have HA := Lib.hid (HO.out.but (S := []) ((But.refl _ wr).alloc (.cells #[Value.int .u8 ((N / 256 : Nat) : Int), Value.int .u8 ((N % 256 : Nat) : Int)] 5)) (fun _ _ => by simp))
          go_wp2_with (refine wpList_app_at rfl _ _ _ rfl und8 inf8 p _ _ _ rfl rfl (by exact HA.out) _ _ _ [UInt8.ofNat (N / 256), UInt8.ofNat (N % 256)] rfl (by exact HSR.out) (by have := HXL.out; omega) ?_; intro p3 c3 w3 hat3 hp3 hb3)
          go_roundw
          case rel =>
            have hb0 : But p.toList wr w3 := ((But.refl _ wr).alloc _).trans hb3.out
            exact ⟨k + 1, x ++ [UInt8.ofNat (N / 256), UInt8.ofNat (N % 256)], p3, c3, by omega, by go_num, by have := HXL.out; simp; omega, HZ.out, by simp, hat3.out, fun b hb => (by
              rcases hp3.out with h | h
              · exact HPB.out b (by rw [← h]; exact hb)
              · rw [h] at hb; injection hb with hb; subst hb; simp; omega), HR1.out.but hb0 (HR1.out.ne HO.out), HL1.out.trans (but_below hb0 hsz (fun i hi => HPB.out i (by simpa using hi)))⟩
          case measure => simp [intOf]; omega
        | none =>
          have HH := Lib.hid hh
          rw [dTup]
          clear hh
          go_wp2_with fail
          refine (rdotted_any (str q) _ HQ.out).mono ?_
          rintro e w2 ⟨v2, rfl, hown2, hb2⟩
          rw [show bs (str q) = q from rfl] at hown2 ⊢
          have HB2 := Lib.hid hb2
          have HR2 := Lib.hid (HR1.out.below hb2 (Nat.le_refl _))
          have HL2 := Lib.hid (HL1.out.trans (hb2.mono hsz))
          have hs2 := hb2.size
          have HO2 := Lib.hid (HO.out.but (S := []) (But.of_below hb2 []) (fun _ _ => by simp))
          clear hb2
          cases hd : dotR q with
          | none =>
            have HZ := Lib.hid (show groupsR (bs s) last = none by rw [HD.out, HX.out, HT.out, grpsR, HH.out, hd]; rfl)
            clear hd hown2
            go_wp2
            go_ret2
            exact ⟨_, by rw [HZ.out]; rfl, by rw [HZ.out]; exact ⟨rfl, .inl ⟨rfl, rfl⟩⟩, HL2.out⟩
          | some d =>
            rw [hd] at hown2
            cases last with
            | false =>
              have HZ := Lib.hid (show groupsR (bs s) false = none by rw [HD.out, HX.out, HT.out, grpsR, HH.out, hd]; simp)
              clear hd hown2
              go_wp2
              go_ret2
              exact ⟨_, by rw [HZ.out]; rfl, by rw [HZ.out]; exact ⟨rfl, .inl ⟨rfl, rfl⟩⟩, HL2.out⟩
            | true =>
              by_cases hk1 : k + 1 < n
              · have HZ := Lib.hid (show groupsR (bs s) true = none by
                  rw [HD.out, HX.out, HT.out, grpsR, HH.out, hd]
                  dsimp only
                  rw [if_neg (fun h => HE.out.1 h.2 hk1)]
                  rfl)
                have hki : (k : Int) < (n : Int) - 1 := by omega
                clear hd hown2
                go_wp2
                go_ret2
                exact ⟨_, by rw [HZ.out]; rfl, by rw [HZ.out]; exact ⟨rfl, .inl ⟨rfl, rfl⟩⟩, HL2.out⟩
              · have HZ := Lib.hid (show grpsR true (splitS 58 (bs s)) = (grpsR true ((splitS 58 (bs s)).drop (k + 1))).map ((x ++ d) ++ ·) by
                  have he := HE.out.2 hk1
                  rw [HX.out, HT.out, he, grps_end HH.out hd]
                  exact nil_of_some)
                have hki : ¬ (k : Int) < (n : Int) - 1 := by omega
                have hdl : d.length = 4 := by
                  have h := hd
                  rw [dotR_eq] at h
                  exact dotS_len 4 _ _ h
                obtain ⟨A2, c2, rfl, hc2, hsrc⟩ := hown2.src
                simp only [Option.getD_some] at hc2 hsrc ⊢
                rw [hdl] at hc2 hsrc
                have HS2 := Lib.hid hsrc
                simp only [hdl]
                clear hd hown2 hsrc hk1
                go_wp2_with (refine wpList_app_at rfl _ _ _ rfl und8 inf8 p _ _ _ rfl rfl (by exact HO2.out) _ _ _ d rfl (by exact HS2.out) (by have := HXL.out; omega) ?_; intro p3 c3 w3 hat3 hp3 hb3)
                go_roundw
                case rel =>
                  exact ⟨k + 1, x ++ d, p3, c3, by omega, by go_num, by have := HXL.out; simp; omega, HZ.out, by simp [hdl], hat3.out, fun b hb => (by
                    rcases hp3.out with h | h
                    · exact HPB.out b (by rw [← h]; exact hb)
                    · rw [h] at hb; injection hb with hb; subst hb; omega), HR2.out.but hb3.out (HR2.out.ne HO2.out), HL2.out.trans (but_below hb3.out (by omega) (fun i hi => HPB.out i (by simpa using hi)))⟩
                case measure => simp [intOf]; omega
      · obtain rfl : k = n := by omega
        rw [List.drop_of_length_le (by omega)] at HX
        have HZ := Lib.hid (show groupsR (bs s) last = some x by rw [HD.out, HX.out]; simp [grpsR])
        go_wp2
        go_ret2
        exact ⟨_, by rw [HZ.out]; rfl, by rw [HZ.out]; exact at_own HO.out HPB.out, HL1.out⟩
end Go.Proofs.YtgbhnjkigjecmaaGreatDoor.Ad
