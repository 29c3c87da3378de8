/-
  The document's reading of a Cidr, cut at each '/', is package cidr's. Plain facts, no condition.
-/
import Derived.Test.YtialcnioeeikpaaGreatDoorRfParse
import Derived.Test.YtialcnioeeikpaaGreatDoorRfCidr
import Derived.Test.YtialcnioeeikpaaGreatDoorAdCParse
import Derived.LoopTactic
namespace Go.Proofs.YtialcnioeeikpaaGreatDoor.Ad
open Go.RowKit Go.Proofs.YtialcnioeeikpaaGreatDoor.Wd Go.Proofs.YtialcnioeeikpaaGreatDoor.Asc

theorem dig_free47 {l : List UInt8} {a n : Int} (h : foldv 10 l a = some n) : (47 : UInt8) ∉ l := by
  induction l generalizing a with
  | nil => simp
  | cons c r ih =>
    unfold foldv at h
    cases hc : hexI (c.toNat : Int) with
    | none => rw [hc] at h; cases h
    | some d =>
      rw [hc] at h
      dsimp only at h
      split at h
      · intro hm
        rcases List.mem_cons.1 hm with e | e
        · rw [← e, show hexI (((47 : UInt8).toNat : Nat) : Int) = none by decide] at hc
          cases hc
        · exact ih h e
      · cases h
theorem num_free47 {l : List UInt8} {m n : Int} (h : numS l m = some n) : (47 : UInt8) ∉ l := by
  unfold numS at h
  split at h
  · cases h
  · split at h
    · cases h
    · rename_i k hk
      unfold digitsS at hk
      split at hk
      · cases hk
      · exact dig_free47 hk
theorem num_nil (m : Int) : numS [] m = none := by
  cases h : numS [] m with
  | none => rfl
  | some n =>
    obtain ⟨k, _, _, hk⟩ := num_text [] m n h
    have := txt_pos k
    rw [hk] at this
    simp at this
def moreS (l : List UInt8) : Int := if (58 : UInt8) ∈ l then 0 else 96
def pairC (p q : List UInt8) : Option C := match parseS p with
  | none => none
  | some a => match numS q (128 - moreS p) with
    | none => none
    | some n => some (ofS a (n + moreS p))
theorem pair_none {p q : List UInt8} (h : ∀ m, numS q m = none) : pairC p q = none := by
  unfold pairC
  split
  · rfl
  · rw [h]
theorem cparse_split (l : List UInt8) : cparseS l = match splitS 47 l with | [p, q] => pairC p q | _ => none := by
  rcases first_of (c := 47) l with h | ⟨a, b, rfl, h⟩
  · rw [splitS_free h, cparseS_is, cut_free h]
    dsimp only
    split
    · rfl
    · rw [num_nil]
  · rw [splitS_at h, cparseS_is, cut_at h]
    dsimp only
    have hpair : (match parseS a with
      | none => none
      | some x => match numS b (if 0 ≤ Lib.indexByte a 58 then 128 else 32) with
        | none => none
        | some n => some (ofS x ((if 0 ≤ Lib.indexByte a 58 then 0 else 96) + n))) = pairC a b := by
      unfold pairC moreS
      by_cases h5 : (58 : UInt8) ∈ a
      · have h6 := ib_mem h5
        simp only [if_pos h6, if_pos h5, Int.sub_zero, Int.add_zero, Int.zero_add]
      · have h6 : ¬ (0 : Int) ≤ Lib.indexByte a 58 := by rw [ib_free h5]; decide
        simp only [if_neg h6, if_neg h5]
        rw [show (128 : Int) - 96 = 32 from rfl]
        split
        · rfl
        · split
          · rfl
          · rw [Int.add_comm]
    refine Eq.trans hpair ?_
    rcases first_of (c := 47) b with h2 | ⟨u, v, rfl, h2⟩
    · rw [splitS_free h2]
    · rw [splitS_at h2]
      obtain ⟨x, r, hx⟩ : ∃ x r, splitS 47 v = x :: r := by
        cases h3 : splitS 47 v with
        | nil => exact absurd h3 (splitS_ne _ _)
        | cons x r => exact ⟨x, r, rfl⟩
      rw [hx]
      refine pair_none fun m => ?_
      cases h3 : numS (u ++ 47 :: v) m with
      | none => rfl
      | some n => exact absurd (by simp) (num_free47 h3)
theorem cparse_two {l p q : List UInt8} (h : splitS 47 l = [p, q]) : cparseS l = pairC p q := by rw [cparse_split, h]
theorem cparse_not {l : List UInt8} (h : (splitS 47 l).length ≠ 2) : cparseS l = none := by
  rw [cparse_split]
  split
  · rename_i p q e
    rw [e] at h
    exact absurd rfl h
  · rfl
theorem more_next {l : List UInt8} {k : Nat} {c : UInt8} (h : l[k]? = some c) : moreS (l.take (k + 1)) = if c = 58 then 0 else moreS (l.take k) := by
  unfold moreS
  rw [List.take_add_one, h]
  by_cases hc : c = 58
  · subst hc
    rw [if_pos (by simp), if_pos rfl]
  · rw [if_neg hc]
    by_cases hm : (58 : UInt8) ∈ l.take k
    · rw [if_pos (by simp [hm]), if_pos hm]
    · rw [if_neg (by simp [hm]; exact fun e => hc e.symm), if_neg hm]
end Go.Proofs.YtialcnioeeikpaaGreatDoor.Ad

/-
  Contract of hagioscoperef04.Parse: it answers what package cidr's does.
-/
namespace Go.Proofs.YtialcnioeeikpaaGreatDoor.Ad
open Go.RowKit Go.Proofs.YtialcnioeeikpaaGreatDoor.Wd Go.Proofs.YtialcnioeeikpaaGreatDoor.Asc

theorem two_of {α : Type} {l : List α} (h : l.length = 2) : ∃ a b, l = [a, b] := by
  match l, h with
  | [a, b], _ => exact ⟨a, b, rfl⟩
theorem byte_str (l : List UInt8) : ∃ s : ByteArray, str l = s ∧ bs s = l := ⟨str l, rfl, rfl⟩

set_option linter.unusedSimpArgs false in
set_option maxRecDepth 100000 in
set_option maxHeartbeats 8000000 in
theorem rcparse_any (s : ByteArray) (w : World) (hs : s.size ≤ 1000000) :
    Calls Tryz.prog 6 #[.string s] w (CParsePost (bs s) w) := by
  unfold CParsePost
  go_enter Tryz.func6, Tryz.ntmps6
  go_wp2_with fail
  have hR : Blk (w.alloc (.cells (C.cells ⟨List.replicate 16 0, 0⟩) 25)) w.heap.size 25 (C.cells ⟨List.replicate 16 0, 0⟩) := Blk.new _ _ _
  have hL : Below w.heap.size w (w.alloc (.cells (C.cells ⟨List.replicate 16 0, 0⟩) 25)) := (Below.refl _ _).alloc (Nat.le_refl _) _
  refine (rcut_any s 47 _ (by omega)).mono ?_
  rintro e w1 ⟨v, rfl, hown, hb1⟩
  obtain ⟨g, cap, rfl, hg, hcap, hrow⟩ := hown.row (splitS_ne _ _)
  have R1 := Lib.hid (hR.below hb1 hR.lt)
  have L1 := Lib.hid (hL.trans (hb1.mono hL.size))
  have HR := Lib.hid hrow
  have hln := splitS_len 47 (bs s)
  rw [bs_length] at hln
  have HNot := Lib.hid (fun h => cparse_not (l := bs s) h)
  have HTwo := Lib.hid (fun p q (h : splitS 47 (bs s) = [p, q]) => And.intro (cparse_two h) (And.intro (splitS_mem 47 (bs s) p (by rw [h]; simp)) (splitS_mem 47 (bs s) q (by rw [h]; simp))))
  clear hown hb1 hrow hR hL
  generalize splitS 47 (bs s) = S at *
  obtain ⟨n, hn⟩ : ∃ n, n = S.length := ⟨_, rfl⟩
  have HN := Lib.hid hn
  rw [← hn] at hln hcap
  rw [← hn]
  clear hn
  by_cases h2 : n = 2
  · subst h2
    obtain ⟨p, q, rfl⟩ := two_of HN.out.symm
    obtain ⟨h1, hpl, hql⟩ := HTwo.out p q rfl
    rw [bs_length] at hpl hql
    have HC := Lib.hid h1
    clear HTwo HNot h1
    obtain ⟨s1, hs1, rfl⟩ := byte_str p
    obtain ⟨s2, hs2, rfl⟩ := byte_str q
    have hc0 : w1.cell? ⟨g, 0, none⟩ = some (.string s1) := by rw [HR.out.cell (k := 0) rfl, hs1]
    rw [bs_length] at hpl hql
    clear hs1 hs2
    go_wp2_with fail
    refine (rparse_any s1 _ (by omega)).mono ?_
    rintro e w2 ⟨rfl, hb2⟩
    have R2 := R1.out.below hb2 R1.out.lt
    have L2 := L1.out.trans (hb2.mono L1.out.size)
    have HR2 := HR.out.below hb2 (Nat.le_refl _)
    have HV : Hid (∀ b, parseS (bs s1) = some b → (parseS (bs s1)).getD (List.replicate 16 0) = b) := fun b hb => by rw [hb]; rfl
    have hV16 : ((parseS (bs s1)).getD (List.replicate 16 0)).length = 16 := by
      cases h : parseS (bs s1) with
      | none => rfl
      | some a => exact parseS_len h
    generalize (parseS (bs s1)).getD (List.replicate 16 0) = V at *
    obtain ⟨ok, hok⟩ : ∃ ok, (parseS (bs s1)).isSome = ok := ⟨_, rfl⟩
    rw [hok]
    have HOk := Lib.hid hok
    clear hb2 R1 L1 HR hc0 hok
    go_upto_region 5 with (refine go_st 23 (Blk.new _ _ _) info16 rfl (by rw [cA_size, hV16]) (cA_one _) rfl rfl rfl rfl ?_)
    have hn := new_below w2 23 #[Value.int .u8 0, Value.int .u8 0, Value.int .u8 0, Value.int .u8 0, Value.int .u8 0, Value.int .u8 0, Value.int .u8 0, Value.int .u8 0, Value.int .u8 0, Value.int .u8 0, Value.int .u8 0, Value.int .u8 0, Value.int .u8 0, Value.int .u8 0, Value.int .u8 0, Value.int .u8 0] (cA V)
    have b7 := new_blk w2 23 #[Value.int .u8 0, Value.int .u8 0, Value.int .u8 0, Value.int .u8 0, Value.int .u8 0, Value.int .u8 0, Value.int .u8 0, Value.int .u8 0, Value.int .u8 0, Value.int .u8 0, Value.int .u8 0, Value.int .u8 0, Value.int .u8 0, Value.int .u8 0, Value.int .u8 0, Value.int .u8 0] (cA V)
    generalize (w2.alloc (.cells #[Value.int .u8 0, Value.int .u8 0, Value.int .u8 0, Value.int .u8 0, Value.int .u8 0, Value.int .u8 0, Value.int .u8 0, Value.int .u8 0, Value.int .u8 0, Value.int .u8 0, Value.int .u8 0, Value.int .u8 0, Value.int .u8 0, Value.int .u8 0, Value.int .u8 0, Value.int .u8 0] 23)).setRow w2.heap.size (cA V) = w3 at *
    have R3 := Lib.hid (R2.below hn R2.lt)
    have L3 := Lib.hid (L2.trans (hn.mono L2.size))
    have HR3 := HR2.below hn (Nat.le_refl _)
    have B7 := Lib.hid b7
    have hc0 : w3.cell? ⟨g, 0, none⟩ = some (.string s1) := HR3.cell (k := 0) rfl
    have hc1 : w3.cell? ⟨g, 1, none⟩ = some (.string s2) := HR3.cell (k := 1) rfl
    have H0 := Lib.hid hc0
    have H1 := Lib.hid hc1
    clear R2 L2 HR2 hn b7 HR3 hc0 hc1
    generalize w2.heap.size = A7 at *
    go_wp2_with fail
    go_loopw [7, 8] (fun m i w' => ∃ k : Nat, k ≤ s1.size ∧ i = .int .i64 (k : Int) ∧ m = .int .i64 (moreS ((bs s1).take k)) ∧ w3 = w') (fun _ i _ => s1.size - (intOf i).toNat)
    case atStart => exact ⟨0, Nat.zero_le _, rfl, rfl, rfl⟩
    case round =>
      obtain ⟨k, hk, rfl, rfl, rfl⟩ := hrel
      have hc0 := H0.out
      by_cases hlt : k < s1.size
      · have hki : (k : Int) < (s1.size : Int) := by omega
        have HM := Lib.hid (more_next (l := bs s1) (k := k) (c := s1[k]'hlt) (List.getElem?_eq_getElem (by rw [bs_length]; exact hlt)))
        by_cases hx : s1[k]'hlt = 58
        · have hxi : ((s1[k]'hlt).toNat : Int) = 58 := by rw [hx]; rfl
          rw [if_pos hx] at HM
          clear hx
          go_wp2
          go_roundw
          case rel => exact ⟨k + 1, by omega, by go_num, by rw [HM.out], by first | rfl | trivial⟩
          case measure => simp [intOf]; omega
        · have hxi : ((s1[k]'hlt).toNat : Int) ≠ 58 := fun e => hx (UInt8.toNat.inj (by show _ = 58; omega))
          rw [if_neg hx] at HM
          clear hx
          go_wp2
          go_roundw
          case rel => exact ⟨k + 1, by omega, by go_num, by rw [HM.out], by first | rfl | trivial⟩
          case measure => simp [intOf]; omega
      · obtain rfl : k = s1.size := by omega
        rw [show (bs s1).take s1.size = bs s1 from List.take_of_length_le (by rw [bs_length]; exact Nat.le_refl _)]
        have hm : moreS (bs s1) = 0 ∨ moreS (bs s1) = 96 := by
          unfold moreS
          split
          · exact .inl rfl
          · exact .inr rfl
        have HC2 := Lib.hid (show cparseS (bs s) = pairC (bs s1) (bs s2) from HC.out)
        unfold pairC at HC2
        generalize moreS (bs s1) = mo at *
        have hc1 := H1.out
        have hw1 : IntKind.i64.wrap (128 - mo) = 128 - mo := IntWalk.i64_in _ (by omega)
        clear HC
        go_wp2_with fail
        refine (rnumber_any s2 (128 - mo) _ (by unfold maxLen; omega)).mono ?_
        rintro e w4 ⟨rfl, rfl⟩
        clear hc0 hc1 H0 H1
        cases hp : parseS (bs s1) with
        | none =>
          have hokf : ok = false := by rw [← HOk.out, hp]; rfl
          subst hokf
          have HY := Lib.hid (show cparseS (bs s) = none by rw [HC2.out, hp])
          clear HC2 hp HOk HV
          cases numS (bs s2) (128 - mo) with
          | none =>
            rw [dTup]
            go_wp2_with (first
              | (refine go_bd0 25 _ builtC rfl rfl ?_)
              | (refine go_st 25 R3.out info17 rfl rfl (C_one _) rfl rfl rfl rfl ?_))
            refine ret_two Tryz.results6 (setRow_blk R3.out) und17 rfl info17 rfl rfl rfl ?_ rfl
            exact ⟨by rw [HY.out]; rfl, setRow_below L3.out R3.out (Nat.le_refl _) _⟩
          | some m =>
            rw [dTup]
            go_wp2_with (first
              | (refine go_bd0 25 _ builtC rfl rfl ?_)
              | (refine go_st 25 R3.out info17 rfl rfl (C_one _) rfl rfl rfl rfl ?_))
            refine ret_two Tryz.results6 (setRow_blk R3.out) und17 rfl info17 rfl rfl rfl ?_ rfl
            exact ⟨by rw [HY.out]; rfl, setRow_below L3.out R3.out (Nat.le_refl _) _⟩
        | some a =>
          have hokt : ok = true := by rw [← HOk.out, hp]; rfl
          subst hokt
          obtain rfl := HV.out a hp
          rw [hp] at HC2
          simp only at HC2
          clear hp HOk HV
          cases hnu : numS (bs s2) (128 - mo) with
          | none =>
            have HY := Lib.hid (show cparseS (bs s) = none by rw [HC2.out, hnu])
            rw [dTup]
            clear HC2 hnu
            go_wp2_with (first
              | (refine go_bd0 25 _ builtC rfl rfl ?_)
              | (refine go_st 25 R3.out info17 rfl rfl (C_one _) rfl rfl rfl rfl ?_))
            refine ret_two Tryz.results6 (setRow_blk R3.out) und17 rfl info17 rfl rfl rfl ?_ rfl
            exact ⟨by rw [HY.out]; rfl, setRow_below L3.out R3.out (Nat.le_refl _) _⟩
          | some m =>
            obtain ⟨n0, n1⟩ := numS_bd hnu
            have HY := Lib.hid (show cparseS (bs s) = some (ofS V (m + mo)) by rw [HC2.out, hnu])
            rw [dTup]
            clear HC2 hnu
            have hw2 : IntKind.i64.wrap (m + mo) = m + mo := IntWalk.i64_in _ (by omega)
            have hz := ofS_len V (m + mo)
            rw [hV16] at hz
            go_wp2_with (refine go_ld 23 B7.out und16 rfl info16 (by rw [cA_size, hV16]) rfl rfl rfl ?_)
            refine (rofc_any V hV16 (m + mo) _).mono ?_
            rintro e w6 ⟨rfl, hb6⟩
            have R6 := R3.out.below hb6 R3.out.lt
            have L6 := L3.out.trans (hb6.mono L3.out.size)
            clear hb6
            go_wp2_with (refine go_st 25 R6 info17 rfl (C_size _ hz) (C_one _) rfl rfl rfl rfl ?_)
            refine ret_two Tryz.results6 (setRow_blk R6) und17 rfl info17 (C_size _ hz) rfl rfl ?_ rfl
            exact ⟨by rw [HY.out]; rfl, setRow_below L6 R6 (Nat.le_refl _) _⟩
  · have HY := Lib.hid (show cparseS (bs s) = none from HNot.out (by rw [← HN.out]; exact h2))
    have hni : (n : Int) ≠ 2 := by omega
    clear HNot HTwo
    go_wp2_with (first
      | (refine go_bd0 25 _ builtC rfl rfl ?_)
      | (refine go_st 25 R1.out info17 rfl rfl (C_one _) rfl rfl rfl rfl ?_))
    refine ret_two Tryz.results6 (setRow_blk R1.out) und17 rfl info17 rfl rfl rfl ?_ rfl
    exact ⟨by rw [HY.out]; rfl, setRow_below L1.out R1.out (Nat.le_refl _) _⟩
end Go.Proofs.YtialcnioeeikpaaGreatDoor.Ad
