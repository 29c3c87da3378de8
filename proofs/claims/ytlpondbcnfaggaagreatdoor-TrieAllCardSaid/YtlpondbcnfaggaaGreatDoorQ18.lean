/-
  Contract of hagioscoperef03's groups.
-/
import Derived.Test.YtlpondbcnfaggaaGreatDoorQ17
import Derived.Test.YtlpondbcnfaggaaGreatDoorQ06
namespace Go.Proofs.YtlpondbcnfaggaaGreatDoor.Ad
open Go.RowKit Go.Proofs.YtlpondbcnfaggaaGreatDoor.Wd Go.Proofs.YtlpondbcnfaggaaGreatDoor.Asc

def RGrpAt (s : ByteArray) (last : Bool) (w : World) (v i : Value) (w' : World) (g n : Nat) : Prop :=
  ∃ (k : Nat) (x : List UInt8) (p : Option Nat) (c : Nat), k ≤ n ∧ i = .int .i64 k ∧ x.length ≤ 4 * k ∧ grpsR last (splitS 58 (bs s)) = (grpsR last ((splitS 58 (bs s)).drop k)).map (x ++ ·) ∧ v = .slice (ad p) x.length c ∧ At w' p c x ∧ (∀ b, p = some b → w.heap.size ≤ b) ∧ RowS w' g n (splitS 58 (bs s)) ∧ Below w.heap.size w w'
def RGrpPost (s : ByteArray) (last : Bool) (w : World) (e : Ending) (w' : World) : Prop :=
  ∃ v, e = .returned (.tuple #[v, .bool (groupsR (bs s) last).isSome]) ∧ Own w' w.heap.size v ((groupsR (bs s) last).getD []) ∧ Below w.heap.size w w'
theorem nil_of_some {last : Bool} {x d : List UInt8} : (some d : Option (List UInt8)).map (x ++ ·) = (grpsR last []).map ((x ++ d) ++ ·) := by simp [grpsR]
theorem grps_end {q d : List UInt8} (h : hexS q = none) (hd : dotR q = some d) : grpsR true [q] = some d := by unfold grpsR; rw [h, hd]; simp
set_option maxRecDepth 100000 in
set_option maxHeartbeats 4000000 in
theorem rgroups_any (s : ByteArray) (last : Bool) (w : World) (hs : s.size ≤ 4294967290) : Calls Tryz.prog 117 #[.string s, .bool last] w (RGrpPost s last w) := by
  by_cases h0 : s = ⟨#[]⟩
  · subst h0
    have HD := Lib.hid (show groupsR (bs ⟨#[]⟩) last = some [] by rw [groupsR, if_pos]; rfl)
    go_enter Tryz.func117, Tryz.ntmps117
    go_wp2
    go_ret2
    exact ⟨_, by rw [HD.out]; rfl, by rw [HD.out]; exact ⟨rfl, .inl ⟨rfl, rfl⟩⟩, Below.refl _ _⟩
  · have hne : bs s ≠ [] := fun h => h0 (bs_inj h)
    have hne2 : ¬ s.toList = [] := by rw [Lib.toList_data]; exact hne
    have hne1 : s.toList.isEmpty = false := by simpa using hne2
    have HD := Lib.hid (show groupsR (bs s) last = grpsR last (splitS 58 (bs s)) by rw [groupsR, if_neg hne])
    clear hne
    go_enter Tryz.func117, Tryz.ntmps117
    go_wp2_with fail
    refine (rcut_any s 58 _ hs).mono ?_
    rintro e w1 ⟨v, rfl, hown, hb1⟩
    obtain ⟨g, cap, rfl, hg, hcap, hrow⟩ := hown.row (splitS_ne _ _)
    have hln := splitS_len 58 (bs s)
    rw [bs_length] at hln
    have HR := Lib.hid hrow
    have HL := Lib.hid hb1
    clear hown hb1 hrow
    generalize hn : (splitS 58 (bs s)).length = n at *
    go_wp2_with fail
    go_loopw [7, 8] (fun v i w' => RGrpAt s last w v i w' g n) (fun _ i _ => n - (intOf i).toNat)
    case atStart => exact ⟨0, [], none, 0, by omega, rfl, by simp, (by rw [List.drop_zero]; cases grpsR last (splitS 58 (bs s)) <;> rfl), rfl, At.nil _, fun b hb => (by cases hb), HR.out, HL.out⟩
    case round =>
      obtain ⟨k, x, p, c0, hk, rfl, hxl, hx, rfl, hown, hpb, hrow, hbel⟩ := hrel
      have HX := Lib.hid hx
      have HO := Lib.hid hown
      have HPB := Lib.hid hpb
      have HR1 := Lib.hid hrow
      have HL1 := Lib.hid hbel
      have HXL := Lib.hid hxl
      have hsz := hbel.size
      clear hpb hx hown hbel hxl
      by_cases hlt : k < n
      · have hp : (splitS 58 (bs s))[k]? = some ((splitS 58 (bs s))[k]'(by omega)) := List.getElem?_eq_getElem (by omega)
        have hcell := hrow.cell hp
        have hT : (splitS 58 (bs s)).drop k = (splitS 58 (bs s))[k]'(by omega) :: (splitS 58 (bs s)).drop (k + 1) := List.drop_eq_getElem_cons (by omega)
        have hpl := splitS_mem 58 (bs s) _ (List.mem_of_getElem? hp)
        generalize (splitS 58 (bs s))[k]'(by omega) = q at *
        have HT := Lib.hid hT
        have HQ := Lib.hid (show (str q).size ≤ 4294967290 by rw [str_size]; rw [bs_length] at hpl; omega)
        have HE := Lib.hid (show (splitS 58 (bs s)).drop (k + 1) = [] ↔ ¬ k + 1 < n by rw [List.drop_eq_nil_iff, hn]; omega)
        clear hp hT hrow hpl
        go_wp2_with fail
        refine (rhex_any (str q) _ (Nat.le_trans HQ.out (by unfold maxLen; omega))).mono ?_
        rintro e w2 ⟨rfl, rfl⟩
        rw [show bs (str q) = q from rfl]
        cases hh : hexS q with
        | some m =>
          obtain ⟨m0, m1⟩ := hexS_bd hh
          obtain ⟨N, rfl⟩ : ∃ N : Nat, m = (N : Int) := ⟨m.toNat, by omega⟩
          have HZ := Lib.hid (show grpsR last (splitS 58 (bs s)) = (grpsR last ((splitS 58 (bs s)).drop (k + 1))).map ((x ++ [UInt8.ofNat (N / 256), UInt8.ofNat (N % 256)]) ++ ·) by
            rw [HX.out, HT.out, grpsR, hh]
            cases grpsR last ((splitS 58 (bs s)).drop (k + 1)) <;> simp)
          have e1 := fstB N (by omega)
          have e2 := sndB N
          rw [dTup]
          clear hh HT HX
          have HSR := Lib.hid (show Src (wr.alloc (.cells #[Value.int .u8 ((N / 256 : Nat) : Int), Value.int .u8 ((N % 256 : Nat) : Int)] 5)) (some ⟨wr.heap.size, 0, none⟩) 2 [UInt8.ofNat (N / 256), UInt8.ofNat (N % 256)] from by
            have h := src_all (a := [UInt8.ofNat (N / 256), UInt8.ofNat (N % 256)]) (Blk.new wr 5 _)
            rw [show cA [UInt8.ofNat (N / 256), UInt8.ofNat (N % 256)] = #[Value.int .u8 ((UInt8.ofNat (N / 256)).toNat : Int), Value.int .u8 ((UInt8.ofNat (N % 256)).toNat : Int)] from rfl, e1, e2] at h
            exact h)
          clear e1 e2
          have HA := Lib.hid (HO.out.but (S := []) ((But.refl _ wr).alloc (.cells #[Value.int .u8 ((N / 256 : Nat) : Int), Value.int .u8 ((N % 256 : Nat) : Int)] 5)) (fun _ _ => by simp))
          go_wp2_with (refine wpList_app_at rfl _ _ _ rfl und8 inf8 p _ _ _ rfl rfl (by exact HA.out) _ _ _ [UInt8.ofNat (N / 256), UInt8.ofNat (N % 256)] rfl (by exact HSR.out) (by have := HXL.out; omega) ?_; intro p3 c3 w3 hat3 hp3 hb3)
          go_roundw
          case rel =>
            have hb0 : But p.toList wr w3 := ((But.refl _ wr).alloc _).trans hb3.out
            exact ⟨k + 1, x ++ [UInt8.ofNat (N / 256), UInt8.ofNat (N % 256)], p3, c3, by omega, by go_num, by have := HXL.out; simp; omega, HZ.out, by simp, hat3.out, fun b hb => (by
              rcases hp3.out with h | h
              · exact HPB.out b (by rw [← h]; exact hb)
              · rw [h] at hb; injection hb with hb; subst hb; simp; omega), HR1.out.but hb0 (HR1.out.ne HO.out), HL1.out.trans (but_below hb0 hsz (fun i hi => HPB.out i (by simpa using hi)))⟩
          case measure => simp [intOf]; omega
        | none =>
          have HH := Lib.hid hh
          rw [dTup]
          clear hh
          go_wp2_with fail
          refine (rdotted_any (str q) _ HQ.out).mono ?_
          rintro e w2 ⟨v2, rfl, hown2, hb2⟩
          rw [show bs (str q) = q from rfl] at hown2 ⊢
          have HB2 := Lib.hid hb2
          have HR2 := Lib.hid (HR1.out.below hb2 (Nat.le_refl _))
          have HL2 := Lib.hid (HL1.out.trans (hb2.mono hsz))
          have hs2 := hb2.size
          have HO2 := Lib.hid (HO.out.but (S := []) (But.of_below hb2 []) (fun _ _ => by simp))
          clear hb2
          cases hd : dotR q with
          | none =>
            have HZ := Lib.hid (show groupsR (bs s) last = none by rw [HD.out, HX.out, HT.out, grpsR, HH.out, hd]; rfl)
            clear hd hown2
            go_wp2
            go_ret2
            exact ⟨_, by rw [HZ.out]; rfl, by rw [HZ.out]; exact ⟨rfl, .inl ⟨rfl, rfl⟩⟩, HL2.out⟩
          | some d =>
            rw [hd] at hown2
            cases last with
            | false =>
              have HZ := Lib.hid (show groupsR (bs s) false = none by rw [HD.out, HX.out, HT.out, grpsR, HH.out, hd]; simp)
              clear hd hown2
              go_wp2
              go_ret2
              exact ⟨_, by rw [HZ.out]; rfl, by rw [HZ.out]; exact ⟨rfl, .inl ⟨rfl, rfl⟩⟩, HL2.out⟩
            | true =>
              by_cases hk1 : k + 1 < n
              · have HZ := Lib.hid (show groupsR (bs s) true = none by
                  rw [HD.out, HX.out, HT.out, grpsR, HH.out, hd]
                  dsimp only
                  rw [if_neg (fun h => HE.out.1 h.2 hk1)]
                  rfl)
                have hki : (k : Int) < (n : Int) - 1 := by omega
                clear hd hown2
                go_wp2
                go_ret2
                exact ⟨_, by rw [HZ.out]; rfl, by rw [HZ.out]; exact ⟨rfl, .inl ⟨rfl, rfl⟩⟩, HL2.out⟩
              · have HZ := Lib.hid (show grpsR true (splitS 58 (bs s)) = (grpsR true ((splitS 58 (bs s)).drop (k + 1))).map ((x ++ d) ++ ·) by
                  have he := HE.out.2 hk1
                  rw [HX.out, HT.out, he, grps_end HH.out hd]
                  exact nil_of_some)
                have hki : ¬ (k : Int) < (n : Int) - 1 := by omega
                have hdl : d.length = 4 := by
                  have h := hd
                  rw [dotR_eq] at h
                  exact dotS_len 4 _ _ h
                obtain ⟨A2, c2, rfl, hc2, hsrc⟩ := hown2.src
                simp only [Option.getD_some] at hc2 hsrc ⊢
                rw [hdl] at hc2 hsrc
                have HS2 := Lib.hid hsrc
                simp only [hdl]
                clear hd hown2 hsrc hk1
                go_wp2_with (refine wpList_app_at rfl _ _ _ rfl und8 inf8 p _ _ _ rfl rfl (by exact HO2.out) _ _ _ d rfl (by exact HS2.out) (by have := HXL.out; omega) ?_; intro p3 c3 w3 hat3 hp3 hb3)
                go_roundw
                case rel =>
                  exact ⟨k + 1, x ++ d, p3, c3, by omega, by go_num, by have := HXL.out; simp; omega, HZ.out, by simp [hdl], hat3.out, fun b hb => (by
                    rcases hp3.out with h | h
                    · exact HPB.out b (by rw [← h]; exact hb)
                    · rw [h] at hb; injection hb with hb; subst hb; omega), HR2.out.but hb3.out (HR2.out.ne HO2.out), HL2.out.trans (but_below hb3.out (by omega) (fun i hi => HPB.out i (by simpa using hi)))⟩
                case measure => simp [intOf]; omega
      · obtain rfl : k = n := by omega
        rw [List.drop_of_length_le (by omega)] at HX
        have HZ := Lib.hid (show groupsR (bs s) last = some x by rw [HD.out, HX.out]; simp [grpsR])
        go_wp2
        go_ret2
        exact ⟨_, by rw [HZ.out]; rfl, by rw [HZ.out]; exact at_own HO.out HPB.out, HL1.out⟩
end Go.Proofs.YtlpondbcnfaggaaGreatDoor.Ad
