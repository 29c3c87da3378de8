/-
  'In which order Cidrs were added does not matter', over this seat's translation: the walk.
-/
import Derived.Test.YtgeebdogjpgeiaaDoorAdSmall
import Derived.Test.YtgeebdogjpgeiaaDoorAdOrderP
import Derived.Test.YtgeebdogjpgeiaaDoorAdLess
import Derived.Test.YtgeebdogjpgeiaaDoorAdSame
import Derived.Test.YtgeebdogjpgeiaaDoorLiftCidrs
namespace Go.Proofs.YtgeebdogjpgeiaaDoor.Ad
open Go.RowKit Go.Maps Go.Proofs.YtgeebdogjpgeiaaDoor.Wd Go.Proofs.YtgeebdogjpgeiaaDoor.Lift

theorem SetIs.other {w w' : World} {s b n b' : Nat} {D : DataW Unit} {L : List C} (h : SetIs w s b n D L) (hg : w.grownBy w' (some b')) (h1 : s ≠ b') (h2 : b ≠ b') : SetIs w' s b n D L where
  cell := h.cell.grown hg (fun e => h1 (by injection e))
  own := h.own.kept hg (fun e => h2 (by injection e))
  has := h.has
  ok := h.ok
  nodup := h.nodup
  size := h.size
structure Loc2 (w0 w : World) (s1 b1 n1 : Nat) (L1 : List C) (s2 b2 n2 : Nat) (L2 : List C) : Prop where
  low : Below w0.heap.size w0 w
  x : ∃ D, SetIs w s1 b1 n1 D L1
  y : ∃ D, SetIs w s2 b2 n2 D L2
  lx : w0.heap.size ≤ b1
  ly : w0.heap.size ≤ b2
  n1 : s1 ≠ b2
  n2 : s2 ≠ b1
  n3 : b1 ≠ b2
section
variable {w0 w w' : World} {s1 b1 n1 : Nat} {L1 : List C} {s2 b2 n2 : Nat} {L2 : List C}
theorem Loc2.on (h : Loc2 w0 w s1 b1 n1 L1 s2 b2 n2 L2) (hb : Below w.heap.size w w') : Loc2 w0 w' s1 b1 n1 L1 s2 b2 n2 L2 :=
  ⟨h.low.trans (hb.mono h.low.size), by obtain ⟨D, hD⟩ := h.x; exact ⟨D, hD.on hb⟩, by obtain ⟨D, hD⟩ := h.y; exact ⟨D, hD.on hb⟩, h.lx, h.ly, h.n1, h.n2, h.n3⟩
theorem Loc2.putx (h : Loc2 w0 w s1 b1 n1 L1 s2 b2 n2 L2) {m : Nat} {L' : List C} (hs : ∃ D', SetIs w' s1 b1 m D' L') (hg : w.grownBy w' (some b1)) : Loc2 w0 w' s1 b1 m L' s2 b2 n2 L2 :=
  ⟨below_of_only h.low hg h.low.size h.lx, hs, by obtain ⟨D, hD⟩ := h.y; exact ⟨D, hD.other hg h.n2 (fun e => h.n3 e.symm)⟩, h.lx, h.ly, h.n1, h.n2, h.n3⟩
theorem Loc2.puty (h : Loc2 w0 w s1 b1 n1 L1 s2 b2 n2 L2) {m : Nat} {L' : List C} (hs : ∃ D', SetIs w' s2 b2 m D' L') (hg : w.grownBy w' (some b2)) : Loc2 w0 w' s1 b1 n1 L1 s2 b2 m L' :=
  ⟨below_of_only h.low hg h.low.size h.ly, by obtain ⟨D, hD⟩ := h.x; exact ⟨D, hD.other hg h.n1 h.n3⟩, hs, h.lx, h.ly, h.n1, h.n2, h.n3⟩
end

structure S3 (w0 : World) (s1 b1 n1 : Nat) (L1 : List C) (s2 b2 n2 : Nat) (L2 : List C) (g : Nat) (M : List C16) (w : World) : Prop where
  loc : Loc2 w0 w s1 b1 n1 L1 s2 b2 n2 L2
  row : RowC w g M
  lt : g < w.heap.size
theorem S3.on {w0 w w' : World} {s1 b1 n1 : Nat} {L1 : List C} {s2 b2 n2 : Nat} {L2 : List C} {g : Nat} {M : List C16} (h : S3 w0 s1 b1 n1 L1 s2 b2 n2 L2 g M w) (hb : Below w.heap.size w w') : S3 w0 s1 b1 n1 L1 s2 b2 n2 L2 g M w' :=
  ⟨h.loc.on hb, h.row.below hb h.lt, Nat.lt_of_lt_of_le h.lt hb.size⟩
theorem order_next {M : List C16} (hio : InOrder M) (hnd : (vals M).Nodup) {m : Nat} {p c : C16} (hp : M[m]? = some p) (hc : M[m + 1]? = some c) : Ahead p.1 c.1 := by
  obtain ⟨hm, e1⟩ := List.getElem?_eq_some_iff.1 hp
  obtain ⟨hk, e2⟩ := List.getElem?_eq_some_iff.1 hc
  have h1 := List.pairwise_iff_getElem.1 hio m (m + 1) hm hk (by omega)
  rw [e1, e2] at h1
  refine Classical.byContradiction fun hn => ?_
  have he := tot16 p c ((lt16_no _ _).2 hn) h1
  have h2 := List.pairwise_iff_getElem.1 hnd m (m + 1) (by simpa [vals] using hm) (by simpa [vals] using hk) (by omega)
  apply h2
  simp only [vals, List.getElem_map, e1, e2, he]
theorem setS_perm (l : List C) (h1 : (setS l).Nodup) (h2 : (setS l.reverse).Nodup) : (setS l).Perm (setS l.reverse) :=
  (List.perm_ext_iff_of_nodup h1 h2).2 fun c => by rw [setS_mem, setS_mem, List.mem_reverse]

set_option linter.unusedSimpArgs false in
set_option maxRecDepth 100000 in
set_option maxHeartbeats 4000000 in
theorem order_walk (W : World) (A : Option Addr) (n cap : Nat) (l : List C) (hn : l.length = n) (hcap : n ≤ cap) (hmx : cap ≤ maxLen) (hok : ∀ c ∈ l, OkC c) (hA : SrcC W A l) (hE : Env W.heap.size W) :
    Calls Tryd.prog 6 #[.slice A n cap] W fun e w' => e = .returned (.bool true) ∧ Below W.heap.size W w' := by
  have HA := Lib.hid hA
  have HK := Lib.hid hok
  clear hA hok
  have hmx2 : n ≤ 9223372036854775807 := by unfold maxLen at hmx; omega
  go_enter Tryd.func6, Tryd.ntmps6
  go_wp2_with fail
  refine (small_any _ hE).mono ?_
  rintro e w2 ⟨rfl, hb2⟩
  have HL := Lib.hid hb2
  clear hb2 hE
  go_wp2_with fail
  refine (new_any _).mono ?_
  rintro e w3 ⟨rfl, hs, hb⟩
  have HX := Lib.hid hs
  have HL3 := Lib.hid (HL.out.trans (hb.mono HL.out.size))
  clear hb
  generalize hs1 : w2.heap.size + 1 = s1 at *
  generalize hb1 : w2.heap.size = b1 at *
  go_wp2_with fail
  refine (new_any _).mono ?_
  rintro e w4 ⟨rfl, hs', hb⟩
  have hlt1 := HX.out.cell.lt
  have hlt2 := HX.out.own.lt
  have hsz := HL.out.size
  have hsz3 := HL3.out.size
  have E : Loc2 W w4 s1 b1 0 (setS (l.take 0)) (w3.heap.size + 1) w3.heap.size 0 (setS (l.reverse.take 0)) :=
    ⟨HL3.out.trans (hb.mono HL3.out.size), ⟨_, HX.out.on hb⟩, ⟨_, hs'⟩, by omega, by omega, by omega, by omega, by omega⟩
  clear hs hs' hb HX HL HL3 hlt1 hlt2 hsz hsz3 hs1 hb1
  generalize w3.heap.size + 1 = s2 at *
  generalize w3.heap.size = b2 at *
  clear w2 w3
  by_cases h60 : 60 < n
  · have hd : decide ((60 : Int) < (n : Int)) = true := decide_eq_true (by omega)
    have HF := Lib.hid E.low
    clear E
    go_wp2_with fail
    go_ret
    exact ⟨rfl, HF.out⟩
  · have hd : decide ((60 : Int) < (n : Int)) = false := decide_eq_false (by omega)
    go_wp2_with fail
    go_loopw [6, 7] (fun cn i w' => ∃ k : Nat, k ≤ n ∧ cn = .int .i64 ((setS (l.take k)).length : Int) ∧ i = .int .i64 (k : Int) ∧ (setS (l.take k)).length ≤ k ∧ Loc2 W w' s1 b1 k (setS (l.take k)) s2 b2 k (setS (l.reverse.take k))) (fun _ i _ => n - (intOf i).toNat)
    case atStart => exact ⟨0, Nat.zero_le _, rfl, rfl, Nat.zero_le _, E⟩
    case round =>
      obtain ⟨k, hk, rfl, rfl, hle, E⟩ := hrel
      by_cases hkn : k < n
      · have hd2 : decide ((k : Int) < (n : Int)) = true := decide_eq_true (by omega)
        obtain ⟨j, hj⟩ : ∃ j, n = k + 1 + j := ⟨n - 1 - k, by omega⟩
        obtain ⟨c, hc⟩ : ∃ c, l[k]? = some c := ⟨_, List.getElem?_eq_getElem (by omega)⟩
        obtain ⟨d, hd4⟩ : ∃ d, l[j]? = some d := ⟨_, List.getElem?_eq_getElem (by omega)⟩
        have hrev : l.reverse[k]? = some d := by
          rw [List.getElem?_reverse (by omega), show l.length - 1 - k = j by omega]; exact hd4
        have hcm : c ∈ l := List.mem_of_getElem? hc
        have hok := HK.out c hcm
        have hokd := HK.out d (List.mem_of_getElem? hd4)
        have hln : l ≠ [] := by intro h; rw [h] at hcm; cases hcm
        have HX := Lib.hid (setS_next l k c hc)
        have HY := Lib.hid (setS_next l.reverse k d hrev)
        have HC := Lib.hid hc
        have HD := Lib.hid hd4
        have HN := Lib.hid (addL_len (setS (l.take k)) c)
        have hsub : ((n : Int) - 1 - (k : Int)) = (j : Int) := by omega
        have hjn : j < n := by omega
        clear hj
        obtain ⟨g, o, hAe, hgl, hrow⟩ := (HA.out.below E.low (Nat.le_refl _)) hln
        have hr := hrow k c hc
        clear hrow hc hd4 hrev hcm
        subst hAe
        have hi17 : (Tryd.prog.info? 25).map (·.size) = some (cL c).length := by rw [cL_len c hok.len]; exact info17
        have hi17d : (Tryd.prog.info? 25).map (·.size) = some (cL d).length := by rw [cL_len d hokd.len]; exact info17
        go_wp2_with (refine wpList_load_mid rfl 25 _ rfl g (o + k * 17) (by first | rfl | (go_simp; done)) (cL c) _ hr und17 rfl hi17 ?_)
        obtain ⟨D, hD⟩ := E.x
        show Calls _ _ #[_, .agg c.cells] _ _
        refine (sadd_any c hok _ hD (by unfold maxLen; omega)).mono ?_
        rintro e w5 ⟨rfl, hs, hg⟩
        rw [← HX.out] at hs
        replace E := E.putx hs hg
        clear hs hg hD D hr
        have hr2 : w5.rangeAt g (o + j * 17) (cL d) := by
          obtain ⟨g', o', hAe, _, hrow⟩ := (HA.out.below E.low (Nat.le_refl _)) hln
          injection hAe with hAe
          injection hAe with h1 h2
          subst h1 h2
          exact hrow j d HD.out
        cases hB : addB (setS (l.take k)) c with
        | true =>
          have hlen2 : (setS (l.take (k + 1))).length = (setS (l.take k)).length + 1 := by rw [HX.out, HN.out, hB]; rfl
          clear hB
          generalize hN : (setS (l.take k)).length = N at *
          clear hN
          go_wp2_with (refine wpList_load_mid rfl 25 _ rfl g (o + j * 17) (by first | rfl | (go_simp; done)) (cL d) _ hr2 und17 rfl hi17d ?_)
          obtain ⟨D2, hD2⟩ := E.y
          show Calls _ _ #[_, .agg d.cells] _ _
          refine (sadd_any d hokd _ hD2 (by unfold maxLen; omega)).mono ?_
          rintro e w6 ⟨rfl, hs, hg⟩
          rw [← HY.out] at hs
          replace E := E.puty hs hg
          clear hs hg hD2 D2
          go_wp2_with fail
          go_roundw
          case rel => exact ⟨k + 1, by omega, by rw [hlen2]; go_num, by go_num, by omega, E⟩
          case measure => simp [intOf]; omega
        | false =>
          have hlen2 : (setS (l.take (k + 1))).length = (setS (l.take k)).length := by rw [HX.out, HN.out, hB]; rfl
          clear hB
          generalize hN : (setS (l.take k)).length = N at *
          clear hN
          go_wp2_with (refine wpList_load_mid rfl 25 _ rfl g (o + j * 17) (by first | rfl | (go_simp; done)) (cL d) _ hr2 und17 rfl hi17d ?_)
          obtain ⟨D2, hD2⟩ := E.y
          show Calls _ _ #[_, .agg d.cells] _ _
          refine (sadd_any d hokd _ hD2 (by unfold maxLen; omega)).mono ?_
          rintro e w6 ⟨rfl, hs, hg⟩
          rw [← HY.out] at hs
          replace E := E.puty hs hg
          clear hs hg hD2 D2
          go_wp2_with fail
          go_roundw
          case rel => exact ⟨k + 1, by omega, by rw [hlen2], by go_num, by omega, E⟩
          case measure => simp [intOf]; omega
      · have hd2 : decide ((k : Int) < (n : Int)) = false := decide_eq_false (by omega)
        obtain rfl : n = k := by omega
        rw [List.take_of_length_le (show l.length ≤ n by omega), List.take_of_length_le (show l.reverse.length ≤ n by rw [List.length_reverse]; omega)] at E
        rw [List.take_of_length_le (show l.length ≤ n by omega)] at hle
        rw [List.take_of_length_le (show l.length ≤ n by omega)]
        generalize hN : (setS l).length = N at *
        go_wp2_with fail
        obtain ⟨D, hD⟩ := E.x
        have HND := Lib.hid hD.nodup
        refine (sall_any (by omega) _ hD).mono ?_
        rintro e w5 ⟨g, cap1, M, rfl, hperm, hio, hrow, hge, hgl, hb⟩
        have hMN : M.length = N := by rw [← hN, ← hperm.length_eq]; simp [vals]
        have HP := Lib.hid (And.intro hperm hio)
        have HSN := Lib.hid hN
        replace E := E.on hb
        clear hD D hge hb hperm hio hN
        have E3 : S3 W s1 b1 n (setS l) s2 b2 n (setS l.reverse) g M w5 := ⟨E, hrow, hgl⟩
        clear E hrow hgl
        go_wp2_with fail
        go_loopw [9] (fun i w' => ∃ k : Nat, k ≤ N ∧ i = .int .i64 (k : Int) ∧ S3 W s1 b1 n (setS l) s2 b2 n (setS l.reverse) g M w') (fun i _ => N - (intOf i).toNat)
        case atStart => exact ⟨0, Nat.zero_le _, rfl, E3⟩
        case round =>
          obtain ⟨k, hk, rfl, E⟩ := hrel
          by_cases hkn : k < N
          · have hd2 : decide ((k : Int) < (N : Int)) = true := decide_eq_true (by omega)
            obtain ⟨c, hc⟩ : ∃ c, M[k]? = some c := ⟨_, List.getElem?_eq_getElem (by omega)⟩
            have hcm : c.1 ∈ vals M := List.mem_map.2 ⟨c, List.mem_of_getElem? hc, rfl⟩
            have HRT := Lib.hid ((setS_mem l c.1).1 (HP.out.1.mem_iff.1 hcm)).2
            have HI := Lib.hid (show (Tryd.prog.info? 25).map (·.size) = some (cL c.1).length from by rw [cL_len c.1 c.2]; exact info17)
            have HE := Lib.hid (E.on (Below.refl _ _).drew)
            clear hcm E
            cases k with
            | zero =>
              have HC := Lib.hid hc
              clear hc
              go_wp2_with fail
              refine wp_region_held_drew (S := S3 W s1 b1 n (setS l) s2 b2 n (setS l.reverse) g M) (by kernel_rfl) HE.out (fun h0 => ?_)
              refine hd_take 0 (some 65) (.slice (some ⟨g, 0, none⟩) N cap1) rfl rfl (by kernel_rfl) (by kernel_rfl) (by kernel_rfl) (fun _ _ _ h => h) (Or.inl ⟨by rfl, fun w hw => by first | (go_simp; done) | (go_simp; intro hbad; omega)⟩) h0 ?_
              simp only [Act.put, List.setIfInBounds_toArray, List.set_cons_zero, List.set_cons_succ]
              refine hd_take 1 (some 66) (.int .i64 0) rfl rfl (by kernel_rfl) (by kernel_rfl) (by kernel_rfl) (fun _ _ _ h => h) (Or.inl ⟨by rfl, fun w hw => by first | (go_simp; done) | (go_simp; intro hbad; omega)⟩) h0 ?_
              simp only [Act.put, List.setIfInBounds_toArray, List.set_cons_zero, List.set_cons_succ]
              refine hd_take 2 (some 67) (.pointer (some ⟨g, 0 * 17, none⟩)) rfl rfl (by kernel_rfl) (by kernel_rfl) (by kernel_rfl) (fun _ _ _ h => h) (Or.inl ⟨by rfl, fun w hw => by first | (go_simp; done) | (go_simp; intro hbad; omega)⟩) h0 ?_
              simp only [Act.put, List.setIfInBounds_toArray, List.set_cons_zero, List.set_cons_succ]
              refine hd_take 3 (some 68) (.agg c.1.cells) rfl rfl (by kernel_rfl) (by kernel_rfl) (by kernel_rfl) (fun _ _ _ h => h) (yieldsIf_load_mid (by rfl) _ _ rfl g (0 * 17) rfl (cL c.1) _ (fun _ h => h.row 0 c HC.out) und17 rfl HI.out) h0 ?_
              simp only [Act.put, List.setIfInBounds_toArray, List.set_cons_zero, List.set_cons_succ]
              refine wpAnyH_ready (rs := [4]) (by kernel_rfl) (by simp) (AllReadyH.cons rfl (fun K hK => ?_) AllReadyH.nil)
              go_simp
              go_wp2_with (go_at_call 10; refine (right_any c.1 c.2 _).mono ?_; rintro e x5 ⟨rfl, hb2⟩; rw [HRT.out]; have HX := Lib.hid (h0.on hb2); clear hb2)
              refine hK.out _ _ HX.out (fun h2 => ?_)
              clear hK K HX h0
              refine hd_take 5 (some 70) (.bool false) rfl rfl (by kernel_rfl) (by kernel_rfl) (by kernel_rfl) (fun _ _ _ h => h) (Or.inl ⟨by rfl, fun w hw => by first | (go_simp; done) | (go_simp; intro hbad; omega)⟩) h2 ?_
              simp only [Act.put, List.setIfInBounds_toArray, List.set_cons_zero, List.set_cons_succ]
              refine hd_take 6 (some 71) (.bool false) rfl rfl (by kernel_rfl) (by kernel_rfl) (by kernel_rfl) (fun _ _ _ h => h) (Or.inl ⟨by rfl, fun w hw => by first | (go_simp; done) | (go_simp; intro hbad; omega)⟩) h2 ?_
              simp only [Act.put, List.setIfInBounds_toArray, List.set_cons_zero, List.set_cons_succ]
              refine hd_take 7 (some 72) (.int .i64 0) rfl rfl (by kernel_rfl) (by kernel_rfl) (by kernel_rfl) (fun _ _ _ h => h) (Or.inl ⟨by rfl, fun w hw => by first | (go_simp; done) | (go_simp; intro hbad; omega)⟩) h2 ?_
              simp only [Act.put, List.setIfInBounds_toArray, List.set_cons_zero, List.set_cons_succ]
              refine hd_take 8 (some 73) (.bool false) rfl rfl (by kernel_rfl) (by kernel_rfl) (by kernel_rfl) (fun _ _ _ h => h) (Or.inl ⟨by rfl, fun w hw => by first | (go_simp; done) | (go_simp; intro hbad; omega)⟩) h2 ?_
              simp only [Act.put, List.setIfInBounds_toArray, List.set_cons_zero, List.set_cons_succ]
              refine hd_take 9 (some 74) (.bool false) rfl rfl (by kernel_rfl) (by kernel_rfl) (by kernel_rfl) (fun _ _ _ h => h) (Or.inl ⟨by rfl, fun w hw => by first | (go_simp; done) | (go_simp; intro hbad; omega)⟩) h2 ?_
              simp only [Act.put, List.setIfInBounds_toArray, List.set_cons_zero, List.set_cons_succ]
              refine hd_take 10 (some 75) (undef) rfl rfl (by kernel_rfl) (by kernel_rfl) (by kernel_rfl) (fun _ _ _ h => h) (Or.inr ⟨by rfl, rfl⟩) h2 ?_
              simp only [Act.put, List.setIfInBounds_toArray, List.set_cons_zero, List.set_cons_succ]
              refine hd_take 11 (some 76) (undef) rfl rfl (by kernel_rfl) (by kernel_rfl) (by kernel_rfl) (fun _ _ _ h => h) (Or.inr ⟨by rfl, rfl⟩) h2 ?_
              simp only [Act.put, List.setIfInBounds_toArray, List.set_cons_zero, List.set_cons_succ]
              refine hd_take 12 (some 77) (undef) rfl rfl (by kernel_rfl) (by kernel_rfl) (by kernel_rfl) (fun _ _ _ h => h) (Or.inr ⟨by rfl, rfl⟩) h2 ?_
              simp only [Act.put, List.setIfInBounds_toArray, List.set_cons_zero, List.set_cons_succ]
              refine hd_take 13 (some 78) (undef) rfl rfl (by kernel_rfl) (by kernel_rfl) (by kernel_rfl) (fun _ _ _ h => h) (Or.inr ⟨by rfl, rfl⟩) h2 ?_
              simp only [Act.put, List.setIfInBounds_toArray, List.set_cons_zero, List.set_cons_succ]
              refine hd_take 14 (some 79) (undef) rfl rfl (by kernel_rfl) (by kernel_rfl) (by kernel_rfl) (fun _ _ _ h => h) (Or.inr ⟨by rfl, rfl⟩) h2 ?_
              simp only [Act.put, List.setIfInBounds_toArray, List.set_cons_zero, List.set_cons_succ]
              refine hd_take 15 (some 80) (undef) rfl rfl (by kernel_rfl) (by kernel_rfl) (by kernel_rfl) (fun _ _ _ h => h) (Or.inr ⟨by rfl, rfl⟩) h2 ?_
              simp only [Act.put, List.setIfInBounds_toArray, List.set_cons_zero, List.set_cons_succ]
              refine hd_take 16 (some 81) (undef) rfl rfl (by kernel_rfl) (by kernel_rfl) (by kernel_rfl) (fun _ _ _ h => h) (Or.inr ⟨by rfl, rfl⟩) h2 ?_
              simp only [Act.put, List.setIfInBounds_toArray, List.set_cons_zero, List.set_cons_succ]
              refine hd_take 17 (some 82) (undef) rfl rfl (by kernel_rfl) (by kernel_rfl) (by kernel_rfl) (fun _ _ _ h => h) (Or.inr ⟨by rfl, rfl⟩) h2 ?_
              simp only [Act.put, List.setIfInBounds_toArray, List.set_cons_zero, List.set_cons_succ]
              refine hd_take 18 (some 83) (undef) rfl rfl (by kernel_rfl) (by kernel_rfl) (by kernel_rfl) (fun _ _ _ h => h) (Or.inr ⟨by rfl, rfl⟩) h2 ?_
              simp only [Act.put, List.setIfInBounds_toArray, List.set_cons_zero, List.set_cons_succ]
              refine hd_take 19 (some 84) (undef) rfl rfl (by kernel_rfl) (by kernel_rfl) (by kernel_rfl) (fun _ _ _ h => h) (Or.inr ⟨by rfl, rfl⟩) h2 ?_
              simp only [Act.put, List.setIfInBounds_toArray, List.set_cons_zero, List.set_cons_succ]
              refine hd_take 20 (some 85) (undef) rfl rfl (by kernel_rfl) (by kernel_rfl) (by kernel_rfl) (fun _ _ _ h => h) (Or.inr ⟨by rfl, rfl⟩) h2 ?_
              simp only [Act.put, List.setIfInBounds_toArray, List.set_cons_zero, List.set_cons_succ]
              refine hd_take 21 (some 86) (.bool false) rfl rfl (by kernel_rfl) (by kernel_rfl) (by kernel_rfl) (fun _ _ _ h => h) (Or.inl ⟨by rfl, fun w hw => by first | (go_simp; done) | (go_simp; intro hbad; omega)⟩) h2 ?_
              simp only [Act.put, List.setIfInBounds_toArray, List.set_cons_zero, List.set_cons_succ]
              refine hd_take 22 (some 87) (.bool false) rfl rfl (by kernel_rfl) (by kernel_rfl) (by kernel_rfl) (fun _ _ _ h => h) (Or.inl ⟨by rfl, fun w hw => by first | (go_simp; done) | (go_simp; intro hbad; omega)⟩) h2 ?_
              simp only [Act.put, List.setIfInBounds_toArray, List.set_cons_zero, List.set_cons_succ]
              refine wpAnyH_done (by kernel_rfl) ?_ _
              have HZ := Lib.hid h2
              clear h2 HE
              go_wp2_with fail
              go_roundw
              case rel => exact ⟨0 + 1, by omega, by go_num, HZ.out⟩
              case measure => simp [intOf]; omega
            | succ m =>
              obtain ⟨p, hp⟩ : ∃ p, M[m]? = some p := ⟨_, List.getElem?_eq_getElem (by omega)⟩
              have hwm : IntKind.i64.wrap (m : Int) = (m : Int) := by
                have hm60 : m ≤ 60 := by omega
                simp [IntKind.wrap, IntKind.bits, IntKind.signed]; omega
              have HAH := Lib.hid (order_next HP.out.2 (HP.out.1.nodup_iff.2 HND.out) hp hc)
              have HIp := Lib.hid (show (Tryd.prog.info? 25).map (·.size) = some (cL p.1).length from by rw [cL_len p.1 p.2]; exact info17)
              have HC := Lib.hid hc
              have HPR := Lib.hid hp
              clear hc hp
              go_wp2_with fail
              refine wp_region_held_drew (S := S3 W s1 b1 n (setS l) s2 b2 n (setS l.reverse) g M) (by kernel_rfl) HE.out (fun h0 => ?_)
              refine hd_take 0 (some 65) (.slice (some ⟨g, 0, none⟩) N cap1) rfl rfl (by kernel_rfl) (by kernel_rfl) (by kernel_rfl) (fun _ _ _ h => h) (Or.inl ⟨by rfl, fun w hw => by first | (go_simp; done) | (go_simp; intro hbad; omega)⟩) h0 ?_
              simp only [Act.put, List.setIfInBounds_toArray, List.set_cons_zero, List.set_cons_succ]
              refine hd_take 1 (some 66) (.int .i64 ((m : Int) + 1)) rfl rfl (by kernel_rfl) (by kernel_rfl) (by kernel_rfl) (fun _ _ _ h => h) (Or.inl ⟨by rfl, fun w hw => by first | (go_simp; done) | (go_simp; intro hbad; omega)⟩) h0 ?_
              simp only [Act.put, List.setIfInBounds_toArray, List.set_cons_zero, List.set_cons_succ]
              refine hd_take 2 (some 67) (.pointer (some ⟨g, (m + 1) * 17, none⟩)) rfl rfl (by kernel_rfl) (by kernel_rfl) (by kernel_rfl) (fun _ _ _ h => h) (Or.inl ⟨by rfl, fun w hw => by first | (go_simp; done) | (go_simp; intro hbad; omega)⟩) h0 ?_
              simp only [Act.put, List.setIfInBounds_toArray, List.set_cons_zero, List.set_cons_succ]
              refine hd_take 3 (some 68) (.agg c.1.cells) rfl rfl (by kernel_rfl) (by kernel_rfl) (by kernel_rfl) (fun _ _ _ h => h) (yieldsIf_load_mid (by rfl) _ _ rfl g ((m + 1) * 17) rfl (cL c.1) _ (fun _ h => h.row (m + 1) c HC.out) und17 rfl HI.out) h0 ?_
              simp only [Act.put, List.setIfInBounds_toArray, List.set_cons_zero, List.set_cons_succ]
              refine wpAnyH_ready (rs := [4]) (by kernel_rfl) (by simp) (AllReadyH.cons rfl (fun K hK => ?_) AllReadyH.nil)
              go_simp
              go_wp2_with (go_at_call 10; refine (right_any c.1 c.2 _).mono ?_; rintro e x5 ⟨rfl, hb2⟩; rw [HRT.out]; have HX := Lib.hid (h0.on hb2); clear hb2)
              refine hK.out _ _ HX.out (fun h2 => ?_)
              clear hK K HX h0
              refine hd_take 5 (some 70) (.bool false) rfl rfl (by kernel_rfl) (by kernel_rfl) (by kernel_rfl) (fun _ _ _ h => h) (Or.inl ⟨by rfl, fun w hw => by first | (go_simp; done) | (go_simp; intro hbad; omega)⟩) h2 ?_
              simp only [Act.put, List.setIfInBounds_toArray, List.set_cons_zero, List.set_cons_succ]
              refine hd_take 6 (some 71) (.bool false) rfl rfl (by kernel_rfl) (by kernel_rfl) (by kernel_rfl) (fun _ _ _ h => h) (Or.inl ⟨by rfl, fun w hw => by first | (go_simp; done) | (go_simp; intro hbad; omega)⟩) h2 ?_
              simp only [Act.put, List.setIfInBounds_toArray, List.set_cons_zero, List.set_cons_succ]
              refine hd_take 7 (some 72) (.int .i64 ((m : Int) + 1)) rfl rfl (by kernel_rfl) (by kernel_rfl) (by kernel_rfl) (fun _ _ _ h => h) (Or.inl ⟨by rfl, fun w hw => by first | (go_simp; done) | (go_simp; intro hbad; omega)⟩) h2 ?_
              simp only [Act.put, List.setIfInBounds_toArray, List.set_cons_zero, List.set_cons_succ]
              refine hd_take 8 (some 73) (.bool true) rfl rfl (by kernel_rfl) (by kernel_rfl) (by kernel_rfl) (fun _ _ _ h => h) (Or.inl ⟨by rfl, fun w hw => by first | (go_simp; done) | (go_simp; intro hbad; omega)⟩) h2 ?_
              simp only [Act.put, List.setIfInBounds_toArray, List.set_cons_zero, List.set_cons_succ]
              refine hd_take 9 (some 74) (.bool true) rfl rfl (by kernel_rfl) (by kernel_rfl) (by kernel_rfl) (fun _ _ _ h => h) (Or.inl ⟨by rfl, fun w hw => by first | (go_simp; done) | (go_simp; intro hbad; omega)⟩) h2 ?_
              simp only [Act.put, List.setIfInBounds_toArray, List.set_cons_zero, List.set_cons_succ]
              refine hd_take 10 (some 75) (.slice (some ⟨g, 0, none⟩) N cap1) rfl rfl (by kernel_rfl) (by kernel_rfl) (by kernel_rfl) (fun _ _ _ h => h) (Or.inl ⟨by rfl, fun w hw => by first | (go_simp; done) | (go_simp; intro hbad; omega)⟩) h2 ?_
              simp only [Act.put, List.setIfInBounds_toArray, List.set_cons_zero, List.set_cons_succ]
              refine hd_take 11 (some 76) (.int .i64 ((m : Int) + 1)) rfl rfl (by kernel_rfl) (by kernel_rfl) (by kernel_rfl) (fun _ _ _ h => h) (Or.inl ⟨by rfl, fun w hw => by first | (go_simp; done) | (go_simp; intro hbad; omega)⟩) h2 ?_
              simp only [Act.put, List.setIfInBounds_toArray, List.set_cons_zero, List.set_cons_succ]
              refine hd_take 12 (some 77) (.int .i64 (m : Int)) rfl rfl (by kernel_rfl) (by kernel_rfl) (by kernel_rfl) (fun _ _ _ h => h) (Or.inl ⟨by rfl, fun w hw => by first | (go_simp; done) | (go_simp; intro hbad; omega)⟩) h2 ?_
              simp only [Act.put, List.setIfInBounds_toArray, List.set_cons_zero, List.set_cons_succ]
              refine hd_take 13 (some 78) (.pointer (some ⟨g, m * 17, none⟩)) rfl rfl (by kernel_rfl) (by kernel_rfl) (by kernel_rfl) (fun _ _ _ h => h) (Or.inl ⟨by rfl, fun w hw => by first | (go_simp; done) | (go_simp; intro hbad; omega)⟩) h2 ?_
              simp only [Act.put, List.setIfInBounds_toArray, List.set_cons_zero, List.set_cons_succ]
              refine hd_take 14 (some 79) (.agg p.1.cells) rfl rfl (by kernel_rfl) (by kernel_rfl) (by kernel_rfl) (fun _ _ _ h => h) (yieldsIf_load_mid (by rfl) _ _ rfl g (m * 17) rfl (cL p.1) _ (fun _ h => h.row m p HPR.out) und17 rfl HIp.out) h2 ?_
              simp only [Act.put, List.setIfInBounds_toArray, List.set_cons_zero, List.set_cons_succ]
              refine hd_take 15 (some 80) (.slice (some ⟨g, 0, none⟩) N cap1) rfl rfl (by kernel_rfl) (by kernel_rfl) (by kernel_rfl) (fun _ _ _ h => h) (Or.inl ⟨by rfl, fun w hw => by first | (go_simp; done) | (go_simp; intro hbad; omega)⟩) h2 ?_
              simp only [Act.put, List.setIfInBounds_toArray, List.set_cons_zero, List.set_cons_succ]
              refine hd_take 16 (some 81) (.int .i64 ((m : Int) + 1)) rfl rfl (by kernel_rfl) (by kernel_rfl) (by kernel_rfl) (fun _ _ _ h => h) (Or.inl ⟨by rfl, fun w hw => by first | (go_simp; done) | (go_simp; intro hbad; omega)⟩) h2 ?_
              simp only [Act.put, List.setIfInBounds_toArray, List.set_cons_zero, List.set_cons_succ]
              refine hd_take 17 (some 82) (.pointer (some ⟨g, (m + 1) * 17, none⟩)) rfl rfl (by kernel_rfl) (by kernel_rfl) (by kernel_rfl) (fun _ _ _ h => h) (Or.inl ⟨by rfl, fun w hw => by first | (go_simp; done) | (go_simp; intro hbad; omega)⟩) h2 ?_
              simp only [Act.put, List.setIfInBounds_toArray, List.set_cons_zero, List.set_cons_succ]
              refine hd_take 18 (some 83) (.agg c.1.cells) rfl rfl (by kernel_rfl) (by kernel_rfl) (by kernel_rfl) (fun _ _ _ h => h) (yieldsIf_load_mid (by rfl) _ _ rfl g ((m + 1) * 17) rfl (cL c.1) _ (fun _ h => h.row (m + 1) c HC.out) und17 rfl HI.out) h2 ?_
              simp only [Act.put, List.setIfInBounds_toArray, List.set_cons_zero, List.set_cons_succ]
              refine wpAnyH_ready (rs := [19]) (by kernel_rfl) (by simp) (AllReadyH.cons rfl (fun K hK => ?_) AllReadyH.nil)
              go_simp
              go_wp2_with (go_at_call 17; refine (less_any p.1 c.1 p.2 c.2 _).mono ?_; rintro e x6 ⟨⟨rr, rfl, hrr⟩, hb2⟩; obtain rfl : rr = true := hrr.2 HAH.out; have HX := Lib.hid (h2.on hb2); clear hb2 hrr)
              refine hK.out _ _ HX.out (fun h3 => ?_)
              clear hK K HX h2
              refine hd_take 20 (some 85) (.bool false) rfl rfl (by kernel_rfl) (by kernel_rfl) (by kernel_rfl) (fun _ _ _ h => h) (Or.inl ⟨by rfl, fun w hw => by first | (go_simp; done) | (go_simp; intro hbad; omega)⟩) h3 ?_
              simp only [Act.put, List.setIfInBounds_toArray, List.set_cons_zero, List.set_cons_succ]
              refine hd_take 21 (some 86) (.bool false) rfl rfl (by kernel_rfl) (by kernel_rfl) (by kernel_rfl) (fun _ _ _ h => h) (Or.inl ⟨by rfl, fun w hw => by first | (go_simp; done) | (go_simp; intro hbad; omega)⟩) h3 ?_
              simp only [Act.put, List.setIfInBounds_toArray, List.set_cons_zero, List.set_cons_succ]
              refine hd_take 22 (some 87) (.bool false) rfl rfl (by kernel_rfl) (by kernel_rfl) (by kernel_rfl) (fun _ _ _ h => h) (Or.inl ⟨by rfl, fun w hw => by first | (go_simp; done) | (go_simp; intro hbad; omega)⟩) h3 ?_
              simp only [Act.put, List.setIfInBounds_toArray, List.set_cons_zero, List.set_cons_succ]
              refine wpAnyH_done (by kernel_rfl) ?_ _
              have HZ := Lib.hid h3
              clear h3 HE
              go_wp2_with fail
              go_roundw
              case rel => exact ⟨m + 1 + 1, by omega, by go_num, HZ.out⟩
              case measure => simp [intOf]; omega
          · have hd2 : decide ((k : Int) < (N : Int)) = false := decide_eq_false (by omega)
            obtain rfl : k = N := by omega
            obtain ⟨D, hD⟩ := E.loc.y
            have HNY := Lib.hid hD.nodup
            have hly : (setS l.reverse).length ≤ 1000 := by
              rw [← (setS_perm l HND.out HNY.out).length_eq, HSN.out]; omega
            have HQ := Lib.hid (fun w => sall_any hly w (s := s2) (b := b2) (n := n) (D := D))
            have HE := Lib.hid E
            have HDD := Lib.hid hD
            clear E hD
            go_wp2_with fail
            refine (HQ.out _ HDD.out).mono ?_
            rintro e w7 ⟨g2, cap2, M2, rfl, hperm2, hio2, hrow2, hge2, hgl2, hb2⟩
            obtain rfl : M2 = M := inOrder_one M2 M hio2 HP.out.2 ((hperm2.trans (setS_perm l HND.out HNY.out).symm).trans HP.out.1.symm)
            have E7 := HE.out.on hb2
            have hS := same_any M2 (by omega) g g2 cap1 cap2 w7 E7.row hrow2 E7.lt hgl2
            rw [hMN] at hS
            have HL := Lib.hid E7.loc.low
            clear E7 hperm2 hio2 hrow2 hge2 hgl2 hb2
            go_wp2_with (go_at_call 18; refine hS.mono ?_; rintro e w8 ⟨rfl, hb3⟩; have HF := Lib.hid (HL.out.trans (hb3.mono HL.out.size)); clear hb3)
            go_ret
            exact ⟨rfl, HF.out⟩
end Go.Proofs.YtgeebdogjpgeiaaDoor.Ad
