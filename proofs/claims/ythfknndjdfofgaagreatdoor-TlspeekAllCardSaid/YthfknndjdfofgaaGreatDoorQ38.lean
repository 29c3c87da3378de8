/-
 Contract of hagioscoperef03's groups.
-/
import Derived.Test.YthfknndjdfofgaaGreatDoorQ37
import Derived.Test.YthfknndjdfofgaaGreatDoorQ12
import Derived.Test.YthfknndjdfofgaaGreatDoorQ11
import Derived.Test.YthfknndjdfofgaaGreatDoorQ03
namespace Go.Proofs.YthfknndjdfofgaaGreatDoor.Ad
open Go.RowKit Go.Proofs.YthfknndjdfofgaaGreatDoor.Wd Go.Proofs.YthfknndjdfofgaaGreatDoor.Asc

def RGrpAt (s : ByteArray) (last : Bool) (w : World) (v i : Value) (w' : World) (g n : Nat) : Prop :=
 ∃ (k : Nat) (x : List UInt8) (p : Option Nat) (c : Nat), k ≤ n ∧ i = .int .i64 k ∧ x.length ≤ 4 * k ∧ grpsR last (splitS 58 (bs s)) = (grpsR last ((splitS 58 (bs s)).drop k)).map (x ++ ·) ∧ v = .slice (ad p) x.length c ∧ At w' p c x ∧ (∀ b, p = some b → w.heap.size ≤ b) ∧ RowS w' g n (splitS 58 (bs s)) ∧ Below w.heap.size w w'
def RGrpPost (s : ByteArray) (last : Bool) (w : World) (e : Ending) (w' : World) : Prop :=
 ∃ v, e = .returned (.tuple #[v, .bool (groupsR (bs s) last).isSome]) ∧ Own w' w.heap.size v ((groupsR (bs s) last).getD []) ∧ Below w.heap.size w w'
theorem nil_of_some {last : Bool} {x d : List UInt8} : (some d : Option (List UInt8)).map (x ++ ·) = (grpsR last []).map ((x ++ d) ++ ·) := by simp [grpsR]
theorem grps_end {q d : List UInt8} (h : hexS q = none) (hd : dotR q = some d) : grpsR true [q] = some d := by unfold grpsR; rw [h, hd]; simp
set_option maxRecDepth 100000 in
set_option maxHeartbeats 4000000 in
theorem rgroups_any (s : ByteArray) (last : Bool) (w : World) (hs : s.size ≤ 4294967290) : Calls Tryz.prog 140 #[.string s, .bool last] w (RGrpPost s last w) := by
 by_cases h0 : s = ⟨#[]⟩
 · subst h0
   have HD := Lib.hid (show groupsR (bs ⟨#[]⟩) last = some [] by rw [groupsR, if_pos]; rfl)
   go_enter Tryz.func140, Tryz.ntmps140
   go_wp2
   go_ret2
   exact ⟨_, by rw [HD.out]; rfl, by rw [HD.out]; exact ⟨rfl, .inl ⟨rfl, rfl⟩⟩, Below.refl _ _⟩
 · have hne : bs s ≠ [] := fun h => h0 (bs_inj h)
   have hne2 : ¬ s.toList = [] := by rw [Lib.toList_data]; exact hne
   have hne1 : s.toList.isEmpty = false := by simpa using hne2
   have HD := Lib.hid (show groupsR (bs s) last = grpsR last (splitS 58 (bs s)) by rw [groupsR, if_neg hne])
   clear hne
   go_enter Tryz.func140, Tryz.ntmps140
   go_wp2_with fail
   refine (rcut_any s 58 _ hs).mono ?_
   rintro e w1 ⟨v, rfl, hown, hb1⟩
   obtain ⟨g, cap, rfl, hg, hcap, hrow⟩ := hown.row (splitS_ne _ _)
   have hln := splitS_len 58 (bs s)
   rw [bs_length] at hln
   have HR := Lib.hid hrow
   have HL := Lib.hid hb1
   clear hown hb1 hrow
   generalize hn : (splitS 58 (bs s)).length = n at *
   go_wp2_with fail
   go_loopw [7, 8] (fun v i w' => RGrpAt s last w v i w' g n) (fun _ i _ => n - (intOf i).toNat)
   case atStart => exact ⟨0, [], none, 0, by omega, rfl, by simp, (by rw [List.drop_zero]; cases grpsR last (splitS 58 (bs s)) <;> rfl), rfl, At.nil _, fun b hb => (by cases hb), HR.out, HL.out⟩
   case round =>
     obtain ⟨k, x, p, c0, hk, rfl, hxl, hx, rfl, hown, hpb, hrow, hbel⟩ := hrel
     have HX := Lib.hid hx
     have HO := Lib.hid hown
     have HPB := Lib.hid hpb
     have HR1 := Lib.hid hrow
     have HL1 := Lib.hid hbel
     have HXL := Lib.hid hxl
     have hsz := hbel.size
     clear hpb hx hown hbel hxl
     by_cases hlt : k < n
     · have hp : (splitS 58 (bs s))[k]? = some ((splitS 58 (bs s))[k]'(by omega)) := List.getElem?_eq_getElem (by omega)
       have hcell := hrow.cell hp
       have hT : (splitS 58 (bs s)).drop k = (splitS 58 (bs s))[k]'(by omega) :: (splitS 58 (bs s)).drop (k + 1) := List.drop_eq_getElem_cons (by omega)
       have hpl := splitS_mem 58 (bs s) _ (List.mem_of_getElem? hp)
       generalize (splitS 58 (bs s))[k]'(by omega) = q at *
       have HT := Lib.hid hT
       have HQ := Lib.hid (show (str q).size ≤ 4294967290 by rw [str_size]; rw [bs_length] at hpl; omega)
       have HE := Lib.hid (show (splitS 58 (bs s)).drop (k + 1) = [] ↔ ¬ k + 1 < n by rw [List.drop_eq_nil_iff, hn]; omega)
       clear hp hT hrow hpl
       go_wp2_with fail
       refine (rhex_any (str q) _ (Nat.le_trans HQ.out (by unfold maxLen; omega))).mono ?_
       rintro e w2 ⟨rfl, rfl⟩
       rw [show bs (str q) = q from rfl]
       cases hh : hexS q with
       | some m =>
         obtain ⟨m0, m1⟩ := hexS_bd hh
         obtain ⟨N, rfl⟩ : ∃ N : Nat, m = (N : Int) := ⟨m.toNat, by omega⟩
         have HZ := Lib.hid (show grpsR last (splitS 58 (bs s)) = (grpsR last ((splitS 58 (bs s)).drop (k + 1))).map ((x ++ [UInt8.ofNat (N / 256), UInt8.ofNat (N % 256)]) ++ ·) by
           rw [HX.out, HT.out, grpsR, hh]
           cases grpsR last ((splitS 58 (bs s)).drop (k + 1)) <;> simp)
         have e1 := fstB N (by omega)
         have e2 := sndB N
         rw [dTup]
         clear hh HT HX
         have HSR := Lib.hid (show Src (wr.alloc (.cells #[Value.int .u8 ((N / 256 : Nat) : Int), Value.int .u8 ((N % 256 : Nat) : Int)] 5)) (some ⟨wr.heap.size, 0, none⟩) 2 [UInt8.ofNat (N / 256), UInt8.ofNat (N % 256)] from by
           have h := src_all (a := [UInt8.ofNat (N / 256), UInt8.ofNat (N % 256)]) (Blk.new wr 5 _)
           rw [show cA [UInt8.ofNat (N / 256), UInt8.ofNat (N % 256)] = #[Value.int .u8 ((UInt8.ofNat (N / 256)).toNat : Int), Value.int .u8 ((UInt8.ofNat (N % 256)).toNat : Int)] from rfl, e1, e2] at h
           exact h)
         clear e1 e2
         have HA := Lib.hid (HO.out.but (S := []) ((But.refl _ wr).alloc (.cells #[Value.int .u8 ((N / 256 : Nat) : Int), Value.int .u8 ((N % 256 : Nat) : Int)] 5)) (fun _ _ => by simp))
         go_wp2_with (refine wpList_app_at rfl _ _ _ rfl und8 inf8 p _ _ _ rfl rfl (by exact HA.out) _ _ _ [UInt8.ofNat (N / 256), UInt8.ofNat (N % 256)] rfl (by exact HSR.out) (by have := HXL.out; omega) ?_; intro p3 c3 w3 hat3 hp3 hb3)
         go_roundw
         case rel =>
           have hb0 : But p.toList wr w3 := ((But.refl _ wr).alloc _).trans hb3.out
           exact ⟨k + 1, x ++ [UInt8.ofNat (N / 256), UInt8.ofNat (N % 256)], p3, c3, by omega, by go_num, by have := HXL.out; simp; omega, HZ.out, by simp, hat3.out, fun b hb => (by
             rcases hp3.out with h | h
             · exact HPB.out b (by rw [← h]; exact hb)
             · rw [h] at hb; injection hb with hb; subst hb; simp; omega), HR1.out.but hb0 (HR1.out.ne HO.out), HL1.out.trans (but_below hb0 hsz (fun i hi => HPB.out i (by simpa using hi)))⟩
         case measure => simp [intOf]; omega
       | none =>
         have HH := Lib.hid hh
         rw [dTup]
         clear hh
         go_wp2_with fail
         refine (rdotted_any (str q) _ HQ.out).mono ?_
         rintro e w2 ⟨v2, rfl, hown2, hb2⟩
         rw [show bs (str q) = q from rfl] at hown2 ⊢
         have HB2 := Lib.hid hb2
         have HR2 := Lib.hid (HR1.out.below hb2 (Nat.le_refl _))
         have HL2 := Lib.hid (HL1.out.trans (hb2.mono hsz))
         have hs2 := hb2.size
         have HO2 := Lib.hid (HO.out.but (S := []) (But.of_below hb2 []) (fun _ _ => by simp))
         clear hb2
         cases hd : dotR q with
         | none =>
           have HZ := Lib.hid (show groupsR (bs s) last = none by rw [HD.out, HX.out, HT.out, grpsR, HH.out, hd]; rfl)
           clear hd hown2
           go_wp2
           go_ret2
           exact ⟨_, by rw [HZ.out]; rfl, by rw [HZ.out]; exact ⟨rfl, .inl ⟨rfl, rfl⟩⟩, HL2.out⟩
         | some d =>
           rw [hd] at hown2
           cases last with
           | false =>
             have HZ := Lib.hid (show groupsR (bs s) false = none by rw [HD.out, HX.out, HT.out, grpsR, HH.out, hd]; simp)
             clear hd hown2
             go_wp2
             go_ret2
             exact ⟨_, by rw [HZ.out]; rfl, by rw [HZ.out]; exact ⟨rfl, .inl ⟨rfl, rfl⟩⟩, HL2.out⟩
           | true =>
             by_cases hk1 : k + 1 < n
             · have HZ := Lib.hid (show groupsR (bs s) true = none by
                 rw [HD.out, HX.out, HT.out, grpsR, HH.out, hd]
                 dsimp only
                 rw [if_neg (fun h => HE.out.1 h.2 hk1)]
                 rfl)
               have hki : (k : Int) < (n : Int) - 1 := by omega
               clear hd hown2
               go_wp2
               go_ret2
               exact ⟨_, by rw [HZ.out]; rfl, by rw [HZ.out]; exact ⟨rfl, .inl ⟨rfl, rfl⟩⟩, HL2.out⟩
             · have HZ := Lib.hid (show grpsR true (splitS 58 (bs s)) = (grpsR true ((splitS 58 (bs s)).drop (k + 1))).map ((x ++ d) ++ ·) by
                 have he := HE.out.2 hk1
                 rw [HX.out, HT.out, he, grps_end HH.out hd]
                 exact nil_of_some)
               have hki : ¬ (k : Int) < (n : Int) - 1 := by omega
               have hdl : d.length = 4 := by
                 have h := hd
                 rw [dotR_eq] at h
                 exact dotS_len 4 _ _ h
               obtain ⟨A2, c2, rfl, hc2, hsrc⟩ := hown2.src
               simp only [Option.getD_some] at hc2 hsrc ⊢
               rw [hdl] at hc2 hsrc
               have HS2 := Lib.hid hsrc
               simp only [hdl]
               clear hd hown2 hsrc hk1
               go_wp2_with (refine wpList_app_at rfl _ _ _ rfl und8 inf8 p _ _ _ rfl rfl (by exact HO2.out) _ _ _ d rfl (by exact HS2.out) (by have := HXL.out; omega) ?_; intro p3 c3 w3 hat3 hp3 hb3)
               go_roundw
               case rel =>
                 exact ⟨k + 1, x ++ d, p3, c3, by omega, by go_num, by have := HXL.out; simp; omega, HZ.out, by simp [hdl], hat3.out, fun b hb => (by
                   rcases hp3.out with h | h
                   · exact HPB.out b (by rw [← h]; exact hb)
                   · rw [h] at hb; injection hb with hb; subst hb; omega), HR2.out.but hb3.out (HR2.out.ne HO2.out), HL2.out.trans (but_below hb3.out (by omega) (fun i hi => HPB.out i (by simpa using hi)))⟩
               case measure => simp [intOf]; omega
     · obtain rfl : k = n := by omega
       rw [List.drop_of_length_le (by omega)] at HX
       have HZ := Lib.hid (show groupsR (bs s) last = some x by rw [HD.out, HX.out]; simp [grpsR])
       go_wp2
       go_ret2
       exact ⟨_, by rw [HZ.out]; rfl, by rw [HZ.out]; exact at_own HO.out HPB.out, HL1.out⟩
end Go.Proofs.YthfknndjdfofgaaGreatDoor.Ad

/-
 Contract of hagioscoperef03.Mask: bit by bit, what package addr masks byte by byte.
-/
namespace Go.Proofs.YthfknndjdfofgaaGreatDoor.Ad
open Go.RowKit Go.Proofs.YthfknndjdfofgaaGreatDoor.Wd

end Go.Proofs.YthfknndjdfofgaaGreatDoor.Ad

/-
 Contracts of hagioscoperef03.Of4 and Four; copy as a step of a walk.
-/
namespace Go.Proofs.YthfknndjdfofgaaGreatDoor.Ad
open Go.RowKit Go.Proofs.YthfknndjdfofgaaGreatDoor.Wd

def pre12 : List UInt8 := [0, 0, 0, 0, 0, 0, 0, 0, 0, 0, 255, 255]
theorem pre12_len : pre12.length = 12 := rfl
theorem of4S_pre (b : List UInt8) : of4S b = pre12 ++ b := rfl
def st4 (b : List UInt8) (k : Nat) : List UInt8 := pre12 ++ (b.take k ++ List.replicate (4 - k) 0)
theorem st4_zero (b : List UInt8) : st4 b 0 = ffS := rfl
theorem st4_len {b : List UInt8} (hb : b.length = 4) {k : Nat} (hk : k ≤ 4) : (st4 b k).length = 16 := by simp [st4, hb, pre12_len]; omega
theorem st4_all {b : List UInt8} (hb : b.length = 4) : st4 b 4 = of4S b := by
 rw [of4S_pre, st4, List.take_of_length_le (by omega)]
 simp
theorem st4_set {b : List UInt8} (hb : b.length = 4) {k : Nat} (hk : k < 4) (c : UInt8) (hc : b[k]? = some c) : (st4 b k).set (12 + k) c = st4 b (k + 1) := by
 unfold st4
 rw [List.set_append_right _ _ (by rw [pre12_len]; omega), pre12_len, Nat.add_sub_cancel_left, set_mid _ k (4 - k) 0 c (by rw [List.length_take]; omega) (by omega), List.take_add_one, hc, show 4 - (k + 1) = 4 - k - 1 by omega]
 simp
theorem st4_get {b : List UInt8} (hb : b.length = 4) {k : Nat} (hk : k < 4) : (st4 b k)[12 + k]? = some 0 := by
 unfold st4
 rw [List.getElem?_append_right (by rw [pre12_len]; omega), pre12_len, Nat.add_sub_cancel_left, List.getElem?_append_right (by rw [List.length_take]; omega), List.getElem?_replicate, if_pos (by rw [List.length_take]; omega)]

def ROf4At (b : List UInt8) (w : World) (i : Value) (w' : World) : Prop :=
 ∃ k : Nat, k ≤ 4 ∧ i = .int .i64 k ∧ Blk w' w.heap.size 102 (cA b) ∧ Blk w' (w.heap.size + 1) 75 (cA (List.replicate 16 0)) ∧ Blk w' (w.heap.size + 1 + 1) 75 (cA (st4 b k)) ∧ Below w.heap.size w w'
set_option maxRecDepth 100000 in
set_option maxHeartbeats 2000000 in
theorem rof4_any (b : List UInt8) (hb : b.length = 4) (w : World) :
   Calls Tryz.prog 139 #[.agg (cA b)] w fun e w' => e = .returned (.agg (cA (of4S b))) ∧ Below w.heap.size w w' := by
 go_enter Tryz.func139, Tryz.ntmps139
 go_wp2_with fail
 go_loopw [4] (fun i w' => ROf4At b w i w') (fun i _ => 4 - (intOf i).toNat)
 case atStart =>
   rw [show #[Value.int .u8 0, .int .u8 0, .int .u8 0, .int .u8 0, .int .u8 0, .int .u8 0, .int .u8 0, .int .u8 0, .int .u8 0, .int .u8 0, .int .u8 0, .int .u8 0, .int .u8 0, .int .u8 0, .int .u8 0, .int .u8 0] = cA (List.replicate 16 0) from rfl,
     show #[Value.int .u8 0, .int .u8 0, .int .u8 0, .int .u8 0, .int .u8 0, .int .u8 0, .int .u8 0, .int .u8 0, .int .u8 0, .int .u8 0, .int .u8 255, .int .u8 255, .int .u8 0, .int .u8 0, .int .u8 0, .int .u8 0] = cA ffS from rfl]
   exact ⟨0, by omega, rfl, ((Blk.new _ _ _).alloc _).alloc _, (blk_at _ _ _ _ _ (by rw [alloc_size]) rfl).alloc _, blk_at _ _ _ _ _ (by rw [alloc_size, alloc_size]) (by rw [st4_zero]), ((((Below.refl _ _).alloc (Nat.le_refl _) _).alloc (by simp) _).alloc (by simp; omega) _)⟩
 case round =>
   obtain ⟨k, hk, rfl, b0, b1, b2, hbel⟩ := hrel
   have HL := Lib.hid hbel
   have HB0 := Lib.hid b0
   have HB1 := Lib.hid b1
   have HB2 := Lib.hid b2
   by_cases hlt : k < 4
   · have hc : b[k]? = some (b[k]'(by omega)) := List.getElem?_eq_getElem (by omega)
     generalize b[k]'(by omega) = c at *
     have HS := Lib.hid (st4_set hb hlt c hc)
     have hcell : wr.cell? ⟨w.heap.size, k, none⟩ = some (.int .u8 (c.toNat : Int)) := by rw [cell_a b0 k, hc]; rfl
     have hcell2 : wr.cell? ⟨w.heap.size + 1 + 1, 12 + k, none⟩ = some (.int .u8 0) := by rw [cell_a b2 (12 + k), st4_get hb hlt]; rfl
     have hfr := b2.frozen (12 + k)
     clear b0 b1 b2 hbel hc
     go_wp2
     go_roundw
     case rel =>
       have h2 := HB2.out.set_ (12 + k) (.int .u8 (c.toNat : Int))
       rw [cA_set, HS.out] at h2
       exact ⟨k + 1, by omega, by go_num, HB0.out.far (by simp; omega) _, HB1.out.far (by simp) _, h2, HL.out.setCell (by simp; omega) _⟩
     case measure => simp [intOf]; omega
   · obtain rfl : k = 4 := by omega
     have e16 : (st4 b 4).length = 16 := st4_len hb (by omega)
     go_wp2_with (first
       | (refine go_ld 75 b2 und16 rfl info16 (by rw [cA_size, e16]) rfl rfl rfl ?_)
       | (refine go_st 75 b1 info16 rfl (by rw [cA_size, e16]) (cA_one _) rfl rfl rfl rfl ?_))
     rw [st4_all hb] at e16 ⊢
     exact ret_row Tryz.results139 b1 und16 rfl info16 (by rw [cA_size, e16]) rfl ⟨rfl, setRow_below HL.out b1 (by omega) _⟩ rfl

theorem four_no {a : List UInt8} {j : Nat} (hj : j < 10) {c : UInt8} (h : a[j]? = some c) (hc : c ≠ 0) : fourS a = false := by
 rw [fourS, beq_eq_false_iff_ne]
 intro e
 rw [e, of4S_pre, List.getElem?_append_left (by rw [pre12_len]; omega)] at h
 have h10 : ∀ j : Fin 10, pre12[j.1]? = some 0 := by decide
 rw [h10 ⟨j, hj⟩] at h
 injection h with h
 exact hc h.symm
theorem four_yes {a : List UInt8} (h : ∀ j, j < 10 → a[j]? = some 0) {x y : UInt8} (hx : a[10]? = some x) (hy : a[11]? = some y) : fourS a = (((x.toNat : Int) == 255) && ((y.toNat : Int) == 255)) := by
 have e10 : a.take 10 = pre12.take 10 := by
   apply List.ext_getElem?
   intro j
   rw [List.getElem?_take, List.getElem?_take]
   split
   · rename_i hj
     have h10 : ∀ j : Fin 10, pre12[j.1]? = some 0 := by decide
     rw [h j hj, h10 ⟨j, hj⟩]
   · rfl
 have e : a = pre12.take 10 ++ x :: y :: a.drop 12 := by
   conv => lhs; rw [← List.take_append_drop 10 a, e10]
   congr 1
   obtain ⟨l1, e1⟩ := List.getElem?_eq_some_iff.1 hx
   obtain ⟨l2, e2⟩ := List.getElem?_eq_some_iff.1 hy
   rw [List.drop_eq_getElem_cons l1, e1, List.drop_eq_getElem_cons l2, e2]
 have e2 : of4S (lastS a) = pre12.take 10 ++ 255 :: 255 :: a.drop 12 := rfl
 rw [Bool.eq_iff_iff, Bool.and_eq_true, beq_iff_eq, beq_iff_eq, fourS, beq_iff_eq, e2]
 constructor
 · intro he
   rw [e] at he
   have h1 := List.append_cancel_left he
   simp only [List.cons.injEq] at h1
   obtain ⟨rfl, rfl, _⟩ := h1
   exact ⟨rfl, rfl⟩
 · rintro ⟨h1, h2⟩
   have hx' : x = 255 := UInt8.toNat.inj (by show x.toNat = 255; omega)
   have hy' : y = 255 := UInt8.toNat.inj (by show y.toNat = 255; omega)
   rw [hx', hy'] at e
   exact e

def RFourAt (a : List UInt8) (w : World) (i : Value) (w' : World) : Prop :=
 ∃ k : Nat, k ≤ 10 ∧ i = .int .i64 k ∧ (∀ j, j < k → a[j]? = some 0) ∧ Blk w' w.heap.size 75 (cA a) ∧ Below w.heap.size w w'
set_option maxRecDepth 100000 in
set_option maxHeartbeats 2000000 in
theorem rfour_any (a : List UInt8) (ha : a.length = 16) (w : World) :
   Calls Tryz.prog 141 #[.agg (cA a)] w fun e w' => e = .returned (.bool (fourS a)) ∧ Below w.heap.size w w' := by
 go_enter Tryz.func141, Tryz.ntmps141
 go_wp2_with fail
 go_loopw [3] (fun i w' => RFourAt a w i w') (fun i _ => 10 - (intOf i).toNat)
 case atStart => exact ⟨0, by omega, rfl, fun j hj => absurd hj (by omega), Blk.new _ _ _, (Below.refl _ _).alloc (Nat.le_refl _) _⟩
 case round =>
   obtain ⟨k, hk, rfl, hz, b0, hbel⟩ := hrel
   have HL := Lib.hid hbel
   have HB0 := Lib.hid b0
   have HZ := Lib.hid hz
   by_cases hlt : k < 10
   · have hc : a[k]? = some (a[k]'(by omega)) := List.getElem?_eq_getElem (by omega)
     generalize a[k]'(by omega) = c at *
     have hcell : wr.cell? ⟨w.heap.size, k, none⟩ = some (.int .u8 (c.toNat : Int)) := by rw [cell_a b0 k, hc]; rfl
     have HC := Lib.hid hc
     clear b0 hbel hc hz
     by_cases h0 : c = 0
     · have h1 : (c.toNat : Int) = 0 := by rw [h0]; rfl
       rw [h1] at hcell
       go_wp2
       go_roundw
       case rel => exact ⟨k + 1, by omega, by go_num, fun j hj => (by
         rcases Nat.lt_or_ge j k with h | h
         · exact HZ.out j h
         · rw [show j = k by omega, HC.out, h0]), HB0.out, HL.out⟩
       case measure => simp [intOf]; omega
     · have h1 : ((c.toNat : Int) == 0) = false := by
         rw [beq_eq_false_iff_ne]
         intro e
         exact h0 (UInt8.toNat.inj (by show c.toNat = 0; omega))
       have HF := Lib.hid (four_no hlt HC.out h0)
       clear h0
       go_wp2
       go_ret
       exact ⟨by rw [HF.out]; rfl, HL.out⟩
   · obtain rfl : k = 10 := by omega
     have hc1 : a[10]? = some (a[10]'(by omega)) := List.getElem?_eq_getElem (by omega)
     have hc2 : a[11]? = some (a[11]'(by omega)) := List.getElem?_eq_getElem (by omega)
     generalize a[10]'(by omega) = x at *
     generalize a[11]'(by omega) = y at *
     have hx : wr.cell? ⟨w.heap.size, 10, none⟩ = some (.int .u8 (x.toNat : Int)) := by rw [cell_a b0 10, hc1]; rfl
     have hy : wr.cell? ⟨w.heap.size, 11, none⟩ = some (.int .u8 (y.toNat : Int)) := by rw [cell_a b0 11, hc2]; rfl
     have HF := Lib.hid (four_yes hz hc1 hc2)
     clear b0 hbel hc1 hc2 hz
     cases c1 : ((x.toNat : Int) == 255)
     · have HG := Lib.hid (show fourS a = false by rw [HF.out, c1]; rfl)
       clear HF
       go_wp2
       go_ret
       exact ⟨by rw [HG.out]; rfl, HL.out⟩
     · have HG := Lib.hid (show fourS a = ((y.toNat : Int) == 255) by rw [HF.out, c1]; rfl)
       clear HF
       go_wp2
       go_ret
       exact ⟨by rw [HG.out]; rfl, HL.out⟩

theorem run_cpb {w : World} {ty : TypeId} {dp A : Option Addr} {dLen dCap sLen sCap : Nat} (g off : Nat) {t : TypeId} {cur ys : List UInt8}
   (hb : Blk w g t (cA cur)) (hs : Src w A sLen ys) (hle : sLen ≤ dLen) (hdp : 0 < sLen → dp = some ⟨g, off, none⟩) (hfit : off + sLen ≤ cur.length) :
   ∃ w', (Builtin.copy_ #[22, 22] ty #[.slice dp dLen dCap, .slice A sLen sCap]).run Tryz.prog w = .ok (.int .i64 (sLen : Int)) w' ∧ Blk w' g t (cA (splB cur off ys)) ∧ But [g] w w' := by
 have hl := hs.1
 have hm : min sLen dLen = sLen := Nat.min_eq_left hle
 by_cases h0 : sLen = 0
 · refine ⟨w, ?_, ?_, But.refl _ _⟩
   · rw [run_copy_none w 22 22 ty 5 dp A dLen dCap sLen sCap Tryz.underlying22 size8 (by show min sLen dLen = 0; omega), h0]; rfl
   · have : ys = [] := List.eq_nil_of_length_eq_zero (by omega)
     rw [this, show splB cur off [] = cur by simp [splB]]
     exact hb
 · obtain rfl := hdp (by omega)
   obtain ⟨ad, rfl, _, hc⟩ := hs.2 (by omega)
   have hlen : (cellsOf ys).length = min sLen dLen := by rw [cellsOf_length, hl, hm]
   refine ⟨w.setRow g ((cellsOf cur).toArray.toList.take off ++ cellsOf ys ++ (cellsOf cur).toArray.toList.drop (off + (cellsOf ys).length)).toArray, ?_, ?_, (But.refl [g] w).row (g := g) (.inl (List.mem_singleton.2 rfl)) _⟩
   · rw [run_copy_row (P := Tryz.prog) w 22 22 ty 5 g off dLen dCap ad sLen sCap (cellsOf cur).toArray t (cellsOf ys) Tryz.underlying22 size8 hb hlen ?_ (by rw [hlen, hm]; simpa [cellsOf_length] using hfit) (cellsOf_one _), hlen, hm]
     · rfl
     · intro j v hj
       simp only [cellsOf, List.getElem?_map, Option.map_eq_some_iff] at hj
       obtain ⟨x, hx, rfl⟩ := hj
       exact hc j x hx
   · have := setRow_heap w g (cellsOf cur).toArray (((cellsOf cur).toArray.toList.take off ++ cellsOf ys ++ (cellsOf cur).toArray.toList.drop (off + (cellsOf ys).length)).toArray) t (0, 0) hb
     unfold Blk cA
     rw [splB_cells]
     unfold splice
     rw [← List.append_assoc]
     simpa using this
theorem wpList_cp {ops : Array Oper} {rest : List Oper} {o : Oper} {a : Act} {w : World} {Q : Exit → Act → World → Prop} {d s : Operand} {dp sp : Option Addr} {dLen dCap sLen sCap : Nat} (g off : Nat) {t : TypeId} {cur ys : List UInt8}
   (hb : Blk w g t (cA cur)) (hsrc : Src w sp sLen ys) (hgd : o.guard = none)
   (ho : o.op = .call { callee := .builtin .copy, args := #[d, s], argTypes := #[22, 22] }) (hd : a.eval d = .slice dp dLen dCap) (hs : a.eval s = .slice sp sLen sCap) (hle : sLen ≤ dLen)
   (hdp : 0 < sLen → dp = some ⟨g, off, none⟩) (hfit : off + sLen ≤ cur.length)
   (h : ∀ w', RowKit.Hid (Blk w' g t (cA (splB cur off ys))) → RowKit.Hid (But [g] w w') → wpList Tryz.prog ops Q rest (a.put o.dst (.int .i64 (sLen : Int))) w') :
   wpList Tryz.prog ops Q (o :: rest) a w := by
 obtain ⟨w', hrun, h2, h3⟩ := run_cpb (ty := o.type) (dCap := dCap) (sCap := sCap) g off hb hsrc hle hdp hfit
 refine wpList_plain hgd fun K hK => ?_
 unfold Oper.wp execOp
 simp only [ho, resolve, invoke, builtin, Sem.run_bind, Sem.run_pure, Result.andThen_ok, List.map_toArray, List.map_cons, List.map_nil, hd, hs, hrun]
 exact hK _ _ (h w' (Lib.hid h2) (Lib.hid h3))
end Go.Proofs.YthfknndjdfofgaaGreatDoor.Ad
